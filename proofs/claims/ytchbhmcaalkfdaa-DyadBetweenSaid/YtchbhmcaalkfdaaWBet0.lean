/-
  A way through DyadBetween.
-/
import Derived.Test.YtchbhmcaalkfdaaB2
import Derived.Test.YtchbhmcaalkfdaaA2
namespace Go.Proofs.Ytchbhmcaalkfdaa
open Go.RowKit
set_option linter.unusedVariables false
set_option linter.unusedSimpArgs false

set_option maxRecDepth 100000 in
set_option maxHeartbeats 64000000 in
theorem DyadBetween_0 {w : World} {b0 : Bool} {A0 B0 : Option Addr} {n0 c0 m0 d0 : Nat} {j : Int} {x0 : Rat} (h0 : Rt w b0 A0 n0 c0 B0 m0 d0 x0) (s0 : Sz x0 4) (G0 : ∀ W : World, Below w.heap.size w W → Calls Try.prog 9 #[.agg #[.bool b0, .slice A0 n0 c0, .slice B0 m0 d0], .int .i64 4] W (GotV W (.bool true))) (j0 : 0 ≤ j) (j1 : j ≤ 400) (hon : ¬ bak (flo x0 j.toNat) j.toNat = x0) :
    Calls Try.prog 4 #[.agg #[.bool b0, .slice A0 n0 c0, .slice B0 m0 d0], .int .i64 j] w fun e w' => e = .returned (.bool true) ∧ Below w.heap.size w w' := by
  have t1 : decide (j < 0) = false := decide_eq_false (by omega)
  have t2 : decide (400 < j) = false := decide_eq_false (by omega)
  have jl : j.toNat ≤ 500 := by omega
  have m1_ := low_le x0 j.toNat
  have m2_ := high_ge x0 j.toNat
  obtain ⟨m3_, m4_⟩ := on_both x0 j.toNat
  have m5_ := nea_one x0 j.toNat
  obtain ⟨m6_, m7_⟩ := near_half x0 j.toNat
  have ll := flo_len s0 jl
  have lh := cei_len s0 jl
  have lm := nea_len s0 jl
  obtain ⟨lo, ea⟩ : ∃ v, flo x0 j.toNat = v := ⟨_, rfl⟩
  obtain ⟨hi, eb⟩ : ∃ v, cei x0 j.toNat = v := ⟨_, rfl⟩
  obtain ⟨md, ec⟩ : ∃ v, nea x0 j.toNat = v := ⟨_, rfl⟩
  rw [ea] at m1_ ll
  rw [eb] at m2_ lh
  rw [ea, eb] at m3_ m4_
  rw [ea, eb, ec] at m5_
  rw [ec] at m6_ m7_ lm
  rw [ea] at hon
  have CF : ∀ {W : World} {b : Bool} {A B : Option Addr} {n c m d : Nat}, Rt W b A n c B m d x0 → Calls Try.prog 12 #[.agg #[.bool b, .slice A n c, .slice B m d], .int .i64 j] W (GotZp W lo 0) := fun hh => by rw [← ea]; exact dfloor_N hh (s0.le (by omega)) (by omega) (by omega)
  have CC : ∀ {W : World} {b : Bool} {A B : Option Addr} {n c m d : Nat}, Rt W b A n c B m d x0 → Calls Try.prog 14 #[.agg #[.bool b, .slice A n c, .slice B m d], .int .i64 j] W (GotZp W hi 0) := fun hh => by rw [← eb]; exact dceil_N hh (s0.le (by omega)) (by omega) (by omega)
  have CN : ∀ {W : World} {b : Bool} {A B : Option Addr} {n c m d : Nat}, Rt W b A n c B m d x0 → Calls Try.prog 16 #[.agg #[.bool b, .slice A n c, .slice B m d], .int .i64 j] W (GotZp W md 0) := fun hh => by rw [← ec]; exact dnear_N hh (s0.le (by omega)) (by omega) (by omega)
  have sx := bak_sz ll (by omega) jl
  have sy := bak_sz lh (by omega) jl
  have sz := bak_sz lm (by omega) jl
  have lone : (limbs (1 : Int).natAbs).length ≤ 8 := Nat.le_trans (len_one (by decide)) (by omega)
  have st := bak_sz lone (by omega) jl
  have m9_ : bak 1 j.toNat ≠ 0 := fun h => by have := bak_one j.toNat; rw [h, Rat.zero_mul] at this; exact absurd this (by decide)
  obtain ⟨x, ed⟩ : ∃ v, bak lo j.toNat = v := ⟨_, rfl⟩
  obtain ⟨y, ee⟩ : ∃ v, bak hi j.toNat = v := ⟨_, rfl⟩
  obtain ⟨z, ef⟩ : ∃ v, bak md j.toNat = v := ⟨_, rfl⟩
  obtain ⟨sp, eg⟩ : ∃ v, bak 1 j.toNat = v := ⟨_, rfl⟩
  rw [ed] at m1_ sx
  rw [ee] at m2_ sy
  rw [ed, ee] at m3_
  rw [ed, ee, eg] at m4_
  rw [ef, eg] at m6_ m7_
  rw [ef] at sz
  rw [eg] at st m9_
  rw [ed] at hon
  have CX : ∀ {W : World} {b : Bool} {A : Option Addr} {n c : Nat}, Zn W b A n c lo → Calls Try.prog 19 #[.agg #[.bool b, .slice A n c], .int .i64 j] W (GotRp W x 0) := fun hh => by rw [← ed]; exact rback_N hh (Nat.le_trans ll (by omega)) (by omega) (by omega)
  have CY : ∀ {W : World} {b : Bool} {A : Option Addr} {n c : Nat}, Zn W b A n c hi → Calls Try.prog 19 #[.agg #[.bool b, .slice A n c], .int .i64 j] W (GotRp W y 0) := fun hh => by rw [← ee]; exact rback_N hh (Nat.le_trans lh (by omega)) (by omega) (by omega)
  have CZ : ∀ {W : World} {b : Bool} {A : Option Addr} {n c : Nat}, Zn W b A n c md → Calls Try.prog 19 #[.agg #[.bool b, .slice A n c], .int .i64 j] W (GotRp W z 0) := fun hh => by rw [← ef]; exact rback_N hh (Nat.le_trans lm (by omega)) (by omega) (by omega)
  have CS : ∀ {W : World} {b : Bool} {A : Option Addr} {n c : Nat}, Zn W b A n c 1 → Calls Try.prog 19 #[.agg #[.bool b, .slice A n c], .int .i64 j] W (GotRp W sp 0) := fun hh => by rw [← eg]; exact rback_N hh (Nat.le_trans lone (by omega)) (by omega) (by omega)
  obtain ⟨fr, eh⟩ : ∃ v, absQ (z - x0) = v := ⟨_, rfl⟩
  have sf := absQ_sz (sz.sub s0)
  rw [eh] at m6_ m7_ sf
  have CA : ∀ {W : World} {b : Bool} {A B : Option Addr} {n c m d : Nat}, Rt W b A n c B m d (z - x0) → Calls Try.prog 25 #[.agg #[.bool b, .slice A n c, .slice B m d]] W (GotRt W fr) := fun hh => by rw [← eh]; exact rtabs_N hh
  have sd := sf.add sf
  obtain ⟨a1, ea1⟩ : ∃ c, cmpQ x x0 = c := ⟨_, rfl⟩
  have ta1 : decide (0 < a1) = false := decide_eq_false (by rw [← ea1]; omega)
  have Ha1 := Lib.hid ea1
  obtain ⟨a2, ea2⟩ : ∃ c, cmpQ x0 y = c := ⟨_, rfl⟩
  have ta2 : decide (0 < a2) = false := decide_eq_false (by rw [← ea2]; omega)
  have Ha2 := Lib.hid ea2
  obtain ⟨a3, ea3⟩ : ∃ c, cmpQ (fr + fr) sp = c := ⟨_, rfl⟩
  have ta3 : decide (a3 ≤ 0) = true := decide_eq_true (by rw [← ea3]; exact m6_)
  have Ha3 := Lib.hid ea3
  have O1 : Hid (decide (x = x0) = false) := Lib.hid (decide_eq_false hon)
  have O2 : Hid (decide (y = x0) = false) := Lib.hid (decide_eq_false (fun h => hon (m3_.2 h)))
  have O3 : Hid (y - x = sp) := Lib.hid (m4_ hon)
  have syx := sy.sub sx
  have M5 := Lib.hid m5_
  have M7 := Lib.hid m7_
  have ione : I64 1 := by unfold I64; omega
  clear m1_ m2_ m3_ m4_ m5_ m6_ m7_ m9_ ea eb ec ed ee ef eg eh ea1 ea2 ea3 hon
  have cc := Below.refl w.heap.size w
  go_enter Try.func4, Try.ntmps4
  go_wp2_with fail
  have bA : Below w.heap.size w (w.alloc (.cells #[.bool b0, .slice A0 n0 c0, .slice B0 m0 d0] 27)) := ((Below.refl _ w).alloc (by simp) _)
  replace h0 := h0.on bA
  replace cc := bK cc bA
  clear bA
  have pa0 : (w.alloc (.cells #[.bool b0, .slice A0 n0 c0, .slice B0 m0 d0] 27)).cell? ⟨w.heap.size, 0, none⟩ = some (.bool b0) := by simp [go_sem]
  have pa1 : (w.alloc (.cells #[.bool b0, .slice A0 n0 c0, .slice B0 m0 d0] 27)).cell? ⟨w.heap.size, 1, none⟩ = some (.slice A0 n0 c0) := by simp [go_sem]
  have pa2 : (w.alloc (.cells #[.bool b0, .slice A0 n0 c0, .slice B0 m0 d0] 27)).cell? ⟨w.heap.size, 2, none⟩ = some (.slice B0 m0 d0) := by simp [go_sem]
  have pal : w.heap.size < (w.alloc (.cells #[.bool b0, .slice A0 n0 c0, .slice B0 m0 d0] 27)).heap.size := by simp <;> omega
  generalize w.alloc (.cells #[.bool b0, .slice A0 n0 c0, .slice B0 m0 d0] 27) = v1 at *
  refine (G0 _ cc).mono ?_
  rintro e w2 ⟨rfl, b⟩
  replace h0 := h0.on b
  replace pa0 := cK b pa0 pal
  replace pa1 := cK b pa1 pal
  replace pa2 := cK b pa2 pal
  replace pal := lK b pal
  replace cc := bK cc b
  clear b
  go_wp2_with fail
  refine (CF h0).mono ?_
  rintro e w3 ⟨bbl, Abl, nbl, cbl, rfl, hbl, b⟩
  replace h0 := h0.on b
  replace pa0 := cK b pa0 pal
  replace pa1 := cK b pa1 pal
  replace pa2 := cK b pa2 pal
  replace pal := lK b pal
  replace cc := bK cc b
  clear b
  go_wp2_with fail
  have bA := below_one w3 (.cells #[.bool bbl, .slice Abl nbl cbl] 25)
  replace h0 := h0.on bA
  replace hbl := hbl.on bA
  replace pa0 := cK bA pa0 pal
  replace pa1 := cK bA pa1 pal
  replace pa2 := cK bA pa2 pal
  replace pal := lK bA pal
  replace cc := bK cc bA
  clear bA
  have bl0 : (w3.alloc (.cells #[.bool bbl, .slice Abl nbl cbl] 25)).cell? ⟨w3.heap.size, 0, none⟩ = some (.bool bbl) := by simp [go_sem]
  have bl1 : (w3.alloc (.cells #[.bool bbl, .slice Abl nbl cbl] 25)).cell? ⟨w3.heap.size, 1, none⟩ = some (.slice Abl nbl cbl) := by simp [go_sem]
  have bll : w3.heap.size < (w3.alloc (.cells #[.bool bbl, .slice Abl nbl cbl] 25)).heap.size := by simp
  generalize w3.alloc (.cells #[.bool bbl, .slice Abl nbl cbl] 25) = v4 at *
  refine (CC h0).mono ?_
  rintro e w5 ⟨bbh, Abh, nbh, cbh, rfl, hbh, b⟩
  replace h0 := h0.on b
  replace hbl := hbl.on b
  replace pa0 := cK b pa0 pal
  replace pa1 := cK b pa1 pal
  replace pa2 := cK b pa2 pal
  replace pal := lK b pal
  replace bl0 := cK b bl0 bll
  replace bl1 := cK b bl1 bll
  replace bll := lK b bll
  replace cc := bK cc b
  clear b
  go_wp2_with fail
  have bA := below_one w5 (.cells #[.bool bbh, .slice Abh nbh cbh] 25)
  replace h0 := h0.on bA
  replace hbl := hbl.on bA
  replace hbh := hbh.on bA
  replace pa0 := cK bA pa0 pal
  replace pa1 := cK bA pa1 pal
  replace pa2 := cK bA pa2 pal
  replace pal := lK bA pal
  replace bl0 := cK bA bl0 bll
  replace bl1 := cK bA bl1 bll
  replace bll := lK bA bll
  replace cc := bK cc bA
  clear bA
  have bh0 : (w5.alloc (.cells #[.bool bbh, .slice Abh nbh cbh] 25)).cell? ⟨w5.heap.size, 0, none⟩ = some (.bool bbh) := by simp [go_sem]
  have bh1 : (w5.alloc (.cells #[.bool bbh, .slice Abh nbh cbh] 25)).cell? ⟨w5.heap.size, 1, none⟩ = some (.slice Abh nbh cbh) := by simp [go_sem]
  have bhl : w5.heap.size < (w5.alloc (.cells #[.bool bbh, .slice Abh nbh cbh] 25)).heap.size := by simp
  generalize w5.alloc (.cells #[.bool bbh, .slice Abh nbh cbh] 25) = v6 at *
  refine (CN h0).mono ?_
  rintro e w7 ⟨bbm, Abm, nbm, cbm, rfl, hbm, b⟩
  replace h0 := h0.on b
  replace hbl := hbl.on b
  replace hbh := hbh.on b
  replace pa0 := cK b pa0 pal
  replace pa1 := cK b pa1 pal
  replace pa2 := cK b pa2 pal
  replace pal := lK b pal
  replace bl0 := cK b bl0 bll
  replace bl1 := cK b bl1 bll
  replace bll := lK b bll
  replace bh0 := cK b bh0 bhl
  replace bh1 := cK b bh1 bhl
  replace bhl := lK b bhl
  replace cc := bK cc b
  clear b
  go_wp2_with fail
  have bA := below_one w7 (.cells #[.bool bbm, .slice Abm nbm cbm] 25)
  replace h0 := h0.on bA
  replace hbl := hbl.on bA
  replace hbh := hbh.on bA
  replace hbm := hbm.on bA
  replace pa0 := cK bA pa0 pal
  replace pa1 := cK bA pa1 pal
  replace pa2 := cK bA pa2 pal
  replace pal := lK bA pal
  replace bl0 := cK bA bl0 bll
  replace bl1 := cK bA bl1 bll
  replace bll := lK bA bll
  replace bh0 := cK bA bh0 bhl
  replace bh1 := cK bA bh1 bhl
  replace bhl := lK bA bhl
  replace cc := bK cc bA
  clear bA
  have bm0 : (w7.alloc (.cells #[.bool bbm, .slice Abm nbm cbm] 25)).cell? ⟨w7.heap.size, 0, none⟩ = some (.bool bbm) := by simp [go_sem]
  have bm1 : (w7.alloc (.cells #[.bool bbm, .slice Abm nbm cbm] 25)).cell? ⟨w7.heap.size, 1, none⟩ = some (.slice Abm nbm cbm) := by simp [go_sem]
  have bml : w7.heap.size < (w7.alloc (.cells #[.bool bbm, .slice Abm nbm cbm] 25)).heap.size := by simp
  generalize w7.alloc (.cells #[.bool bbm, .slice Abm nbm cbm] 25) = v8 at *
  refine (CX hbl).mono ?_
  rintro e w9 ⟨bbx, Abx, nbx, cbx, Bbx, mbx, dbx, rfl, hbx, b⟩
  replace h0 := h0.on b
  replace hbl := hbl.on b
  replace hbh := hbh.on b
  replace hbm := hbm.on b
  replace pa0 := cK b pa0 pal
  replace pa1 := cK b pa1 pal
  replace pa2 := cK b pa2 pal
  replace pal := lK b pal
  replace bl0 := cK b bl0 bll
  replace bl1 := cK b bl1 bll
  replace bll := lK b bll
  replace bh0 := cK b bh0 bhl
  replace bh1 := cK b bh1 bhl
  replace bhl := lK b bhl
  replace bm0 := cK b bm0 bml
  replace bm1 := cK b bm1 bml
  replace bml := lK b bml
  replace cc := bK cc b
  clear b
  go_wp2_with fail
  have bA := below_one w9 (.cells #[.bool bbx, .slice Abx nbx cbx, .slice Bbx mbx dbx] 27)
  replace h0 := h0.on bA
  replace hbl := hbl.on bA
  replace hbh := hbh.on bA
  replace hbm := hbm.on bA
  replace hbx := hbx.on bA
  replace pa0 := cK bA pa0 pal
  replace pa1 := cK bA pa1 pal
  replace pa2 := cK bA pa2 pal
  replace pal := lK bA pal
  replace bl0 := cK bA bl0 bll
  replace bl1 := cK bA bl1 bll
  replace bll := lK bA bll
  replace bh0 := cK bA bh0 bhl
  replace bh1 := cK bA bh1 bhl
  replace bhl := lK bA bhl
  replace bm0 := cK bA bm0 bml
  replace bm1 := cK bA bm1 bml
  replace bml := lK bA bml
  replace cc := bK cc bA
  clear bA
  have bx0 : (w9.alloc (.cells #[.bool bbx, .slice Abx nbx cbx, .slice Bbx mbx dbx] 27)).cell? ⟨w9.heap.size, 0, none⟩ = some (.bool bbx) := by simp [go_sem]
  have bx1 : (w9.alloc (.cells #[.bool bbx, .slice Abx nbx cbx, .slice Bbx mbx dbx] 27)).cell? ⟨w9.heap.size, 1, none⟩ = some (.slice Abx nbx cbx) := by simp [go_sem]
  have bx2 : (w9.alloc (.cells #[.bool bbx, .slice Abx nbx cbx, .slice Bbx mbx dbx] 27)).cell? ⟨w9.heap.size, 2, none⟩ = some (.slice Bbx mbx dbx) := by simp [go_sem]
  have bxl : w9.heap.size < (w9.alloc (.cells #[.bool bbx, .slice Abx nbx cbx, .slice Bbx mbx dbx] 27)).heap.size := by simp
  generalize w9.alloc (.cells #[.bool bbx, .slice Abx nbx cbx, .slice Bbx mbx dbx] 27) = v10 at *
  refine (CY hbh).mono ?_
  rintro e w11 ⟨bbi, Abi, nbi, cbi, Bbi, mbi, dbi, rfl, hbi, b⟩
  replace h0 := h0.on b
  replace hbl := hbl.on b
  replace hbh := hbh.on b
  replace hbm := hbm.on b
  replace hbx := hbx.on b
  replace pa0 := cK b pa0 pal
  replace pa1 := cK b pa1 pal
  replace pa2 := cK b pa2 pal
  replace pal := lK b pal
  replace bl0 := cK b bl0 bll
  replace bl1 := cK b bl1 bll
  replace bll := lK b bll
  replace bh0 := cK b bh0 bhl
  replace bh1 := cK b bh1 bhl
  replace bhl := lK b bhl
  replace bm0 := cK b bm0 bml
  replace bm1 := cK b bm1 bml
  replace bml := lK b bml
  replace bx0 := cK b bx0 bxl
  replace bx1 := cK b bx1 bxl
  replace bx2 := cK b bx2 bxl
  replace bxl := lK b bxl
  replace cc := bK cc b
  clear b
  go_wp2_with fail
  have bA := below_one w11 (.cells #[.bool bbi, .slice Abi nbi cbi, .slice Bbi mbi dbi] 27)
  replace h0 := h0.on bA
  replace hbl := hbl.on bA
  replace hbh := hbh.on bA
  replace hbm := hbm.on bA
  replace hbx := hbx.on bA
  replace hbi := hbi.on bA
  replace pa0 := cK bA pa0 pal
  replace pa1 := cK bA pa1 pal
  replace pa2 := cK bA pa2 pal
  replace pal := lK bA pal
  replace bl0 := cK bA bl0 bll
  replace bl1 := cK bA bl1 bll
  replace bll := lK bA bll
  replace bh0 := cK bA bh0 bhl
  replace bh1 := cK bA bh1 bhl
  replace bhl := lK bA bhl
  replace bm0 := cK bA bm0 bml
  replace bm1 := cK bA bm1 bml
  replace bml := lK bA bml
  replace bx0 := cK bA bx0 bxl
  replace bx1 := cK bA bx1 bxl
  replace bx2 := cK bA bx2 bxl
  replace bxl := lK bA bxl
  replace cc := bK cc bA
  clear bA
  have bi0 : (w11.alloc (.cells #[.bool bbi, .slice Abi nbi cbi, .slice Bbi mbi dbi] 27)).cell? ⟨w11.heap.size, 0, none⟩ = some (.bool bbi) := by simp [go_sem]
  have bi1 : (w11.alloc (.cells #[.bool bbi, .slice Abi nbi cbi, .slice Bbi mbi dbi] 27)).cell? ⟨w11.heap.size, 1, none⟩ = some (.slice Abi nbi cbi) := by simp [go_sem]
  have bi2 : (w11.alloc (.cells #[.bool bbi, .slice Abi nbi cbi, .slice Bbi mbi dbi] 27)).cell? ⟨w11.heap.size, 2, none⟩ = some (.slice Bbi mbi dbi) := by simp [go_sem]
  have bil : w11.heap.size < (w11.alloc (.cells #[.bool bbi, .slice Abi nbi cbi, .slice Bbi mbi dbi] 27)).heap.size := by simp
  generalize w11.alloc (.cells #[.bool bbi, .slice Abi nbi cbi, .slice Bbi mbi dbi] 27) = v12 at *
  refine (CZ hbm).mono ?_
  rintro e w13 ⟨bbz, Abz, nbz, cbz, Bbz, mbz, dbz, rfl, hbz, b⟩
  replace h0 := h0.on b
  replace hbl := hbl.on b
  replace hbh := hbh.on b
  replace hbm := hbm.on b
  replace hbx := hbx.on b
  replace hbi := hbi.on b
  replace pa0 := cK b pa0 pal
  replace pa1 := cK b pa1 pal
  replace pa2 := cK b pa2 pal
  replace pal := lK b pal
  replace bl0 := cK b bl0 bll
  replace bl1 := cK b bl1 bll
  replace bll := lK b bll
  replace bh0 := cK b bh0 bhl
  replace bh1 := cK b bh1 bhl
  replace bhl := lK b bhl
  replace bm0 := cK b bm0 bml
  replace bm1 := cK b bm1 bml
  replace bml := lK b bml
  replace bx0 := cK b bx0 bxl
  replace bx1 := cK b bx1 bxl
  replace bx2 := cK b bx2 bxl
  replace bxl := lK b bxl
  replace bi0 := cK b bi0 bil
  replace bi1 := cK b bi1 bil
  replace bi2 := cK b bi2 bil
  replace bil := lK b bil
  replace cc := bK cc b
  clear b
  go_wp2_with fail
  have bA := below_one w13 (.cells #[.bool bbz, .slice Abz nbz cbz, .slice Bbz mbz dbz] 27)
  replace h0 := h0.on bA
  replace hbl := hbl.on bA
  replace hbh := hbh.on bA
  replace hbm := hbm.on bA
  replace hbx := hbx.on bA
  replace hbi := hbi.on bA
  replace hbz := hbz.on bA
  replace pa0 := cK bA pa0 pal
  replace pa1 := cK bA pa1 pal
  replace pa2 := cK bA pa2 pal
  replace pal := lK bA pal
  replace bl0 := cK bA bl0 bll
  replace bl1 := cK bA bl1 bll
  replace bll := lK bA bll
  replace bh0 := cK bA bh0 bhl
  replace bh1 := cK bA bh1 bhl
  replace bhl := lK bA bhl
  replace bm0 := cK bA bm0 bml
  replace bm1 := cK bA bm1 bml
  replace bml := lK bA bml
  replace bx0 := cK bA bx0 bxl
  replace bx1 := cK bA bx1 bxl
  replace bx2 := cK bA bx2 bxl
  replace bxl := lK bA bxl
  replace bi0 := cK bA bi0 bil
  replace bi1 := cK bA bi1 bil
  replace bi2 := cK bA bi2 bil
  replace bil := lK bA bil
  replace cc := bK cc bA
  clear bA
  have bz0 : (w13.alloc (.cells #[.bool bbz, .slice Abz nbz cbz, .slice Bbz mbz dbz] 27)).cell? ⟨w13.heap.size, 0, none⟩ = some (.bool bbz) := by simp [go_sem]
  have bz1 : (w13.alloc (.cells #[.bool bbz, .slice Abz nbz cbz, .slice Bbz mbz dbz] 27)).cell? ⟨w13.heap.size, 1, none⟩ = some (.slice Abz nbz cbz) := by simp [go_sem]
  have bz2 : (w13.alloc (.cells #[.bool bbz, .slice Abz nbz cbz, .slice Bbz mbz dbz] 27)).cell? ⟨w13.heap.size, 2, none⟩ = some (.slice Bbz mbz dbz) := by simp [go_sem]
  have bzl : w13.heap.size < (w13.alloc (.cells #[.bool bbz, .slice Abz nbz cbz, .slice Bbz mbz dbz] 27)).heap.size := by simp
  generalize w13.alloc (.cells #[.bool bbz, .slice Abz nbz cbz, .slice Bbz mbz dbz] 27) = v14 at *
  refine (rzof_N _ 1 ione).mono ?_
  rintro e w15 ⟨bo, Ao, no, co, rfl, ho, b⟩
  replace h0 := h0.on b
  replace hbl := hbl.on b
  replace hbh := hbh.on b
  replace hbm := hbm.on b
  replace hbx := hbx.on b
  replace hbi := hbi.on b
  replace hbz := hbz.on b
  replace pa0 := cK b pa0 pal
  replace pa1 := cK b pa1 pal
  replace pa2 := cK b pa2 pal
  replace pal := lK b pal
  replace bl0 := cK b bl0 bll
  replace bl1 := cK b bl1 bll
  replace bll := lK b bll
  replace bh0 := cK b bh0 bhl
  replace bh1 := cK b bh1 bhl
  replace bhl := lK b bhl
  replace bm0 := cK b bm0 bml
  replace bm1 := cK b bm1 bml
  replace bml := lK b bml
  replace bx0 := cK b bx0 bxl
  replace bx1 := cK b bx1 bxl
  replace bx2 := cK b bx2 bxl
  replace bxl := lK b bxl
  replace bi0 := cK b bi0 bil
  replace bi1 := cK b bi1 bil
  replace bi2 := cK b bi2 bil
  replace bil := lK b bil
  replace bz0 := cK b bz0 bzl
  replace bz1 := cK b bz1 bzl
  replace bz2 := cK b bz2 bzl
  replace bzl := lK b bzl
  replace cc := bK cc b
  clear b
  go_wp2_with fail
  refine (CS ho).mono ?_
  rintro e w16 ⟨bbs, Abs, nbs, cbs, Bbs, mbs, dbs, rfl, hbs, b⟩
  replace h0 := h0.on b
  replace hbl := hbl.on b
  replace hbh := hbh.on b
  replace hbm := hbm.on b
  replace hbx := hbx.on b
  replace hbi := hbi.on b
  replace hbz := hbz.on b
  replace ho := ho.on b
  replace pa0 := cK b pa0 pal
  replace pa1 := cK b pa1 pal
  replace pa2 := cK b pa2 pal
  replace pal := lK b pal
  replace bl0 := cK b bl0 bll
  replace bl1 := cK b bl1 bll
  replace bll := lK b bll
  replace bh0 := cK b bh0 bhl
  replace bh1 := cK b bh1 bhl
  replace bhl := lK b bhl
  replace bm0 := cK b bm0 bml
  replace bm1 := cK b bm1 bml
  replace bml := lK b bml
  replace bx0 := cK b bx0 bxl
  replace bx1 := cK b bx1 bxl
  replace bx2 := cK b bx2 bxl
  replace bxl := lK b bxl
  replace bi0 := cK b bi0 bil
  replace bi1 := cK b bi1 bil
  replace bi2 := cK b bi2 bil
  replace bil := lK b bil
  replace bz0 := cK b bz0 bzl
  replace bz1 := cK b bz1 bzl
  replace bz2 := cK b bz2 bzl
  replace bzl := lK b bzl
  replace cc := bK cc b
  clear b
  go_wp2_with fail
  have bA := below_one w16 (.cells #[.bool bbs, .slice Abs nbs cbs, .slice Bbs mbs dbs] 27)
  replace h0 := h0.on bA
  replace hbl := hbl.on bA
  replace hbh := hbh.on bA
  replace hbm := hbm.on bA
  replace hbx := hbx.on bA
  replace hbi := hbi.on bA
  replace hbz := hbz.on bA
  replace ho := ho.on bA
  replace hbs := hbs.on bA
  replace pa0 := cK bA pa0 pal
  replace pa1 := cK bA pa1 pal
  replace pa2 := cK bA pa2 pal
  replace pal := lK bA pal
  replace bl0 := cK bA bl0 bll
  replace bl1 := cK bA bl1 bll
  replace bll := lK bA bll
  replace bh0 := cK bA bh0 bhl
  replace bh1 := cK bA bh1 bhl
  replace bhl := lK bA bhl
  replace bm0 := cK bA bm0 bml
  replace bm1 := cK bA bm1 bml
  replace bml := lK bA bml
  replace bx0 := cK bA bx0 bxl
  replace bx1 := cK bA bx1 bxl
  replace bx2 := cK bA bx2 bxl
  replace bxl := lK bA bxl
  replace bi0 := cK bA bi0 bil
  replace bi1 := cK bA bi1 bil
  replace bi2 := cK bA bi2 bil
  replace bil := lK bA bil
  replace bz0 := cK bA bz0 bzl
  replace bz1 := cK bA bz1 bzl
  replace bz2 := cK bA bz2 bzl
  replace bzl := lK bA bzl
  replace cc := bK cc bA
  clear bA
  have bs0 : (w16.alloc (.cells #[.bool bbs, .slice Abs nbs cbs, .slice Bbs mbs dbs] 27)).cell? ⟨w16.heap.size, 0, none⟩ = some (.bool bbs) := by simp [go_sem]
  have bs1 : (w16.alloc (.cells #[.bool bbs, .slice Abs nbs cbs, .slice Bbs mbs dbs] 27)).cell? ⟨w16.heap.size, 1, none⟩ = some (.slice Abs nbs cbs) := by simp [go_sem]
  have bs2 : (w16.alloc (.cells #[.bool bbs, .slice Abs nbs cbs, .slice Bbs mbs dbs] 27)).cell? ⟨w16.heap.size, 2, none⟩ = some (.slice Bbs mbs dbs) := by simp [go_sem]
  have bsl : w16.heap.size < (w16.alloc (.cells #[.bool bbs, .slice Abs nbs cbs, .slice Bbs mbs dbs] 27)).heap.size := by simp
  generalize w16.alloc (.cells #[.bool bbs, .slice Abs nbs cbs, .slice Bbs mbs dbs] 27) = v17 at *
  clear ho
  refine (rtsame_N hbx (sx.le (by omega)) h0 (s0.le (by omega)) false O1.out).mono ?_
  rintro e w18 ⟨rfl, b⟩
  replace h0 := h0.on b
  replace hbl := hbl.on b
  replace hbh := hbh.on b
  replace hbm := hbm.on b
  replace hbx := hbx.on b
  replace hbi := hbi.on b
  replace hbz := hbz.on b
  replace hbs := hbs.on b
  replace pa0 := cK b pa0 pal
  replace pa1 := cK b pa1 pal
  replace pa2 := cK b pa2 pal
  replace pal := lK b pal
  replace bl0 := cK b bl0 bll
  replace bl1 := cK b bl1 bll
  replace bll := lK b bll
  replace bh0 := cK b bh0 bhl
  replace bh1 := cK b bh1 bhl
  replace bhl := lK b bhl
  replace bm0 := cK b bm0 bml
  replace bm1 := cK b bm1 bml
  replace bml := lK b bml
  replace bx0 := cK b bx0 bxl
  replace bx1 := cK b bx1 bxl
  replace bx2 := cK b bx2 bxl
  replace bxl := lK b bxl
  replace bi0 := cK b bi0 bil
  replace bi1 := cK b bi1 bil
  replace bi2 := cK b bi2 bil
  replace bil := lK b bil
  replace bz0 := cK b bz0 bzl
  replace bz1 := cK b bz1 bzl
  replace bz2 := cK b bz2 bzl
  replace bzl := lK b bzl
  replace bs0 := cK b bs0 bsl
  replace bs1 := cK b bs1 bsl
  replace bs2 := cK b bs2 bsl
  replace bsl := lK b bsl
  replace cc := bK cc b
  clear b
  go_wp2_with fail
  have bD : Below w18.heap.size w18 w18.drew := below_drewN (Below.refl _ w18) 1
  replace h0 := h0.on bD
  replace hbl := hbl.on bD
  replace hbh := hbh.on bD
  replace hbm := hbm.on bD
  replace hbx := hbx.on bD
  replace hbi := hbi.on bD
  replace hbz := hbz.on bD
  replace hbs := hbs.on bD
  replace pa0 := cK bD pa0 pal
  replace pa1 := cK bD pa1 pal
  replace pa2 := cK bD pa2 pal
  replace pal := lK bD pal
  replace bl0 := cK bD bl0 bll
  replace bl1 := cK bD bl1 bll
  replace bll := lK bD bll
  replace bh0 := cK bD bh0 bhl
  replace bh1 := cK bD bh1 bhl
  replace bhl := lK bD bhl
  replace bm0 := cK bD bm0 bml
  replace bm1 := cK bD bm1 bml
  replace bml := lK bD bml
  replace bx0 := cK bD bx0 bxl
  replace bx1 := cK bD bx1 bxl
  replace bx2 := cK bD bx2 bxl
  replace bxl := lK bD bxl
  replace bi0 := cK bD bi0 bil
  replace bi1 := cK bD bi1 bil
  replace bi2 := cK bD bi2 bil
  replace bil := lK bD bil
  replace bz0 := cK bD bz0 bzl
  replace bz1 := cK bD bz1 bzl
  replace bz2 := cK bD bz2 bzl
  replace bzl := lK bD bzl
  replace bs0 := cK bD bs0 bsl
  replace bs1 := cK bD bs1 bsl
  replace bs2 := cK bD bs2 bsl
  replace bsl := lK bD bsl
  replace cc := bK cc bD
  clear bD
  refine wp_region_held_drew (S := fun w' => w'.cell? ⟨w.heap.size, 0, none⟩ = some (.bool b0) ∧ w'.cell? ⟨w.heap.size, 1, none⟩ = some (.slice A0 n0 c0) ∧ w'.cell? ⟨w.heap.size, 2, none⟩ = some (.slice B0 m0 d0) ∧ w'.cell? ⟨w3.heap.size, 0, none⟩ = some (.bool bbl) ∧ w'.cell? ⟨w3.heap.size, 1, none⟩ = some (.slice Abl nbl cbl) ∧ w'.cell? ⟨w5.heap.size, 0, none⟩ = some (.bool bbh) ∧ w'.cell? ⟨w5.heap.size, 1, none⟩ = some (.slice Abh nbh cbh) ∧ w'.cell? ⟨w7.heap.size, 0, none⟩ = some (.bool bbm) ∧ w'.cell? ⟨w7.heap.size, 1, none⟩ = some (.slice Abm nbm cbm) ∧ w'.cell? ⟨w9.heap.size, 0, none⟩ = some (.bool bbx) ∧ w'.cell? ⟨w9.heap.size, 1, none⟩ = some (.slice Abx nbx cbx) ∧ w'.cell? ⟨w9.heap.size, 2, none⟩ = some (.slice Bbx mbx dbx) ∧ w'.cell? ⟨w11.heap.size, 0, none⟩ = some (.bool bbi) ∧ w'.cell? ⟨w11.heap.size, 1, none⟩ = some (.slice Abi nbi cbi) ∧ w'.cell? ⟨w11.heap.size, 2, none⟩ = some (.slice Bbi mbi dbi) ∧ w'.cell? ⟨w13.heap.size, 0, none⟩ = some (.bool bbz) ∧ w'.cell? ⟨w13.heap.size, 1, none⟩ = some (.slice Abz nbz cbz) ∧ w'.cell? ⟨w13.heap.size, 2, none⟩ = some (.slice Bbz mbz dbz) ∧ w'.cell? ⟨w16.heap.size, 0, none⟩ = some (.bool bbs) ∧ w'.cell? ⟨w16.heap.size, 1, none⟩ = some (.slice Abs nbs cbs) ∧ w'.cell? ⟨w16.heap.size, 2, none⟩ = some (.slice Bbs mbs dbs)) (by kernel_rfl) ?_ (fun hHeld => ?_)
  · exact ⟨pa0, pa1, pa2, bl0, bl1, bh0, bh1, bm0, bm1, bx0, bx1, bx2, bi0, bi1, bi2, bz0, bz1, bz2, bs0, bs1, bs2⟩
  refine wpAnyH_take (i := 0) (v := ?_) rfl (by kernel_rfl) (by kernel_rfl) (by kernel_rfl) (fun _ _ _ h => h) (Or.inl ⟨by rfl, ?_⟩) hHeld ?_
  rotate_left
  · (intro w hSw; (try dsimp only at hSw); go_simp; (try with_reducible rfl))
  try simp only [Act.put, List.getElem_toArray, List.getElem_cons_zero, List.getElem_cons_succ, List.setIfInBounds_toArray, List.set_cons_zero, List.set_cons_succ]
  refine wpAnyH_take (i := 1) (v := ?_) rfl (by kernel_rfl) (by kernel_rfl) (by kernel_rfl) (fun _ _ _ h => h) (Or.inl ⟨by rfl, ?_⟩) hHeld ?_
  rotate_left
  · (intro w hSw; (try dsimp only at hSw); go_simp; (try with_reducible rfl))
  try simp only [Act.put, List.getElem_toArray, List.getElem_cons_zero, List.getElem_cons_succ, List.setIfInBounds_toArray, List.set_cons_zero, List.set_cons_succ]
  refine wpAnyH_ready (rs := [2]) (by kernel_rfl) (by simp) ?_
  refine AllReadyH.cons rfl (fun K hK => ?_) AllReadyH.nil
  (try simp only [List.getElem_toArray, List.getElem_cons_zero, List.getElem_cons_succ])
  rw [if_pos (by rfl)]
  go_simp
  go_at_call 23
  refine (rtcmp_v a1 hbx (sx.le (by omega)) h0 (s0.le (by omega)) Ha1.out).mono ?_
  rintro e w19 ⟨rfl, b⟩
  replace h0 := h0.on b
  replace hbl := hbl.on b
  replace hbh := hbh.on b
  replace hbm := hbm.on b
  replace hbx := hbx.on b
  replace hbi := hbi.on b
  replace hbz := hbz.on b
  replace hbs := hbs.on b
  replace pa0 := cK b pa0 pal
  replace pa1 := cK b pa1 pal
  replace pa2 := cK b pa2 pal
  replace pal := lK b pal
  replace bl0 := cK b bl0 bll
  replace bl1 := cK b bl1 bll
  replace bll := lK b bll
  replace bh0 := cK b bh0 bhl
  replace bh1 := cK b bh1 bhl
  replace bhl := lK b bhl
  replace bm0 := cK b bm0 bml
  replace bm1 := cK b bm1 bml
  replace bml := lK b bml
  replace bx0 := cK b bx0 bxl
  replace bx1 := cK b bx1 bxl
  replace bx2 := cK b bx2 bxl
  replace bxl := lK b bxl
  replace bi0 := cK b bi0 bil
  replace bi1 := cK b bi1 bil
  replace bi2 := cK b bi2 bil
  replace bil := lK b bil
  replace bz0 := cK b bz0 bzl
  replace bz1 := cK b bz1 bzl
  replace bz2 := cK b bz2 bzl
  replace bzl := lK b bzl
  replace bs0 := cK b bs0 bsl
  replace bs1 := cK b bs1 bsl
  replace bs2 := cK b bs2 bsl
  replace bsl := lK b bsl
  replace cc := bK cc b
  clear b
  refine hK.out _ _ ?_ (fun hHeld => ?_)
  · exact ⟨pa0, pa1, pa2, bl0, bl1, bh0, bh1, bm0, bm1, bx0, bx1, bx2, bi0, bi1, bi2, bz0, bz1, bz2, bs0, bs1, bs2⟩
  clear hK K
  try simp only [Act.put, List.getElem_toArray, List.getElem_cons_zero, List.getElem_cons_succ, List.setIfInBounds_toArray, List.set_cons_zero, List.set_cons_succ]
  refine wpAnyH_take (i := 3) (v := ?_) rfl (by kernel_rfl) (by kernel_rfl) (by kernel_rfl) (fun _ _ _ h => h) (Or.inl ⟨by rfl, ?_⟩) hHeld ?_
  rotate_left
  · (intro w hSw; (try dsimp only at hSw); go_simp; (try with_reducible rfl))
  try simp only [Act.put, List.getElem_toArray, List.getElem_cons_zero, List.getElem_cons_succ, List.setIfInBounds_toArray, List.set_cons_zero, List.set_cons_succ]
  refine wpAnyH_take (i := 4) (v := ?_) rfl (by kernel_rfl) (by kernel_rfl) (by kernel_rfl) (fun _ _ _ h => h) (Or.inl ⟨by rfl, ?_⟩) hHeld ?_
  rotate_left
  · (intro w hSw; (try dsimp only at hSw); go_simp; (try with_reducible rfl))
  try simp only [Act.put, List.getElem_toArray, List.getElem_cons_zero, List.getElem_cons_succ, List.setIfInBounds_toArray, List.set_cons_zero, List.set_cons_succ]
  refine wpAnyH_take (i := 5) (v := ?_) rfl (by kernel_rfl) (by kernel_rfl) (by kernel_rfl) (fun _ _ _ h => h) (Or.inl ⟨by rfl, ?_⟩) hHeld ?_
  rotate_left
  · (intro w hSw; (try dsimp only at hSw); go_simp; (try with_reducible rfl))
  try simp only [Act.put, List.getElem_toArray, List.getElem_cons_zero, List.getElem_cons_succ, List.setIfInBounds_toArray, List.set_cons_zero, List.set_cons_succ]
  refine wpAnyH_take (i := 6) (v := ?_) rfl (by kernel_rfl) (by kernel_rfl) (by kernel_rfl) (fun _ _ _ h => h) (Or.inl ⟨by rfl, ?_⟩) hHeld ?_
  rotate_left
  · (intro w hSw; (try dsimp only at hSw); go_simp; (try with_reducible rfl))
  try simp only [Act.put, List.getElem_toArray, List.getElem_cons_zero, List.getElem_cons_succ, List.setIfInBounds_toArray, List.set_cons_zero, List.set_cons_succ]
  refine wpAnyH_ready (rs := [7]) (by kernel_rfl) (by simp) ?_
  refine AllReadyH.cons rfl (fun K hK => ?_) AllReadyH.nil
  (try simp only [List.getElem_toArray, List.getElem_cons_zero, List.getElem_cons_succ])
  rw [if_pos (by rfl)]
  go_simp
  go_at_call 23
  refine (rtcmp_v a2 h0 (s0.le (by omega)) hbi (sy.le (by omega)) Ha2.out).mono ?_
  rintro e w20 ⟨rfl, b⟩
  replace h0 := h0.on b
  replace hbl := hbl.on b
  replace hbh := hbh.on b
  replace hbm := hbm.on b
  replace hbx := hbx.on b
  replace hbi := hbi.on b
  replace hbz := hbz.on b
  replace hbs := hbs.on b
  replace pa0 := cK b pa0 pal
  replace pa1 := cK b pa1 pal
  replace pa2 := cK b pa2 pal
  replace pal := lK b pal
  replace bl0 := cK b bl0 bll
  replace bl1 := cK b bl1 bll
  replace bll := lK b bll
  replace bh0 := cK b bh0 bhl
  replace bh1 := cK b bh1 bhl
  replace bhl := lK b bhl
  replace bm0 := cK b bm0 bml
  replace bm1 := cK b bm1 bml
  replace bml := lK b bml
  replace bx0 := cK b bx0 bxl
  replace bx1 := cK b bx1 bxl
  replace bx2 := cK b bx2 bxl
  replace bxl := lK b bxl
  replace bi0 := cK b bi0 bil
  replace bi1 := cK b bi1 bil
  replace bi2 := cK b bi2 bil
  replace bil := lK b bil
  replace bz0 := cK b bz0 bzl
  replace bz1 := cK b bz1 bzl
  replace bz2 := cK b bz2 bzl
  replace bzl := lK b bzl
  replace bs0 := cK b bs0 bsl
  replace bs1 := cK b bs1 bsl
  replace bs2 := cK b bs2 bsl
  replace bsl := lK b bsl
  replace cc := bK cc b
  clear b
  refine hK.out _ _ ?_ (fun hHeld => ?_)
  · exact ⟨pa0, pa1, pa2, bl0, bl1, bh0, bh1, bm0, bm1, bx0, bx1, bx2, bi0, bi1, bi2, bz0, bz1, bz2, bs0, bs1, bs2⟩
  clear hK K
  try simp only [Act.put, List.getElem_toArray, List.getElem_cons_zero, List.getElem_cons_succ, List.setIfInBounds_toArray, List.set_cons_zero, List.set_cons_succ]
  refine wpAnyH_take (i := 8) (v := ?_) rfl (by kernel_rfl) (by kernel_rfl) (by kernel_rfl) (fun _ _ _ h => h) (Or.inl ⟨by rfl, ?_⟩) hHeld ?_
  rotate_left
  · (intro w hSw; (try dsimp only at hSw); go_simp; (try with_reducible rfl))
  try simp only [Act.put, List.getElem_toArray, List.getElem_cons_zero, List.getElem_cons_succ, List.setIfInBounds_toArray, List.set_cons_zero, List.set_cons_succ]
  refine wpAnyH_take (i := 9) (v := ?_) rfl (by kernel_rfl) (by kernel_rfl) (by kernel_rfl) (fun _ _ _ h => h) (Or.inl ⟨by rfl, ?_⟩) hHeld ?_
  rotate_left
  · (intro w hSw; (try dsimp only at hSw); go_simp; (try with_reducible rfl))
  try simp only [Act.put, List.getElem_toArray, List.getElem_cons_zero, List.getElem_cons_succ, List.setIfInBounds_toArray, List.set_cons_zero, List.set_cons_succ]
  refine wpAnyH_take (i := 10) (v := ?_) rfl (by kernel_rfl) (by kernel_rfl) (by kernel_rfl) (fun _ _ _ h => h) (Or.inl ⟨by rfl, ?_⟩) hHeld ?_
  rotate_left
  · (intro w hSw; (try dsimp only at hSw); go_simp; (try with_reducible rfl))
  try simp only [Act.put, List.getElem_toArray, List.getElem_cons_zero, List.getElem_cons_succ, List.setIfInBounds_toArray, List.set_cons_zero, List.set_cons_succ]
  refine wpAnyH_take (i := 11) (v := ?_) rfl (by kernel_rfl) (by kernel_rfl) (by kernel_rfl) (fun _ _ _ h => h) (Or.inl ⟨by rfl, ?_⟩) hHeld ?_
  rotate_left
  · (intro w hSw; (try dsimp only at hSw); go_simp; (try with_reducible rfl))
  try simp only [Act.put, List.getElem_toArray, List.getElem_cons_zero, List.getElem_cons_succ, List.setIfInBounds_toArray, List.set_cons_zero, List.set_cons_succ]
  refine wpAnyH_take (i := 12) (v := ?_) rfl (by kernel_rfl) (by kernel_rfl) (by kernel_rfl) (fun _ _ _ h => h) (Or.inl ⟨by rfl, ?_⟩) hHeld ?_
  rotate_left
  · (intro w hSw; (try dsimp only at hSw); go_simp; (try with_reducible rfl))
  try simp only [Act.put, List.getElem_toArray, List.getElem_cons_zero, List.getElem_cons_succ, List.setIfInBounds_toArray, List.set_cons_zero, List.set_cons_succ]
  refine wpAnyH_take (i := 13) (v := ?_) rfl (by kernel_rfl) (by kernel_rfl) (by kernel_rfl) (fun _ _ _ h => h) (Or.inl ⟨by rfl, ?_⟩) hHeld ?_
  rotate_left
  · (intro w hSw; (try dsimp only at hSw); go_simp; (try with_reducible rfl))
  try simp only [Act.put, List.getElem_toArray, List.getElem_cons_zero, List.getElem_cons_succ, List.setIfInBounds_toArray, List.set_cons_zero, List.set_cons_succ]
  refine wpAnyH_ready (rs := [14]) (by kernel_rfl) (by simp) ?_
  refine AllReadyH.cons rfl (fun K hK => ?_) AllReadyH.nil
  (try simp only [List.getElem_toArray, List.getElem_cons_zero, List.getElem_cons_succ])
  rw [if_pos (by rfl)]
  go_simp
  go_at_call 21
  refine (rtsame_N hbi (sy.le (by omega)) h0 (s0.le (by omega)) false O2.out).mono ?_
  rintro e w21 ⟨rfl, b⟩
  replace h0 := h0.on b
  replace hbl := hbl.on b
  replace hbh := hbh.on b
  replace hbm := hbm.on b
  replace hbx := hbx.on b
  replace hbi := hbi.on b
  replace hbz := hbz.on b
  replace hbs := hbs.on b
  replace pa0 := cK b pa0 pal
  replace pa1 := cK b pa1 pal
  replace pa2 := cK b pa2 pal
  replace pal := lK b pal
  replace bl0 := cK b bl0 bll
  replace bl1 := cK b bl1 bll
  replace bll := lK b bll
  replace bh0 := cK b bh0 bhl
  replace bh1 := cK b bh1 bhl
  replace bhl := lK b bhl
  replace bm0 := cK b bm0 bml
  replace bm1 := cK b bm1 bml
  replace bml := lK b bml
  replace bx0 := cK b bx0 bxl
  replace bx1 := cK b bx1 bxl
  replace bx2 := cK b bx2 bxl
  replace bxl := lK b bxl
  replace bi0 := cK b bi0 bil
  replace bi1 := cK b bi1 bil
  replace bi2 := cK b bi2 bil
  replace bil := lK b bil
  replace bz0 := cK b bz0 bzl
  replace bz1 := cK b bz1 bzl
  replace bz2 := cK b bz2 bzl
  replace bzl := lK b bzl
  replace bs0 := cK b bs0 bsl
  replace bs1 := cK b bs1 bsl
  replace bs2 := cK b bs2 bsl
  replace bsl := lK b bsl
  replace cc := bK cc b
  clear b
  refine hK.out _ _ ?_ (fun hHeld => ?_)
  · exact ⟨pa0, pa1, pa2, bl0, bl1, bh0, bh1, bm0, bm1, bx0, bx1, bx2, bi0, bi1, bi2, bz0, bz1, bz2, bs0, bs1, bs2⟩
  clear hK K
  try simp only [Act.put, List.getElem_toArray, List.getElem_cons_zero, List.getElem_cons_succ, List.setIfInBounds_toArray, List.set_cons_zero, List.set_cons_succ]
  refine wpAnyH_take (i := 15) (v := ?_) rfl (by kernel_rfl) (by kernel_rfl) (by kernel_rfl) (fun _ _ _ h => h) (Or.inl ⟨by rfl, ?_⟩) hHeld ?_
  rotate_left
  · (intro w hSw; (try dsimp only at hSw); go_simp; (try with_reducible rfl))
  try simp only [Act.put, List.getElem_toArray, List.getElem_cons_zero, List.getElem_cons_succ, List.setIfInBounds_toArray, List.set_cons_zero, List.set_cons_succ]
  refine wpAnyH_take (i := 16) (v := ?_) rfl (by kernel_rfl) (by kernel_rfl) (by kernel_rfl) (fun _ _ _ h => h) (Or.inl ⟨by rfl, ?_⟩) hHeld ?_
  rotate_left
  · (intro w hSw; (try dsimp only at hSw); go_simp; (try with_reducible rfl))
  try simp only [Act.put, List.getElem_toArray, List.getElem_cons_zero, List.getElem_cons_succ, List.setIfInBounds_toArray, List.set_cons_zero, List.set_cons_succ]
  refine wpAnyH_take (i := 17) (v := ?_) rfl (by kernel_rfl) (by kernel_rfl) (by kernel_rfl) (fun _ _ _ h => h) (Or.inl ⟨by rfl, ?_⟩) hHeld ?_
  rotate_left
  · (intro w hSw; (try dsimp only at hSw); go_simp; (try with_reducible rfl))
  try simp only [Act.put, List.getElem_toArray, List.getElem_cons_zero, List.getElem_cons_succ, List.setIfInBounds_toArray, List.set_cons_zero, List.set_cons_succ]
  refine wpAnyH_take (i := 18) (v := ?_) rfl (by kernel_rfl) (by kernel_rfl) (by kernel_rfl) (fun _ _ _ h => h) (Or.inl ⟨by rfl, ?_⟩) hHeld ?_
  rotate_left
  · (intro w hSw; (try dsimp only at hSw); go_simp; (try with_reducible rfl))
  try simp only [Act.put, List.getElem_toArray, List.getElem_cons_zero, List.getElem_cons_succ, List.setIfInBounds_toArray, List.set_cons_zero, List.set_cons_succ]
  refine wpAnyH_take (i := 19) (v := ?_) rfl (by kernel_rfl) (by kernel_rfl) (by kernel_rfl) (fun _ _ _ h => h) (Or.inl ⟨by rfl, ?_⟩) hHeld ?_
  rotate_left
  · (intro w hSw; (try dsimp only at hSw); go_simp; (try with_reducible rfl))
  try simp only [Act.put, List.getElem_toArray, List.getElem_cons_zero, List.getElem_cons_succ, List.setIfInBounds_toArray, List.set_cons_zero, List.set_cons_succ]
  refine wpAnyH_take (i := 20) (v := ?_) rfl (by kernel_rfl) (by kernel_rfl) (by kernel_rfl) (fun _ _ _ h => h) (Or.inl ⟨by rfl, ?_⟩) hHeld ?_
  rotate_left
  · (intro w hSw; (try dsimp only at hSw); go_simp; (try with_reducible rfl))
  try simp only [Act.put, List.getElem_toArray, List.getElem_cons_zero, List.getElem_cons_succ, List.setIfInBounds_toArray, List.set_cons_zero, List.set_cons_succ]
  refine wpAnyH_take (i := 21) (v := ?_) rfl (by kernel_rfl) (by kernel_rfl) (by kernel_rfl) (fun _ _ _ h => h) (Or.inl ⟨by rfl, ?_⟩) hHeld ?_
  rotate_left
  · (intro w hSw; (try dsimp only at hSw); go_simp; (try with_reducible rfl))
  try simp only [Act.put, List.getElem_toArray, List.getElem_cons_zero, List.getElem_cons_succ, List.setIfInBounds_toArray, List.set_cons_zero, List.set_cons_succ]
  refine wpAnyH_take (i := 22) (v := ?_) rfl (by kernel_rfl) (by kernel_rfl) (by kernel_rfl) (fun _ _ _ h => h) (Or.inl ⟨by rfl, ?_⟩) hHeld ?_
  rotate_left
  · (intro w hSw; (try dsimp only at hSw); go_simp; (try with_reducible rfl))
  try simp only [Act.put, List.getElem_toArray, List.getElem_cons_zero, List.getElem_cons_succ, List.setIfInBounds_toArray, List.set_cons_zero, List.set_cons_succ]
  refine wpAnyH_take (i := 24) (v := ?_) rfl (by kernel_rfl) (by kernel_rfl) (by kernel_rfl) (fun _ _ _ h => h) (Or.inl ⟨by rfl, ?_⟩) hHeld ?_
  rotate_left
  · (intro w hSw; (try dsimp only at hSw); go_simp; (try with_reducible rfl))
  try simp only [Act.put, List.getElem_toArray, List.getElem_cons_zero, List.getElem_cons_succ, List.setIfInBounds_toArray, List.set_cons_zero, List.set_cons_succ]
  refine wpAnyH_ready (rs := [23]) (by kernel_rfl) (by simp) ?_
  refine AllReadyH.cons rfl (fun K hK => ?_) AllReadyH.nil
  (try simp only [List.getElem_toArray, List.getElem_cons_zero, List.getElem_cons_succ])
  rw [if_pos (by rfl)]
  go_simp
  go_at_call 24
  refine (rtsub_N hbi (sy.le (by omega)) hbx (sx.le (by omega))).mono ?_
  rintro e w22 ⟨bu, Au, nu, cu, Bu, mu, du, rfl, hu, b⟩
  replace h0 := h0.on b
  replace hbl := hbl.on b
  replace hbh := hbh.on b
  replace hbm := hbm.on b
  replace hbx := hbx.on b
  replace hbi := hbi.on b
  replace hbz := hbz.on b
  replace hbs := hbs.on b
  replace pa0 := cK b pa0 pal
  replace pa1 := cK b pa1 pal
  replace pa2 := cK b pa2 pal
  replace pal := lK b pal
  replace bl0 := cK b bl0 bll
  replace bl1 := cK b bl1 bll
  replace bll := lK b bll
  replace bh0 := cK b bh0 bhl
  replace bh1 := cK b bh1 bhl
  replace bhl := lK b bhl
  replace bm0 := cK b bm0 bml
  replace bm1 := cK b bm1 bml
  replace bml := lK b bml
  replace bx0 := cK b bx0 bxl
  replace bx1 := cK b bx1 bxl
  replace bx2 := cK b bx2 bxl
  replace bxl := lK b bxl
  replace bi0 := cK b bi0 bil
  replace bi1 := cK b bi1 bil
  replace bi2 := cK b bi2 bil
  replace bil := lK b bil
  replace bz0 := cK b bz0 bzl
  replace bz1 := cK b bz1 bzl
  replace bz2 := cK b bz2 bzl
  replace bzl := lK b bzl
  replace bs0 := cK b bs0 bsl
  replace bs1 := cK b bs1 bsl
  replace bs2 := cK b bs2 bsl
  replace bsl := lK b bsl
  replace cc := bK cc b
  clear b
  refine hK.out _ _ ?_ (fun hHeld => ?_)
  · exact ⟨pa0, pa1, pa2, bl0, bl1, bh0, bh1, bm0, bm1, bx0, bx1, bx2, bi0, bi1, bi2, bz0, bz1, bz2, bs0, bs1, bs2⟩
  clear hK K
  try simp only [Act.put, List.getElem_toArray, List.getElem_cons_zero, List.getElem_cons_succ, List.setIfInBounds_toArray, List.set_cons_zero, List.set_cons_succ]
  refine wpAnyH_ready (rs := [25]) (by kernel_rfl) (by simp) ?_
  refine AllReadyH.cons rfl (fun K hK => ?_) AllReadyH.nil
  (try simp only [List.getElem_toArray, List.getElem_cons_zero, List.getElem_cons_succ])
  rw [if_pos (by rfl)]
  go_simp
  go_at_call 21
  refine (rtsame_eq hu (syx.le (by omega)) hbs (st.le (by omega)) O3).mono ?_
  rintro e w23 ⟨rfl, b⟩
  replace h0 := h0.on b
  replace hbl := hbl.on b
  replace hbh := hbh.on b
  replace hbm := hbm.on b
  replace hbx := hbx.on b
  replace hbi := hbi.on b
  replace hbz := hbz.on b
  replace hbs := hbs.on b
  replace hu := hu.on b
  replace pa0 := cK b pa0 pal
  replace pa1 := cK b pa1 pal
  replace pa2 := cK b pa2 pal
  replace pal := lK b pal
  replace bl0 := cK b bl0 bll
  replace bl1 := cK b bl1 bll
  replace bll := lK b bll
  replace bh0 := cK b bh0 bhl
  replace bh1 := cK b bh1 bhl
  replace bhl := lK b bhl
  replace bm0 := cK b bm0 bml
  replace bm1 := cK b bm1 bml
  replace bml := lK b bml
  replace bx0 := cK b bx0 bxl
  replace bx1 := cK b bx1 bxl
  replace bx2 := cK b bx2 bxl
  replace bxl := lK b bxl
  replace bi0 := cK b bi0 bil
  replace bi1 := cK b bi1 bil
  replace bi2 := cK b bi2 bil
  replace bil := lK b bil
  replace bz0 := cK b bz0 bzl
  replace bz1 := cK b bz1 bzl
  replace bz2 := cK b bz2 bzl
  replace bzl := lK b bzl
  replace bs0 := cK b bs0 bsl
  replace bs1 := cK b bs1 bsl
  replace bs2 := cK b bs2 bsl
  replace bsl := lK b bsl
  replace cc := bK cc b
  clear b
  refine hK.out _ _ ?_ (fun hHeld => ?_)
  · exact ⟨pa0, pa1, pa2, bl0, bl1, bh0, bh1, bm0, bm1, bx0, bx1, bx2, bi0, bi1, bi2, bz0, bz1, bz2, bs0, bs1, bs2⟩
  clear hK K
  try simp only [Act.put, List.getElem_toArray, List.getElem_cons_zero, List.getElem_cons_succ, List.setIfInBounds_toArray, List.set_cons_zero, List.set_cons_succ]
  refine wpAnyH_take (i := 26) (v := ?_) rfl (by kernel_rfl) (by kernel_rfl) (by kernel_rfl) (fun _ _ _ h => h) (Or.inl ⟨by rfl, ?_⟩) hHeld ?_
  rotate_left
  · (intro w hSw; (try dsimp only at hSw); go_simp; (try with_reducible rfl))
  try simp only [Act.put, List.getElem_toArray, List.getElem_cons_zero, List.getElem_cons_succ, List.setIfInBounds_toArray, List.set_cons_zero, List.set_cons_succ]
  refine wpAnyH_take (i := 27) (v := ?_) rfl (by kernel_rfl) (by kernel_rfl) (by kernel_rfl) (fun _ _ _ h => h) (Or.inl ⟨by rfl, ?_⟩) hHeld ?_
  rotate_left
  · (intro w hSw; (try dsimp only at hSw); go_simp; (try with_reducible rfl))
  try simp only [Act.put, List.getElem_toArray, List.getElem_cons_zero, List.getElem_cons_succ, List.setIfInBounds_toArray, List.set_cons_zero, List.set_cons_succ]
  refine wpAnyH_take (i := 28) (v := ?_) rfl (by kernel_rfl) (by kernel_rfl) (by kernel_rfl) (fun _ _ _ h => h) (Or.inl ⟨by rfl, ?_⟩) hHeld ?_
  rotate_left
  · (intro w hSw; (try dsimp only at hSw); go_simp; (try with_reducible rfl))
  try simp only [Act.put, List.getElem_toArray, List.getElem_cons_zero, List.getElem_cons_succ, List.setIfInBounds_toArray, List.set_cons_zero, List.set_cons_succ]
  refine wpAnyH_done (by kernel_rfl) ?_ _
  clear hHeld
  go_wp2_with fail
  refine (rtsub_N hbz (sz.le (by omega)) h0 (s0.le (by omega))).mono ?_
  rintro e w24 ⟨bv, Av, nv, cv, Bv, mv, dv, rfl, hv, b⟩
  replace h0 := h0.on b
  replace hbl := hbl.on b
  replace hbh := hbh.on b
  replace hbm := hbm.on b
  replace hbx := hbx.on b
  replace hbi := hbi.on b
  replace hbz := hbz.on b
  replace hbs := hbs.on b
  replace hu := hu.on b
  replace pa0 := cK b pa0 pal
  replace pa1 := cK b pa1 pal
  replace pa2 := cK b pa2 pal
  replace pal := lK b pal
  replace bl0 := cK b bl0 bll
  replace bl1 := cK b bl1 bll
  replace bll := lK b bll
  replace bh0 := cK b bh0 bhl
  replace bh1 := cK b bh1 bhl
  replace bhl := lK b bhl
  replace bm0 := cK b bm0 bml
  replace bm1 := cK b bm1 bml
  replace bml := lK b bml
  replace bx0 := cK b bx0 bxl
  replace bx1 := cK b bx1 bxl
  replace bx2 := cK b bx2 bxl
  replace bxl := lK b bxl
  replace bi0 := cK b bi0 bil
  replace bi1 := cK b bi1 bil
  replace bi2 := cK b bi2 bil
  replace bil := lK b bil
  replace bz0 := cK b bz0 bzl
  replace bz1 := cK b bz1 bzl
  replace bz2 := cK b bz2 bzl
  replace bzl := lK b bzl
  replace bs0 := cK b bs0 bsl
  replace bs1 := cK b bs1 bsl
  replace bs2 := cK b bs2 bsl
  replace bsl := lK b bsl
  replace cc := bK cc b
  clear b
  go_wp2_with fail
  refine (CA hv).mono ?_
  rintro e w25 ⟨bbf, Abf, nbf, cbf, Bbf, mbf, dbf, rfl, hbf, b⟩
  replace h0 := h0.on b
  replace hbl := hbl.on b
  replace hbh := hbh.on b
  replace hbm := hbm.on b
  replace hbx := hbx.on b
  replace hbi := hbi.on b
  replace hbz := hbz.on b
  replace hbs := hbs.on b
  replace hu := hu.on b
  replace hv := hv.on b
  replace pa0 := cK b pa0 pal
  replace pa1 := cK b pa1 pal
  replace pa2 := cK b pa2 pal
  replace pal := lK b pal
  replace bl0 := cK b bl0 bll
  replace bl1 := cK b bl1 bll
  replace bll := lK b bll
  replace bh0 := cK b bh0 bhl
  replace bh1 := cK b bh1 bhl
  replace bhl := lK b bhl
  replace bm0 := cK b bm0 bml
  replace bm1 := cK b bm1 bml
  replace bml := lK b bml
  replace bx0 := cK b bx0 bxl
  replace bx1 := cK b bx1 bxl
  replace bx2 := cK b bx2 bxl
  replace bxl := lK b bxl
  replace bi0 := cK b bi0 bil
  replace bi1 := cK b bi1 bil
  replace bi2 := cK b bi2 bil
  replace bil := lK b bil
  replace bz0 := cK b bz0 bzl
  replace bz1 := cK b bz1 bzl
  replace bz2 := cK b bz2 bzl
  replace bzl := lK b bzl
  replace bs0 := cK b bs0 bsl
  replace bs1 := cK b bs1 bsl
  replace bs2 := cK b bs2 bsl
  replace bsl := lK b bsl
  replace cc := bK cc b
  clear b
  go_wp2_with fail
  have bA := below_one w25 (.cells #[.bool bbf, .slice Abf nbf cbf, .slice Bbf mbf dbf] 27)
  replace h0 := h0.on bA
  replace hbl := hbl.on bA
  replace hbh := hbh.on bA
  replace hbm := hbm.on bA
  replace hbx := hbx.on bA
  replace hbi := hbi.on bA
  replace hbz := hbz.on bA
  replace hbs := hbs.on bA
  replace hu := hu.on bA
  replace hv := hv.on bA
  replace hbf := hbf.on bA
  replace pa0 := cK bA pa0 pal
  replace pa1 := cK bA pa1 pal
  replace pa2 := cK bA pa2 pal
  replace pal := lK bA pal
  replace bl0 := cK bA bl0 bll
  replace bl1 := cK bA bl1 bll
  replace bll := lK bA bll
  replace bh0 := cK bA bh0 bhl
  replace bh1 := cK bA bh1 bhl
  replace bhl := lK bA bhl
  replace bm0 := cK bA bm0 bml
  replace bm1 := cK bA bm1 bml
  replace bml := lK bA bml
  replace bx0 := cK bA bx0 bxl
  replace bx1 := cK bA bx1 bxl
  replace bx2 := cK bA bx2 bxl
  replace bxl := lK bA bxl
  replace bi0 := cK bA bi0 bil
  replace bi1 := cK bA bi1 bil
  replace bi2 := cK bA bi2 bil
  replace bil := lK bA bil
  replace bz0 := cK bA bz0 bzl
  replace bz1 := cK bA bz1 bzl
  replace bz2 := cK bA bz2 bzl
  replace bzl := lK bA bzl
  replace bs0 := cK bA bs0 bsl
  replace bs1 := cK bA bs1 bsl
  replace bs2 := cK bA bs2 bsl
  replace bsl := lK bA bsl
  replace cc := bK cc bA
  clear bA
  have bf0 : (w25.alloc (.cells #[.bool bbf, .slice Abf nbf cbf, .slice Bbf mbf dbf] 27)).cell? ⟨w25.heap.size, 0, none⟩ = some (.bool bbf) := by simp [go_sem]
  have bf1 : (w25.alloc (.cells #[.bool bbf, .slice Abf nbf cbf, .slice Bbf mbf dbf] 27)).cell? ⟨w25.heap.size, 1, none⟩ = some (.slice Abf nbf cbf) := by simp [go_sem]
  have bf2 : (w25.alloc (.cells #[.bool bbf, .slice Abf nbf cbf, .slice Bbf mbf dbf] 27)).cell? ⟨w25.heap.size, 2, none⟩ = some (.slice Bbf mbf dbf) := by simp [go_sem]
  have bfl : w25.heap.size < (w25.alloc (.cells #[.bool bbf, .slice Abf nbf cbf, .slice Bbf mbf dbf] 27)).heap.size := by simp
  generalize w25.alloc (.cells #[.bool bbf, .slice Abf nbf cbf, .slice Bbf mbf dbf] 27) = v26 at *
  refine (rtadd_N hbf (sf.le (by omega)) hbf (sf.le (by omega))).mono ?_
  rintro e w27 ⟨bd, Ad, nd, cd, Bd, mq_, dd, rfl, hd, b⟩
  replace h0 := h0.on b
  replace hbl := hbl.on b
  replace hbh := hbh.on b
  replace hbm := hbm.on b
  replace hbx := hbx.on b
  replace hbi := hbi.on b
  replace hbz := hbz.on b
  replace hbs := hbs.on b
  replace hu := hu.on b
  replace hv := hv.on b
  replace hbf := hbf.on b
  replace pa0 := cK b pa0 pal
  replace pa1 := cK b pa1 pal
  replace pa2 := cK b pa2 pal
  replace pal := lK b pal
  replace bl0 := cK b bl0 bll
  replace bl1 := cK b bl1 bll
  replace bll := lK b bll
  replace bh0 := cK b bh0 bhl
  replace bh1 := cK b bh1 bhl
  replace bhl := lK b bhl
  replace bm0 := cK b bm0 bml
  replace bm1 := cK b bm1 bml
  replace bml := lK b bml
  replace bx0 := cK b bx0 bxl
  replace bx1 := cK b bx1 bxl
  replace bx2 := cK b bx2 bxl
  replace bxl := lK b bxl
  replace bi0 := cK b bi0 bil
  replace bi1 := cK b bi1 bil
  replace bi2 := cK b bi2 bil
  replace bil := lK b bil
  replace bz0 := cK b bz0 bzl
  replace bz1 := cK b bz1 bzl
  replace bz2 := cK b bz2 bzl
  replace bzl := lK b bzl
  replace bs0 := cK b bs0 bsl
  replace bs1 := cK b bs1 bsl
  replace bs2 := cK b bs2 bsl
  replace bsl := lK b bsl
  replace bf0 := cK b bf0 bfl
  replace bf1 := cK b bf1 bfl
  replace bf2 := cK b bf2 bfl
  replace bfl := lK b bfl
  replace cc := bK cc b
  clear b
  by_cases hml : md = lo
  · by_cases htie : fr + fr = sp
    · by_cases hmz : md = 0
      · have O4 : Hid (decide (md = lo) = true) := Lib.hid (decide_eq_true hml)
        have O6 : Hid (decide (fr + fr = sp) = true) := Lib.hid (decide_eq_true htie)
        clear hml htie
        have hnz : nbm = 0 := by have e := hbm.1.len; rw [hmz, show (0 : Int).natAbs = 0 from rfl, limbs_zero] at e; exact e
        have tz : ((nbm : Int) == 0) = true := beq_iff_eq.2 (by omega)
        clear hnz hmz
        go_wp2_with fail
        have bA := below_one w27 (.cells #[.bool bd, .slice Ad nd cd, .slice Bd mq_ dd] 27)
        replace h0 := h0.on bA
        replace hbl := hbl.on bA
        replace hbh := hbh.on bA
        replace hbm := hbm.on bA
        replace hbx := hbx.on bA
        replace hbi := hbi.on bA
        replace hbz := hbz.on bA
        replace hbs := hbs.on bA
        replace hu := hu.on bA
        replace hv := hv.on bA
        replace hbf := hbf.on bA
        replace hd := hd.on bA
        replace pa0 := cK bA pa0 pal
        replace pa1 := cK bA pa1 pal
        replace pa2 := cK bA pa2 pal
        replace pal := lK bA pal
        replace bl0 := cK bA bl0 bll
        replace bl1 := cK bA bl1 bll
        replace bll := lK bA bll
        replace bh0 := cK bA bh0 bhl
        replace bh1 := cK bA bh1 bhl
        replace bhl := lK bA bhl
        replace bm0 := cK bA bm0 bml
        replace bm1 := cK bA bm1 bml
        replace bml := lK bA bml
        replace bx0 := cK bA bx0 bxl
        replace bx1 := cK bA bx1 bxl
        replace bx2 := cK bA bx2 bxl
        replace bxl := lK bA bxl
        replace bi0 := cK bA bi0 bil
        replace bi1 := cK bA bi1 bil
        replace bi2 := cK bA bi2 bil
        replace bil := lK bA bil
        replace bz0 := cK bA bz0 bzl
        replace bz1 := cK bA bz1 bzl
        replace bz2 := cK bA bz2 bzl
        replace bzl := lK bA bzl
        replace bs0 := cK bA bs0 bsl
        replace bs1 := cK bA bs1 bsl
        replace bs2 := cK bA bs2 bsl
        replace bsl := lK bA bsl
        replace bf0 := cK bA bf0 bfl
        replace bf1 := cK bA bf1 bfl
        replace bf2 := cK bA bf2 bfl
        replace bfl := lK bA bfl
        replace cc := bK cc bA
        clear bA
        have bt0 : (w27.alloc (.cells #[.bool bd, .slice Ad nd cd, .slice Bd mq_ dd] 27)).cell? ⟨w27.heap.size, 0, none⟩ = some (.bool bd) := by simp [go_sem]
        have bt1 : (w27.alloc (.cells #[.bool bd, .slice Ad nd cd, .slice Bd mq_ dd] 27)).cell? ⟨w27.heap.size, 1, none⟩ = some (.slice Ad nd cd) := by simp [go_sem]
        have bt2 : (w27.alloc (.cells #[.bool bd, .slice Ad nd cd, .slice Bd mq_ dd] 27)).cell? ⟨w27.heap.size, 2, none⟩ = some (.slice Bd mq_ dd) := by simp [go_sem]
        have btl : w27.heap.size < (w27.alloc (.cells #[.bool bd, .slice Ad nd cd, .slice Bd mq_ dd] 27)).heap.size := by simp
        generalize w27.alloc (.cells #[.bool bd, .slice Ad nd cd, .slice Bd mq_ dd] 27) = v28 at *
        refine (alive6_any _).mono ?_
        rintro e w29 ⟨rfl, b⟩
        replace h0 := h0.on b
        replace hbl := hbl.on b
        replace hbh := hbh.on b
        replace hbm := hbm.on b
        replace hbx := hbx.on b
        replace hbi := hbi.on b
        replace hbz := hbz.on b
        replace hbs := hbs.on b
        replace hu := hu.on b
        replace hv := hv.on b
        replace hbf := hbf.on b
        replace hd := hd.on b
        replace pa0 := cK b pa0 pal
        replace pa1 := cK b pa1 pal
        replace pa2 := cK b pa2 pal
        replace pal := lK b pal
        replace bl0 := cK b bl0 bll
        replace bl1 := cK b bl1 bll
        replace bll := lK b bll
        replace bh0 := cK b bh0 bhl
        replace bh1 := cK b bh1 bhl
        replace bhl := lK b bhl
        replace bm0 := cK b bm0 bml
        replace bm1 := cK b bm1 bml
        replace bml := lK b bml
        replace bx0 := cK b bx0 bxl
        replace bx1 := cK b bx1 bxl
        replace bx2 := cK b bx2 bxl
        replace bxl := lK b bxl
        replace bi0 := cK b bi0 bil
        replace bi1 := cK b bi1 bil
        replace bi2 := cK b bi2 bil
        replace bil := lK b bil
        replace bz0 := cK b bz0 bzl
        replace bz1 := cK b bz1 bzl
        replace bz2 := cK b bz2 bzl
        replace bzl := lK b bzl
        replace bs0 := cK b bs0 bsl
        replace bs1 := cK b bs1 bsl
        replace bs2 := cK b bs2 bsl
        replace bsl := lK b bsl
        replace bf0 := cK b bf0 bfl
        replace bf1 := cK b bf1 bfl
        replace bf2 := cK b bf2 bfl
        replace bfl := lK b bfl
        replace bt0 := cK b bt0 btl
        replace bt1 := cK b bt1 btl
        replace bt2 := cK b bt2 btl
        replace btl := lK b btl
        replace cc := bK cc b
        clear b
        go_wp2_with fail
        refine (zsame_N true hbm hbl (by omega) (by omega) O4.out).mono ?_
        rintro e w30 ⟨rfl, b⟩
        replace h0 := h0.on b
        replace hbl := hbl.on b
        replace hbh := hbh.on b
        replace hbm := hbm.on b
        replace hbx := hbx.on b
        replace hbi := hbi.on b
        replace hbz := hbz.on b
        replace hbs := hbs.on b
        replace hu := hu.on b
        replace hv := hv.on b
        replace hbf := hbf.on b
        replace hd := hd.on b
        replace pa0 := cK b pa0 pal
        replace pa1 := cK b pa1 pal
        replace pa2 := cK b pa2 pal
        replace pal := lK b pal
        replace bl0 := cK b bl0 bll
        replace bl1 := cK b bl1 bll
        replace bll := lK b bll
        replace bh0 := cK b bh0 bhl
        replace bh1 := cK b bh1 bhl
        replace bhl := lK b bhl
        replace bm0 := cK b bm0 bml
        replace bm1 := cK b bm1 bml
        replace bml := lK b bml
        replace bx0 := cK b bx0 bxl
        replace bx1 := cK b bx1 bxl
        replace bx2 := cK b bx2 bxl
        replace bxl := lK b bxl
        replace bi0 := cK b bi0 bil
        replace bi1 := cK b bi1 bil
        replace bi2 := cK b bi2 bil
        replace bil := lK b bil
        replace bz0 := cK b bz0 bzl
        replace bz1 := cK b bz1 bzl
        replace bz2 := cK b bz2 bzl
        replace bzl := lK b bzl
        replace bs0 := cK b bs0 bsl
        replace bs1 := cK b bs1 bsl
        replace bs2 := cK b bs2 bsl
        replace bsl := lK b bsl
        replace bf0 := cK b bf0 bfl
        replace bf1 := cK b bf1 bfl
        replace bf2 := cK b bf2 bfl
        replace bfl := lK b bfl
        replace bt0 := cK b bt0 btl
        replace bt1 := cK b bt1 btl
        replace bt2 := cK b bt2 btl
        replace btl := lK b btl
        replace cc := bK cc b
        clear b
        go_wp2_with fail
        refine (rtcmp_v a3 hd (sd.le (by omega)) hbs (st.le (by omega)) Ha3.out).mono ?_
        rintro e w31 ⟨rfl, b⟩
        replace h0 := h0.on b
        replace hbl := hbl.on b
        replace hbh := hbh.on b
        replace hbm := hbm.on b
        replace hbx := hbx.on b
        replace hbi := hbi.on b
        replace hbz := hbz.on b
        replace hbs := hbs.on b
        replace hu := hu.on b
        replace hv := hv.on b
        replace hbf := hbf.on b
        replace hd := hd.on b
        replace pa0 := cK b pa0 pal
        replace pa1 := cK b pa1 pal
        replace pa2 := cK b pa2 pal
        replace pal := lK b pal
        replace bl0 := cK b bl0 bll
        replace bl1 := cK b bl1 bll
        replace bll := lK b bll
        replace bh0 := cK b bh0 bhl
        replace bh1 := cK b bh1 bhl
        replace bhl := lK b bhl
        replace bm0 := cK b bm0 bml
        replace bm1 := cK b bm1 bml
        replace bml := lK b bml
        replace bx0 := cK b bx0 bxl
        replace bx1 := cK b bx1 bxl
        replace bx2 := cK b bx2 bxl
        replace bxl := lK b bxl
        replace bi0 := cK b bi0 bil
        replace bi1 := cK b bi1 bil
        replace bi2 := cK b bi2 bil
        replace bil := lK b bil
        replace bz0 := cK b bz0 bzl
        replace bz1 := cK b bz1 bzl
        replace bz2 := cK b bz2 bzl
        replace bzl := lK b bzl
        replace bs0 := cK b bs0 bsl
        replace bs1 := cK b bs1 bsl
        replace bs2 := cK b bs2 bsl
        replace bsl := lK b bsl
        replace bf0 := cK b bf0 bfl
        replace bf1 := cK b bf1 bfl
        replace bf2 := cK b bf2 bfl
        replace bfl := lK b bfl
        replace bt0 := cK b bt0 btl
        replace bt1 := cK b bt1 btl
        replace bt2 := cK b bt2 btl
        replace btl := lK b btl
        replace cc := bK cc b
        clear b
        go_wp2_with fail
        refine (rtsame_N hd (sd.le (by omega)) hbs (st.le (by omega)) true O6.out).mono ?_
        rintro e w32 ⟨rfl, b⟩
        replace h0 := h0.on b
        replace hbl := hbl.on b
        replace hbh := hbh.on b
        replace hbm := hbm.on b
        replace hbx := hbx.on b
        replace hbi := hbi.on b
        replace hbz := hbz.on b
        replace hbs := hbs.on b
        replace hu := hu.on b
        replace hv := hv.on b
        replace hbf := hbf.on b
        replace hd := hd.on b
        replace pa0 := cK b pa0 pal
        replace pa1 := cK b pa1 pal
        replace pa2 := cK b pa2 pal
        replace pal := lK b pal
        replace bl0 := cK b bl0 bll
        replace bl1 := cK b bl1 bll
        replace bll := lK b bll
        replace bh0 := cK b bh0 bhl
        replace bh1 := cK b bh1 bhl
        replace bhl := lK b bhl
        replace bm0 := cK b bm0 bml
        replace bm1 := cK b bm1 bml
        replace bml := lK b bml
        replace bx0 := cK b bx0 bxl
        replace bx1 := cK b bx1 bxl
        replace bx2 := cK b bx2 bxl
        replace bxl := lK b bxl
        replace bi0 := cK b bi0 bil
        replace bi1 := cK b bi1 bil
        replace bi2 := cK b bi2 bil
        replace bil := lK b bil
        replace bz0 := cK b bz0 bzl
        replace bz1 := cK b bz1 bzl
        replace bz2 := cK b bz2 bzl
        replace bzl := lK b bzl
        replace bs0 := cK b bs0 bsl
        replace bs1 := cK b bs1 bsl
        replace bs2 := cK b bs2 bsl
        replace bsl := lK b bsl
        replace bf0 := cK b bf0 bfl
        replace bf1 := cK b bf1 bfl
        replace bf2 := cK b bf2 bfl
        replace bfl := lK b bfl
        replace bt0 := cK b bt0 btl
        replace bt1 := cK b bt1 btl
        replace bt2 := cK b bt2 btl
        replace btl := lK b btl
        replace cc := bK cc b
        clear b
        go_wp2_with fail
        go_ret
        exact ⟨rfl, cc⟩
      · have O4 : Hid (decide (md = lo) = true) := Lib.hid (decide_eq_true hml)
        have O6 : Hid (decide (fr + fr = sp) = true) := Lib.hid (decide_eq_true htie)
        have hev := M7.out htie
        clear hml htie
        have hmo := low_mod md.natAbs (by omega)
        rw [abs_mod] at hmo
        have hmz0 : md.natAbs ≠ 0 := by omega
        clear hmz
        have hnz : 0 < nbm := hbm.1.some_len hmz0
        obtain ⟨bk, off, hAk, hkl, hkc⟩ := hbm.1.2.2.2 hnz
        subst hAk
        have hk0 := hkc 0 hnz
        rw [Nat.add_zero] at hk0
        clear hkc
        obtain ⟨vv, hvv⟩ : ∃ v, ((limbs md.natAbs)[0]?.getD 0) = v := ⟨_, rfl⟩
        rw [hvv] at hk0 hmo
        clear hvv
        have hB1 := below_one w27 (.cells #[.bool bd, .slice Ad nd cd, .slice Bd mq_ dd] 27)
        have hk1 := cK hB1 hk0 hkl
        clear hB1
        have tz : ((nbm : Int) == 0) = false := beq_eq_false_iff_ne.2 (by omega)
        have tn : 1 ≤ nbm := hnz
        have te : ((vv : Int) % 2 == 0) = true := beq_iff_eq.2 (by omega)
        go_wp2_with fail
        have bA := below_one w27 (.cells #[.bool bd, .slice Ad nd cd, .slice Bd mq_ dd] 27)
        replace h0 := h0.on bA
        replace hbl := hbl.on bA
        replace hbh := hbh.on bA
        replace hbm := hbm.on bA
        replace hbx := hbx.on bA
        replace hbi := hbi.on bA
        replace hbz := hbz.on bA
        replace hbs := hbs.on bA
        replace hu := hu.on bA
        replace hv := hv.on bA
        replace hbf := hbf.on bA
        replace hd := hd.on bA
        replace pa0 := cK bA pa0 pal
        replace pa1 := cK bA pa1 pal
        replace pa2 := cK bA pa2 pal
        replace pal := lK bA pal
        replace bl0 := cK bA bl0 bll
        replace bl1 := cK bA bl1 bll
        replace bll := lK bA bll
        replace bh0 := cK bA bh0 bhl
        replace bh1 := cK bA bh1 bhl
        replace bhl := lK bA bhl
        replace bm0 := cK bA bm0 bml
        replace bm1 := cK bA bm1 bml
        replace bml := lK bA bml
        replace bx0 := cK bA bx0 bxl
        replace bx1 := cK bA bx1 bxl
        replace bx2 := cK bA bx2 bxl
        replace bxl := lK bA bxl
        replace bi0 := cK bA bi0 bil
        replace bi1 := cK bA bi1 bil
        replace bi2 := cK bA bi2 bil
        replace bil := lK bA bil
        replace bz0 := cK bA bz0 bzl
        replace bz1 := cK bA bz1 bzl
        replace bz2 := cK bA bz2 bzl
        replace bzl := lK bA bzl
        replace bs0 := cK bA bs0 bsl
        replace bs1 := cK bA bs1 bsl
        replace bs2 := cK bA bs2 bsl
        replace bsl := lK bA bsl
        replace bf0 := cK bA bf0 bfl
        replace bf1 := cK bA bf1 bfl
        replace bf2 := cK bA bf2 bfl
        replace bfl := lK bA bfl
        replace cc := bK cc bA
        clear bA
        have bt0 : (w27.alloc (.cells #[.bool bd, .slice Ad nd cd, .slice Bd mq_ dd] 27)).cell? ⟨w27.heap.size, 0, none⟩ = some (.bool bd) := by simp [go_sem]
        have bt1 : (w27.alloc (.cells #[.bool bd, .slice Ad nd cd, .slice Bd mq_ dd] 27)).cell? ⟨w27.heap.size, 1, none⟩ = some (.slice Ad nd cd) := by simp [go_sem]
        have bt2 : (w27.alloc (.cells #[.bool bd, .slice Ad nd cd, .slice Bd mq_ dd] 27)).cell? ⟨w27.heap.size, 2, none⟩ = some (.slice Bd mq_ dd) := by simp [go_sem]
        have btl : w27.heap.size < (w27.alloc (.cells #[.bool bd, .slice Ad nd cd, .slice Bd mq_ dd] 27)).heap.size := by simp
        generalize w27.alloc (.cells #[.bool bd, .slice Ad nd cd, .slice Bd mq_ dd] 27) = v28 at *
        refine (alive6_any _).mono ?_
        rintro e w29 ⟨rfl, b⟩
        replace h0 := h0.on b
        replace hbl := hbl.on b
        replace hbh := hbh.on b
        replace hbm := hbm.on b
        replace hbx := hbx.on b
        replace hbi := hbi.on b
        replace hbz := hbz.on b
        replace hbs := hbs.on b
        replace hu := hu.on b
        replace hv := hv.on b
        replace hbf := hbf.on b
        replace hd := hd.on b
        replace pa0 := cK b pa0 pal
        replace pa1 := cK b pa1 pal
        replace pa2 := cK b pa2 pal
        replace pal := lK b pal
        replace bl0 := cK b bl0 bll
        replace bl1 := cK b bl1 bll
        replace bll := lK b bll
        replace bh0 := cK b bh0 bhl
        replace bh1 := cK b bh1 bhl
        replace bhl := lK b bhl
        replace bm0 := cK b bm0 bml
        replace bm1 := cK b bm1 bml
        replace bml := lK b bml
        replace bx0 := cK b bx0 bxl
        replace bx1 := cK b bx1 bxl
        replace bx2 := cK b bx2 bxl
        replace bxl := lK b bxl
        replace bi0 := cK b bi0 bil
        replace bi1 := cK b bi1 bil
        replace bi2 := cK b bi2 bil
        replace bil := lK b bil
        replace bz0 := cK b bz0 bzl
        replace bz1 := cK b bz1 bzl
        replace bz2 := cK b bz2 bzl
        replace bzl := lK b bzl
        replace bs0 := cK b bs0 bsl
        replace bs1 := cK b bs1 bsl
        replace bs2 := cK b bs2 bsl
        replace bsl := lK b bsl
        replace bf0 := cK b bf0 bfl
        replace bf1 := cK b bf1 bfl
        replace bf2 := cK b bf2 bfl
        replace bfl := lK b bfl
        replace bt0 := cK b bt0 btl
        replace bt1 := cK b bt1 btl
        replace bt2 := cK b bt2 btl
        replace btl := lK b btl
        replace cc := bK cc b
        clear b
        go_wp2_with fail
        refine (zsame_N true hbm hbl (by omega) (by omega) O4.out).mono ?_
        rintro e w30 ⟨rfl, b⟩
        replace h0 := h0.on b
        replace hbl := hbl.on b
        replace hbh := hbh.on b
        replace hbm := hbm.on b
        replace hbx := hbx.on b
        replace hbi := hbi.on b
        replace hbz := hbz.on b
        replace hbs := hbs.on b
        replace hu := hu.on b
        replace hv := hv.on b
        replace hbf := hbf.on b
        replace hd := hd.on b
        replace pa0 := cK b pa0 pal
        replace pa1 := cK b pa1 pal
        replace pa2 := cK b pa2 pal
        replace pal := lK b pal
        replace bl0 := cK b bl0 bll
        replace bl1 := cK b bl1 bll
        replace bll := lK b bll
        replace bh0 := cK b bh0 bhl
        replace bh1 := cK b bh1 bhl
        replace bhl := lK b bhl
        replace bm0 := cK b bm0 bml
        replace bm1 := cK b bm1 bml
        replace bml := lK b bml
        replace bx0 := cK b bx0 bxl
        replace bx1 := cK b bx1 bxl
        replace bx2 := cK b bx2 bxl
        replace bxl := lK b bxl
        replace bi0 := cK b bi0 bil
        replace bi1 := cK b bi1 bil
        replace bi2 := cK b bi2 bil
        replace bil := lK b bil
        replace bz0 := cK b bz0 bzl
        replace bz1 := cK b bz1 bzl
        replace bz2 := cK b bz2 bzl
        replace bzl := lK b bzl
        replace bs0 := cK b bs0 bsl
        replace bs1 := cK b bs1 bsl
        replace bs2 := cK b bs2 bsl
        replace bsl := lK b bsl
        replace bf0 := cK b bf0 bfl
        replace bf1 := cK b bf1 bfl
        replace bf2 := cK b bf2 bfl
        replace bfl := lK b bfl
        replace bt0 := cK b bt0 btl
        replace bt1 := cK b bt1 btl
        replace bt2 := cK b bt2 btl
        replace btl := lK b btl
        replace cc := bK cc b
        clear b
        go_wp2_with fail
        refine (rtcmp_v a3 hd (sd.le (by omega)) hbs (st.le (by omega)) Ha3.out).mono ?_
        rintro e w31 ⟨rfl, b⟩
        replace h0 := h0.on b
        replace hbl := hbl.on b
        replace hbh := hbh.on b
        replace hbm := hbm.on b
        replace hbx := hbx.on b
        replace hbi := hbi.on b
        replace hbz := hbz.on b
        replace hbs := hbs.on b
        replace hu := hu.on b
        replace hv := hv.on b
        replace hbf := hbf.on b
        replace hd := hd.on b
        replace pa0 := cK b pa0 pal
        replace pa1 := cK b pa1 pal
        replace pa2 := cK b pa2 pal
        replace pal := lK b pal
        replace bl0 := cK b bl0 bll
        replace bl1 := cK b bl1 bll
        replace bll := lK b bll
        replace bh0 := cK b bh0 bhl
        replace bh1 := cK b bh1 bhl
        replace bhl := lK b bhl
        replace bm0 := cK b bm0 bml
        replace bm1 := cK b bm1 bml
        replace bml := lK b bml
        replace bx0 := cK b bx0 bxl
        replace bx1 := cK b bx1 bxl
        replace bx2 := cK b bx2 bxl
        replace bxl := lK b bxl
        replace bi0 := cK b bi0 bil
        replace bi1 := cK b bi1 bil
        replace bi2 := cK b bi2 bil
        replace bil := lK b bil
        replace bz0 := cK b bz0 bzl
        replace bz1 := cK b bz1 bzl
        replace bz2 := cK b bz2 bzl
        replace bzl := lK b bzl
        replace bs0 := cK b bs0 bsl
        replace bs1 := cK b bs1 bsl
        replace bs2 := cK b bs2 bsl
        replace bsl := lK b bsl
        replace bf0 := cK b bf0 bfl
        replace bf1 := cK b bf1 bfl
        replace bf2 := cK b bf2 bfl
        replace bfl := lK b bfl
        replace bt0 := cK b bt0 btl
        replace bt1 := cK b bt1 btl
        replace bt2 := cK b bt2 btl
        replace btl := lK b btl
        replace cc := bK cc b
        clear b
        go_wp2_with fail
        refine (rtsame_N hd (sd.le (by omega)) hbs (st.le (by omega)) true O6.out).mono ?_
        rintro e w32 ⟨rfl, b⟩
        replace h0 := h0.on b
        replace hbl := hbl.on b
        replace hbh := hbh.on b
        replace hbm := hbm.on b
        replace hbx := hbx.on b
        replace hbi := hbi.on b
        replace hbz := hbz.on b
        replace hbs := hbs.on b
        replace hu := hu.on b
        replace hv := hv.on b
        replace hbf := hbf.on b
        replace hd := hd.on b
        replace pa0 := cK b pa0 pal
        replace pa1 := cK b pa1 pal
        replace pa2 := cK b pa2 pal
        replace pal := lK b pal
        replace bl0 := cK b bl0 bll
        replace bl1 := cK b bl1 bll
        replace bll := lK b bll
        replace bh0 := cK b bh0 bhl
        replace bh1 := cK b bh1 bhl
        replace bhl := lK b bhl
        replace bm0 := cK b bm0 bml
        replace bm1 := cK b bm1 bml
        replace bml := lK b bml
        replace bx0 := cK b bx0 bxl
        replace bx1 := cK b bx1 bxl
        replace bx2 := cK b bx2 bxl
        replace bxl := lK b bxl
        replace bi0 := cK b bi0 bil
        replace bi1 := cK b bi1 bil
        replace bi2 := cK b bi2 bil
        replace bil := lK b bil
        replace bz0 := cK b bz0 bzl
        replace bz1 := cK b bz1 bzl
        replace bz2 := cK b bz2 bzl
        replace bzl := lK b bzl
        replace bs0 := cK b bs0 bsl
        replace bs1 := cK b bs1 bsl
        replace bs2 := cK b bs2 bsl
        replace bsl := lK b bsl
        replace bf0 := cK b bf0 bfl
        replace bf1 := cK b bf1 bfl
        replace bf2 := cK b bf2 bfl
        replace bfl := lK b bfl
        replace bt0 := cK b bt0 btl
        replace bt1 := cK b bt1 btl
        replace bt2 := cK b bt2 btl
        replace btl := lK b btl
        replace cc := bK cc b
        clear b
        go_wp2_with fail
        go_ret
        exact ⟨rfl, cc⟩
    · by_cases hmz : md = 0
      · have O4 : Hid (decide (md = lo) = true) := Lib.hid (decide_eq_true hml)
        have O6 : Hid (decide (fr + fr = sp) = false) := Lib.hid (decide_eq_false htie)
        clear hml htie
        have hnz : nbm = 0 := by have e := hbm.1.len; rw [hmz, show (0 : Int).natAbs = 0 from rfl, limbs_zero] at e; exact e
        have tz : ((nbm : Int) == 0) = true := beq_iff_eq.2 (by omega)
        clear hnz hmz
        go_wp2_with fail
        have bA := below_one w27 (.cells #[.bool bd, .slice Ad nd cd, .slice Bd mq_ dd] 27)
        replace h0 := h0.on bA
        replace hbl := hbl.on bA
        replace hbh := hbh.on bA
        replace hbm := hbm.on bA
        replace hbx := hbx.on bA
        replace hbi := hbi.on bA
        replace hbz := hbz.on bA
        replace hbs := hbs.on bA
        replace hu := hu.on bA
        replace hv := hv.on bA
        replace hbf := hbf.on bA
        replace hd := hd.on bA
        replace pa0 := cK bA pa0 pal
        replace pa1 := cK bA pa1 pal
        replace pa2 := cK bA pa2 pal
        replace pal := lK bA pal
        replace bl0 := cK bA bl0 bll
        replace bl1 := cK bA bl1 bll
        replace bll := lK bA bll
        replace bh0 := cK bA bh0 bhl
        replace bh1 := cK bA bh1 bhl
        replace bhl := lK bA bhl
        replace bm0 := cK bA bm0 bml
        replace bm1 := cK bA bm1 bml
        replace bml := lK bA bml
        replace bx0 := cK bA bx0 bxl
        replace bx1 := cK bA bx1 bxl
        replace bx2 := cK bA bx2 bxl
        replace bxl := lK bA bxl
        replace bi0 := cK bA bi0 bil
        replace bi1 := cK bA bi1 bil
        replace bi2 := cK bA bi2 bil
        replace bil := lK bA bil
        replace bz0 := cK bA bz0 bzl
        replace bz1 := cK bA bz1 bzl
        replace bz2 := cK bA bz2 bzl
        replace bzl := lK bA bzl
        replace bs0 := cK bA bs0 bsl
        replace bs1 := cK bA bs1 bsl
        replace bs2 := cK bA bs2 bsl
        replace bsl := lK bA bsl
        replace bf0 := cK bA bf0 bfl
        replace bf1 := cK bA bf1 bfl
        replace bf2 := cK bA bf2 bfl
        replace bfl := lK bA bfl
        replace cc := bK cc bA
        clear bA
        have bt0 : (w27.alloc (.cells #[.bool bd, .slice Ad nd cd, .slice Bd mq_ dd] 27)).cell? ⟨w27.heap.size, 0, none⟩ = some (.bool bd) := by simp [go_sem]
        have bt1 : (w27.alloc (.cells #[.bool bd, .slice Ad nd cd, .slice Bd mq_ dd] 27)).cell? ⟨w27.heap.size, 1, none⟩ = some (.slice Ad nd cd) := by simp [go_sem]
        have bt2 : (w27.alloc (.cells #[.bool bd, .slice Ad nd cd, .slice Bd mq_ dd] 27)).cell? ⟨w27.heap.size, 2, none⟩ = some (.slice Bd mq_ dd) := by simp [go_sem]
        have btl : w27.heap.size < (w27.alloc (.cells #[.bool bd, .slice Ad nd cd, .slice Bd mq_ dd] 27)).heap.size := by simp
        generalize w27.alloc (.cells #[.bool bd, .slice Ad nd cd, .slice Bd mq_ dd] 27) = v28 at *
        refine (alive6_any _).mono ?_
        rintro e w29 ⟨rfl, b⟩
        replace h0 := h0.on b
        replace hbl := hbl.on b
        replace hbh := hbh.on b
        replace hbm := hbm.on b
        replace hbx := hbx.on b
        replace hbi := hbi.on b
        replace hbz := hbz.on b
        replace hbs := hbs.on b
        replace hu := hu.on b
        replace hv := hv.on b
        replace hbf := hbf.on b
        replace hd := hd.on b
        replace pa0 := cK b pa0 pal
        replace pa1 := cK b pa1 pal
        replace pa2 := cK b pa2 pal
        replace pal := lK b pal
        replace bl0 := cK b bl0 bll
        replace bl1 := cK b bl1 bll
        replace bll := lK b bll
        replace bh0 := cK b bh0 bhl
        replace bh1 := cK b bh1 bhl
        replace bhl := lK b bhl
        replace bm0 := cK b bm0 bml
        replace bm1 := cK b bm1 bml
        replace bml := lK b bml
        replace bx0 := cK b bx0 bxl
        replace bx1 := cK b bx1 bxl
        replace bx2 := cK b bx2 bxl
        replace bxl := lK b bxl
        replace bi0 := cK b bi0 bil
        replace bi1 := cK b bi1 bil
        replace bi2 := cK b bi2 bil
        replace bil := lK b bil
        replace bz0 := cK b bz0 bzl
        replace bz1 := cK b bz1 bzl
        replace bz2 := cK b bz2 bzl
        replace bzl := lK b bzl
        replace bs0 := cK b bs0 bsl
        replace bs1 := cK b bs1 bsl
        replace bs2 := cK b bs2 bsl
        replace bsl := lK b bsl
        replace bf0 := cK b bf0 bfl
        replace bf1 := cK b bf1 bfl
        replace bf2 := cK b bf2 bfl
        replace bfl := lK b bfl
        replace bt0 := cK b bt0 btl
        replace bt1 := cK b bt1 btl
        replace bt2 := cK b bt2 btl
        replace btl := lK b btl
        replace cc := bK cc b
        clear b
        go_wp2_with fail
        refine (zsame_N true hbm hbl (by omega) (by omega) O4.out).mono ?_
        rintro e w30 ⟨rfl, b⟩
        replace h0 := h0.on b
        replace hbl := hbl.on b
        replace hbh := hbh.on b
        replace hbm := hbm.on b
        replace hbx := hbx.on b
        replace hbi := hbi.on b
        replace hbz := hbz.on b
        replace hbs := hbs.on b
        replace hu := hu.on b
        replace hv := hv.on b
        replace hbf := hbf.on b
        replace hd := hd.on b
        replace pa0 := cK b pa0 pal
        replace pa1 := cK b pa1 pal
        replace pa2 := cK b pa2 pal
        replace pal := lK b pal
        replace bl0 := cK b bl0 bll
        replace bl1 := cK b bl1 bll
        replace bll := lK b bll
        replace bh0 := cK b bh0 bhl
        replace bh1 := cK b bh1 bhl
        replace bhl := lK b bhl
        replace bm0 := cK b bm0 bml
        replace bm1 := cK b bm1 bml
        replace bml := lK b bml
        replace bx0 := cK b bx0 bxl
        replace bx1 := cK b bx1 bxl
        replace bx2 := cK b bx2 bxl
        replace bxl := lK b bxl
        replace bi0 := cK b bi0 bil
        replace bi1 := cK b bi1 bil
        replace bi2 := cK b bi2 bil
        replace bil := lK b bil
        replace bz0 := cK b bz0 bzl
        replace bz1 := cK b bz1 bzl
        replace bz2 := cK b bz2 bzl
        replace bzl := lK b bzl
        replace bs0 := cK b bs0 bsl
        replace bs1 := cK b bs1 bsl
        replace bs2 := cK b bs2 bsl
        replace bsl := lK b bsl
        replace bf0 := cK b bf0 bfl
        replace bf1 := cK b bf1 bfl
        replace bf2 := cK b bf2 bfl
        replace bfl := lK b bfl
        replace bt0 := cK b bt0 btl
        replace bt1 := cK b bt1 btl
        replace bt2 := cK b bt2 btl
        replace btl := lK b btl
        replace cc := bK cc b
        clear b
        go_wp2_with fail
        refine (rtcmp_v a3 hd (sd.le (by omega)) hbs (st.le (by omega)) Ha3.out).mono ?_
        rintro e w31 ⟨rfl, b⟩
        replace h0 := h0.on b
        replace hbl := hbl.on b
        replace hbh := hbh.on b
        replace hbm := hbm.on b
        replace hbx := hbx.on b
        replace hbi := hbi.on b
        replace hbz := hbz.on b
        replace hbs := hbs.on b
        replace hu := hu.on b
        replace hv := hv.on b
        replace hbf := hbf.on b
        replace hd := hd.on b
        replace pa0 := cK b pa0 pal
        replace pa1 := cK b pa1 pal
        replace pa2 := cK b pa2 pal
        replace pal := lK b pal
        replace bl0 := cK b bl0 bll
        replace bl1 := cK b bl1 bll
        replace bll := lK b bll
        replace bh0 := cK b bh0 bhl
        replace bh1 := cK b bh1 bhl
        replace bhl := lK b bhl
        replace bm0 := cK b bm0 bml
        replace bm1 := cK b bm1 bml
        replace bml := lK b bml
        replace bx0 := cK b bx0 bxl
        replace bx1 := cK b bx1 bxl
        replace bx2 := cK b bx2 bxl
        replace bxl := lK b bxl
        replace bi0 := cK b bi0 bil
        replace bi1 := cK b bi1 bil
        replace bi2 := cK b bi2 bil
        replace bil := lK b bil
        replace bz0 := cK b bz0 bzl
        replace bz1 := cK b bz1 bzl
        replace bz2 := cK b bz2 bzl
        replace bzl := lK b bzl
        replace bs0 := cK b bs0 bsl
        replace bs1 := cK b bs1 bsl
        replace bs2 := cK b bs2 bsl
        replace bsl := lK b bsl
        replace bf0 := cK b bf0 bfl
        replace bf1 := cK b bf1 bfl
        replace bf2 := cK b bf2 bfl
        replace bfl := lK b bfl
        replace bt0 := cK b bt0 btl
        replace bt1 := cK b bt1 btl
        replace bt2 := cK b bt2 btl
        replace btl := lK b btl
        replace cc := bK cc b
        clear b
        go_wp2_with fail
        refine (rtsame_N hd (sd.le (by omega)) hbs (st.le (by omega)) false O6.out).mono ?_
        rintro e w32 ⟨rfl, b⟩
        replace h0 := h0.on b
        replace hbl := hbl.on b
        replace hbh := hbh.on b
        replace hbm := hbm.on b
        replace hbx := hbx.on b
        replace hbi := hbi.on b
        replace hbz := hbz.on b
        replace hbs := hbs.on b
        replace hu := hu.on b
        replace hv := hv.on b
        replace hbf := hbf.on b
        replace hd := hd.on b
        replace pa0 := cK b pa0 pal
        replace pa1 := cK b pa1 pal
        replace pa2 := cK b pa2 pal
        replace pal := lK b pal
        replace bl0 := cK b bl0 bll
        replace bl1 := cK b bl1 bll
        replace bll := lK b bll
        replace bh0 := cK b bh0 bhl
        replace bh1 := cK b bh1 bhl
        replace bhl := lK b bhl
        replace bm0 := cK b bm0 bml
        replace bm1 := cK b bm1 bml
        replace bml := lK b bml
        replace bx0 := cK b bx0 bxl
        replace bx1 := cK b bx1 bxl
        replace bx2 := cK b bx2 bxl
        replace bxl := lK b bxl
        replace bi0 := cK b bi0 bil
        replace bi1 := cK b bi1 bil
        replace bi2 := cK b bi2 bil
        replace bil := lK b bil
        replace bz0 := cK b bz0 bzl
        replace bz1 := cK b bz1 bzl
        replace bz2 := cK b bz2 bzl
        replace bzl := lK b bzl
        replace bs0 := cK b bs0 bsl
        replace bs1 := cK b bs1 bsl
        replace bs2 := cK b bs2 bsl
        replace bsl := lK b bsl
        replace bf0 := cK b bf0 bfl
        replace bf1 := cK b bf1 bfl
        replace bf2 := cK b bf2 bfl
        replace bfl := lK b bfl
        replace bt0 := cK b bt0 btl
        replace bt1 := cK b bt1 btl
        replace bt2 := cK b bt2 btl
        replace btl := lK b btl
        replace cc := bK cc b
        clear b
        go_wp2_with fail
        go_ret
        exact ⟨rfl, cc⟩
      · have O4 : Hid (decide (md = lo) = true) := Lib.hid (decide_eq_true hml)
        have O6 : Hid (decide (fr + fr = sp) = false) := Lib.hid (decide_eq_false htie)
        clear hml htie
        have hmo := low_mod md.natAbs (by omega)
        rw [abs_mod] at hmo
        have hmz0 : md.natAbs ≠ 0 := by omega
        clear hmz
        have hnz : 0 < nbm := hbm.1.some_len hmz0
        obtain ⟨bk, off, hAk, hkl, hkc⟩ := hbm.1.2.2.2 hnz
        subst hAk
        have hk0 := hkc 0 hnz
        rw [Nat.add_zero] at hk0
        clear hkc
        obtain ⟨vv, hvv⟩ : ∃ v, ((limbs md.natAbs)[0]?.getD 0) = v := ⟨_, rfl⟩
        rw [hvv] at hk0 hmo
        clear hvv
        have hB1 := below_one w27 (.cells #[.bool bd, .slice Ad nd cd, .slice Bd mq_ dd] 27)
        have hk1 := cK hB1 hk0 hkl
        clear hB1
        have tz : ((nbm : Int) == 0) = false := beq_eq_false_iff_ne.2 (by omega)
        have tn : 1 ≤ nbm := hnz
        go_wp2_with fail
        have bA := below_one w27 (.cells #[.bool bd, .slice Ad nd cd, .slice Bd mq_ dd] 27)
        replace h0 := h0.on bA
        replace hbl := hbl.on bA
        replace hbh := hbh.on bA
        replace hbm := hbm.on bA
        replace hbx := hbx.on bA
        replace hbi := hbi.on bA
        replace hbz := hbz.on bA
        replace hbs := hbs.on bA
        replace hu := hu.on bA
        replace hv := hv.on bA
        replace hbf := hbf.on bA
        replace hd := hd.on bA
        replace pa0 := cK bA pa0 pal
        replace pa1 := cK bA pa1 pal
        replace pa2 := cK bA pa2 pal
        replace pal := lK bA pal
        replace bl0 := cK bA bl0 bll
        replace bl1 := cK bA bl1 bll
        replace bll := lK bA bll
        replace bh0 := cK bA bh0 bhl
        replace bh1 := cK bA bh1 bhl
        replace bhl := lK bA bhl
        replace bm0 := cK bA bm0 bml
        replace bm1 := cK bA bm1 bml
        replace bml := lK bA bml
        replace bx0 := cK bA bx0 bxl
        replace bx1 := cK bA bx1 bxl
        replace bx2 := cK bA bx2 bxl
        replace bxl := lK bA bxl
        replace bi0 := cK bA bi0 bil
        replace bi1 := cK bA bi1 bil
        replace bi2 := cK bA bi2 bil
        replace bil := lK bA bil
        replace bz0 := cK bA bz0 bzl
        replace bz1 := cK bA bz1 bzl
        replace bz2 := cK bA bz2 bzl
        replace bzl := lK bA bzl
        replace bs0 := cK bA bs0 bsl
        replace bs1 := cK bA bs1 bsl
        replace bs2 := cK bA bs2 bsl
        replace bsl := lK bA bsl
        replace bf0 := cK bA bf0 bfl
        replace bf1 := cK bA bf1 bfl
        replace bf2 := cK bA bf2 bfl
        replace bfl := lK bA bfl
        replace cc := bK cc bA
        clear bA
        have bt0 : (w27.alloc (.cells #[.bool bd, .slice Ad nd cd, .slice Bd mq_ dd] 27)).cell? ⟨w27.heap.size, 0, none⟩ = some (.bool bd) := by simp [go_sem]
        have bt1 : (w27.alloc (.cells #[.bool bd, .slice Ad nd cd, .slice Bd mq_ dd] 27)).cell? ⟨w27.heap.size, 1, none⟩ = some (.slice Ad nd cd) := by simp [go_sem]
        have bt2 : (w27.alloc (.cells #[.bool bd, .slice Ad nd cd, .slice Bd mq_ dd] 27)).cell? ⟨w27.heap.size, 2, none⟩ = some (.slice Bd mq_ dd) := by simp [go_sem]
        have btl : w27.heap.size < (w27.alloc (.cells #[.bool bd, .slice Ad nd cd, .slice Bd mq_ dd] 27)).heap.size := by simp
        generalize w27.alloc (.cells #[.bool bd, .slice Ad nd cd, .slice Bd mq_ dd] 27) = v28 at *
        refine (alive6_any _).mono ?_
        rintro e w29 ⟨rfl, b⟩
        replace h0 := h0.on b
        replace hbl := hbl.on b
        replace hbh := hbh.on b
        replace hbm := hbm.on b
        replace hbx := hbx.on b
        replace hbi := hbi.on b
        replace hbz := hbz.on b
        replace hbs := hbs.on b
        replace hu := hu.on b
        replace hv := hv.on b
        replace hbf := hbf.on b
        replace hd := hd.on b
        replace pa0 := cK b pa0 pal
        replace pa1 := cK b pa1 pal
        replace pa2 := cK b pa2 pal
        replace pal := lK b pal
        replace bl0 := cK b bl0 bll
        replace bl1 := cK b bl1 bll
        replace bll := lK b bll
        replace bh0 := cK b bh0 bhl
        replace bh1 := cK b bh1 bhl
        replace bhl := lK b bhl
        replace bm0 := cK b bm0 bml
        replace bm1 := cK b bm1 bml
        replace bml := lK b bml
        replace bx0 := cK b bx0 bxl
        replace bx1 := cK b bx1 bxl
        replace bx2 := cK b bx2 bxl
        replace bxl := lK b bxl
        replace bi0 := cK b bi0 bil
        replace bi1 := cK b bi1 bil
        replace bi2 := cK b bi2 bil
        replace bil := lK b bil
        replace bz0 := cK b bz0 bzl
        replace bz1 := cK b bz1 bzl
        replace bz2 := cK b bz2 bzl
        replace bzl := lK b bzl
        replace bs0 := cK b bs0 bsl
        replace bs1 := cK b bs1 bsl
        replace bs2 := cK b bs2 bsl
        replace bsl := lK b bsl
        replace bf0 := cK b bf0 bfl
        replace bf1 := cK b bf1 bfl
        replace bf2 := cK b bf2 bfl
        replace bfl := lK b bfl
        replace bt0 := cK b bt0 btl
        replace bt1 := cK b bt1 btl
        replace bt2 := cK b bt2 btl
        replace btl := lK b btl
        replace cc := bK cc b
        clear b
        go_wp2_with fail
        refine (zsame_N true hbm hbl (by omega) (by omega) O4.out).mono ?_
        rintro e w30 ⟨rfl, b⟩
        replace h0 := h0.on b
        replace hbl := hbl.on b
        replace hbh := hbh.on b
        replace hbm := hbm.on b
        replace hbx := hbx.on b
        replace hbi := hbi.on b
        replace hbz := hbz.on b
        replace hbs := hbs.on b
        replace hu := hu.on b
        replace hv := hv.on b
        replace hbf := hbf.on b
        replace hd := hd.on b
        replace pa0 := cK b pa0 pal
        replace pa1 := cK b pa1 pal
        replace pa2 := cK b pa2 pal
        replace pal := lK b pal
        replace bl0 := cK b bl0 bll
        replace bl1 := cK b bl1 bll
        replace bll := lK b bll
        replace bh0 := cK b bh0 bhl
        replace bh1 := cK b bh1 bhl
        replace bhl := lK b bhl
        replace bm0 := cK b bm0 bml
        replace bm1 := cK b bm1 bml
        replace bml := lK b bml
        replace bx0 := cK b bx0 bxl
        replace bx1 := cK b bx1 bxl
        replace bx2 := cK b bx2 bxl
        replace bxl := lK b bxl
        replace bi0 := cK b bi0 bil
        replace bi1 := cK b bi1 bil
        replace bi2 := cK b bi2 bil
        replace bil := lK b bil
        replace bz0 := cK b bz0 bzl
        replace bz1 := cK b bz1 bzl
        replace bz2 := cK b bz2 bzl
        replace bzl := lK b bzl
        replace bs0 := cK b bs0 bsl
        replace bs1 := cK b bs1 bsl
        replace bs2 := cK b bs2 bsl
        replace bsl := lK b bsl
        replace bf0 := cK b bf0 bfl
        replace bf1 := cK b bf1 bfl
        replace bf2 := cK b bf2 bfl
        replace bfl := lK b bfl
        replace bt0 := cK b bt0 btl
        replace bt1 := cK b bt1 btl
        replace bt2 := cK b bt2 btl
        replace btl := lK b btl
        replace cc := bK cc b
        clear b
        go_wp2_with fail
        refine (rtcmp_v a3 hd (sd.le (by omega)) hbs (st.le (by omega)) Ha3.out).mono ?_
        rintro e w31 ⟨rfl, b⟩
        replace h0 := h0.on b
        replace hbl := hbl.on b
        replace hbh := hbh.on b
        replace hbm := hbm.on b
        replace hbx := hbx.on b
        replace hbi := hbi.on b
        replace hbz := hbz.on b
        replace hbs := hbs.on b
        replace hu := hu.on b
        replace hv := hv.on b
        replace hbf := hbf.on b
        replace hd := hd.on b
        replace pa0 := cK b pa0 pal
        replace pa1 := cK b pa1 pal
        replace pa2 := cK b pa2 pal
        replace pal := lK b pal
        replace bl0 := cK b bl0 bll
        replace bl1 := cK b bl1 bll
        replace bll := lK b bll
        replace bh0 := cK b bh0 bhl
        replace bh1 := cK b bh1 bhl
        replace bhl := lK b bhl
        replace bm0 := cK b bm0 bml
        replace bm1 := cK b bm1 bml
        replace bml := lK b bml
        replace bx0 := cK b bx0 bxl
        replace bx1 := cK b bx1 bxl
        replace bx2 := cK b bx2 bxl
        replace bxl := lK b bxl
        replace bi0 := cK b bi0 bil
        replace bi1 := cK b bi1 bil
        replace bi2 := cK b bi2 bil
        replace bil := lK b bil
        replace bz0 := cK b bz0 bzl
        replace bz1 := cK b bz1 bzl
        replace bz2 := cK b bz2 bzl
        replace bzl := lK b bzl
        replace bs0 := cK b bs0 bsl
        replace bs1 := cK b bs1 bsl
        replace bs2 := cK b bs2 bsl
        replace bsl := lK b bsl
        replace bf0 := cK b bf0 bfl
        replace bf1 := cK b bf1 bfl
        replace bf2 := cK b bf2 bfl
        replace bfl := lK b bfl
        replace bt0 := cK b bt0 btl
        replace bt1 := cK b bt1 btl
        replace bt2 := cK b bt2 btl
        replace btl := lK b btl
        replace cc := bK cc b
        clear b
        go_wp2_with fail
        refine (rtsame_N hd (sd.le (by omega)) hbs (st.le (by omega)) false O6.out).mono ?_
        rintro e w32 ⟨rfl, b⟩
        replace h0 := h0.on b
        replace hbl := hbl.on b
        replace hbh := hbh.on b
        replace hbm := hbm.on b
        replace hbx := hbx.on b
        replace hbi := hbi.on b
        replace hbz := hbz.on b
        replace hbs := hbs.on b
        replace hu := hu.on b
        replace hv := hv.on b
        replace hbf := hbf.on b
        replace hd := hd.on b
        replace pa0 := cK b pa0 pal
        replace pa1 := cK b pa1 pal
        replace pa2 := cK b pa2 pal
        replace pal := lK b pal
        replace bl0 := cK b bl0 bll
        replace bl1 := cK b bl1 bll
        replace bll := lK b bll
        replace bh0 := cK b bh0 bhl
        replace bh1 := cK b bh1 bhl
        replace bhl := lK b bhl
        replace bm0 := cK b bm0 bml
        replace bm1 := cK b bm1 bml
        replace bml := lK b bml
        replace bx0 := cK b bx0 bxl
        replace bx1 := cK b bx1 bxl
        replace bx2 := cK b bx2 bxl
        replace bxl := lK b bxl
        replace bi0 := cK b bi0 bil
        replace bi1 := cK b bi1 bil
        replace bi2 := cK b bi2 bil
        replace bil := lK b bil
        replace bz0 := cK b bz0 bzl
        replace bz1 := cK b bz1 bzl
        replace bz2 := cK b bz2 bzl
        replace bzl := lK b bzl
        replace bs0 := cK b bs0 bsl
        replace bs1 := cK b bs1 bsl
        replace bs2 := cK b bs2 bsl
        replace bsl := lK b bsl
        replace bf0 := cK b bf0 bfl
        replace bf1 := cK b bf1 bfl
        replace bf2 := cK b bf2 bfl
        replace bfl := lK b bfl
        replace bt0 := cK b bt0 btl
        replace bt1 := cK b bt1 btl
        replace bt2 := cK b bt2 btl
        replace btl := lK b btl
        replace cc := bK cc b
        clear b
        go_wp2_with fail
        go_ret
        exact ⟨rfl, cc⟩
  · by_cases htie : fr + fr = sp
    · by_cases hmz : md = 0
      · have O4 : Hid (decide (md = lo) = false) := Lib.hid (decide_eq_false hml)
        have O5 : Hid (md = hi) := Lib.hid (M5.out.resolve_left hml)
        have O6 : Hid (decide (fr + fr = sp) = true) := Lib.hid (decide_eq_true htie)
        clear hml htie
        have hnz : nbm = 0 := by have e := hbm.1.len; rw [hmz, show (0 : Int).natAbs = 0 from rfl, limbs_zero] at e; exact e
        have tz : ((nbm : Int) == 0) = true := beq_iff_eq.2 (by omega)
        clear hnz hmz
        go_wp2_with fail
        have bA := below_one w27 (.cells #[.bool bd, .slice Ad nd cd, .slice Bd mq_ dd] 27)
        replace h0 := h0.on bA
        replace hbl := hbl.on bA
        replace hbh := hbh.on bA
        replace hbm := hbm.on bA
        replace hbx := hbx.on bA
        replace hbi := hbi.on bA
        replace hbz := hbz.on bA
        replace hbs := hbs.on bA
        replace hu := hu.on bA
        replace hv := hv.on bA
        replace hbf := hbf.on bA
        replace hd := hd.on bA
        replace pa0 := cK bA pa0 pal
        replace pa1 := cK bA pa1 pal
        replace pa2 := cK bA pa2 pal
        replace pal := lK bA pal
        replace bl0 := cK bA bl0 bll
        replace bl1 := cK bA bl1 bll
        replace bll := lK bA bll
        replace bh0 := cK bA bh0 bhl
        replace bh1 := cK bA bh1 bhl
        replace bhl := lK bA bhl
        replace bm0 := cK bA bm0 bml
        replace bm1 := cK bA bm1 bml
        replace bml := lK bA bml
        replace bx0 := cK bA bx0 bxl
        replace bx1 := cK bA bx1 bxl
        replace bx2 := cK bA bx2 bxl
        replace bxl := lK bA bxl
        replace bi0 := cK bA bi0 bil
        replace bi1 := cK bA bi1 bil
        replace bi2 := cK bA bi2 bil
        replace bil := lK bA bil
        replace bz0 := cK bA bz0 bzl
        replace bz1 := cK bA bz1 bzl
        replace bz2 := cK bA bz2 bzl
        replace bzl := lK bA bzl
        replace bs0 := cK bA bs0 bsl
        replace bs1 := cK bA bs1 bsl
        replace bs2 := cK bA bs2 bsl
        replace bsl := lK bA bsl
        replace bf0 := cK bA bf0 bfl
        replace bf1 := cK bA bf1 bfl
        replace bf2 := cK bA bf2 bfl
        replace bfl := lK bA bfl
        replace cc := bK cc bA
        clear bA
        have bt0 : (w27.alloc (.cells #[.bool bd, .slice Ad nd cd, .slice Bd mq_ dd] 27)).cell? ⟨w27.heap.size, 0, none⟩ = some (.bool bd) := by simp [go_sem]
        have bt1 : (w27.alloc (.cells #[.bool bd, .slice Ad nd cd, .slice Bd mq_ dd] 27)).cell? ⟨w27.heap.size, 1, none⟩ = some (.slice Ad nd cd) := by simp [go_sem]
        have bt2 : (w27.alloc (.cells #[.bool bd, .slice Ad nd cd, .slice Bd mq_ dd] 27)).cell? ⟨w27.heap.size, 2, none⟩ = some (.slice Bd mq_ dd) := by simp [go_sem]
        have btl : w27.heap.size < (w27.alloc (.cells #[.bool bd, .slice Ad nd cd, .slice Bd mq_ dd] 27)).heap.size := by simp
        generalize w27.alloc (.cells #[.bool bd, .slice Ad nd cd, .slice Bd mq_ dd] 27) = v28 at *
        refine (alive6_any _).mono ?_
        rintro e w29 ⟨rfl, b⟩
        replace h0 := h0.on b
        replace hbl := hbl.on b
        replace hbh := hbh.on b
        replace hbm := hbm.on b
        replace hbx := hbx.on b
        replace hbi := hbi.on b
        replace hbz := hbz.on b
        replace hbs := hbs.on b
        replace hu := hu.on b
        replace hv := hv.on b
        replace hbf := hbf.on b
        replace hd := hd.on b
        replace pa0 := cK b pa0 pal
        replace pa1 := cK b pa1 pal
        replace pa2 := cK b pa2 pal
        replace pal := lK b pal
        replace bl0 := cK b bl0 bll
        replace bl1 := cK b bl1 bll
        replace bll := lK b bll
        replace bh0 := cK b bh0 bhl
        replace bh1 := cK b bh1 bhl
        replace bhl := lK b bhl
        replace bm0 := cK b bm0 bml
        replace bm1 := cK b bm1 bml
        replace bml := lK b bml
        replace bx0 := cK b bx0 bxl
        replace bx1 := cK b bx1 bxl
        replace bx2 := cK b bx2 bxl
        replace bxl := lK b bxl
        replace bi0 := cK b bi0 bil
        replace bi1 := cK b bi1 bil
        replace bi2 := cK b bi2 bil
        replace bil := lK b bil
        replace bz0 := cK b bz0 bzl
        replace bz1 := cK b bz1 bzl
        replace bz2 := cK b bz2 bzl
        replace bzl := lK b bzl
        replace bs0 := cK b bs0 bsl
        replace bs1 := cK b bs1 bsl
        replace bs2 := cK b bs2 bsl
        replace bsl := lK b bsl
        replace bf0 := cK b bf0 bfl
        replace bf1 := cK b bf1 bfl
        replace bf2 := cK b bf2 bfl
        replace bfl := lK b bfl
        replace bt0 := cK b bt0 btl
        replace bt1 := cK b bt1 btl
        replace bt2 := cK b bt2 btl
        replace btl := lK b btl
        replace cc := bK cc b
        clear b
        go_wp2_with fail
        refine (zsame_N false hbm hbl (by omega) (by omega) O4.out).mono ?_
        rintro e w30 ⟨rfl, b⟩
        replace h0 := h0.on b
        replace hbl := hbl.on b
        replace hbh := hbh.on b
        replace hbm := hbm.on b
        replace hbx := hbx.on b
        replace hbi := hbi.on b
        replace hbz := hbz.on b
        replace hbs := hbs.on b
        replace hu := hu.on b
        replace hv := hv.on b
        replace hbf := hbf.on b
        replace hd := hd.on b
        replace pa0 := cK b pa0 pal
        replace pa1 := cK b pa1 pal
        replace pa2 := cK b pa2 pal
        replace pal := lK b pal
        replace bl0 := cK b bl0 bll
        replace bl1 := cK b bl1 bll
        replace bll := lK b bll
        replace bh0 := cK b bh0 bhl
        replace bh1 := cK b bh1 bhl
        replace bhl := lK b bhl
        replace bm0 := cK b bm0 bml
        replace bm1 := cK b bm1 bml
        replace bml := lK b bml
        replace bx0 := cK b bx0 bxl
        replace bx1 := cK b bx1 bxl
        replace bx2 := cK b bx2 bxl
        replace bxl := lK b bxl
        replace bi0 := cK b bi0 bil
        replace bi1 := cK b bi1 bil
        replace bi2 := cK b bi2 bil
        replace bil := lK b bil
        replace bz0 := cK b bz0 bzl
        replace bz1 := cK b bz1 bzl
        replace bz2 := cK b bz2 bzl
        replace bzl := lK b bzl
        replace bs0 := cK b bs0 bsl
        replace bs1 := cK b bs1 bsl
        replace bs2 := cK b bs2 bsl
        replace bsl := lK b bsl
        replace bf0 := cK b bf0 bfl
        replace bf1 := cK b bf1 bfl
        replace bf2 := cK b bf2 bfl
        replace bfl := lK b bfl
        replace bt0 := cK b bt0 btl
        replace bt1 := cK b bt1 btl
        replace bt2 := cK b bt2 btl
        replace btl := lK b btl
        replace cc := bK cc b
        clear b
        go_wp2_with fail
        refine (zsame_eq hbm hbh (by omega) O5).mono ?_
        rintro e w31 ⟨rfl, b⟩
        replace h0 := h0.on b
        replace hbl := hbl.on b
        replace hbh := hbh.on b
        replace hbm := hbm.on b
        replace hbx := hbx.on b
        replace hbi := hbi.on b
        replace hbz := hbz.on b
        replace hbs := hbs.on b
        replace hu := hu.on b
        replace hv := hv.on b
        replace hbf := hbf.on b
        replace hd := hd.on b
        replace pa0 := cK b pa0 pal
        replace pa1 := cK b pa1 pal
        replace pa2 := cK b pa2 pal
        replace pal := lK b pal
        replace bl0 := cK b bl0 bll
        replace bl1 := cK b bl1 bll
        replace bll := lK b bll
        replace bh0 := cK b bh0 bhl
        replace bh1 := cK b bh1 bhl
        replace bhl := lK b bhl
        replace bm0 := cK b bm0 bml
        replace bm1 := cK b bm1 bml
        replace bml := lK b bml
        replace bx0 := cK b bx0 bxl
        replace bx1 := cK b bx1 bxl
        replace bx2 := cK b bx2 bxl
        replace bxl := lK b bxl
        replace bi0 := cK b bi0 bil
        replace bi1 := cK b bi1 bil
        replace bi2 := cK b bi2 bil
        replace bil := lK b bil
        replace bz0 := cK b bz0 bzl
        replace bz1 := cK b bz1 bzl
        replace bz2 := cK b bz2 bzl
        replace bzl := lK b bzl
        replace bs0 := cK b bs0 bsl
        replace bs1 := cK b bs1 bsl
        replace bs2 := cK b bs2 bsl
        replace bsl := lK b bsl
        replace bf0 := cK b bf0 bfl
        replace bf1 := cK b bf1 bfl
        replace bf2 := cK b bf2 bfl
        replace bfl := lK b bfl
        replace bt0 := cK b bt0 btl
        replace bt1 := cK b bt1 btl
        replace bt2 := cK b bt2 btl
        replace btl := lK b btl
        replace cc := bK cc b
        clear b
        go_wp2_with fail
        refine (rtcmp_v a3 hd (sd.le (by omega)) hbs (st.le (by omega)) Ha3.out).mono ?_
        rintro e w32 ⟨rfl, b⟩
        replace h0 := h0.on b
        replace hbl := hbl.on b
        replace hbh := hbh.on b
        replace hbm := hbm.on b
        replace hbx := hbx.on b
        replace hbi := hbi.on b
        replace hbz := hbz.on b
        replace hbs := hbs.on b
        replace hu := hu.on b
        replace hv := hv.on b
        replace hbf := hbf.on b
        replace hd := hd.on b
        replace pa0 := cK b pa0 pal
        replace pa1 := cK b pa1 pal
        replace pa2 := cK b pa2 pal
        replace pal := lK b pal
        replace bl0 := cK b bl0 bll
        replace bl1 := cK b bl1 bll
        replace bll := lK b bll
        replace bh0 := cK b bh0 bhl
        replace bh1 := cK b bh1 bhl
        replace bhl := lK b bhl
        replace bm0 := cK b bm0 bml
        replace bm1 := cK b bm1 bml
        replace bml := lK b bml
        replace bx0 := cK b bx0 bxl
        replace bx1 := cK b bx1 bxl
        replace bx2 := cK b bx2 bxl
        replace bxl := lK b bxl
        replace bi0 := cK b bi0 bil
        replace bi1 := cK b bi1 bil
        replace bi2 := cK b bi2 bil
        replace bil := lK b bil
        replace bz0 := cK b bz0 bzl
        replace bz1 := cK b bz1 bzl
        replace bz2 := cK b bz2 bzl
        replace bzl := lK b bzl
        replace bs0 := cK b bs0 bsl
        replace bs1 := cK b bs1 bsl
        replace bs2 := cK b bs2 bsl
        replace bsl := lK b bsl
        replace bf0 := cK b bf0 bfl
        replace bf1 := cK b bf1 bfl
        replace bf2 := cK b bf2 bfl
        replace bfl := lK b bfl
        replace bt0 := cK b bt0 btl
        replace bt1 := cK b bt1 btl
        replace bt2 := cK b bt2 btl
        replace btl := lK b btl
        replace cc := bK cc b
        clear b
        go_wp2_with fail
        refine (rtsame_N hd (sd.le (by omega)) hbs (st.le (by omega)) true O6.out).mono ?_
        rintro e w33 ⟨rfl, b⟩
        replace h0 := h0.on b
        replace hbl := hbl.on b
        replace hbh := hbh.on b
        replace hbm := hbm.on b
        replace hbx := hbx.on b
        replace hbi := hbi.on b
        replace hbz := hbz.on b
        replace hbs := hbs.on b
        replace hu := hu.on b
        replace hv := hv.on b
        replace hbf := hbf.on b
        replace hd := hd.on b
        replace pa0 := cK b pa0 pal
        replace pa1 := cK b pa1 pal
        replace pa2 := cK b pa2 pal
        replace pal := lK b pal
        replace bl0 := cK b bl0 bll
        replace bl1 := cK b bl1 bll
        replace bll := lK b bll
        replace bh0 := cK b bh0 bhl
        replace bh1 := cK b bh1 bhl
        replace bhl := lK b bhl
        replace bm0 := cK b bm0 bml
        replace bm1 := cK b bm1 bml
        replace bml := lK b bml
        replace bx0 := cK b bx0 bxl
        replace bx1 := cK b bx1 bxl
        replace bx2 := cK b bx2 bxl
        replace bxl := lK b bxl
        replace bi0 := cK b bi0 bil
        replace bi1 := cK b bi1 bil
        replace bi2 := cK b bi2 bil
        replace bil := lK b bil
        replace bz0 := cK b bz0 bzl
        replace bz1 := cK b bz1 bzl
        replace bz2 := cK b bz2 bzl
        replace bzl := lK b bzl
        replace bs0 := cK b bs0 bsl
        replace bs1 := cK b bs1 bsl
        replace bs2 := cK b bs2 bsl
        replace bsl := lK b bsl
        replace bf0 := cK b bf0 bfl
        replace bf1 := cK b bf1 bfl
        replace bf2 := cK b bf2 bfl
        replace bfl := lK b bfl
        replace bt0 := cK b bt0 btl
        replace bt1 := cK b bt1 btl
        replace bt2 := cK b bt2 btl
        replace btl := lK b btl
        replace cc := bK cc b
        clear b
        go_wp2_with fail
        go_ret
        exact ⟨rfl, cc⟩
      · have O4 : Hid (decide (md = lo) = false) := Lib.hid (decide_eq_false hml)
        have O5 : Hid (md = hi) := Lib.hid (M5.out.resolve_left hml)
        have O6 : Hid (decide (fr + fr = sp) = true) := Lib.hid (decide_eq_true htie)
        have hev := M7.out htie
        clear hml htie
        have hmo := low_mod md.natAbs (by omega)
        rw [abs_mod] at hmo
        have hmz0 : md.natAbs ≠ 0 := by omega
        clear hmz
        have hnz : 0 < nbm := hbm.1.some_len hmz0
        obtain ⟨bk, off, hAk, hkl, hkc⟩ := hbm.1.2.2.2 hnz
        subst hAk
        have hk0 := hkc 0 hnz
        rw [Nat.add_zero] at hk0
        clear hkc
        obtain ⟨vv, hvv⟩ : ∃ v, ((limbs md.natAbs)[0]?.getD 0) = v := ⟨_, rfl⟩
        rw [hvv] at hk0 hmo
        clear hvv
        have hB1 := below_one w27 (.cells #[.bool bd, .slice Ad nd cd, .slice Bd mq_ dd] 27)
        have hk1 := cK hB1 hk0 hkl
        clear hB1
        have tz : ((nbm : Int) == 0) = false := beq_eq_false_iff_ne.2 (by omega)
        have tn : 1 ≤ nbm := hnz
        have te : ((vv : Int) % 2 == 0) = true := beq_iff_eq.2 (by omega)
        go_wp2_with fail
        have bA := below_one w27 (.cells #[.bool bd, .slice Ad nd cd, .slice Bd mq_ dd] 27)
        replace h0 := h0.on bA
        replace hbl := hbl.on bA
        replace hbh := hbh.on bA
        replace hbm := hbm.on bA
        replace hbx := hbx.on bA
        replace hbi := hbi.on bA
        replace hbz := hbz.on bA
        replace hbs := hbs.on bA
        replace hu := hu.on bA
        replace hv := hv.on bA
        replace hbf := hbf.on bA
        replace hd := hd.on bA
        replace pa0 := cK bA pa0 pal
        replace pa1 := cK bA pa1 pal
        replace pa2 := cK bA pa2 pal
        replace pal := lK bA pal
        replace bl0 := cK bA bl0 bll
        replace bl1 := cK bA bl1 bll
        replace bll := lK bA bll
        replace bh0 := cK bA bh0 bhl
        replace bh1 := cK bA bh1 bhl
        replace bhl := lK bA bhl
        replace bm0 := cK bA bm0 bml
        replace bm1 := cK bA bm1 bml
        replace bml := lK bA bml
        replace bx0 := cK bA bx0 bxl
        replace bx1 := cK bA bx1 bxl
        replace bx2 := cK bA bx2 bxl
        replace bxl := lK bA bxl
        replace bi0 := cK bA bi0 bil
        replace bi1 := cK bA bi1 bil
        replace bi2 := cK bA bi2 bil
        replace bil := lK bA bil
        replace bz0 := cK bA bz0 bzl
        replace bz1 := cK bA bz1 bzl
        replace bz2 := cK bA bz2 bzl
        replace bzl := lK bA bzl
        replace bs0 := cK bA bs0 bsl
        replace bs1 := cK bA bs1 bsl
        replace bs2 := cK bA bs2 bsl
        replace bsl := lK bA bsl
        replace bf0 := cK bA bf0 bfl
        replace bf1 := cK bA bf1 bfl
        replace bf2 := cK bA bf2 bfl
        replace bfl := lK bA bfl
        replace cc := bK cc bA
        clear bA
        have bt0 : (w27.alloc (.cells #[.bool bd, .slice Ad nd cd, .slice Bd mq_ dd] 27)).cell? ⟨w27.heap.size, 0, none⟩ = some (.bool bd) := by simp [go_sem]
        have bt1 : (w27.alloc (.cells #[.bool bd, .slice Ad nd cd, .slice Bd mq_ dd] 27)).cell? ⟨w27.heap.size, 1, none⟩ = some (.slice Ad nd cd) := by simp [go_sem]
        have bt2 : (w27.alloc (.cells #[.bool bd, .slice Ad nd cd, .slice Bd mq_ dd] 27)).cell? ⟨w27.heap.size, 2, none⟩ = some (.slice Bd mq_ dd) := by simp [go_sem]
        have btl : w27.heap.size < (w27.alloc (.cells #[.bool bd, .slice Ad nd cd, .slice Bd mq_ dd] 27)).heap.size := by simp
        generalize w27.alloc (.cells #[.bool bd, .slice Ad nd cd, .slice Bd mq_ dd] 27) = v28 at *
        refine (alive6_any _).mono ?_
        rintro e w29 ⟨rfl, b⟩
        replace h0 := h0.on b
        replace hbl := hbl.on b
        replace hbh := hbh.on b
        replace hbm := hbm.on b
        replace hbx := hbx.on b
        replace hbi := hbi.on b
        replace hbz := hbz.on b
        replace hbs := hbs.on b
        replace hu := hu.on b
        replace hv := hv.on b
        replace hbf := hbf.on b
        replace hd := hd.on b
        replace pa0 := cK b pa0 pal
        replace pa1 := cK b pa1 pal
        replace pa2 := cK b pa2 pal
        replace pal := lK b pal
        replace bl0 := cK b bl0 bll
        replace bl1 := cK b bl1 bll
        replace bll := lK b bll
        replace bh0 := cK b bh0 bhl
        replace bh1 := cK b bh1 bhl
        replace bhl := lK b bhl
        replace bm0 := cK b bm0 bml
        replace bm1 := cK b bm1 bml
        replace bml := lK b bml
        replace bx0 := cK b bx0 bxl
        replace bx1 := cK b bx1 bxl
        replace bx2 := cK b bx2 bxl
        replace bxl := lK b bxl
        replace bi0 := cK b bi0 bil
        replace bi1 := cK b bi1 bil
        replace bi2 := cK b bi2 bil
        replace bil := lK b bil
        replace bz0 := cK b bz0 bzl
        replace bz1 := cK b bz1 bzl
        replace bz2 := cK b bz2 bzl
        replace bzl := lK b bzl
        replace bs0 := cK b bs0 bsl
        replace bs1 := cK b bs1 bsl
        replace bs2 := cK b bs2 bsl
        replace bsl := lK b bsl
        replace bf0 := cK b bf0 bfl
        replace bf1 := cK b bf1 bfl
        replace bf2 := cK b bf2 bfl
        replace bfl := lK b bfl
        replace bt0 := cK b bt0 btl
        replace bt1 := cK b bt1 btl
        replace bt2 := cK b bt2 btl
        replace btl := lK b btl
        replace cc := bK cc b
        clear b
        go_wp2_with fail
        refine (zsame_N false hbm hbl (by omega) (by omega) O4.out).mono ?_
        rintro e w30 ⟨rfl, b⟩
        replace h0 := h0.on b
        replace hbl := hbl.on b
        replace hbh := hbh.on b
        replace hbm := hbm.on b
        replace hbx := hbx.on b
        replace hbi := hbi.on b
        replace hbz := hbz.on b
        replace hbs := hbs.on b
        replace hu := hu.on b
        replace hv := hv.on b
        replace hbf := hbf.on b
        replace hd := hd.on b
        replace pa0 := cK b pa0 pal
        replace pa1 := cK b pa1 pal
        replace pa2 := cK b pa2 pal
        replace pal := lK b pal
        replace bl0 := cK b bl0 bll
        replace bl1 := cK b bl1 bll
        replace bll := lK b bll
        replace bh0 := cK b bh0 bhl
        replace bh1 := cK b bh1 bhl
        replace bhl := lK b bhl
        replace bm0 := cK b bm0 bml
        replace bm1 := cK b bm1 bml
        replace bml := lK b bml
        replace bx0 := cK b bx0 bxl
        replace bx1 := cK b bx1 bxl
        replace bx2 := cK b bx2 bxl
        replace bxl := lK b bxl
        replace bi0 := cK b bi0 bil
        replace bi1 := cK b bi1 bil
        replace bi2 := cK b bi2 bil
        replace bil := lK b bil
        replace bz0 := cK b bz0 bzl
        replace bz1 := cK b bz1 bzl
        replace bz2 := cK b bz2 bzl
        replace bzl := lK b bzl
        replace bs0 := cK b bs0 bsl
        replace bs1 := cK b bs1 bsl
        replace bs2 := cK b bs2 bsl
        replace bsl := lK b bsl
        replace bf0 := cK b bf0 bfl
        replace bf1 := cK b bf1 bfl
        replace bf2 := cK b bf2 bfl
        replace bfl := lK b bfl
        replace bt0 := cK b bt0 btl
        replace bt1 := cK b bt1 btl
        replace bt2 := cK b bt2 btl
        replace btl := lK b btl
        replace cc := bK cc b
        clear b
        go_wp2_with fail
        refine (zsame_eq hbm hbh (by omega) O5).mono ?_
        rintro e w31 ⟨rfl, b⟩
        replace h0 := h0.on b
        replace hbl := hbl.on b
        replace hbh := hbh.on b
        replace hbm := hbm.on b
        replace hbx := hbx.on b
        replace hbi := hbi.on b
        replace hbz := hbz.on b
        replace hbs := hbs.on b
        replace hu := hu.on b
        replace hv := hv.on b
        replace hbf := hbf.on b
        replace hd := hd.on b
        replace pa0 := cK b pa0 pal
        replace pa1 := cK b pa1 pal
        replace pa2 := cK b pa2 pal
        replace pal := lK b pal
        replace bl0 := cK b bl0 bll
        replace bl1 := cK b bl1 bll
        replace bll := lK b bll
        replace bh0 := cK b bh0 bhl
        replace bh1 := cK b bh1 bhl
        replace bhl := lK b bhl
        replace bm0 := cK b bm0 bml
        replace bm1 := cK b bm1 bml
        replace bml := lK b bml
        replace bx0 := cK b bx0 bxl
        replace bx1 := cK b bx1 bxl
        replace bx2 := cK b bx2 bxl
        replace bxl := lK b bxl
        replace bi0 := cK b bi0 bil
        replace bi1 := cK b bi1 bil
        replace bi2 := cK b bi2 bil
        replace bil := lK b bil
        replace bz0 := cK b bz0 bzl
        replace bz1 := cK b bz1 bzl
        replace bz2 := cK b bz2 bzl
        replace bzl := lK b bzl
        replace bs0 := cK b bs0 bsl
        replace bs1 := cK b bs1 bsl
        replace bs2 := cK b bs2 bsl
        replace bsl := lK b bsl
        replace bf0 := cK b bf0 bfl
        replace bf1 := cK b bf1 bfl
        replace bf2 := cK b bf2 bfl
        replace bfl := lK b bfl
        replace bt0 := cK b bt0 btl
        replace bt1 := cK b bt1 btl
        replace bt2 := cK b bt2 btl
        replace btl := lK b btl
        replace cc := bK cc b
        clear b
        go_wp2_with fail
        refine (rtcmp_v a3 hd (sd.le (by omega)) hbs (st.le (by omega)) Ha3.out).mono ?_
        rintro e w32 ⟨rfl, b⟩
        replace h0 := h0.on b
        replace hbl := hbl.on b
        replace hbh := hbh.on b
        replace hbm := hbm.on b
        replace hbx := hbx.on b
        replace hbi := hbi.on b
        replace hbz := hbz.on b
        replace hbs := hbs.on b
        replace hu := hu.on b
        replace hv := hv.on b
        replace hbf := hbf.on b
        replace hd := hd.on b
        replace pa0 := cK b pa0 pal
        replace pa1 := cK b pa1 pal
        replace pa2 := cK b pa2 pal
        replace pal := lK b pal
        replace bl0 := cK b bl0 bll
        replace bl1 := cK b bl1 bll
        replace bll := lK b bll
        replace bh0 := cK b bh0 bhl
        replace bh1 := cK b bh1 bhl
        replace bhl := lK b bhl
        replace bm0 := cK b bm0 bml
        replace bm1 := cK b bm1 bml
        replace bml := lK b bml
        replace bx0 := cK b bx0 bxl
        replace bx1 := cK b bx1 bxl
        replace bx2 := cK b bx2 bxl
        replace bxl := lK b bxl
        replace bi0 := cK b bi0 bil
        replace bi1 := cK b bi1 bil
        replace bi2 := cK b bi2 bil
        replace bil := lK b bil
        replace bz0 := cK b bz0 bzl
        replace bz1 := cK b bz1 bzl
        replace bz2 := cK b bz2 bzl
        replace bzl := lK b bzl
        replace bs0 := cK b bs0 bsl
        replace bs1 := cK b bs1 bsl
        replace bs2 := cK b bs2 bsl
        replace bsl := lK b bsl
        replace bf0 := cK b bf0 bfl
        replace bf1 := cK b bf1 bfl
        replace bf2 := cK b bf2 bfl
        replace bfl := lK b bfl
        replace bt0 := cK b bt0 btl
        replace bt1 := cK b bt1 btl
        replace bt2 := cK b bt2 btl
        replace btl := lK b btl
        replace cc := bK cc b
        clear b
        go_wp2_with fail
        refine (rtsame_N hd (sd.le (by omega)) hbs (st.le (by omega)) true O6.out).mono ?_
        rintro e w33 ⟨rfl, b⟩
        replace h0 := h0.on b
        replace hbl := hbl.on b
        replace hbh := hbh.on b
        replace hbm := hbm.on b
        replace hbx := hbx.on b
        replace hbi := hbi.on b
        replace hbz := hbz.on b
        replace hbs := hbs.on b
        replace hu := hu.on b
        replace hv := hv.on b
        replace hbf := hbf.on b
        replace hd := hd.on b
        replace pa0 := cK b pa0 pal
        replace pa1 := cK b pa1 pal
        replace pa2 := cK b pa2 pal
        replace pal := lK b pal
        replace bl0 := cK b bl0 bll
        replace bl1 := cK b bl1 bll
        replace bll := lK b bll
        replace bh0 := cK b bh0 bhl
        replace bh1 := cK b bh1 bhl
        replace bhl := lK b bhl
        replace bm0 := cK b bm0 bml
        replace bm1 := cK b bm1 bml
        replace bml := lK b bml
        replace bx0 := cK b bx0 bxl
        replace bx1 := cK b bx1 bxl
        replace bx2 := cK b bx2 bxl
        replace bxl := lK b bxl
        replace bi0 := cK b bi0 bil
        replace bi1 := cK b bi1 bil
        replace bi2 := cK b bi2 bil
        replace bil := lK b bil
        replace bz0 := cK b bz0 bzl
        replace bz1 := cK b bz1 bzl
        replace bz2 := cK b bz2 bzl
        replace bzl := lK b bzl
        replace bs0 := cK b bs0 bsl
        replace bs1 := cK b bs1 bsl
        replace bs2 := cK b bs2 bsl
        replace bsl := lK b bsl
        replace bf0 := cK b bf0 bfl
        replace bf1 := cK b bf1 bfl
        replace bf2 := cK b bf2 bfl
        replace bfl := lK b bfl
        replace bt0 := cK b bt0 btl
        replace bt1 := cK b bt1 btl
        replace bt2 := cK b bt2 btl
        replace btl := lK b btl
        replace cc := bK cc b
        clear b
        go_wp2_with fail
        go_ret
        exact ⟨rfl, cc⟩
    · by_cases hmz : md = 0
      · have O4 : Hid (decide (md = lo) = false) := Lib.hid (decide_eq_false hml)
        have O5 : Hid (md = hi) := Lib.hid (M5.out.resolve_left hml)
        have O6 : Hid (decide (fr + fr = sp) = false) := Lib.hid (decide_eq_false htie)
        clear hml htie
        have hnz : nbm = 0 := by have e := hbm.1.len; rw [hmz, show (0 : Int).natAbs = 0 from rfl, limbs_zero] at e; exact e
        have tz : ((nbm : Int) == 0) = true := beq_iff_eq.2 (by omega)
        clear hnz hmz
        go_wp2_with fail
        have bA := below_one w27 (.cells #[.bool bd, .slice Ad nd cd, .slice Bd mq_ dd] 27)
        replace h0 := h0.on bA
        replace hbl := hbl.on bA
        replace hbh := hbh.on bA
        replace hbm := hbm.on bA
        replace hbx := hbx.on bA
        replace hbi := hbi.on bA
        replace hbz := hbz.on bA
        replace hbs := hbs.on bA
        replace hu := hu.on bA
        replace hv := hv.on bA
        replace hbf := hbf.on bA
        replace hd := hd.on bA
        replace pa0 := cK bA pa0 pal
        replace pa1 := cK bA pa1 pal
        replace pa2 := cK bA pa2 pal
        replace pal := lK bA pal
        replace bl0 := cK bA bl0 bll
        replace bl1 := cK bA bl1 bll
        replace bll := lK bA bll
        replace bh0 := cK bA bh0 bhl
        replace bh1 := cK bA bh1 bhl
        replace bhl := lK bA bhl
        replace bm0 := cK bA bm0 bml
        replace bm1 := cK bA bm1 bml
        replace bml := lK bA bml
        replace bx0 := cK bA bx0 bxl
        replace bx1 := cK bA bx1 bxl
        replace bx2 := cK bA bx2 bxl
        replace bxl := lK bA bxl
        replace bi0 := cK bA bi0 bil
        replace bi1 := cK bA bi1 bil
        replace bi2 := cK bA bi2 bil
        replace bil := lK bA bil
        replace bz0 := cK bA bz0 bzl
        replace bz1 := cK bA bz1 bzl
        replace bz2 := cK bA bz2 bzl
        replace bzl := lK bA bzl
        replace bs0 := cK bA bs0 bsl
        replace bs1 := cK bA bs1 bsl
        replace bs2 := cK bA bs2 bsl
        replace bsl := lK bA bsl
        replace bf0 := cK bA bf0 bfl
        replace bf1 := cK bA bf1 bfl
        replace bf2 := cK bA bf2 bfl
        replace bfl := lK bA bfl
        replace cc := bK cc bA
        clear bA
        have bt0 : (w27.alloc (.cells #[.bool bd, .slice Ad nd cd, .slice Bd mq_ dd] 27)).cell? ⟨w27.heap.size, 0, none⟩ = some (.bool bd) := by simp [go_sem]
        have bt1 : (w27.alloc (.cells #[.bool bd, .slice Ad nd cd, .slice Bd mq_ dd] 27)).cell? ⟨w27.heap.size, 1, none⟩ = some (.slice Ad nd cd) := by simp [go_sem]
        have bt2 : (w27.alloc (.cells #[.bool bd, .slice Ad nd cd, .slice Bd mq_ dd] 27)).cell? ⟨w27.heap.size, 2, none⟩ = some (.slice Bd mq_ dd) := by simp [go_sem]
        have btl : w27.heap.size < (w27.alloc (.cells #[.bool bd, .slice Ad nd cd, .slice Bd mq_ dd] 27)).heap.size := by simp
        generalize w27.alloc (.cells #[.bool bd, .slice Ad nd cd, .slice Bd mq_ dd] 27) = v28 at *
        refine (alive6_any _).mono ?_
        rintro e w29 ⟨rfl, b⟩
        replace h0 := h0.on b
        replace hbl := hbl.on b
        replace hbh := hbh.on b
        replace hbm := hbm.on b
        replace hbx := hbx.on b
        replace hbi := hbi.on b
        replace hbz := hbz.on b
        replace hbs := hbs.on b
        replace hu := hu.on b
        replace hv := hv.on b
        replace hbf := hbf.on b
        replace hd := hd.on b
        replace pa0 := cK b pa0 pal
        replace pa1 := cK b pa1 pal
        replace pa2 := cK b pa2 pal
        replace pal := lK b pal
        replace bl0 := cK b bl0 bll
        replace bl1 := cK b bl1 bll
        replace bll := lK b bll
        replace bh0 := cK b bh0 bhl
        replace bh1 := cK b bh1 bhl
        replace bhl := lK b bhl
        replace bm0 := cK b bm0 bml
        replace bm1 := cK b bm1 bml
        replace bml := lK b bml
        replace bx0 := cK b bx0 bxl
        replace bx1 := cK b bx1 bxl
        replace bx2 := cK b bx2 bxl
        replace bxl := lK b bxl
        replace bi0 := cK b bi0 bil
        replace bi1 := cK b bi1 bil
        replace bi2 := cK b bi2 bil
        replace bil := lK b bil
        replace bz0 := cK b bz0 bzl
        replace bz1 := cK b bz1 bzl
        replace bz2 := cK b bz2 bzl
        replace bzl := lK b bzl
        replace bs0 := cK b bs0 bsl
        replace bs1 := cK b bs1 bsl
        replace bs2 := cK b bs2 bsl
        replace bsl := lK b bsl
        replace bf0 := cK b bf0 bfl
        replace bf1 := cK b bf1 bfl
        replace bf2 := cK b bf2 bfl
        replace bfl := lK b bfl
        replace bt0 := cK b bt0 btl
        replace bt1 := cK b bt1 btl
        replace bt2 := cK b bt2 btl
        replace btl := lK b btl
        replace cc := bK cc b
        clear b
        go_wp2_with fail
        refine (zsame_N false hbm hbl (by omega) (by omega) O4.out).mono ?_
        rintro e w30 ⟨rfl, b⟩
        replace h0 := h0.on b
        replace hbl := hbl.on b
        replace hbh := hbh.on b
        replace hbm := hbm.on b
        replace hbx := hbx.on b
        replace hbi := hbi.on b
        replace hbz := hbz.on b
        replace hbs := hbs.on b
        replace hu := hu.on b
        replace hv := hv.on b
        replace hbf := hbf.on b
        replace hd := hd.on b
        replace pa0 := cK b pa0 pal
        replace pa1 := cK b pa1 pal
        replace pa2 := cK b pa2 pal
        replace pal := lK b pal
        replace bl0 := cK b bl0 bll
        replace bl1 := cK b bl1 bll
        replace bll := lK b bll
        replace bh0 := cK b bh0 bhl
        replace bh1 := cK b bh1 bhl
        replace bhl := lK b bhl
        replace bm0 := cK b bm0 bml
        replace bm1 := cK b bm1 bml
        replace bml := lK b bml
        replace bx0 := cK b bx0 bxl
        replace bx1 := cK b bx1 bxl
        replace bx2 := cK b bx2 bxl
        replace bxl := lK b bxl
        replace bi0 := cK b bi0 bil
        replace bi1 := cK b bi1 bil
        replace bi2 := cK b bi2 bil
        replace bil := lK b bil
        replace bz0 := cK b bz0 bzl
        replace bz1 := cK b bz1 bzl
        replace bz2 := cK b bz2 bzl
        replace bzl := lK b bzl
        replace bs0 := cK b bs0 bsl
        replace bs1 := cK b bs1 bsl
        replace bs2 := cK b bs2 bsl
        replace bsl := lK b bsl
        replace bf0 := cK b bf0 bfl
        replace bf1 := cK b bf1 bfl
        replace bf2 := cK b bf2 bfl
        replace bfl := lK b bfl
        replace bt0 := cK b bt0 btl
        replace bt1 := cK b bt1 btl
        replace bt2 := cK b bt2 btl
        replace btl := lK b btl
        replace cc := bK cc b
        clear b
        go_wp2_with fail
        refine (zsame_eq hbm hbh (by omega) O5).mono ?_
        rintro e w31 ⟨rfl, b⟩
        replace h0 := h0.on b
        replace hbl := hbl.on b
        replace hbh := hbh.on b
        replace hbm := hbm.on b
        replace hbx := hbx.on b
        replace hbi := hbi.on b
        replace hbz := hbz.on b
        replace hbs := hbs.on b
        replace hu := hu.on b
        replace hv := hv.on b
        replace hbf := hbf.on b
        replace hd := hd.on b
        replace pa0 := cK b pa0 pal
        replace pa1 := cK b pa1 pal
        replace pa2 := cK b pa2 pal
        replace pal := lK b pal
        replace bl0 := cK b bl0 bll
        replace bl1 := cK b bl1 bll
        replace bll := lK b bll
        replace bh0 := cK b bh0 bhl
        replace bh1 := cK b bh1 bhl
        replace bhl := lK b bhl
        replace bm0 := cK b bm0 bml
        replace bm1 := cK b bm1 bml
        replace bml := lK b bml
        replace bx0 := cK b bx0 bxl
        replace bx1 := cK b bx1 bxl
        replace bx2 := cK b bx2 bxl
        replace bxl := lK b bxl
        replace bi0 := cK b bi0 bil
        replace bi1 := cK b bi1 bil
        replace bi2 := cK b bi2 bil
        replace bil := lK b bil
        replace bz0 := cK b bz0 bzl
        replace bz1 := cK b bz1 bzl
        replace bz2 := cK b bz2 bzl
        replace bzl := lK b bzl
        replace bs0 := cK b bs0 bsl
        replace bs1 := cK b bs1 bsl
        replace bs2 := cK b bs2 bsl
        replace bsl := lK b bsl
        replace bf0 := cK b bf0 bfl
        replace bf1 := cK b bf1 bfl
        replace bf2 := cK b bf2 bfl
        replace bfl := lK b bfl
        replace bt0 := cK b bt0 btl
        replace bt1 := cK b bt1 btl
        replace bt2 := cK b bt2 btl
        replace btl := lK b btl
        replace cc := bK cc b
        clear b
        go_wp2_with fail
        refine (rtcmp_v a3 hd (sd.le (by omega)) hbs (st.le (by omega)) Ha3.out).mono ?_
        rintro e w32 ⟨rfl, b⟩
        replace h0 := h0.on b
        replace hbl := hbl.on b
        replace hbh := hbh.on b
        replace hbm := hbm.on b
        replace hbx := hbx.on b
        replace hbi := hbi.on b
        replace hbz := hbz.on b
        replace hbs := hbs.on b
        replace hu := hu.on b
        replace hv := hv.on b
        replace hbf := hbf.on b
        replace hd := hd.on b
        replace pa0 := cK b pa0 pal
        replace pa1 := cK b pa1 pal
        replace pa2 := cK b pa2 pal
        replace pal := lK b pal
        replace bl0 := cK b bl0 bll
        replace bl1 := cK b bl1 bll
        replace bll := lK b bll
        replace bh0 := cK b bh0 bhl
        replace bh1 := cK b bh1 bhl
        replace bhl := lK b bhl
        replace bm0 := cK b bm0 bml
        replace bm1 := cK b bm1 bml
        replace bml := lK b bml
        replace bx0 := cK b bx0 bxl
        replace bx1 := cK b bx1 bxl
        replace bx2 := cK b bx2 bxl
        replace bxl := lK b bxl
        replace bi0 := cK b bi0 bil
        replace bi1 := cK b bi1 bil
        replace bi2 := cK b bi2 bil
        replace bil := lK b bil
        replace bz0 := cK b bz0 bzl
        replace bz1 := cK b bz1 bzl
        replace bz2 := cK b bz2 bzl
        replace bzl := lK b bzl
        replace bs0 := cK b bs0 bsl
        replace bs1 := cK b bs1 bsl
        replace bs2 := cK b bs2 bsl
        replace bsl := lK b bsl
        replace bf0 := cK b bf0 bfl
        replace bf1 := cK b bf1 bfl
        replace bf2 := cK b bf2 bfl
        replace bfl := lK b bfl
        replace bt0 := cK b bt0 btl
        replace bt1 := cK b bt1 btl
        replace bt2 := cK b bt2 btl
        replace btl := lK b btl
        replace cc := bK cc b
        clear b
        go_wp2_with fail
        refine (rtsame_N hd (sd.le (by omega)) hbs (st.le (by omega)) false O6.out).mono ?_
        rintro e w33 ⟨rfl, b⟩
        replace h0 := h0.on b
        replace hbl := hbl.on b
        replace hbh := hbh.on b
        replace hbm := hbm.on b
        replace hbx := hbx.on b
        replace hbi := hbi.on b
        replace hbz := hbz.on b
        replace hbs := hbs.on b
        replace hu := hu.on b
        replace hv := hv.on b
        replace hbf := hbf.on b
        replace hd := hd.on b
        replace pa0 := cK b pa0 pal
        replace pa1 := cK b pa1 pal
        replace pa2 := cK b pa2 pal
        replace pal := lK b pal
        replace bl0 := cK b bl0 bll
        replace bl1 := cK b bl1 bll
        replace bll := lK b bll
        replace bh0 := cK b bh0 bhl
        replace bh1 := cK b bh1 bhl
        replace bhl := lK b bhl
        replace bm0 := cK b bm0 bml
        replace bm1 := cK b bm1 bml
        replace bml := lK b bml
        replace bx0 := cK b bx0 bxl
        replace bx1 := cK b bx1 bxl
        replace bx2 := cK b bx2 bxl
        replace bxl := lK b bxl
        replace bi0 := cK b bi0 bil
        replace bi1 := cK b bi1 bil
        replace bi2 := cK b bi2 bil
        replace bil := lK b bil
        replace bz0 := cK b bz0 bzl
        replace bz1 := cK b bz1 bzl
        replace bz2 := cK b bz2 bzl
        replace bzl := lK b bzl
        replace bs0 := cK b bs0 bsl
        replace bs1 := cK b bs1 bsl
        replace bs2 := cK b bs2 bsl
        replace bsl := lK b bsl
        replace bf0 := cK b bf0 bfl
        replace bf1 := cK b bf1 bfl
        replace bf2 := cK b bf2 bfl
        replace bfl := lK b bfl
        replace bt0 := cK b bt0 btl
        replace bt1 := cK b bt1 btl
        replace bt2 := cK b bt2 btl
        replace btl := lK b btl
        replace cc := bK cc b
        clear b
        go_wp2_with fail
        go_ret
        exact ⟨rfl, cc⟩
      · have O4 : Hid (decide (md = lo) = false) := Lib.hid (decide_eq_false hml)
        have O5 : Hid (md = hi) := Lib.hid (M5.out.resolve_left hml)
        have O6 : Hid (decide (fr + fr = sp) = false) := Lib.hid (decide_eq_false htie)
        clear hml htie
        have hmo := low_mod md.natAbs (by omega)
        rw [abs_mod] at hmo
        have hmz0 : md.natAbs ≠ 0 := by omega
        clear hmz
        have hnz : 0 < nbm := hbm.1.some_len hmz0
        obtain ⟨bk, off, hAk, hkl, hkc⟩ := hbm.1.2.2.2 hnz
        subst hAk
        have hk0 := hkc 0 hnz
        rw [Nat.add_zero] at hk0
        clear hkc
        obtain ⟨vv, hvv⟩ : ∃ v, ((limbs md.natAbs)[0]?.getD 0) = v := ⟨_, rfl⟩
        rw [hvv] at hk0 hmo
        clear hvv
        have hB1 := below_one w27 (.cells #[.bool bd, .slice Ad nd cd, .slice Bd mq_ dd] 27)
        have hk1 := cK hB1 hk0 hkl
        clear hB1
        have tz : ((nbm : Int) == 0) = false := beq_eq_false_iff_ne.2 (by omega)
        have tn : 1 ≤ nbm := hnz
        go_wp2_with fail
        have bA := below_one w27 (.cells #[.bool bd, .slice Ad nd cd, .slice Bd mq_ dd] 27)
        replace h0 := h0.on bA
        replace hbl := hbl.on bA
        replace hbh := hbh.on bA
        replace hbm := hbm.on bA
        replace hbx := hbx.on bA
        replace hbi := hbi.on bA
        replace hbz := hbz.on bA
        replace hbs := hbs.on bA
        replace hu := hu.on bA
        replace hv := hv.on bA
        replace hbf := hbf.on bA
        replace hd := hd.on bA
        replace pa0 := cK bA pa0 pal
        replace pa1 := cK bA pa1 pal
        replace pa2 := cK bA pa2 pal
        replace pal := lK bA pal
        replace bl0 := cK bA bl0 bll
        replace bl1 := cK bA bl1 bll
        replace bll := lK bA bll
        replace bh0 := cK bA bh0 bhl
        replace bh1 := cK bA bh1 bhl
        replace bhl := lK bA bhl
        replace bm0 := cK bA bm0 bml
        replace bm1 := cK bA bm1 bml
        replace bml := lK bA bml
        replace bx0 := cK bA bx0 bxl
        replace bx1 := cK bA bx1 bxl
        replace bx2 := cK bA bx2 bxl
        replace bxl := lK bA bxl
        replace bi0 := cK bA bi0 bil
        replace bi1 := cK bA bi1 bil
        replace bi2 := cK bA bi2 bil
        replace bil := lK bA bil
        replace bz0 := cK bA bz0 bzl
        replace bz1 := cK bA bz1 bzl
        replace bz2 := cK bA bz2 bzl
        replace bzl := lK bA bzl
        replace bs0 := cK bA bs0 bsl
        replace bs1 := cK bA bs1 bsl
        replace bs2 := cK bA bs2 bsl
        replace bsl := lK bA bsl
        replace bf0 := cK bA bf0 bfl
        replace bf1 := cK bA bf1 bfl
        replace bf2 := cK bA bf2 bfl
        replace bfl := lK bA bfl
        replace cc := bK cc bA
        clear bA
        have bt0 : (w27.alloc (.cells #[.bool bd, .slice Ad nd cd, .slice Bd mq_ dd] 27)).cell? ⟨w27.heap.size, 0, none⟩ = some (.bool bd) := by simp [go_sem]
        have bt1 : (w27.alloc (.cells #[.bool bd, .slice Ad nd cd, .slice Bd mq_ dd] 27)).cell? ⟨w27.heap.size, 1, none⟩ = some (.slice Ad nd cd) := by simp [go_sem]
        have bt2 : (w27.alloc (.cells #[.bool bd, .slice Ad nd cd, .slice Bd mq_ dd] 27)).cell? ⟨w27.heap.size, 2, none⟩ = some (.slice Bd mq_ dd) := by simp [go_sem]
        have btl : w27.heap.size < (w27.alloc (.cells #[.bool bd, .slice Ad nd cd, .slice Bd mq_ dd] 27)).heap.size := by simp
        generalize w27.alloc (.cells #[.bool bd, .slice Ad nd cd, .slice Bd mq_ dd] 27) = v28 at *
        refine (alive6_any _).mono ?_
        rintro e w29 ⟨rfl, b⟩
        replace h0 := h0.on b
        replace hbl := hbl.on b
        replace hbh := hbh.on b
        replace hbm := hbm.on b
        replace hbx := hbx.on b
        replace hbi := hbi.on b
        replace hbz := hbz.on b
        replace hbs := hbs.on b
        replace hu := hu.on b
        replace hv := hv.on b
        replace hbf := hbf.on b
        replace hd := hd.on b
        replace pa0 := cK b pa0 pal
        replace pa1 := cK b pa1 pal
        replace pa2 := cK b pa2 pal
        replace pal := lK b pal
        replace bl0 := cK b bl0 bll
        replace bl1 := cK b bl1 bll
        replace bll := lK b bll
        replace bh0 := cK b bh0 bhl
        replace bh1 := cK b bh1 bhl
        replace bhl := lK b bhl
        replace bm0 := cK b bm0 bml
        replace bm1 := cK b bm1 bml
        replace bml := lK b bml
        replace bx0 := cK b bx0 bxl
        replace bx1 := cK b bx1 bxl
        replace bx2 := cK b bx2 bxl
        replace bxl := lK b bxl
        replace bi0 := cK b bi0 bil
        replace bi1 := cK b bi1 bil
        replace bi2 := cK b bi2 bil
        replace bil := lK b bil
        replace bz0 := cK b bz0 bzl
        replace bz1 := cK b bz1 bzl
        replace bz2 := cK b bz2 bzl
        replace bzl := lK b bzl
        replace bs0 := cK b bs0 bsl
        replace bs1 := cK b bs1 bsl
        replace bs2 := cK b bs2 bsl
        replace bsl := lK b bsl
        replace bf0 := cK b bf0 bfl
        replace bf1 := cK b bf1 bfl
        replace bf2 := cK b bf2 bfl
        replace bfl := lK b bfl
        replace bt0 := cK b bt0 btl
        replace bt1 := cK b bt1 btl
        replace bt2 := cK b bt2 btl
        replace btl := lK b btl
        replace cc := bK cc b
        clear b
        go_wp2_with fail
        refine (zsame_N false hbm hbl (by omega) (by omega) O4.out).mono ?_
        rintro e w30 ⟨rfl, b⟩
        replace h0 := h0.on b
        replace hbl := hbl.on b
        replace hbh := hbh.on b
        replace hbm := hbm.on b
        replace hbx := hbx.on b
        replace hbi := hbi.on b
        replace hbz := hbz.on b
        replace hbs := hbs.on b
        replace hu := hu.on b
        replace hv := hv.on b
        replace hbf := hbf.on b
        replace hd := hd.on b
        replace pa0 := cK b pa0 pal
        replace pa1 := cK b pa1 pal
        replace pa2 := cK b pa2 pal
        replace pal := lK b pal
        replace bl0 := cK b bl0 bll
        replace bl1 := cK b bl1 bll
        replace bll := lK b bll
        replace bh0 := cK b bh0 bhl
        replace bh1 := cK b bh1 bhl
        replace bhl := lK b bhl
        replace bm0 := cK b bm0 bml
        replace bm1 := cK b bm1 bml
        replace bml := lK b bml
        replace bx0 := cK b bx0 bxl
        replace bx1 := cK b bx1 bxl
        replace bx2 := cK b bx2 bxl
        replace bxl := lK b bxl
        replace bi0 := cK b bi0 bil
        replace bi1 := cK b bi1 bil
        replace bi2 := cK b bi2 bil
        replace bil := lK b bil
        replace bz0 := cK b bz0 bzl
        replace bz1 := cK b bz1 bzl
        replace bz2 := cK b bz2 bzl
        replace bzl := lK b bzl
        replace bs0 := cK b bs0 bsl
        replace bs1 := cK b bs1 bsl
        replace bs2 := cK b bs2 bsl
        replace bsl := lK b bsl
        replace bf0 := cK b bf0 bfl
        replace bf1 := cK b bf1 bfl
        replace bf2 := cK b bf2 bfl
        replace bfl := lK b bfl
        replace bt0 := cK b bt0 btl
        replace bt1 := cK b bt1 btl
        replace bt2 := cK b bt2 btl
        replace btl := lK b btl
        replace cc := bK cc b
        clear b
        go_wp2_with fail
        refine (zsame_eq hbm hbh (by omega) O5).mono ?_
        rintro e w31 ⟨rfl, b⟩
        replace h0 := h0.on b
        replace hbl := hbl.on b
        replace hbh := hbh.on b
        replace hbm := hbm.on b
        replace hbx := hbx.on b
        replace hbi := hbi.on b
        replace hbz := hbz.on b
        replace hbs := hbs.on b
        replace hu := hu.on b
        replace hv := hv.on b
        replace hbf := hbf.on b
        replace hd := hd.on b
        replace pa0 := cK b pa0 pal
        replace pa1 := cK b pa1 pal
        replace pa2 := cK b pa2 pal
        replace pal := lK b pal
        replace bl0 := cK b bl0 bll
        replace bl1 := cK b bl1 bll
        replace bll := lK b bll
        replace bh0 := cK b bh0 bhl
        replace bh1 := cK b bh1 bhl
        replace bhl := lK b bhl
        replace bm0 := cK b bm0 bml
        replace bm1 := cK b bm1 bml
        replace bml := lK b bml
        replace bx0 := cK b bx0 bxl
        replace bx1 := cK b bx1 bxl
        replace bx2 := cK b bx2 bxl
        replace bxl := lK b bxl
        replace bi0 := cK b bi0 bil
        replace bi1 := cK b bi1 bil
        replace bi2 := cK b bi2 bil
        replace bil := lK b bil
        replace bz0 := cK b bz0 bzl
        replace bz1 := cK b bz1 bzl
        replace bz2 := cK b bz2 bzl
        replace bzl := lK b bzl
        replace bs0 := cK b bs0 bsl
        replace bs1 := cK b bs1 bsl
        replace bs2 := cK b bs2 bsl
        replace bsl := lK b bsl
        replace bf0 := cK b bf0 bfl
        replace bf1 := cK b bf1 bfl
        replace bf2 := cK b bf2 bfl
        replace bfl := lK b bfl
        replace bt0 := cK b bt0 btl
        replace bt1 := cK b bt1 btl
        replace bt2 := cK b bt2 btl
        replace btl := lK b btl
        replace cc := bK cc b
        clear b
        go_wp2_with fail
        refine (rtcmp_v a3 hd (sd.le (by omega)) hbs (st.le (by omega)) Ha3.out).mono ?_
        rintro e w32 ⟨rfl, b⟩
        replace h0 := h0.on b
        replace hbl := hbl.on b
        replace hbh := hbh.on b
        replace hbm := hbm.on b
        replace hbx := hbx.on b
        replace hbi := hbi.on b
        replace hbz := hbz.on b
        replace hbs := hbs.on b
        replace hu := hu.on b
        replace hv := hv.on b
        replace hbf := hbf.on b
        replace hd := hd.on b
        replace pa0 := cK b pa0 pal
        replace pa1 := cK b pa1 pal
        replace pa2 := cK b pa2 pal
        replace pal := lK b pal
        replace bl0 := cK b bl0 bll
        replace bl1 := cK b bl1 bll
        replace bll := lK b bll
        replace bh0 := cK b bh0 bhl
        replace bh1 := cK b bh1 bhl
        replace bhl := lK b bhl
        replace bm0 := cK b bm0 bml
        replace bm1 := cK b bm1 bml
        replace bml := lK b bml
        replace bx0 := cK b bx0 bxl
        replace bx1 := cK b bx1 bxl
        replace bx2 := cK b bx2 bxl
        replace bxl := lK b bxl
        replace bi0 := cK b bi0 bil
        replace bi1 := cK b bi1 bil
        replace bi2 := cK b bi2 bil
        replace bil := lK b bil
        replace bz0 := cK b bz0 bzl
        replace bz1 := cK b bz1 bzl
        replace bz2 := cK b bz2 bzl
        replace bzl := lK b bzl
        replace bs0 := cK b bs0 bsl
        replace bs1 := cK b bs1 bsl
        replace bs2 := cK b bs2 bsl
        replace bsl := lK b bsl
        replace bf0 := cK b bf0 bfl
        replace bf1 := cK b bf1 bfl
        replace bf2 := cK b bf2 bfl
        replace bfl := lK b bfl
        replace bt0 := cK b bt0 btl
        replace bt1 := cK b bt1 btl
        replace bt2 := cK b bt2 btl
        replace btl := lK b btl
        replace cc := bK cc b
        clear b
        go_wp2_with fail
        refine (rtsame_N hd (sd.le (by omega)) hbs (st.le (by omega)) false O6.out).mono ?_
        rintro e w33 ⟨rfl, b⟩
        replace h0 := h0.on b
        replace hbl := hbl.on b
        replace hbh := hbh.on b
        replace hbm := hbm.on b
        replace hbx := hbx.on b
        replace hbi := hbi.on b
        replace hbz := hbz.on b
        replace hbs := hbs.on b
        replace hu := hu.on b
        replace hv := hv.on b
        replace hbf := hbf.on b
        replace hd := hd.on b
        replace pa0 := cK b pa0 pal
        replace pa1 := cK b pa1 pal
        replace pa2 := cK b pa2 pal
        replace pal := lK b pal
        replace bl0 := cK b bl0 bll
        replace bl1 := cK b bl1 bll
        replace bll := lK b bll
        replace bh0 := cK b bh0 bhl
        replace bh1 := cK b bh1 bhl
        replace bhl := lK b bhl
        replace bm0 := cK b bm0 bml
        replace bm1 := cK b bm1 bml
        replace bml := lK b bml
        replace bx0 := cK b bx0 bxl
        replace bx1 := cK b bx1 bxl
        replace bx2 := cK b bx2 bxl
        replace bxl := lK b bxl
        replace bi0 := cK b bi0 bil
        replace bi1 := cK b bi1 bil
        replace bi2 := cK b bi2 bil
        replace bil := lK b bil
        replace bz0 := cK b bz0 bzl
        replace bz1 := cK b bz1 bzl
        replace bz2 := cK b bz2 bzl
        replace bzl := lK b bzl
        replace bs0 := cK b bs0 bsl
        replace bs1 := cK b bs1 bsl
        replace bs2 := cK b bs2 bsl
        replace bsl := lK b bsl
        replace bf0 := cK b bf0 bfl
        replace bf1 := cK b bf1 bfl
        replace bf2 := cK b bf2 bfl
        replace bfl := lK b bfl
        replace bt0 := cK b bt0 btl
        replace bt1 := cK b bt1 btl
        replace bt2 := cK b bt2 btl
        replace btl := lK b btl
        replace cc := bK cc b
        clear b
        go_wp2_with fail
        go_ret
        exact ⟨rfl, cc⟩

end Go.Proofs.Ytchbhmcaalkfdaa
