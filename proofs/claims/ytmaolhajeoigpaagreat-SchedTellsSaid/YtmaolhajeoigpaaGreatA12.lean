/-
  Several texts in one: JSd, JS, L15, WTells15, WkTells15.
-/
import Derived.Test.YtmaolhajeoigpaaGreatA7
import Derived.Test.YtmaolhajeoigpaaGreatA9
import Derived.Test.YtmaolhajeoigpaaGreatA4
import Derived.Test.YtmaolhajeoigpaaGreatA5
import Derived.Test.YtmaolhajeoigpaaGreatA11
import Derived.Test.YtmaolhajeoigpaaGreatA3
import Derived.Test.YtmaolhajeoigpaaGreatA8
import Derived.Test.YtmaolhajeoigpaaGreatA10

/-
  The contracts of the landed sched: byPower.
-/
namespace Go.Proofs.YtmaolhajeoigpaaGreat
set_option maxRecDepth 100000
set_option maxHeartbeats 8000000
open Go.RowKit
set_option linter.unusedVariables false
set_option linter.unusedSimpArgs false

theorem pow_len8 {x : Nat} (hx : (limbs x).length ≤ 1) : ∀ k, (limbs (x ^ k)).length ≤ k + 1
  | 0 => by rw [Nat.pow_zero]; exact Nat.le_trans (len_one (x := 1) (by decide)) (by omega)
  | k + 1 => by rw [Nat.pow_succ]; exact limbs_length_mul (pow_len8 hx k) hx

theorem sPoly_end {w : World} {kd ba ra en wa ev la po t f : Int} (h : la ≤ t) :
    Calls Tryz.prog 24 #[.agg #[.int .i64 kd, .int .i64 ba, .int .i64 ra, .int .i64 en, .int .i64 wa, .int .i64 ev, .int .i64 la, .int .i64 po], .int .i64 t, .int .i64 f] w (GotV w (.int .i64 (polyR ba en t la po))) := by
  have t0 : decide (la ≤ t) = true := decide_eq_true h
  have e : polyR ba en t la po = en := by unfold polyR; rw [if_pos h]
  rw [e]
  clear h e
  have cc := Below.refl w.heap.size w
  go_enter Tryz.func24, Tryz.ntmps24
  go_wp2_with fail
  generalize hv_ : w.alloc (.cells #[.int .i64 kd, .int .i64 ba, .int .i64 ra, .int .i64 en, .int .i64 wa, .int .i64 ev, .int .i64 la, .int .i64 po] 23) = v1
  have bA : Below w.heap.size w v1 := by rw [← hv_]; exact ((Below.refl _ w).alloc (by simp) _)
  replace cc := bK cc bA
  clear bA
  have sc0 : v1.cell? ⟨w.heap.size, 0, none⟩ = some (.int .i64 kd) := by simp [← hv_, go_sem]
  have sc1 : v1.cell? ⟨w.heap.size, 1, none⟩ = some (.int .i64 ba) := by simp [← hv_, go_sem]
  have sc2 : v1.cell? ⟨w.heap.size, 2, none⟩ = some (.int .i64 ra) := by simp [← hv_, go_sem]
  have sc3 : v1.cell? ⟨w.heap.size, 3, none⟩ = some (.int .i64 en) := by simp [← hv_, go_sem]
  have sc4 : v1.cell? ⟨w.heap.size, 4, none⟩ = some (.int .i64 wa) := by simp [← hv_, go_sem]
  have sc5 : v1.cell? ⟨w.heap.size, 5, none⟩ = some (.int .i64 ev) := by simp [← hv_, go_sem]
  have sc6 : v1.cell? ⟨w.heap.size, 6, none⟩ = some (.int .i64 la) := by simp [← hv_, go_sem]
  have sc7 : v1.cell? ⟨w.heap.size, 7, none⟩ = some (.int .i64 po) := by simp [← hv_, go_sem]
  have scl : w.heap.size < v1.heap.size := by simp [← hv_] <;> omega
  clear hv_
  go_wp2_with fail
  go_ret
  exact ⟨rfl, cc⟩

theorem sPoly_main {w : World} {kd ba ra en wa ev la po t f : Int} (h : t < la) (hi : I64 ba) (he : 0 ≤ en) (hb : en ≤ ba) (h1 : 1 ≤ la) (h2 : la ≤ 1000000) (h3 : 1 ≤ t) (h4 : 1 ≤ po) (h5 : po ≤ 8) :
    Calls Tryz.prog 24 #[.agg #[.int .i64 kd, .int .i64 ba, .int .i64 ra, .int .i64 en, .int .i64 wa, .int .i64 ev, .int .i64 la, .int .i64 po], .int .i64 t, .int .i64 f] w (GotV w (.int .i64 (polyR ba en t la po))) := by
  have t0 : decide (la ≤ t) = false := decide_eq_false (by omega)
  obtain ⟨pn, rfl⟩ : ∃ n : Nat, po = (n : Int) := ⟨po.toNat, by omega⟩
  obtain ⟨ln, rfl⟩ : ∃ n : Nat, la = (n : Int) := ⟨la.toNat, by omega⟩
  obtain ⟨bn, eb⟩ : ∃ b : Nat, (ln : Int) - t = (b : Int) := ⟨((ln : Int) - t).toNat, by omega⟩
  have hin := poly_in (t := t) (po := (pn : Int)) he hb (show 1 ≤ (ln : Int) by omega) (show 0 ≤ t by omega)
  have hP : polyR ba en t (ln : Int) (pn : Int) = en + rn ((ba - en) * ((bn ^ pn : Nat) : Int)) (ln ^ pn) := by unfold polyR; rw [if_neg (by omega), Int.toNat_natCast, Int.toNat_natCast, eb, Int.natCast_pow]
  rw [hP] at hin ⊢
  obtain ⟨a, ea⟩ : ∃ a, ba - en = a := ⟨_, rfl⟩
  have ai : I64 a := by unfold I64 at hi ⊢; omega
  have b64 : bn < B64 := by unfold B64; omega
  have l64 : ln < B64 := by unfold B64; omega
  have k1 : IntKind.i64.wrap (ba - en) = a := by rw [ea]; exact IntWalk.i64_in _ ai
  have k2 : IntKind.i64.wrap ((ln : Int) - t) = (bn : Int) := by rw [eb]; exact IntWalk.i64_in _ (by omega)
  have k3 : IntKind.u64.wrap (bn : Int) = (bn : Int) := by rw [IntKind.wrap_u64]; omega
  have k4 : IntKind.u64.wrap (ln : Int) = (ln : Int) := by rw [IntKind.wrap_u64]; omega
  rw [ea] at hin ⊢
  have la_ := len_one ai.abs
  have lb := len_one b64
  have ll := len_one l64
  have lbp := Nat.le_trans (pow_len8 lb pn) (show pn + 1 ≤ 9 by omega)
  have llp := Nat.le_trans (pow_len8 ll pn) (show pn + 1 ≤ 9 by omega)
  have L0 : ln ^ pn ≠ 0 := Nat.ne_of_gt (Nat.pow_pos (by omega))
  obtain ⟨X, eX⟩ : ∃ X, bn ^ pn = X := ⟨_, rfl⟩
  obtain ⟨Y, eY⟩ : ∃ Y, ln ^ pn = Y := ⟨_, rfl⟩
  have CBp := fun {W : World} {A : Option Addr} {n c : Nat} (h : Num W A n c bn) => pow_N (k := pn) h (Nat.le_trans lb (by omega)) (by omega) (by omega)
  have CLp := fun {W : World} {A : Option Addr} {n c : Nat} (h : Num W A n c ln) => pow_N (k := pn) h (Nat.le_trans ll (by omega)) (by omega) (by omega)
  rw [eX] at CBp lbp hin ⊢
  rw [eY] at CLp llp L0 hin ⊢
  have lx : (limbs (a * (X : Int)).natAbs).length ≤ 10 := by rw [Int.natAbs_mul, Int.natAbs_natCast]; exact Nat.le_trans (limbs_length_mul la_ lbp) (by omega)
  have hS := sz_mk (p := a * (X : Int)) (q := Y) (k := 15) L0 (Nat.le_trans lx (by omega)) (Nat.le_trans llp (by omega))
  have hn : nea (mkRat (a * (X : Int)) Y) 0 = rn (a * (X : Int)) Y := by unfold nea rn; rw [show dw 0 = 1 from rfl, Rat.mul_one]
  obtain ⟨R, eR⟩ : ∃ R, rn (a * (X : Int)) Y = R := ⟨_, rfl⟩
  rw [eR] at hin hn ⊢
  have ri : I64 R := by unfold I64 at hi ⊢; omega
  have k9 : IntKind.i64.wrap (en + R) = en + R := IntWalk.i64_in _ (by unfold I64 at hi; omega)
  have CB := fun W : World => of_N W bn b64
  have CL := fun W : World => of_N W ln l64
  have CA := fun W : World => zof_N W a ai
  have CO := fun {W : World} {b : Bool} {A B : Option Addr} {n c m d : Nat} (h : Rt W b A n c B m d (mkRat (a * (X : Int)) Y)) => fof_N h hS (j := 0) (by omega) (by omega)
  rw [show nea (mkRat (a * (X : Int)) Y) (0 : Int).toNat = R from hn, (nI_yes ri).1, (nI_yes ri).2] at CO
  have HLX := Lib.hid lx
  have HLB := Lib.hid lbp
  have HLL := Lib.hid llp
  have HLA := Lib.hid la_
  have HL0 := Lib.hid L0
  clear h hb he hi h1 h2 h3 h4 h5 hin hP ea eb ai b64 l64 la_ lb ll lbp llp L0 eX eY lx hS hn eR ri
  have cc := Below.refl w.heap.size w
  go_enter Tryz.func24, Tryz.ntmps24
  go_wp2_with fail
  generalize hv_ : w.alloc (.cells #[.int .i64 kd, .int .i64 ba, .int .i64 ra, .int .i64 en, .int .i64 wa, .int .i64 ev, .int .i64 (ln : Int), .int .i64 (pn : Int)] 23) = v1
  have bA : Below w.heap.size w v1 := by rw [← hv_]; exact ((Below.refl _ w).alloc (by simp) _)
  replace cc := bK cc bA
  clear bA
  have sc0 : v1.cell? ⟨w.heap.size, 0, none⟩ = some (.int .i64 kd) := by simp [← hv_, go_sem]
  have sc1 : v1.cell? ⟨w.heap.size, 1, none⟩ = some (.int .i64 ba) := by simp [← hv_, go_sem]
  have sc2 : v1.cell? ⟨w.heap.size, 2, none⟩ = some (.int .i64 ra) := by simp [← hv_, go_sem]
  have sc3 : v1.cell? ⟨w.heap.size, 3, none⟩ = some (.int .i64 en) := by simp [← hv_, go_sem]
  have sc4 : v1.cell? ⟨w.heap.size, 4, none⟩ = some (.int .i64 wa) := by simp [← hv_, go_sem]
  have sc5 : v1.cell? ⟨w.heap.size, 5, none⟩ = some (.int .i64 ev) := by simp [← hv_, go_sem]
  have sc6 : v1.cell? ⟨w.heap.size, 6, none⟩ = some (.int .i64 (ln : Int)) := by simp [← hv_, go_sem]
  have sc7 : v1.cell? ⟨w.heap.size, 7, none⟩ = some (.int .i64 (pn : Int)) := by simp [← hv_, go_sem]
  have scl : w.heap.size < v1.heap.size := by simp [← hv_] <;> omega
  clear hv_
  go_wp2_with fail
  have bD : Below v1.heap.size v1 v1.drew := below_drewN (Below.refl _ v1) 1
  rewrite [cR bD scl] at sc0 sc1 sc2 sc3 sc4 sc5 sc6 sc7
  replace scl := lK bD scl
  replace cc := bK cc bD
  clear bD
  refine wp_region_held_drew (S := fun w' => w'.cell? ⟨w.heap.size, 0, none⟩ = some (.int .i64 kd) ∧ w'.cell? ⟨w.heap.size, 1, none⟩ = some (.int .i64 ba) ∧ w'.cell? ⟨w.heap.size, 2, none⟩ = some (.int .i64 ra) ∧ w'.cell? ⟨w.heap.size, 3, none⟩ = some (.int .i64 en) ∧ w'.cell? ⟨w.heap.size, 4, none⟩ = some (.int .i64 wa) ∧ w'.cell? ⟨w.heap.size, 5, none⟩ = some (.int .i64 ev) ∧ w'.cell? ⟨w.heap.size, 6, none⟩ = some (.int .i64 (ln : Int)) ∧ w'.cell? ⟨w.heap.size, 7, none⟩ = some (.int .i64 (pn : Int))) (by kernel_rfl) ?_ (fun hHeld => ?_)
  · exact ⟨sc0, sc1, sc2, sc3, sc4, sc5, sc6, sc7⟩
  refine tY (i := 0) (v := ?_) rfl ?_ hHeld ?_
  rotate_left
  · (intro w hSw; (try dsimp only at hSw); go_simp; (try with_reducible rfl))
  try simp only [Act.put, pT]
  refine tY (i := 1) (v := ?_) rfl ?_ hHeld ?_
  rotate_left
  · (intro w hSw; (try dsimp only at hSw); go_simp; (try with_reducible rfl))
  try simp only [Act.put, pT]
  refine tY (i := 2) (v := ?_) rfl ?_ hHeld ?_
  rotate_left
  · (intro w hSw; (try dsimp only at hSw); go_simp; (try with_reducible rfl))
  try simp only [Act.put, pT]
  refine tY (i := 3) (v := ?_) rfl ?_ hHeld ?_
  rotate_left
  · (intro w hSw; (try dsimp only at hSw); go_simp; (try with_reducible rfl))
  try simp only [Act.put, pT]
  refine tY (i := 4) (v := ?_) rfl ?_ hHeld ?_
  rotate_left
  · (intro w hSw; (try dsimp only at hSw); go_simp; (try with_reducible rfl))
  try simp only [Act.put, pT]
  refine tY (i := 6) (v := ?_) rfl ?_ hHeld ?_
  rotate_left
  · (intro w hSw; (try dsimp only at hSw); go_simp; (try with_reducible rfl))
  try simp only [Act.put, pT]
  refine tY (i := 7) (v := ?_) rfl ?_ hHeld ?_
  rotate_left
  · (intro w hSw; (try dsimp only at hSw); go_simp; (try with_reducible rfl))
  try simp only [Act.put, pT]
  refine wpAnyH_ready (rs := [5]) (by kernel_rfl) (by simp) ?_
  refine AllReadyH.cons rfl (fun K hK => ?_) AllReadyH.nil
  (try simp only [pT])
  rw [if_pos (by rfl)]
  go_simp
  go_at_call 40
  refine (CB _).mono ?_
  rintro e w2 ⟨Ab, nb, cb, rfl, hb, b⟩
  rewrite [cR b scl] at sc0 sc1 sc2 sc3 sc4 sc5 sc6 sc7
  replace scl := lK b scl
  replace cc := bK cc b
  clear b
  refine hK.out _ _ ?_ (fun hHeld => ?_)
  · exact ⟨sc0, sc1, sc2, sc3, sc4, sc5, sc6, sc7⟩
  clear hK K
  try simp only [Act.put, pT]
  refine wpAnyH_ready (rs := [8]) (by kernel_rfl) (by simp) ?_
  refine AllReadyH.cons rfl (fun K hK => ?_) AllReadyH.nil
  (try simp only [pT])
  rw [if_pos (by rfl)]
  go_simp
  go_at_call 47
  refine (CBp hb).mono ?_
  rintro e w3 ⟨Ax, nx, cx, rfl, hx, b⟩
  replace hb := hb.on b
  rewrite [cR b scl] at sc0 sc1 sc2 sc3 sc4 sc5 sc6 sc7
  replace scl := lK b scl
  replace cc := bK cc b
  clear b
  refine hK.out _ _ ?_ (fun hHeld => ?_)
  · exact ⟨sc0, sc1, sc2, sc3, sc4, sc5, sc6, sc7⟩
  clear hK K
  try simp only [Act.put, pT]
  refine tY (i := 9) (v := ?_) rfl ?_ hHeld ?_
  rotate_left
  · (intro w hSw; (try dsimp only at hSw); go_simp; (try with_reducible rfl))
  try simp only [Act.put, pT]
  refine tY (i := 10) (v := ?_) rfl ?_ hHeld ?_
  rotate_left
  · (intro w hSw; (try dsimp only at hSw); go_simp; (try with_reducible rfl))
  try simp only [Act.put, pT]
  refine tY (i := 11) (v := ?_) rfl ?_ hHeld ?_
  rotate_left
  · (intro w hSw; (try dsimp only at hSw); go_simp; (try with_reducible rfl))
  try simp only [Act.put, pT]
  refine tY (i := 12) (v := ?_) rfl ?_ hHeld ?_
  rotate_left
  · (intro w hSw; (try dsimp only at hSw); go_simp; (try with_reducible rfl))
  try simp only [Act.put, pT]
  refine tY (i := 13) (v := ?_) rfl ?_ hHeld ?_
  rotate_left
  · (intro w hSw; (try dsimp only at hSw); go_simp; (try with_reducible rfl))
  try simp only [Act.put, pT]
  refine wpAnyH_done (by kernel_rfl) ?_ _
  clear hHeld
  clear hb
  go_wp2_with fail
  have bD : Below w3.heap.size w3 w3.drew := below_drewN (Below.refl _ w3) 1
  replace hx := hx.on bD
  rewrite [cR bD scl] at sc0 sc1 sc2 sc3 sc4 sc5 sc6 sc7
  replace scl := lK bD scl
  replace cc := bK cc bD
  clear bD
  refine wp_region_held_drew (S := fun w' => w'.cell? ⟨w.heap.size, 0, none⟩ = some (.int .i64 kd) ∧ w'.cell? ⟨w.heap.size, 1, none⟩ = some (.int .i64 ba) ∧ w'.cell? ⟨w.heap.size, 2, none⟩ = some (.int .i64 ra) ∧ w'.cell? ⟨w.heap.size, 3, none⟩ = some (.int .i64 en) ∧ w'.cell? ⟨w.heap.size, 4, none⟩ = some (.int .i64 wa) ∧ w'.cell? ⟨w.heap.size, 5, none⟩ = some (.int .i64 ev) ∧ w'.cell? ⟨w.heap.size, 6, none⟩ = some (.int .i64 (ln : Int)) ∧ w'.cell? ⟨w.heap.size, 7, none⟩ = some (.int .i64 (pn : Int))) (by kernel_rfl) ?_ (fun hHeld => ?_)
  · exact ⟨sc0, sc1, sc2, sc3, sc4, sc5, sc6, sc7⟩
  refine tY (i := 0) (v := ?_) rfl ?_ hHeld ?_
  rotate_left
  · (intro w hSw; (try dsimp only at hSw); go_simp; (try with_reducible rfl))
  try simp only [Act.put, pT]
  refine tY (i := 1) (v := ?_) rfl ?_ hHeld ?_
  rotate_left
  · (intro w hSw; (try dsimp only at hSw); go_simp; (try with_reducible rfl))
  try simp only [Act.put, pT]
  refine tY (i := 2) (v := ?_) rfl ?_ hHeld ?_
  rotate_left
  · (intro w hSw; (try dsimp only at hSw); go_simp; (try with_reducible rfl))
  try simp only [Act.put, pT]
  refine tY (i := 4) (v := ?_) rfl ?_ hHeld ?_
  rotate_left
  · (intro w hSw; (try dsimp only at hSw); go_simp; (try with_reducible rfl))
  try simp only [Act.put, pT]
  refine tY (i := 5) (v := ?_) rfl ?_ hHeld ?_
  rotate_left
  · (intro w hSw; (try dsimp only at hSw); go_simp; (try with_reducible rfl))
  try simp only [Act.put, pT]
  refine wpAnyH_ready (rs := [3]) (by kernel_rfl) (by simp) ?_
  refine AllReadyH.cons rfl (fun K hK => ?_) AllReadyH.nil
  (try simp only [pT])
  rw [if_pos (by rfl)]
  go_simp
  go_at_call 40
  refine (CL _).mono ?_
  rintro e w4 ⟨Al, nl, cl, rfl, hl, b⟩
  replace hx := hx.on b
  rewrite [cR b scl] at sc0 sc1 sc2 sc3 sc4 sc5 sc6 sc7
  replace scl := lK b scl
  replace cc := bK cc b
  clear b
  refine hK.out _ _ ?_ (fun hHeld => ?_)
  · exact ⟨sc0, sc1, sc2, sc3, sc4, sc5, sc6, sc7⟩
  clear hK K
  try simp only [Act.put, pT]
  refine wpAnyH_ready (rs := [6]) (by kernel_rfl) (by simp) ?_
  refine AllReadyH.cons rfl (fun K hK => ?_) AllReadyH.nil
  (try simp only [pT])
  rw [if_pos (by rfl)]
  go_simp
  go_at_call 47
  refine (CLp hl).mono ?_
  rintro e w5 ⟨Ay, ny, cy, rfl, hy, b⟩
  replace hx := hx.on b
  replace hl := hl.on b
  rewrite [cR b scl] at sc0 sc1 sc2 sc3 sc4 sc5 sc6 sc7
  replace scl := lK b scl
  replace cc := bK cc b
  clear b
  refine hK.out _ _ ?_ (fun hHeld => ?_)
  · exact ⟨sc0, sc1, sc2, sc3, sc4, sc5, sc6, sc7⟩
  clear hK K
  try simp only [Act.put, pT]
  refine tY (i := 7) (v := ?_) rfl ?_ hHeld ?_
  rotate_left
  · (intro w hSw; (try dsimp only at hSw); go_simp; (try with_reducible rfl))
  try simp only [Act.put, pT]
  refine tY (i := 8) (v := ?_) rfl ?_ hHeld ?_
  rotate_left
  · (intro w hSw; (try dsimp only at hSw); go_simp; (try with_reducible rfl))
  try simp only [Act.put, pT]
  refine tY (i := 9) (v := ?_) rfl ?_ hHeld ?_
  rotate_left
  · (intro w hSw; (try dsimp only at hSw); go_simp; (try with_reducible rfl))
  try simp only [Act.put, pT]
  refine tY (i := 10) (v := ?_) rfl ?_ hHeld ?_
  rotate_left
  · (intro w hSw; (try dsimp only at hSw); go_simp; (try with_reducible rfl))
  try simp only [Act.put, pT]
  refine tY (i := 11) (v := ?_) rfl ?_ hHeld ?_
  rotate_left
  · (intro w hSw; (try dsimp only at hSw); go_simp; (try with_reducible rfl))
  try simp only [Act.put, pT]
  refine wpAnyH_done (by kernel_rfl) ?_ _
  clear hHeld
  clear hl
  go_wp2_with fail
  refine (CA _).mono ?_
  rintro e w6 ⟨ba_, Aa, na, ca, rfl, ha, b⟩
  replace hx := hx.on b
  replace hy := hy.on b
  rewrite [cR b scl] at sc0 sc1 sc2 sc3 sc4 sc5 sc6 sc7
  replace scl := lK b scl
  replace cc := bK cc b
  clear b
  have hz : Zn w6 false Ax nx cx (X : Int) := ⟨by rw [Int.natAbs_natCast]; exact hx, by simp⟩
  go_wp2_with fail
  refine (zmul_N ha hz (Nat.le_trans HLA.out (by omega)) (by rw [Int.natAbs_natCast]; exact Nat.le_trans HLB.out (by omega))).mono ?_
  rintro e w7 ⟨bm, Am, nm, cm, rfl, hm, b⟩
  replace hx := hx.on b
  replace hy := hy.on b
  replace ha := ha.on b
  replace hz := hz.on b
  rewrite [cR b scl] at sc0 sc1 sc2 sc3 sc4 sc5 sc6 sc7
  replace scl := lK b scl
  replace cc := bK cc b
  clear b
  go_wp2_with fail
  refine (qmake_N hm hy HL0.out (Nat.le_trans HLX.out (by omega)) (Nat.le_trans HLL.out (by omega))).mono ?_
  rintro e w8 ⟨bq, Aq, nq, cq, Bq, mq, dq, rfl, hq, b⟩
  replace hx := hx.on b
  replace hy := hy.on b
  replace ha := ha.on b
  replace hz := hz.on b
  replace hm := hm.on b
  rewrite [cR b scl] at sc0 sc1 sc2 sc3 sc4 sc5 sc6 sc7
  replace scl := lK b scl
  replace cc := bK cc b
  clear b
  clear hm ha hz hx hy
  go_upto_region 6 with fail
  have qsqsc : w.heap.size < w8.heap.size := scl
  generalize hv_ : w8.alloc (.cells #[.bool bq, .slice Aq nq cq, .slice Bq mq dq] 51) = v9
  have bA : Below w8.heap.size w8 v9 := by rw [← hv_]; exact below_one _ _
  replace hq := hq.on bA
  rewrite [cR bA scl] at sc0 sc1 sc2 sc3 sc4 sc5 sc6 sc7
  replace scl := lK bA scl
  replace cc := bK cc bA
  clear bA
  obtain ⟨qs0, qs1, qs2⟩ : Cs3 v9 w8.heap.size (.bool bq) (.slice Aq nq cq) (.slice Bq mq dq) := by simp [Cs3, ← hv_, go_sem]
  have qsl : w8.heap.size < v9.heap.size := by simp [← hv_]
  clear hv_
  go_wp2_with fail
  refine (CO hq).mono ?_
  rintro e w10 ⟨rfl, b⟩
  replace hq := hq.on b
  rewrite [cR b scl] at sc0 sc1 sc2 sc3 sc4 sc5 sc6 sc7
  replace scl := lK b scl
  rewrite [cR b qsl] at qs0 qs1 qs2
  replace qsl := lK b qsl
  replace cc := bK cc b
  clear b
  clear hq
  go_wp2_with fail
  go_ret
  exact ⟨rfl, cc⟩

end Go.Proofs.YtmaolhajeoigpaaGreat

/-
  The contracts of the landed sched: laws, Rate.
-/
namespace Go.Proofs.YtmaolhajeoigpaaGreat
set_option maxRecDepth 100000
set_option maxHeartbeats 8000000
open Go.RowKit
set_option linter.unusedVariables false
set_option linter.unusedSimpArgs false

theorem st_func15 {P : Program} {w : World} {a : Addr} {m : Mode} (fn : Fn) (first captured : Array Value) : (store a (.func fn first captured) m).run P w = stored P w a (.func fn first captured) m := run_store P w a _ m rfl
attribute [local go_sem] st_func15

theorem sLaws_N {w : World} :
    Calls Tryz.prog 11 #[] w (GotV w (.agg #[.func (.func 21) #[] #[], .func (.func 22) #[] #[], .func (.func 23) #[] #[], .func (.func 24) #[] #[]])) := by
  have cc := Below.refl w.heap.size w
  go_enter Tryz.func11, Tryz.ntmps11
  go_wp2_with fail
  refine bodyPost_ret (v := .agg #[.func (.func 21) #[] #[], .func (.func 22) #[] #[], .func (.func 23) #[] #[], .func (.func 24) #[] #[]]) (by simp [results, Tryz.results11, go_sem]) rfl ⟨rfl, below_one _ _⟩

theorem sIdx_0 (w : World) : (Instr.index 34 (.agg #[.func (.func 21) #[] #[], .func (.func 22) #[] #[], .func (.func 23) #[] #[], .func (.func 24) #[] #[]]) (.int .i64 0)).run Tryz.prog w = .ok (.func (.func 21) #[] #[]) w := by
  have h : Tryz.prog.underlying 34 = some (.array 4 33) := by kernel_rfl
  simp [Instr.index, run_underlying h, asIntOf, go_sem]

theorem sIdx_1 (w : World) : (Instr.index 34 (.agg #[.func (.func 21) #[] #[], .func (.func 22) #[] #[], .func (.func 23) #[] #[], .func (.func 24) #[] #[]]) (.int .i64 1)).run Tryz.prog w = .ok (.func (.func 22) #[] #[]) w := by
  have h : Tryz.prog.underlying 34 = some (.array 4 33) := by kernel_rfl
  simp [Instr.index, run_underlying h, asIntOf, go_sem]

theorem sIdx_2 (w : World) : (Instr.index 34 (.agg #[.func (.func 21) #[] #[], .func (.func 22) #[] #[], .func (.func 23) #[] #[], .func (.func 24) #[] #[]]) (.int .i64 2)).run Tryz.prog w = .ok (.func (.func 23) #[] #[]) w := by
  have h : Tryz.prog.underlying 34 = some (.array 4 33) := by kernel_rfl
  simp [Instr.index, run_underlying h, asIntOf, go_sem]

theorem sIdx_3 (w : World) : (Instr.index 34 (.agg #[.func (.func 21) #[] #[], .func (.func 22) #[] #[], .func (.func 23) #[] #[], .func (.func 24) #[] #[]]) (.int .i64 3)).run Tryz.prog w = .ok (.func (.func 24) #[] #[]) w := by
  have h : Tryz.prog.underlying 34 = some (.array 4 33) := by kernel_rfl
  simp [Instr.index, run_underlying h, asIntOf, go_sem]

theorem sRate_n0 {w : World} {kd ba ra en wa ev la po t f : Int} (hI : I64 kd ∧ I64 ba ∧ I64 ra ∧ I64 en ∧ I64 wa ∧ I64 ev ∧ I64 la ∧ I64 po ∧ I64 t ∧ I64 f) (hR : ¬ OkR f kd ba ra en wa ev la po) :
    Calls Tryz.prog 4 #[.agg #[.int .i64 kd, .int .i64 ba, .int .i64 ra, .int .i64 en, .int .i64 wa, .int .i64 ev, .int .i64 la, .int .i64 po], .int .i64 t, .int .i64 f] w (GotV w (.tuple #[.int .i64 (0), .int .i64 1])) := by
  have CR : ∀ W : World, Calls Tryz.prog 7 #[.agg #[.int .i64 kd, .int .i64 ba, .int .i64 ra, .int .i64 en, .int .i64 wa, .int .i64 ev, .int .i64 la, .int .i64 po], .int .i64 f] W (GotV W (.bool false)) := fun W => by have h := sRight_N W (f := f) (kd := kd) (ba := ba) (ra := ra) (en := en) (wa := wa) (ev := ev) (la := la) (po := po) (by obtain ⟨i_kd, i_ba, i_ra, i_en, i_wa, i_ev, i_la, i_po, i_t, i_f⟩ := hI; exact ⟨i_kd, i_ba, i_ra, i_en, i_wa, i_ev, i_la, i_po, i_f⟩); rw [decide_eq_false hR] at h; exact h
  clear hR hI
  have cc := Below.refl w.heap.size w
  go_enter Tryz.func4, Tryz.ntmps4
  go_wp2_with fail
  generalize hv_ : w.alloc (.cells #[.int .i64 kd, .int .i64 ba, .int .i64 ra, .int .i64 en, .int .i64 wa, .int .i64 ev, .int .i64 la, .int .i64 po] 23) = v1
  have bA : Below w.heap.size w v1 := by rw [← hv_]; exact ((Below.refl _ w).alloc (by simp) _)
  replace cc := bK cc bA
  clear bA
  have sc0 : v1.cell? ⟨w.heap.size, 0, none⟩ = some (.int .i64 kd) := by simp [← hv_, go_sem]
  have sc1 : v1.cell? ⟨w.heap.size, 1, none⟩ = some (.int .i64 ba) := by simp [← hv_, go_sem]
  have sc2 : v1.cell? ⟨w.heap.size, 2, none⟩ = some (.int .i64 ra) := by simp [← hv_, go_sem]
  have sc3 : v1.cell? ⟨w.heap.size, 3, none⟩ = some (.int .i64 en) := by simp [← hv_, go_sem]
  have sc4 : v1.cell? ⟨w.heap.size, 4, none⟩ = some (.int .i64 wa) := by simp [← hv_, go_sem]
  have sc5 : v1.cell? ⟨w.heap.size, 5, none⟩ = some (.int .i64 ev) := by simp [← hv_, go_sem]
  have sc6 : v1.cell? ⟨w.heap.size, 6, none⟩ = some (.int .i64 la) := by simp [← hv_, go_sem]
  have sc7 : v1.cell? ⟨w.heap.size, 7, none⟩ = some (.int .i64 po) := by simp [← hv_, go_sem]
  have scl : w.heap.size < v1.heap.size := by simp [← hv_] <;> omega
  clear hv_
  go_wp2_with fail
  refine (CR _).mono ?_
  rintro e w2 ⟨rfl, b⟩
  rewrite [cR b scl] at sc0 sc1 sc2 sc3 sc4 sc5 sc6 sc7
  replace scl := lK b scl
  replace cc := bK cc b
  clear b
  go_wp2_with fail
  go_ret2
  exact ⟨rfl, cc⟩

theorem sRate_n1 {w : World} {kd ba ra en wa ev la po t f : Int} (hI : I64 kd ∧ I64 ba ∧ I64 ra ∧ I64 en ∧ I64 wa ∧ I64 ev ∧ I64 la ∧ I64 po ∧ I64 t ∧ I64 f) (hR : OkR f kd ba ra en wa ev la po) (hT : ¬ (1 ≤ t ∧ t ≤ 1000000)) :
    Calls Tryz.prog 4 #[.agg #[.int .i64 kd, .int .i64 ba, .int .i64 ra, .int .i64 en, .int .i64 wa, .int .i64 ev, .int .i64 la, .int .i64 po], .int .i64 t, .int .i64 f] w (GotV w (.tuple #[.int .i64 (0), .int .i64 1])) := by
  have CR : ∀ W : World, Calls Tryz.prog 7 #[.agg #[.int .i64 kd, .int .i64 ba, .int .i64 ra, .int .i64 en, .int .i64 wa, .int .i64 ev, .int .i64 la, .int .i64 po], .int .i64 f] W (GotV W (.bool true)) := fun W => by have h := sRight_N W (f := f) (kd := kd) (ba := ba) (ra := ra) (en := en) (wa := wa) (ev := ev) (la := la) (po := po) (by obtain ⟨i_kd, i_ba, i_ra, i_en, i_wa, i_ev, i_la, i_po, i_t, i_f⟩ := hI; exact ⟨i_kd, i_ba, i_ra, i_en, i_wa, i_ev, i_la, i_po, i_f⟩); rw [decide_eq_true hR] at h; exact h
  have CI := fun W : World => sStep_false (w := W) hT
  clear hR hT hI
  have cc := Below.refl w.heap.size w
  go_enter Tryz.func4, Tryz.ntmps4
  go_wp2_with fail
  generalize hv_ : w.alloc (.cells #[.int .i64 kd, .int .i64 ba, .int .i64 ra, .int .i64 en, .int .i64 wa, .int .i64 ev, .int .i64 la, .int .i64 po] 23) = v1
  have bA : Below w.heap.size w v1 := by rw [← hv_]; exact ((Below.refl _ w).alloc (by simp) _)
  replace cc := bK cc bA
  clear bA
  have sc0 : v1.cell? ⟨w.heap.size, 0, none⟩ = some (.int .i64 kd) := by simp [← hv_, go_sem]
  have sc1 : v1.cell? ⟨w.heap.size, 1, none⟩ = some (.int .i64 ba) := by simp [← hv_, go_sem]
  have sc2 : v1.cell? ⟨w.heap.size, 2, none⟩ = some (.int .i64 ra) := by simp [← hv_, go_sem]
  have sc3 : v1.cell? ⟨w.heap.size, 3, none⟩ = some (.int .i64 en) := by simp [← hv_, go_sem]
  have sc4 : v1.cell? ⟨w.heap.size, 4, none⟩ = some (.int .i64 wa) := by simp [← hv_, go_sem]
  have sc5 : v1.cell? ⟨w.heap.size, 5, none⟩ = some (.int .i64 ev) := by simp [← hv_, go_sem]
  have sc6 : v1.cell? ⟨w.heap.size, 6, none⟩ = some (.int .i64 la) := by simp [← hv_, go_sem]
  have sc7 : v1.cell? ⟨w.heap.size, 7, none⟩ = some (.int .i64 po) := by simp [← hv_, go_sem]
  have scl : w.heap.size < v1.heap.size := by simp [← hv_] <;> omega
  clear hv_
  go_wp2_with fail
  refine (CR _).mono ?_
  rintro e w2 ⟨rfl, b⟩
  rewrite [cR b scl] at sc0 sc1 sc2 sc3 sc4 sc5 sc6 sc7
  replace scl := lK b scl
  replace cc := bK cc b
  clear b
  go_wp2_with fail
  refine (CI _).mono ?_
  rintro e w3 ⟨rfl, b⟩
  rewrite [cR b scl] at sc0 sc1 sc2 sc3 sc4 sc5 sc6 sc7
  replace scl := lK b scl
  replace cc := bK cc b
  clear b
  go_wp2_with fail
  go_ret2
  exact ⟨rfl, cc⟩

theorem sRate_warm {w : World} {kd ba ra en wa ev la po t f : Int} (hR : OkR f kd ba ra en wa ev la po) (hT : 1 ≤ t ∧ t ≤ 1000000) (hI : I64 kd ∧ I64 ba ∧ I64 ra ∧ I64 en ∧ I64 wa ∧ I64 ev ∧ I64 la ∧ I64 po ∧ I64 t ∧ I64 f) (hw : t ≤ wa) :
    Calls Tryz.prog 4 #[.agg #[.int .i64 kd, .int .i64 ba, .int .i64 ra, .int .i64 en, .int .i64 wa, .int .i64 ev, .int .i64 la, .int .i64 po], .int .i64 t, .int .i64 f] w (GotV w (.tuple #[.int .i64 (rn (ba * t) wa.toNat), .int .i64 0])) := by
  have CR : ∀ W : World, Calls Tryz.prog 7 #[.agg #[.int .i64 kd, .int .i64 ba, .int .i64 ra, .int .i64 en, .int .i64 wa, .int .i64 ev, .int .i64 la, .int .i64 po], .int .i64 f] W (GotV W (.bool true)) := fun W => by have h := sRight_N W (f := f) (kd := kd) (ba := ba) (ra := ra) (en := en) (wa := wa) (ev := ev) (la := la) (po := po) (by obtain ⟨i_kd, i_ba, i_ra, i_en, i_wa, i_ev, i_la, i_po, i_t, i_f⟩ := hI; exact ⟨i_kd, i_ba, i_ra, i_en, i_wa, i_ev, i_la, i_po, i_f⟩); rw [decide_eq_true hR] at h; exact h
  have CI := fun W : World => sStep_true (w := W) hT
  have t0 : decide (t ≤ wa) = true := decide_eq_true (by omega)
  obtain ⟨f0, f1, b0, w0, d0, p0⟩ := id hR
  obtain ⟨i_kd, i_ba, i_ra, i_en, i_wa, i_ev, i_la, i_po, i_t, i_f⟩ := id hI
  have e1 : wa.natAbs = wa.toNat := by omega
  have CS := fun W : World => fscale_N (w := W) i_ba i_t i_wa (by omega)
  rw [e1] at CS
  have h1 := rn_nonneg (x := ba * t) (d := wa.toNat) (by omega) (Int.mul_nonneg b0 (by omega))
  have h2 := rn_le (x := ba) (ra := t) (d := wa.toNat) (by omega) b0 (by omega)
  obtain ⟨v, ev_⟩ : ∃ v, rn (ba * t) wa.toNat = v := ⟨_, rfl⟩
  rw [ev_] at CS h1 h2 ⊢
  have hv : I64 v := by unfold I64 at i_ba ⊢; omega
  rw [(nI_yes hv).1, (nI_yes hv).2] at CS
  clear f0 f1 b0 w0 d0 p0 i_kd i_ba i_ra i_en i_wa i_ev i_la i_po i_t i_f hR hT hI hw h1 h2 hv ev_ e1
  have cc := Below.refl w.heap.size w
  go_enter Tryz.func4, Tryz.ntmps4
  go_wp2_with fail
  generalize hv_ : w.alloc (.cells #[.int .i64 kd, .int .i64 ba, .int .i64 ra, .int .i64 en, .int .i64 wa, .int .i64 ev, .int .i64 la, .int .i64 po] 23) = v1
  have bA : Below w.heap.size w v1 := by rw [← hv_]; exact ((Below.refl _ w).alloc (by simp) _)
  replace cc := bK cc bA
  clear bA
  have sc0 : v1.cell? ⟨w.heap.size, 0, none⟩ = some (.int .i64 kd) := by simp [← hv_, go_sem]
  have sc1 : v1.cell? ⟨w.heap.size, 1, none⟩ = some (.int .i64 ba) := by simp [← hv_, go_sem]
  have sc2 : v1.cell? ⟨w.heap.size, 2, none⟩ = some (.int .i64 ra) := by simp [← hv_, go_sem]
  have sc3 : v1.cell? ⟨w.heap.size, 3, none⟩ = some (.int .i64 en) := by simp [← hv_, go_sem]
  have sc4 : v1.cell? ⟨w.heap.size, 4, none⟩ = some (.int .i64 wa) := by simp [← hv_, go_sem]
  have sc5 : v1.cell? ⟨w.heap.size, 5, none⟩ = some (.int .i64 ev) := by simp [← hv_, go_sem]
  have sc6 : v1.cell? ⟨w.heap.size, 6, none⟩ = some (.int .i64 la) := by simp [← hv_, go_sem]
  have sc7 : v1.cell? ⟨w.heap.size, 7, none⟩ = some (.int .i64 po) := by simp [← hv_, go_sem]
  have scl : w.heap.size < v1.heap.size := by simp [← hv_] <;> omega
  clear hv_
  go_wp2_with fail
  refine (CR _).mono ?_
  rintro e w2 ⟨rfl, b⟩
  rewrite [cR b scl] at sc0 sc1 sc2 sc3 sc4 sc5 sc6 sc7
  replace scl := lK b scl
  replace cc := bK cc b
  clear b
  go_wp2_with fail
  refine (CI _).mono ?_
  rintro e w3 ⟨rfl, b⟩
  rewrite [cR b scl] at sc0 sc1 sc2 sc3 sc4 sc5 sc6 sc7
  replace scl := lK b scl
  replace cc := bK cc b
  clear b
  go_wp2_with fail
  refine (CS _).mono ?_
  rintro e w4 ⟨rfl, b⟩
  rewrite [cR b scl] at sc0 sc1 sc2 sc3 sc4 sc5 sc6 sc7
  replace scl := lK b scl
  replace cc := bK cc b
  clear b
  go_wp2_with fail
  go_ret2
  exact ⟨rfl, cc⟩

theorem sRate_const {w : World} {kd ba ra en wa ev la po t f : Int} (hR : OkR f kd ba ra en wa ev la po) (hT : 1 ≤ t ∧ t ≤ 1000000) (hI : I64 kd ∧ I64 ba ∧ I64 ra ∧ I64 en ∧ I64 wa ∧ I64 ev ∧ I64 la ∧ I64 po ∧ I64 t ∧ I64 f) (hw : ¬ t ≤ wa) (hk : 0 = kd) :
    Calls Tryz.prog 4 #[.agg #[.int .i64 kd, .int .i64 ba, .int .i64 ra, .int .i64 en, .int .i64 wa, .int .i64 ev, .int .i64 la, .int .i64 po], .int .i64 t, .int .i64 f] w (GotV w (.tuple #[.int .i64 (ba), .int .i64 0])) := by
  subst hk
  have CR : ∀ W : World, Calls Tryz.prog 7 #[.agg #[.int .i64 0, .int .i64 ba, .int .i64 ra, .int .i64 en, .int .i64 wa, .int .i64 ev, .int .i64 la, .int .i64 po], .int .i64 f] W (GotV W (.bool true)) := fun W => by have h := sRight_N W (f := f) (kd := 0) (ba := ba) (ra := ra) (en := en) (wa := wa) (ev := ev) (la := la) (po := po) (by obtain ⟨i_kd, i_ba, i_ra, i_en, i_wa, i_ev, i_la, i_po, i_t, i_f⟩ := hI; exact ⟨i_kd, i_ba, i_ra, i_en, i_wa, i_ev, i_la, i_po, i_f⟩); rw [decide_eq_true hR] at h; exact h
  have CI := fun W : World => sStep_true (w := W) hT
  have t0 : decide (t ≤ wa) = false := decide_eq_false (by omega)
  obtain ⟨f0, f1, b0, w0, d0, p0⟩ := id hR
  obtain ⟨i_kd, i_ba, i_ra, i_en, i_wa, i_ev, i_la, i_po, i_t, i_f⟩ := id hI
  have CK := fun W : World => sStay_N (w := W) (kd := 0) (ba := ba) (ra := ra) (en := en) (wa := wa) (ev := ev) (la := la) (po := po) (t := t) (f := f)
  have CL := fun W : World => sLaws_N (w := W)
  have hIx := sIdx_0
  skip
  clear f0 f1 b0 w0 d0 p0 i_kd i_ba i_ra i_en i_wa i_ev i_la i_po i_t i_f hR hT hI hw
  have cc := Below.refl w.heap.size w
  go_enter Tryz.func4, Tryz.ntmps4
  go_wp2_with fail
  generalize hv_ : w.alloc (.cells #[.int .i64 0, .int .i64 ba, .int .i64 ra, .int .i64 en, .int .i64 wa, .int .i64 ev, .int .i64 la, .int .i64 po] 23) = v1
  have bA : Below w.heap.size w v1 := by rw [← hv_]; exact ((Below.refl _ w).alloc (by simp) _)
  replace cc := bK cc bA
  clear bA
  have sc0 : v1.cell? ⟨w.heap.size, 0, none⟩ = some (.int .i64 0) := by simp [← hv_, go_sem]
  have sc1 : v1.cell? ⟨w.heap.size, 1, none⟩ = some (.int .i64 ba) := by simp [← hv_, go_sem]
  have sc2 : v1.cell? ⟨w.heap.size, 2, none⟩ = some (.int .i64 ra) := by simp [← hv_, go_sem]
  have sc3 : v1.cell? ⟨w.heap.size, 3, none⟩ = some (.int .i64 en) := by simp [← hv_, go_sem]
  have sc4 : v1.cell? ⟨w.heap.size, 4, none⟩ = some (.int .i64 wa) := by simp [← hv_, go_sem]
  have sc5 : v1.cell? ⟨w.heap.size, 5, none⟩ = some (.int .i64 ev) := by simp [← hv_, go_sem]
  have sc6 : v1.cell? ⟨w.heap.size, 6, none⟩ = some (.int .i64 la) := by simp [← hv_, go_sem]
  have sc7 : v1.cell? ⟨w.heap.size, 7, none⟩ = some (.int .i64 po) := by simp [← hv_, go_sem]
  have scl : w.heap.size < v1.heap.size := by simp [← hv_] <;> omega
  clear hv_
  go_wp2_with fail
  refine (CR _).mono ?_
  rintro e w2 ⟨rfl, b⟩
  rewrite [cR b scl] at sc0 sc1 sc2 sc3 sc4 sc5 sc6 sc7
  replace scl := lK b scl
  replace cc := bK cc b
  clear b
  go_wp2_with fail
  refine (CI _).mono ?_
  rintro e w3 ⟨rfl, b⟩
  rewrite [cR b scl] at sc0 sc1 sc2 sc3 sc4 sc5 sc6 sc7
  replace scl := lK b scl
  replace cc := bK cc b
  clear b
  go_wp2_with fail
  have bD : Below w3.heap.size w3 w3.drew := below_drewN (Below.refl _ w3) 1
  rewrite [cR bD scl] at sc0 sc1 sc2 sc3 sc4 sc5 sc6 sc7
  replace scl := lK bD scl
  replace cc := bK cc bD
  clear bD
  refine wp_region_held_drew (S := fun w' => w'.cell? ⟨w.heap.size, 0, none⟩ = some (.int .i64 0) ∧ w'.cell? ⟨w.heap.size, 1, none⟩ = some (.int .i64 ba) ∧ w'.cell? ⟨w.heap.size, 2, none⟩ = some (.int .i64 ra) ∧ w'.cell? ⟨w.heap.size, 3, none⟩ = some (.int .i64 en) ∧ w'.cell? ⟨w.heap.size, 4, none⟩ = some (.int .i64 wa) ∧ w'.cell? ⟨w.heap.size, 5, none⟩ = some (.int .i64 ev) ∧ w'.cell? ⟨w.heap.size, 6, none⟩ = some (.int .i64 la) ∧ w'.cell? ⟨w.heap.size, 7, none⟩ = some (.int .i64 po)) (by kernel_rfl) ?_ (fun hHeld => ?_)
  · exact ⟨sc0, sc1, sc2, sc3, sc4, sc5, sc6, sc7⟩
  refine tY (i := 1) (v := ?_) rfl ?_ hHeld ?_
  rotate_left
  · (intro w hSw; (try dsimp only at hSw); go_simp; (try with_reducible rfl))
  try simp only [Act.put, pT]
  refine tY (i := 2) (v := ?_) rfl ?_ hHeld ?_
  rotate_left
  · (intro w hSw; (try dsimp only at hSw); go_simp; (try with_reducible rfl))
  try simp only [Act.put, pT]
  refine tY (i := 4) (v := ?_) rfl ?_ hHeld ?_
  rotate_left
  · (intro w hSw; (try dsimp only at hSw); go_simp; (try with_reducible rfl))
  try simp only [Act.put, pT]
  refine tY (i := 5) (v := ?_) rfl ?_ hHeld ?_
  rotate_left
  · (intro w hSw; (try dsimp only at hSw); go_simp; (try with_reducible rfl))
  try simp only [Act.put, pT]
  refine tY (i := 6) (v := ?_) rfl ?_ hHeld ?_
  rotate_left
  · (intro w hSw; (try dsimp only at hSw); go_simp; (try with_reducible rfl))
  try simp only [Act.put, pT]
  refine wpAnyH_ready (rs := [0]) (by kernel_rfl) (by simp) ?_
  refine AllReadyH.cons rfl (fun K hK => ?_) AllReadyH.nil
  (try simp only [pT])
  rw [if_pos (by rfl)]
  go_simp
  go_at_call 11
  refine (CL _).mono ?_
  rintro e w4 ⟨rfl, b⟩
  rewrite [cR b scl] at sc0 sc1 sc2 sc3 sc4 sc5 sc6 sc7
  replace scl := lK b scl
  replace cc := bK cc b
  clear b
  refine hK.out _ _ ?_ (fun hHeld => ?_)
  · exact ⟨sc0, sc1, sc2, sc3, sc4, sc5, sc6, sc7⟩
  clear hK K
  try simp only [Act.put, pT]
  refine tY (i := 3) (v := ?_) rfl ?_ hHeld ?_
  rotate_left
  · (intro w hSw; (try dsimp only at hSw); go_simp; (try with_reducible rfl))
  try simp only [Act.put, pT]
  refine wpAnyH_ready (rs := [7]) (by kernel_rfl) (by simp) ?_
  refine AllReadyH.cons rfl (fun K hK => ?_) AllReadyH.nil
  (try simp only [pT])
  rw [if_pos (by rfl)]
  go_simp
  go_at_call 21
  refine (CK _).mono ?_
  rintro e w5 ⟨rfl, b⟩
  rewrite [cR b scl] at sc0 sc1 sc2 sc3 sc4 sc5 sc6 sc7
  replace scl := lK b scl
  replace cc := bK cc b
  clear b
  refine hK.out _ _ ?_ (fun hHeld => ?_)
  · exact ⟨sc0, sc1, sc2, sc3, sc4, sc5, sc6, sc7⟩
  clear hK K
  try simp only [Act.put, pT]
  refine tY (i := 8) (v := ?_) rfl ?_ hHeld ?_
  rotate_left
  · (intro w hSw; (try dsimp only at hSw); go_simp; (try with_reducible rfl))
  try simp only [Act.put, pT]
  refine tY (i := 9) (v := ?_) rfl ?_ hHeld ?_
  rotate_left
  · (intro w hSw; (try dsimp only at hSw); go_simp; (try with_reducible rfl))
  try simp only [Act.put, pT]
  refine wpAnyH_done (by kernel_rfl) ?_ _
  clear hHeld
  go_wp2_with fail
  go_ret2
  exact ⟨rfl, cc⟩

theorem sRate_root {w : World} {kd ba ra en wa ev la po t f : Int} (hR : OkR f kd ba ra en wa ev la po) (hT : 1 ≤ t ∧ t ≤ 1000000) (hI : I64 kd ∧ I64 ba ∧ I64 ra ∧ I64 en ∧ I64 wa ∧ I64 ev ∧ I64 la ∧ I64 po ∧ I64 t ∧ I64 f) (hw : ¬ t ≤ wa) (hk : 1 = kd) :
    Calls Tryz.prog 4 #[.agg #[.int .i64 kd, .int .i64 ba, .int .i64 ra, .int .i64 en, .int .i64 wa, .int .i64 ev, .int .i64 la, .int .i64 po], .int .i64 t, .int .i64 f] w (GotV w (.tuple #[.int .i64 (fellR ba wa t), .int .i64 0])) := by
  subst hk
  have CR : ∀ W : World, Calls Tryz.prog 7 #[.agg #[.int .i64 1, .int .i64 ba, .int .i64 ra, .int .i64 en, .int .i64 wa, .int .i64 ev, .int .i64 la, .int .i64 po], .int .i64 f] W (GotV W (.bool true)) := fun W => by have h := sRight_N W (f := f) (kd := 1) (ba := ba) (ra := ra) (en := en) (wa := wa) (ev := ev) (la := la) (po := po) (by obtain ⟨i_kd, i_ba, i_ra, i_en, i_wa, i_ev, i_la, i_po, i_t, i_f⟩ := hI; exact ⟨i_kd, i_ba, i_ra, i_en, i_wa, i_ev, i_la, i_po, i_f⟩); rw [decide_eq_true hR] at h; exact h
  have CI := fun W : World => sStep_true (w := W) hT
  have t0 : decide (t ≤ wa) = false := decide_eq_false (by omega)
  obtain ⟨f0, f1, b0, w0, d0, p0⟩ := id hR
  obtain ⟨i_kd, i_ba, i_ra, i_en, i_wa, i_ev, i_la, i_po, i_t, i_f⟩ := id hI
  have CK := fun W : World => sRoot_N (w := W) (kd := 1) (ra := ra) (en := en) (ev := ev) (la := la) (po := po) (f := f) w0.1 w0.2 b0 i_ba (show wa < t by omega) hT.1 hT.2
  have CL := fun W : World => sLaws_N (w := W)
  have hIx := sIdx_1
  generalize fellR ba wa t = v at *
  clear f0 f1 b0 w0 d0 p0 i_kd i_ba i_ra i_en i_wa i_ev i_la i_po i_t i_f hR hT hI hw
  have cc := Below.refl w.heap.size w
  go_enter Tryz.func4, Tryz.ntmps4
  go_wp2_with fail
  generalize hv_ : w.alloc (.cells #[.int .i64 1, .int .i64 ba, .int .i64 ra, .int .i64 en, .int .i64 wa, .int .i64 ev, .int .i64 la, .int .i64 po] 23) = v1
  have bA : Below w.heap.size w v1 := by rw [← hv_]; exact ((Below.refl _ w).alloc (by simp) _)
  replace cc := bK cc bA
  clear bA
  have sc0 : v1.cell? ⟨w.heap.size, 0, none⟩ = some (.int .i64 1) := by simp [← hv_, go_sem]
  have sc1 : v1.cell? ⟨w.heap.size, 1, none⟩ = some (.int .i64 ba) := by simp [← hv_, go_sem]
  have sc2 : v1.cell? ⟨w.heap.size, 2, none⟩ = some (.int .i64 ra) := by simp [← hv_, go_sem]
  have sc3 : v1.cell? ⟨w.heap.size, 3, none⟩ = some (.int .i64 en) := by simp [← hv_, go_sem]
  have sc4 : v1.cell? ⟨w.heap.size, 4, none⟩ = some (.int .i64 wa) := by simp [← hv_, go_sem]
  have sc5 : v1.cell? ⟨w.heap.size, 5, none⟩ = some (.int .i64 ev) := by simp [← hv_, go_sem]
  have sc6 : v1.cell? ⟨w.heap.size, 6, none⟩ = some (.int .i64 la) := by simp [← hv_, go_sem]
  have sc7 : v1.cell? ⟨w.heap.size, 7, none⟩ = some (.int .i64 po) := by simp [← hv_, go_sem]
  have scl : w.heap.size < v1.heap.size := by simp [← hv_] <;> omega
  clear hv_
  go_wp2_with fail
  refine (CR _).mono ?_
  rintro e w2 ⟨rfl, b⟩
  rewrite [cR b scl] at sc0 sc1 sc2 sc3 sc4 sc5 sc6 sc7
  replace scl := lK b scl
  replace cc := bK cc b
  clear b
  go_wp2_with fail
  refine (CI _).mono ?_
  rintro e w3 ⟨rfl, b⟩
  rewrite [cR b scl] at sc0 sc1 sc2 sc3 sc4 sc5 sc6 sc7
  replace scl := lK b scl
  replace cc := bK cc b
  clear b
  go_wp2_with fail
  have bD : Below w3.heap.size w3 w3.drew := below_drewN (Below.refl _ w3) 1
  rewrite [cR bD scl] at sc0 sc1 sc2 sc3 sc4 sc5 sc6 sc7
  replace scl := lK bD scl
  replace cc := bK cc bD
  clear bD
  refine wp_region_held_drew (S := fun w' => w'.cell? ⟨w.heap.size, 0, none⟩ = some (.int .i64 1) ∧ w'.cell? ⟨w.heap.size, 1, none⟩ = some (.int .i64 ba) ∧ w'.cell? ⟨w.heap.size, 2, none⟩ = some (.int .i64 ra) ∧ w'.cell? ⟨w.heap.size, 3, none⟩ = some (.int .i64 en) ∧ w'.cell? ⟨w.heap.size, 4, none⟩ = some (.int .i64 wa) ∧ w'.cell? ⟨w.heap.size, 5, none⟩ = some (.int .i64 ev) ∧ w'.cell? ⟨w.heap.size, 6, none⟩ = some (.int .i64 la) ∧ w'.cell? ⟨w.heap.size, 7, none⟩ = some (.int .i64 po)) (by kernel_rfl) ?_ (fun hHeld => ?_)
  · exact ⟨sc0, sc1, sc2, sc3, sc4, sc5, sc6, sc7⟩
  refine tY (i := 1) (v := ?_) rfl ?_ hHeld ?_
  rotate_left
  · (intro w hSw; (try dsimp only at hSw); go_simp; (try with_reducible rfl))
  try simp only [Act.put, pT]
  refine tY (i := 2) (v := ?_) rfl ?_ hHeld ?_
  rotate_left
  · (intro w hSw; (try dsimp only at hSw); go_simp; (try with_reducible rfl))
  try simp only [Act.put, pT]
  refine tY (i := 4) (v := ?_) rfl ?_ hHeld ?_
  rotate_left
  · (intro w hSw; (try dsimp only at hSw); go_simp; (try with_reducible rfl))
  try simp only [Act.put, pT]
  refine tY (i := 5) (v := ?_) rfl ?_ hHeld ?_
  rotate_left
  · (intro w hSw; (try dsimp only at hSw); go_simp; (try with_reducible rfl))
  try simp only [Act.put, pT]
  refine tY (i := 6) (v := ?_) rfl ?_ hHeld ?_
  rotate_left
  · (intro w hSw; (try dsimp only at hSw); go_simp; (try with_reducible rfl))
  try simp only [Act.put, pT]
  refine wpAnyH_ready (rs := [0]) (by kernel_rfl) (by simp) ?_
  refine AllReadyH.cons rfl (fun K hK => ?_) AllReadyH.nil
  (try simp only [pT])
  rw [if_pos (by rfl)]
  go_simp
  go_at_call 11
  refine (CL _).mono ?_
  rintro e w4 ⟨rfl, b⟩
  rewrite [cR b scl] at sc0 sc1 sc2 sc3 sc4 sc5 sc6 sc7
  replace scl := lK b scl
  replace cc := bK cc b
  clear b
  refine hK.out _ _ ?_ (fun hHeld => ?_)
  · exact ⟨sc0, sc1, sc2, sc3, sc4, sc5, sc6, sc7⟩
  clear hK K
  try simp only [Act.put, pT]
  refine tY (i := 3) (v := ?_) rfl ?_ hHeld ?_
  rotate_left
  · (intro w hSw; (try dsimp only at hSw); go_simp; (try with_reducible rfl))
  try simp only [Act.put, pT]
  refine wpAnyH_ready (rs := [7]) (by kernel_rfl) (by simp) ?_
  refine AllReadyH.cons rfl (fun K hK => ?_) AllReadyH.nil
  (try simp only [pT])
  rw [if_pos (by rfl)]
  go_simp
  go_at_call 22
  refine (CK _).mono ?_
  rintro e w5 ⟨rfl, b⟩
  rewrite [cR b scl] at sc0 sc1 sc2 sc3 sc4 sc5 sc6 sc7
  replace scl := lK b scl
  replace cc := bK cc b
  clear b
  refine hK.out _ _ ?_ (fun hHeld => ?_)
  · exact ⟨sc0, sc1, sc2, sc3, sc4, sc5, sc6, sc7⟩
  clear hK K
  try simp only [Act.put, pT]
  refine tY (i := 8) (v := ?_) rfl ?_ hHeld ?_
  rotate_left
  · (intro w hSw; (try dsimp only at hSw); go_simp; (try with_reducible rfl))
  try simp only [Act.put, pT]
  refine tY (i := 9) (v := ?_) rfl ?_ hHeld ?_
  rotate_left
  · (intro w hSw; (try dsimp only at hSw); go_simp; (try with_reducible rfl))
  try simp only [Act.put, pT]
  refine wpAnyH_done (by kernel_rfl) ?_ _
  clear hHeld
  go_wp2_with fail
  go_ret2
  exact ⟨rfl, cc⟩

theorem sRate_drop {w : World} {kd ba ra en wa ev la po t f : Int} (hR : OkR f kd ba ra en wa ev la po) (hT : 1 ≤ t ∧ t ≤ 1000000) (hI : I64 kd ∧ I64 ba ∧ I64 ra ∧ I64 en ∧ I64 wa ∧ I64 ev ∧ I64 la ∧ I64 po ∧ I64 t ∧ I64 f) (hw : ¬ t ≤ wa) (hk : 2 = kd) :
    Calls Tryz.prog 4 #[.agg #[.int .i64 kd, .int .i64 ba, .int .i64 ra, .int .i64 en, .int .i64 wa, .int .i64 ev, .int .i64 la, .int .i64 po], .int .i64 t, .int .i64 f] w (GotV w (.tuple #[.int .i64 (dropR ba ra (2 ^ f.toNat) (min ((t - wa) / ev) 200).toNat), .int .i64 0])) := by
  subst hk
  have CR : ∀ W : World, Calls Tryz.prog 7 #[.agg #[.int .i64 2, .int .i64 ba, .int .i64 ra, .int .i64 en, .int .i64 wa, .int .i64 ev, .int .i64 la, .int .i64 po], .int .i64 f] W (GotV W (.bool true)) := fun W => by have h := sRight_N W (f := f) (kd := 2) (ba := ba) (ra := ra) (en := en) (wa := wa) (ev := ev) (la := la) (po := po) (by obtain ⟨i_kd, i_ba, i_ra, i_en, i_wa, i_ev, i_la, i_po, i_t, i_f⟩ := hI; exact ⟨i_kd, i_ba, i_ra, i_en, i_wa, i_ev, i_la, i_po, i_f⟩); rw [decide_eq_true hR] at h; exact h
  have CI := fun W : World => sStep_true (w := W) hT
  have t0 : decide (t ≤ wa) = false := decide_eq_false (by omega)
  obtain ⟨f0, f1, b0, w0, d0, p0⟩ := id hR
  obtain ⟨i_kd, i_ba, i_ra, i_en, i_wa, i_ev, i_la, i_po, i_t, i_f⟩ := id hI
  have CK := fun W : World => sDrops_N (w := W) hR hT hI hw rfl
  have CL := fun W : World => sLaws_N (w := W)
  have hIx := sIdx_2
  generalize dropR ba ra (2 ^ f.toNat) (min ((t - wa) / ev) 200).toNat = v at *
  clear f0 f1 b0 w0 d0 p0 i_kd i_ba i_ra i_en i_wa i_ev i_la i_po i_t i_f hR hT hI hw
  have cc := Below.refl w.heap.size w
  go_enter Tryz.func4, Tryz.ntmps4
  go_wp2_with fail
  generalize hv_ : w.alloc (.cells #[.int .i64 2, .int .i64 ba, .int .i64 ra, .int .i64 en, .int .i64 wa, .int .i64 ev, .int .i64 la, .int .i64 po] 23) = v1
  have bA : Below w.heap.size w v1 := by rw [← hv_]; exact ((Below.refl _ w).alloc (by simp) _)
  replace cc := bK cc bA
  clear bA
  have sc0 : v1.cell? ⟨w.heap.size, 0, none⟩ = some (.int .i64 2) := by simp [← hv_, go_sem]
  have sc1 : v1.cell? ⟨w.heap.size, 1, none⟩ = some (.int .i64 ba) := by simp [← hv_, go_sem]
  have sc2 : v1.cell? ⟨w.heap.size, 2, none⟩ = some (.int .i64 ra) := by simp [← hv_, go_sem]
  have sc3 : v1.cell? ⟨w.heap.size, 3, none⟩ = some (.int .i64 en) := by simp [← hv_, go_sem]
  have sc4 : v1.cell? ⟨w.heap.size, 4, none⟩ = some (.int .i64 wa) := by simp [← hv_, go_sem]
  have sc5 : v1.cell? ⟨w.heap.size, 5, none⟩ = some (.int .i64 ev) := by simp [← hv_, go_sem]
  have sc6 : v1.cell? ⟨w.heap.size, 6, none⟩ = some (.int .i64 la) := by simp [← hv_, go_sem]
  have sc7 : v1.cell? ⟨w.heap.size, 7, none⟩ = some (.int .i64 po) := by simp [← hv_, go_sem]
  have scl : w.heap.size < v1.heap.size := by simp [← hv_] <;> omega
  clear hv_
  go_wp2_with fail
  refine (CR _).mono ?_
  rintro e w2 ⟨rfl, b⟩
  rewrite [cR b scl] at sc0 sc1 sc2 sc3 sc4 sc5 sc6 sc7
  replace scl := lK b scl
  replace cc := bK cc b
  clear b
  go_wp2_with fail
  refine (CI _).mono ?_
  rintro e w3 ⟨rfl, b⟩
  rewrite [cR b scl] at sc0 sc1 sc2 sc3 sc4 sc5 sc6 sc7
  replace scl := lK b scl
  replace cc := bK cc b
  clear b
  go_wp2_with fail
  have bD : Below w3.heap.size w3 w3.drew := below_drewN (Below.refl _ w3) 1
  rewrite [cR bD scl] at sc0 sc1 sc2 sc3 sc4 sc5 sc6 sc7
  replace scl := lK bD scl
  replace cc := bK cc bD
  clear bD
  refine wp_region_held_drew (S := fun w' => w'.cell? ⟨w.heap.size, 0, none⟩ = some (.int .i64 2) ∧ w'.cell? ⟨w.heap.size, 1, none⟩ = some (.int .i64 ba) ∧ w'.cell? ⟨w.heap.size, 2, none⟩ = some (.int .i64 ra) ∧ w'.cell? ⟨w.heap.size, 3, none⟩ = some (.int .i64 en) ∧ w'.cell? ⟨w.heap.size, 4, none⟩ = some (.int .i64 wa) ∧ w'.cell? ⟨w.heap.size, 5, none⟩ = some (.int .i64 ev) ∧ w'.cell? ⟨w.heap.size, 6, none⟩ = some (.int .i64 la) ∧ w'.cell? ⟨w.heap.size, 7, none⟩ = some (.int .i64 po)) (by kernel_rfl) ?_ (fun hHeld => ?_)
  · exact ⟨sc0, sc1, sc2, sc3, sc4, sc5, sc6, sc7⟩
  refine tY (i := 1) (v := ?_) rfl ?_ hHeld ?_
  rotate_left
  · (intro w hSw; (try dsimp only at hSw); go_simp; (try with_reducible rfl))
  try simp only [Act.put, pT]
  refine tY (i := 2) (v := ?_) rfl ?_ hHeld ?_
  rotate_left
  · (intro w hSw; (try dsimp only at hSw); go_simp; (try with_reducible rfl))
  try simp only [Act.put, pT]
  refine tY (i := 4) (v := ?_) rfl ?_ hHeld ?_
  rotate_left
  · (intro w hSw; (try dsimp only at hSw); go_simp; (try with_reducible rfl))
  try simp only [Act.put, pT]
  refine tY (i := 5) (v := ?_) rfl ?_ hHeld ?_
  rotate_left
  · (intro w hSw; (try dsimp only at hSw); go_simp; (try with_reducible rfl))
  try simp only [Act.put, pT]
  refine tY (i := 6) (v := ?_) rfl ?_ hHeld ?_
  rotate_left
  · (intro w hSw; (try dsimp only at hSw); go_simp; (try with_reducible rfl))
  try simp only [Act.put, pT]
  refine wpAnyH_ready (rs := [0]) (by kernel_rfl) (by simp) ?_
  refine AllReadyH.cons rfl (fun K hK => ?_) AllReadyH.nil
  (try simp only [pT])
  rw [if_pos (by rfl)]
  go_simp
  go_at_call 11
  refine (CL _).mono ?_
  rintro e w4 ⟨rfl, b⟩
  rewrite [cR b scl] at sc0 sc1 sc2 sc3 sc4 sc5 sc6 sc7
  replace scl := lK b scl
  replace cc := bK cc b
  clear b
  refine hK.out _ _ ?_ (fun hHeld => ?_)
  · exact ⟨sc0, sc1, sc2, sc3, sc4, sc5, sc6, sc7⟩
  clear hK K
  try simp only [Act.put, pT]
  refine tY (i := 3) (v := ?_) rfl ?_ hHeld ?_
  rotate_left
  · (intro w hSw; (try dsimp only at hSw); go_simp; (try with_reducible rfl))
  try simp only [Act.put, pT]
  refine wpAnyH_ready (rs := [7]) (by kernel_rfl) (by simp) ?_
  refine AllReadyH.cons rfl (fun K hK => ?_) AllReadyH.nil
  (try simp only [pT])
  rw [if_pos (by rfl)]
  go_simp
  go_at_call 23
  refine (CK _).mono ?_
  rintro e w5 ⟨rfl, b⟩
  rewrite [cR b scl] at sc0 sc1 sc2 sc3 sc4 sc5 sc6 sc7
  replace scl := lK b scl
  replace cc := bK cc b
  clear b
  refine hK.out _ _ ?_ (fun hHeld => ?_)
  · exact ⟨sc0, sc1, sc2, sc3, sc4, sc5, sc6, sc7⟩
  clear hK K
  try simp only [Act.put, pT]
  refine tY (i := 8) (v := ?_) rfl ?_ hHeld ?_
  rotate_left
  · (intro w hSw; (try dsimp only at hSw); go_simp; (try with_reducible rfl))
  try simp only [Act.put, pT]
  refine tY (i := 9) (v := ?_) rfl ?_ hHeld ?_
  rotate_left
  · (intro w hSw; (try dsimp only at hSw); go_simp; (try with_reducible rfl))
  try simp only [Act.put, pT]
  refine wpAnyH_done (by kernel_rfl) ?_ _
  clear hHeld
  go_wp2_with fail
  go_ret2
  exact ⟨rfl, cc⟩

theorem sRate_poly {w : World} {kd ba ra en wa ev la po t f : Int} (hR : OkR f kd ba ra en wa ev la po) (hT : 1 ≤ t ∧ t ≤ 1000000) (hI : I64 kd ∧ I64 ba ∧ I64 ra ∧ I64 en ∧ I64 wa ∧ I64 ev ∧ I64 la ∧ I64 po ∧ I64 t ∧ I64 f) (hw : ¬ t ≤ wa) (hk : 3 = kd) :
    Calls Tryz.prog 4 #[.agg #[.int .i64 kd, .int .i64 ba, .int .i64 ra, .int .i64 en, .int .i64 wa, .int .i64 ev, .int .i64 la, .int .i64 po], .int .i64 t, .int .i64 f] w (GotV w (.tuple #[.int .i64 (polyR ba en t la po), .int .i64 0])) := by
  subst hk
  have CR : ∀ W : World, Calls Tryz.prog 7 #[.agg #[.int .i64 3, .int .i64 ba, .int .i64 ra, .int .i64 en, .int .i64 wa, .int .i64 ev, .int .i64 la, .int .i64 po], .int .i64 f] W (GotV W (.bool true)) := fun W => by have h := sRight_N W (f := f) (kd := 3) (ba := ba) (ra := ra) (en := en) (wa := wa) (ev := ev) (la := la) (po := po) (by obtain ⟨i_kd, i_ba, i_ra, i_en, i_wa, i_ev, i_la, i_po, i_t, i_f⟩ := hI; exact ⟨i_kd, i_ba, i_ra, i_en, i_wa, i_ev, i_la, i_po, i_f⟩); rw [decide_eq_true hR] at h; exact h
  have CI := fun W : World => sStep_true (w := W) hT
  have t0 : decide (t ≤ wa) = false := decide_eq_false (by omega)
  obtain ⟨f0, f1, b0, w0, d0, p0⟩ := id hR
  obtain ⟨i_kd, i_ba, i_ra, i_en, i_wa, i_ev, i_la, i_po, i_t, i_f⟩ := id hI
  obtain ⟨p1, p2, p3, p4⟩ := p0 rfl
  have CK : ∀ W : World, Calls Tryz.prog 24 #[.agg #[.int .i64 3, .int .i64 ba, .int .i64 ra, .int .i64 en, .int .i64 wa, .int .i64 ev, .int .i64 la, .int .i64 po], .int .i64 t, .int .i64 f] W (GotV W (.int .i64 (polyR ba en t la po))) := fun W => by
    by_cases q : la ≤ t
    · exact sPoly_end q
    · exact sPoly_main (by omega) i_ba p3 p4 p1.1 p1.2 hT.1 p2.1 p2.2
  have CL := fun W : World => sLaws_N (w := W)
  have hIx := sIdx_3
  generalize polyR ba en t la po = v at *
  clear f0 f1 b0 w0 d0 p0 i_kd i_ba i_ra i_en i_wa i_ev i_la i_po i_t i_f hR hT hI hw p1 p2 p3 p4
  have cc := Below.refl w.heap.size w
  go_enter Tryz.func4, Tryz.ntmps4
  go_wp2_with fail
  generalize hv_ : w.alloc (.cells #[.int .i64 3, .int .i64 ba, .int .i64 ra, .int .i64 en, .int .i64 wa, .int .i64 ev, .int .i64 la, .int .i64 po] 23) = v1
  have bA : Below w.heap.size w v1 := by rw [← hv_]; exact ((Below.refl _ w).alloc (by simp) _)
  replace cc := bK cc bA
  clear bA
  have sc0 : v1.cell? ⟨w.heap.size, 0, none⟩ = some (.int .i64 3) := by simp [← hv_, go_sem]
  have sc1 : v1.cell? ⟨w.heap.size, 1, none⟩ = some (.int .i64 ba) := by simp [← hv_, go_sem]
  have sc2 : v1.cell? ⟨w.heap.size, 2, none⟩ = some (.int .i64 ra) := by simp [← hv_, go_sem]
  have sc3 : v1.cell? ⟨w.heap.size, 3, none⟩ = some (.int .i64 en) := by simp [← hv_, go_sem]
  have sc4 : v1.cell? ⟨w.heap.size, 4, none⟩ = some (.int .i64 wa) := by simp [← hv_, go_sem]
  have sc5 : v1.cell? ⟨w.heap.size, 5, none⟩ = some (.int .i64 ev) := by simp [← hv_, go_sem]
  have sc6 : v1.cell? ⟨w.heap.size, 6, none⟩ = some (.int .i64 la) := by simp [← hv_, go_sem]
  have sc7 : v1.cell? ⟨w.heap.size, 7, none⟩ = some (.int .i64 po) := by simp [← hv_, go_sem]
  have scl : w.heap.size < v1.heap.size := by simp [← hv_] <;> omega
  clear hv_
  go_wp2_with fail
  refine (CR _).mono ?_
  rintro e w2 ⟨rfl, b⟩
  rewrite [cR b scl] at sc0 sc1 sc2 sc3 sc4 sc5 sc6 sc7
  replace scl := lK b scl
  replace cc := bK cc b
  clear b
  go_wp2_with fail
  refine (CI _).mono ?_
  rintro e w3 ⟨rfl, b⟩
  rewrite [cR b scl] at sc0 sc1 sc2 sc3 sc4 sc5 sc6 sc7
  replace scl := lK b scl
  replace cc := bK cc b
  clear b
  go_wp2_with fail
  have bD : Below w3.heap.size w3 w3.drew := below_drewN (Below.refl _ w3) 1
  rewrite [cR bD scl] at sc0 sc1 sc2 sc3 sc4 sc5 sc6 sc7
  replace scl := lK bD scl
  replace cc := bK cc bD
  clear bD
  refine wp_region_held_drew (S := fun w' => w'.cell? ⟨w.heap.size, 0, none⟩ = some (.int .i64 3) ∧ w'.cell? ⟨w.heap.size, 1, none⟩ = some (.int .i64 ba) ∧ w'.cell? ⟨w.heap.size, 2, none⟩ = some (.int .i64 ra) ∧ w'.cell? ⟨w.heap.size, 3, none⟩ = some (.int .i64 en) ∧ w'.cell? ⟨w.heap.size, 4, none⟩ = some (.int .i64 wa) ∧ w'.cell? ⟨w.heap.size, 5, none⟩ = some (.int .i64 ev) ∧ w'.cell? ⟨w.heap.size, 6, none⟩ = some (.int .i64 la) ∧ w'.cell? ⟨w.heap.size, 7, none⟩ = some (.int .i64 po)) (by kernel_rfl) ?_ (fun hHeld => ?_)
  · exact ⟨sc0, sc1, sc2, sc3, sc4, sc5, sc6, sc7⟩
  refine tY (i := 1) (v := ?_) rfl ?_ hHeld ?_
  rotate_left
  · (intro w hSw; (try dsimp only at hSw); go_simp; (try with_reducible rfl))
  try simp only [Act.put, pT]
  refine tY (i := 2) (v := ?_) rfl ?_ hHeld ?_
  rotate_left
  · (intro w hSw; (try dsimp only at hSw); go_simp; (try with_reducible rfl))
  try simp only [Act.put, pT]
  refine tY (i := 4) (v := ?_) rfl ?_ hHeld ?_
  rotate_left
  · (intro w hSw; (try dsimp only at hSw); go_simp; (try with_reducible rfl))
  try simp only [Act.put, pT]
  refine tY (i := 5) (v := ?_) rfl ?_ hHeld ?_
  rotate_left
  · (intro w hSw; (try dsimp only at hSw); go_simp; (try with_reducible rfl))
  try simp only [Act.put, pT]
  refine tY (i := 6) (v := ?_) rfl ?_ hHeld ?_
  rotate_left
  · (intro w hSw; (try dsimp only at hSw); go_simp; (try with_reducible rfl))
  try simp only [Act.put, pT]
  refine wpAnyH_ready (rs := [0]) (by kernel_rfl) (by simp) ?_
  refine AllReadyH.cons rfl (fun K hK => ?_) AllReadyH.nil
  (try simp only [pT])
  rw [if_pos (by rfl)]
  go_simp
  go_at_call 11
  refine (CL _).mono ?_
  rintro e w4 ⟨rfl, b⟩
  rewrite [cR b scl] at sc0 sc1 sc2 sc3 sc4 sc5 sc6 sc7
  replace scl := lK b scl
  replace cc := bK cc b
  clear b
  refine hK.out _ _ ?_ (fun hHeld => ?_)
  · exact ⟨sc0, sc1, sc2, sc3, sc4, sc5, sc6, sc7⟩
  clear hK K
  try simp only [Act.put, pT]
  refine tY (i := 3) (v := ?_) rfl ?_ hHeld ?_
  rotate_left
  · (intro w hSw; (try dsimp only at hSw); go_simp; (try with_reducible rfl))
  try simp only [Act.put, pT]
  refine wpAnyH_ready (rs := [7]) (by kernel_rfl) (by simp) ?_
  refine AllReadyH.cons rfl (fun K hK => ?_) AllReadyH.nil
  (try simp only [pT])
  rw [if_pos (by rfl)]
  go_simp
  go_at_call 24
  refine (CK _).mono ?_
  rintro e w5 ⟨rfl, b⟩
  rewrite [cR b scl] at sc0 sc1 sc2 sc3 sc4 sc5 sc6 sc7
  replace scl := lK b scl
  replace cc := bK cc b
  clear b
  refine hK.out _ _ ?_ (fun hHeld => ?_)
  · exact ⟨sc0, sc1, sc2, sc3, sc4, sc5, sc6, sc7⟩
  clear hK K
  try simp only [Act.put, pT]
  refine tY (i := 8) (v := ?_) rfl ?_ hHeld ?_
  rotate_left
  · (intro w hSw; (try dsimp only at hSw); go_simp; (try with_reducible rfl))
  try simp only [Act.put, pT]
  refine tY (i := 9) (v := ?_) rfl ?_ hHeld ?_
  rotate_left
  · (intro w hSw; (try dsimp only at hSw); go_simp; (try with_reducible rfl))
  try simp only [Act.put, pT]
  refine wpAnyH_done (by kernel_rfl) ?_ _
  clear hHeld
  go_wp2_with fail
  go_ret2
  exact ⟨rfl, cc⟩

theorem sRate_N (w : World) {kd ba ra en wa ev la po t f : Int} (hI : I64 kd ∧ I64 ba ∧ I64 ra ∧ I64 en ∧ I64 wa ∧ I64 ev ∧ I64 la ∧ I64 po ∧ I64 t ∧ I64 f) : Calls Tryz.prog 4 #[.agg #[.int .i64 kd, .int .i64 ba, .int .i64 ra, .int .i64 en, .int .i64 wa, .int .i64 ev, .int .i64 la, .int .i64 po], .int .i64 t, .int .i64 f] w (GotV w (.tuple #[.int .i64 (rV f kd ba ra en wa ev la po t), .int .i64 (rE f kd ba ra en wa ev la po t)])) := by
  by_cases hR : OkR f kd ba ra en wa ev la po
  rotate_left
  · unfold rV rE; rw [if_neg (fun h => hR h.1), if_neg (fun h => hR h.1)]; exact sRate_n0 hI hR
  by_cases hT : 1 ≤ t ∧ t ≤ 1000000
  rotate_left
  · unfold rV rE; rw [if_neg (fun h => hT h.2), if_neg (fun h => hT h.2)]; exact sRate_n1 hI hR hT
  unfold rV rE
  rw [if_pos ⟨hR, hT⟩, if_pos ⟨hR, hT⟩]
  unfold rt15
  have hk := hR.2.1
  by_cases hw : t ≤ wa
  · rw [if_pos hw]; exact sRate_warm hR hT hI hw
  rw [if_neg hw]
  by_cases k1 : kd = 1
  · rw [if_pos k1]; exact sRate_root hR hT hI hw k1.symm
  rw [if_neg k1]
  by_cases k3 : kd = 3
  · rw [if_pos k3]; exact sRate_poly hR hT hI hw k3.symm
  rw [if_neg k3]
  by_cases k2 : kd = 2
  · rw [if_pos k2]; exact sRate_drop hR hT hI hw k2.symm
  rw [if_neg k2]
  exact sRate_const hR hT hI hw (by omega)

end Go.Proofs.YtmaolhajeoigpaaGreat

/-
  What the laws of sched lean on: alive.
-/
namespace Go.Proofs.YtmaolhajeoigpaaGreat
set_option maxRecDepth 100000
open Go.RowKit
set_option linter.unusedVariables false
set_option linter.unusedSimpArgs false

instance (z : Int) : Decidable (I64 z) := by unfold I64; infer_instance
set_option maxHeartbeats 8000000 in
theorem alive15_any (w : World) :
    Calls Tryz.prog 6 #[] w (GotV w (.bool true)) := by
  have CA : ∀ W : World, Calls Tryz.prog 4 #[.agg #[.int .i64 1, .int .i64 100, .int .i64 0, .int .i64 0, .int .i64 4, .int .i64 0, .int .i64 0, .int .i64 0], .int .i64 16, .int .i64 0] W (GotV W (.tuple #[.int .i64 50, .int .i64 0])) := fun W => by
    have h := sRate_N W (kd := 1) (ba := 100) (ra := 0) (en := 0) (wa := 4) (ev := 0) (la := 0) (po := 0) (t := 16) (f := 0) (by decide)
    rw [show rV 0 1 100 0 0 4 0 0 0 16 = 50 by decide +kernel, show rE 0 1 100 0 0 4 0 0 0 16 = 0 by decide +kernel] at h
    exact h
  have CB : ∀ W : World, Calls Tryz.prog 4 #[.agg #[.int .i64 1, .int .i64 100, .int .i64 0, .int .i64 0, .int .i64 4, .int .i64 0, .int .i64 0, .int .i64 0], .int .i64 1, .int .i64 0] W (GotV W (.tuple #[.int .i64 25, .int .i64 0])) := fun W => by
    have h := sRate_N W (kd := 1) (ba := 100) (ra := 0) (en := 0) (wa := 4) (ev := 0) (la := 0) (po := 0) (t := 1) (f := 0) (by decide)
    rw [show rV 0 1 100 0 0 4 0 0 0 1 = 25 by decide +kernel, show rE 0 1 100 0 0 4 0 0 0 1 = 0 by decide +kernel] at h
    exact h
  have CC : ∀ W : World, Calls Tryz.prog 4 #[.agg #[.int .i64 1, .int .i64 100, .int .i64 0, .int .i64 0, .int .i64 4, .int .i64 0, .int .i64 0, .int .i64 0], .int .i64 0, .int .i64 0] W (GotV W (.tuple #[.int .i64 0, .int .i64 1])) := fun W => by
    have h := sRate_N W (kd := 1) (ba := 100) (ra := 0) (en := 0) (wa := 4) (ev := 0) (la := 0) (po := 0) (t := 0) (f := 0) (by decide)
    rw [show rV 0 1 100 0 0 4 0 0 0 0 = 0 by decide +kernel, show rE 0 1 100 0 0 4 0 0 0 0 = 1 by decide +kernel] at h
    exact h
  have CR : ∀ W : World, Calls Tryz.prog 7 #[.agg #[.int .i64 1, .int .i64 100, .int .i64 0, .int .i64 0, .int .i64 4, .int .i64 0, .int .i64 0, .int .i64 0], .int .i64 0] W (GotV W (.bool true)) := fun W => by
    have h := sRight_N W (kd := 1) (ba := 100) (ra := 0) (en := 0) (wa := 4) (ev := 0) (la := 0) (po := 0) (f := 0) (by decide)
    rw [show decide (OkR 0 1 100 0 0 4 0 0 0) = true by decide +kernel] at h
    exact h
  have CS : ∀ W : World, Calls Tryz.prog 7 #[.agg #[.int .i64 1, .int .i64 100, .int .i64 0, .int .i64 0, .int .i64 4, .int .i64 0, .int .i64 0, .int .i64 0], .int .i64 41] W (GotV W (.bool false)) := fun W => by
    have h := sRight_N W (kd := 1) (ba := 100) (ra := 0) (en := 0) (wa := 4) (ev := 0) (la := 0) (po := 0) (f := 41) (by decide)
    rw [show decide (OkR 41 1 100 0 0 4 0 0 0) = false by decide +kernel] at h
    exact h
  have cc := Below.refl w.heap.size w
  go_enter Tryz.func6, Tryz.ntmps6
  go_upto_region 2 with fail
  generalize hv_ : w.alloc (.cells #[.int .i64 1, .int .i64 100, .int .i64 0, .int .i64 0, .int .i64 4, .int .i64 0, .int .i64 0, .int .i64 0] 23) = v1
  have bA : Below w.heap.size w v1 := by rw [← hv_]; exact below_one _ _
  replace cc := bK cc bA
  clear bA
  have sb0 : v1.cell? ⟨w.heap.size, 0, none⟩ = some (.int .i64 1) := by simp [← hv_, go_sem]
  have sb1 : v1.cell? ⟨w.heap.size, 1, none⟩ = some (.int .i64 100) := by simp [← hv_, go_sem]
  have sb2 : v1.cell? ⟨w.heap.size, 2, none⟩ = some (.int .i64 0) := by simp [← hv_, go_sem]
  have sb3 : v1.cell? ⟨w.heap.size, 3, none⟩ = some (.int .i64 0) := by simp [← hv_, go_sem]
  have sb4 : v1.cell? ⟨w.heap.size, 4, none⟩ = some (.int .i64 4) := by simp [← hv_, go_sem]
  have sb5 : v1.cell? ⟨w.heap.size, 5, none⟩ = some (.int .i64 0) := by simp [← hv_, go_sem]
  have sb6 : v1.cell? ⟨w.heap.size, 6, none⟩ = some (.int .i64 0) := by simp [← hv_, go_sem]
  have sb7 : v1.cell? ⟨w.heap.size, 7, none⟩ = some (.int .i64 0) := by simp [← hv_, go_sem]
  have sbl : w.heap.size < v1.heap.size := by simp [← hv_]
  clear hv_
  go_wp2_with fail
  refine (CA _).mono ?_
  rintro e w2 ⟨rfl, b⟩
  rewrite [cR b sbl] at sb0 sb1 sb2 sb3 sb4 sb5 sb6 sb7
  replace sbl := lK b sbl
  replace cc := bK cc b
  clear b
  go_wp2_with fail
  refine (CB _).mono ?_
  rintro e w3 ⟨rfl, b⟩
  rewrite [cR b sbl] at sb0 sb1 sb2 sb3 sb4 sb5 sb6 sb7
  replace sbl := lK b sbl
  replace cc := bK cc b
  clear b
  go_wp2_with fail
  refine (CC _).mono ?_
  rintro e w4 ⟨rfl, b⟩
  rewrite [cR b sbl] at sb0 sb1 sb2 sb3 sb4 sb5 sb6 sb7
  replace sbl := lK b sbl
  replace cc := bK cc b
  clear b
  go_wp2_with fail
  refine (CR _).mono ?_
  rintro e w5 ⟨rfl, b⟩
  rewrite [cR b sbl] at sb0 sb1 sb2 sb3 sb4 sb5 sb6 sb7
  replace sbl := lK b sbl
  replace cc := bK cc b
  clear b
  go_wp2_with fail
  refine (CS _).mono ?_
  rintro e w6 ⟨rfl, b⟩
  rewrite [cR b sbl] at sb0 sb1 sb2 sb3 sb4 sb5 sb6 sb7
  replace sbl := lK b sbl
  replace cc := bK cc b
  clear b
  go_wp2_with fail
  go_ret
  exact ⟨rfl, cc⟩

end Go.Proofs.YtmaolhajeoigpaaGreat

/-
  The walk of SchedTells.
-/
namespace Go.Proofs.YtmaolhajeoigpaaGreat
set_option maxRecDepth 100000
open Go.RowKit
set_option linter.unusedVariables false
set_option linter.unusedSimpArgs false

set_option maxHeartbeats 8000000 in
theorem SchedTells_main {w : World} {kd ba ra en wa ev la po t f : Int} (hI : I64 kd ∧ I64 ba ∧ I64 ra ∧ I64 en ∧ I64 wa ∧ I64 ev ∧ I64 la ∧ I64 po ∧ I64 t ∧ I64 f) :
    Calls Tryz.prog 3 #[.agg #[.int .i64 kd, .int .i64 ba, .int .i64 ra, .int .i64 en, .int .i64 wa, .int .i64 ev, .int .i64 la, .int .i64 po], .int .i64 t, .int .i64 f] w fun e w' => e = .returned (.bool true) ∧ Below w.heap.size w w' := by
  have CS := fun W : World => sRate_N W hI
  have CP := fun W : World => rRate15_N (w := W) hI
  have CQ := fun W : World => sRight_N W (kd := kd) (ba := ba) (ra := ra) (en := en) (wa := wa) (ev := ev) (la := la) (po := po) (f := f) (by obtain ⟨i_kd, i_ba, i_ra, i_en, i_wa, i_ev, i_la, i_po, i_t, i_f⟩ := hI; exact ⟨i_kd, i_ba, i_ra, i_en, i_wa, i_ev, i_la, i_po, i_f⟩)
  have CR := fun W : World => rRight15_N (w := W) (kd := kd) (ba := ba) (ra := ra) (en := en) (wa := wa) (ev := ev) (la := la) (po := po) (f := f)
  generalize rV f kd ba ra en wa ev la po t = v at *
  generalize rE f kd ba ra en wa ev la po t = e_ at *
  generalize decide (OkR f kd ba ra en wa ev la po) = r at *
  have vv : (v == v) = true := beq_self_eq_true _
  have vn : (v != v) = false := by simp
  have ee : (e_ == e_) = true := beq_self_eq_true _
  have rr : (r == r) = true := by simp
  clear hI
  have cc := Below.refl w.heap.size w
  go_enter Tryz.func3, Tryz.ntmps3
  go_wp2_with fail
  generalize hv_ : w.alloc (.cells #[.int .i64 kd, .int .i64 ba, .int .i64 ra, .int .i64 en, .int .i64 wa, .int .i64 ev, .int .i64 la, .int .i64 po] 23) = v1
  have bA : Below w.heap.size w v1 := by rw [← hv_]; exact ((Below.refl _ w).alloc (by simp) _)
  replace cc := bK cc bA
  clear bA
  have sc0 : v1.cell? ⟨w.heap.size, 0, none⟩ = some (.int .i64 kd) := by simp [← hv_, go_sem]
  have sc1 : v1.cell? ⟨w.heap.size, 1, none⟩ = some (.int .i64 ba) := by simp [← hv_, go_sem]
  have sc2 : v1.cell? ⟨w.heap.size, 2, none⟩ = some (.int .i64 ra) := by simp [← hv_, go_sem]
  have sc3 : v1.cell? ⟨w.heap.size, 3, none⟩ = some (.int .i64 en) := by simp [← hv_, go_sem]
  have sc4 : v1.cell? ⟨w.heap.size, 4, none⟩ = some (.int .i64 wa) := by simp [← hv_, go_sem]
  have sc5 : v1.cell? ⟨w.heap.size, 5, none⟩ = some (.int .i64 ev) := by simp [← hv_, go_sem]
  have sc6 : v1.cell? ⟨w.heap.size, 6, none⟩ = some (.int .i64 la) := by simp [← hv_, go_sem]
  have sc7 : v1.cell? ⟨w.heap.size, 7, none⟩ = some (.int .i64 po) := by simp [← hv_, go_sem]
  have scl : w.heap.size < v1.heap.size := by simp [← hv_] <;> omega
  clear hv_
  go_wp2_with fail
  refine (CS _).mono ?_
  rintro e w2 ⟨rfl, b⟩
  rewrite [cR b scl] at sc0 sc1 sc2 sc3 sc4 sc5 sc6 sc7
  replace scl := lK b scl
  replace cc := bK cc b
  clear b
  go_wp2_with fail
  refine (CP _).mono ?_
  rintro e w3 ⟨rfl, b⟩
  rewrite [cR b scl] at sc0 sc1 sc2 sc3 sc4 sc5 sc6 sc7
  replace scl := lK b scl
  replace cc := bK cc b
  clear b
  go_wp2_with fail
  have bD : Below w3.heap.size w3 w3.drew := below_drewN (Below.refl _ w3) 1
  rewrite [cR bD scl] at sc0 sc1 sc2 sc3 sc4 sc5 sc6 sc7
  replace scl := lK bD scl
  replace cc := bK cc bD
  clear bD
  refine wp_region_held_drew (S := fun w' => w'.cell? ⟨w.heap.size, 0, none⟩ = some (.int .i64 kd) ∧ w'.cell? ⟨w.heap.size, 1, none⟩ = some (.int .i64 ba) ∧ w'.cell? ⟨w.heap.size, 2, none⟩ = some (.int .i64 ra) ∧ w'.cell? ⟨w.heap.size, 3, none⟩ = some (.int .i64 en) ∧ w'.cell? ⟨w.heap.size, 4, none⟩ = some (.int .i64 wa) ∧ w'.cell? ⟨w.heap.size, 5, none⟩ = some (.int .i64 ev) ∧ w'.cell? ⟨w.heap.size, 6, none⟩ = some (.int .i64 la) ∧ w'.cell? ⟨w.heap.size, 7, none⟩ = some (.int .i64 po)) (by kernel_rfl) ?_ (fun hHeld => ?_)
  · exact ⟨sc0, sc1, sc2, sc3, sc4, sc5, sc6, sc7⟩
  refine wpAnyH_ready (rs := [0]) (by kernel_rfl) (by simp) ?_
  refine AllReadyH.cons rfl (fun K hK => ?_) AllReadyH.nil
  (try simp only [pT])
  rw [if_pos (by rfl)]
  go_simp
  go_at_call 6
  refine (alive15_any _).mono ?_
  rintro e w4 ⟨rfl, b⟩
  rewrite [cR b scl] at sc0 sc1 sc2 sc3 sc4 sc5 sc6 sc7
  replace scl := lK b scl
  replace cc := bK cc b
  clear b
  refine hK.out _ _ ?_ (fun hHeld => ?_)
  · exact ⟨sc0, sc1, sc2, sc3, sc4, sc5, sc6, sc7⟩
  clear hK K
  try simp only [Act.put, pT]
  refine tY (i := 1) (v := ?_) rfl ?_ hHeld ?_
  rotate_left
  · (intro w hSw; (try dsimp only at hSw); go_simp; (try with_reducible rfl))
  try simp only [Act.put, pT]
  refine tY (i := 2) (v := ?_) rfl ?_ hHeld ?_
  rotate_left
  · (intro w hSw; (try dsimp only at hSw); go_simp; (try with_reducible rfl))
  try simp only [Act.put, pT]
  refine tY (i := 3) (v := ?_) rfl ?_ hHeld ?_
  rotate_left
  · (intro w hSw; (try dsimp only at hSw); go_simp; (try with_reducible rfl))
  try simp only [Act.put, pT]
  refine tY (i := 5) (v := ?_) rfl ?_ hHeld ?_
  rotate_left
  · (intro w hSw; (try dsimp only at hSw); go_simp; (try with_reducible rfl))
  try simp only [Act.put, pT]
  refine tY (i := 6) (v := ?_) rfl ?_ hHeld ?_
  rotate_left
  · (intro w hSw; (try dsimp only at hSw); go_simp; (try with_reducible rfl))
  try simp only [Act.put, pT]
  refine wpAnyH_ready (rs := [4]) (by kernel_rfl) (by simp) ?_
  refine AllReadyH.cons rfl (fun K hK => ?_) AllReadyH.nil
  (try simp only [pT])
  rw [if_pos (by rfl)]
  go_simp
  go_at_call 7
  refine (CQ _).mono ?_
  rintro e w5 ⟨rfl, b⟩
  rewrite [cR b scl] at sc0 sc1 sc2 sc3 sc4 sc5 sc6 sc7
  replace scl := lK b scl
  replace cc := bK cc b
  clear b
  refine hK.out _ _ ?_ (fun hHeld => ?_)
  · exact ⟨sc0, sc1, sc2, sc3, sc4, sc5, sc6, sc7⟩
  clear hK K
  try simp only [Act.put, pT]
  refine wpAnyH_ready (rs := [7]) (by kernel_rfl) (by simp) ?_
  refine AllReadyH.cons rfl (fun K hK => ?_) AllReadyH.nil
  (try simp only [pT])
  rw [if_pos (by rfl)]
  go_simp
  go_at_call 8
  refine (CR _).mono ?_
  rintro e w6 ⟨rfl, b⟩
  rewrite [cR b scl] at sc0 sc1 sc2 sc3 sc4 sc5 sc6 sc7
  replace scl := lK b scl
  replace cc := bK cc b
  clear b
  refine hK.out _ _ ?_ (fun hHeld => ?_)
  · exact ⟨sc0, sc1, sc2, sc3, sc4, sc5, sc6, sc7⟩
  clear hK K
  try simp only [Act.put, pT]
  refine tY (i := 8) (v := ?_) rfl ?_ hHeld ?_
  rotate_left
  · (intro w hSw; (try dsimp only at hSw); go_simp; (try with_reducible rfl))
  try simp only [Act.put, pT]
  refine tY (i := 9) (v := ?_) rfl ?_ hHeld ?_
  rotate_left
  · (intro w hSw; (try dsimp only at hSw); go_simp; (try with_reducible rfl))
  try simp only [Act.put, pT]
  refine tY (i := 10) (v := ?_) rfl ?_ hHeld ?_
  rotate_left
  · (intro w hSw; (try dsimp only at hSw); go_simp; (try with_reducible rfl))
  try simp only [Act.put, pT]
  refine tY (i := 11) (v := ?_) rfl ?_ hHeld ?_
  rotate_left
  · (intro w hSw; (try dsimp only at hSw); go_simp; (try with_reducible rfl))
  try simp only [Act.put, pT]
  refine tY (i := 12) (v := ?_) rfl ?_ hHeld ?_
  rotate_left
  · (intro w hSw; (try dsimp only at hSw); go_simp; (try with_reducible rfl))
  try simp only [Act.put, pT]
  refine tY (i := 13) (v := ?_) rfl ?_ hHeld ?_
  rotate_left
  · (intro w hSw; (try dsimp only at hSw); go_simp; (try with_reducible rfl))
  try simp only [Act.put, pT]
  refine tY (i := 14) (v := ?_) rfl ?_ hHeld ?_
  rotate_left
  · (intro w hSw; (try dsimp only at hSw); go_simp; (try with_reducible rfl))
  try simp only [Act.put, pT]
  refine tY (i := 15) (v := ?_) rfl ?_ hHeld ?_
  rotate_left
  · (intro w hSw; (try dsimp only at hSw); go_simp; (try with_reducible rfl))
  try simp only [Act.put, pT]
  refine tY (i := 16) (v := ?_) rfl ?_ hHeld ?_
  rotate_left
  · (intro w hSw; (try dsimp only at hSw); go_simp; (try with_reducible rfl))
  try simp only [Act.put, pT]
  refine tY (i := 17) (v := ?_) rfl ?_ hHeld ?_
  rotate_left
  · (intro w hSw; (try dsimp only at hSw); go_simp; (try with_reducible rfl))
  try simp only [Act.put, pT]
  refine tY (i := 18) (v := ?_) rfl ?_ hHeld ?_
  rotate_left
  · (intro w hSw; (try dsimp only at hSw); go_simp; (try with_reducible rfl))
  try simp only [Act.put, pT]
  refine tY (i := 19) (v := ?_) rfl ?_ hHeld ?_
  rotate_left
  · (intro w hSw; (try dsimp only at hSw); go_simp; (try with_reducible rfl))
  try simp only [Act.put, pT]
  refine tY (i := 20) (v := ?_) rfl ?_ hHeld ?_
  rotate_left
  · (intro w hSw; (try dsimp only at hSw); go_simp; (try with_reducible rfl))
  try simp only [Act.put, pT]
  refine wpAnyH_done (by kernel_rfl) ?_ _
  clear hHeld
  go_wp2_with fail
  go_ret
  exact ⟨rfl, cc⟩

end Go.Proofs.YtmaolhajeoigpaaGreat

/-
  The walk of SchedTells, as its frame takes it.
-/
namespace Go.Proofs.YtmaolhajeoigpaaGreat
set_option maxRecDepth 100000
open Go.RowKit
set_option linter.unusedVariables false
set_option linter.unusedSimpArgs false

theorem SchedTells_walk {w : World} {kd ba ra en wa ev la po : Int} (i_kd : I64 kd) (i_ba : I64 ba) (i_ra : I64 ra) (i_en : I64 en) (i_wa : I64 wa) (i_ev : I64 ev) (i_la : I64 la) (i_po : I64 po) (t : Int) (wt_ : (Lit.int .i64 t).wf = true) (f : Int) (wf_ : (Lit.int .i64 f).wf = true) : Calls Tryz.prog 3 #[.agg #[.int .i64 kd, .int .i64 ba, .int .i64 ra, .int .i64 en, .int .i64 wa, .int .i64 ev, .int .i64 la, .int .i64 po], .int .i64 t, .int .i64 f] w fun e w' => e = .returned (.bool true) ∧ Below w.heap.size w w' := SchedTells_main ⟨i_kd, i_ba, i_ra, i_en, i_wa, i_ev, i_la, i_po, bounds_i64 wt_, bounds_i64 wf_⟩
end Go.Proofs.YtmaolhajeoigpaaGreat
