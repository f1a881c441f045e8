/-
  Several texts in one: JSb, C15c, KS, H7, H8, K9, C15d, V1, V2.
-/
import Derived.Test.YtmaolhajeoigpaaGreatA9
import Derived.Test.YtmaolhajeoigpaaGreatA5
import Derived.Test.YtmaolhajeoigpaaGreatA4
import Derived.Test.YtmaolhajeoigpaaGreatA2
import Derived.Test.YtmaolhajeoigpaaGreatA3
import Derived.Test.YtmaolhajeoigpaaGreatA7
import Derived.Test.YtmaolhajeoigpaaGreatA1

/-
  The contracts of the landed sched: stay, byRoot.
-/
namespace Go.Proofs.YtmaolhajeoigpaaGreat
set_option maxRecDepth 100000
set_option maxHeartbeats 8000000
open Go.RowKit
set_option linter.unusedVariables false
set_option linter.unusedSimpArgs false

theorem sStay_N {w : World} {kd ba ra en wa ev la po t f : Int} :
    Calls Tryz.prog 21 #[.agg #[.int .i64 kd, .int .i64 ba, .int .i64 ra, .int .i64 en, .int .i64 wa, .int .i64 ev, .int .i64 la, .int .i64 po], .int .i64 t, .int .i64 f] w (GotV w (.int .i64 ba)) := by
  have cc := Below.refl w.heap.size w
  go_enter Tryz.func21, Tryz.ntmps21
  go_wp2_with fail
  generalize hv_ : w.alloc (.cells #[.int .i64 kd, .int .i64 ba, .int .i64 ra, .int .i64 en, .int .i64 wa, .int .i64 ev, .int .i64 la, .int .i64 po] 23) = v1
  have bA : Below w.heap.size w v1 := by rw [← hv_]; exact ((Below.refl _ w).alloc (by simp) _)
  replace cc := bK cc bA
  clear bA
  have sc0 : v1.cell? ⟨w.heap.size, 0, none⟩ = some (.int .i64 kd) := by simp [← hv_, go_sem]
  have sc1 : v1.cell? ⟨w.heap.size, 1, none⟩ = some (.int .i64 ba) := by simp [← hv_, go_sem]
  have sc2 : v1.cell? ⟨w.heap.size, 2, none⟩ = some (.int .i64 ra) := by simp [← hv_, go_sem]
  have sc3 : v1.cell? ⟨w.heap.size, 3, none⟩ = some (.int .i64 en) := by simp [← hv_, go_sem]
  have sc4 : v1.cell? ⟨w.heap.size, 4, none⟩ = some (.int .i64 wa) := by simp [← hv_, go_sem]
  have sc5 : v1.cell? ⟨w.heap.size, 5, none⟩ = some (.int .i64 ev) := by simp [← hv_, go_sem]
  have sc6 : v1.cell? ⟨w.heap.size, 6, none⟩ = some (.int .i64 la) := by simp [← hv_, go_sem]
  have sc7 : v1.cell? ⟨w.heap.size, 7, none⟩ = some (.int .i64 po) := by simp [← hv_, go_sem]
  have scl : w.heap.size < v1.heap.size := by simp [← hv_] <;> omega
  clear hv_
  go_wp2_with fail
  go_ret
  exact ⟨rfl, cc⟩

attribute [local go_sem ↓] mx15_run

theorem sRoot_N {w : World} {kd ba ra en wa ev la po t f : Int} (h0 : 0 ≤ wa) (h2 : wa ≤ 1000000) (hb : 0 ≤ ba) (hi : I64 ba) (ht : wa < t) (h1 : 1 ≤ t) (h3 : t ≤ 1000000) :
    Calls Tryz.prog 22 #[.agg #[.int .i64 kd, .int .i64 ba, .int .i64 ra, .int .i64 en, .int .i64 wa, .int .i64 ev, .int .i64 la, .int .i64 po], .int .i64 t, .int .i64 f] w (GotV w (.int .i64 (fellR ba wa t))) := by
  obtain ⟨bn, rfl⟩ : ∃ n : Nat, ba = (n : Int) := ⟨ba.toNat, by omega⟩
  obtain ⟨tn, rfl⟩ : ∃ n : Nat, t = (n : Int) := ⟨t.toNat, by omega⟩
  obtain ⟨mn, em⟩ : ∃ n : Nat, mx15 wa = (n : Int) := ⟨(mx15 wa).toNat, by unfold mx15; omega⟩
  have hm1 : 1 ≤ mn ∧ mn ≤ 1000000 := by unfold mx15 at em; omega
  obtain ⟨f0, f1⟩ := fell_le hb ht h1
  have HF : Hid (fellR (bn : Int) wa (tn : Int) = ((iroot 2 (bn * bn * mn / tn) : Nat) : Int)) := Lib.hid (by unfold fellR; rw [show max wa 1 = (mn : Int) from em, Int.toNat_natCast, Int.toNat_natCast, Int.toNat_natCast])
  rw [HF.out] at f0 f1 ⊢
  obtain ⟨r, er⟩ : ∃ r, iroot 2 (bn * bn * mn / tn) = r := ⟨_, rfl⟩
  rw [er] at f0 f1 ⊢
  have b64 : bn < B64 := by unfold I64 at hi; unfold B64; omega
  have m64 : mn < B64 := by unfold B64; omega
  have n64 : tn < B64 := by unfold B64; omega
  have CB := fun W : World => of_N W bn b64
  have CM := fun W : World => of_N W mn m64
  have CT := fun W : World => of_N W tn n64
  have lb := len_one b64
  have lm := len_one m64
  have lt := len_one n64
  have lbb := limbs_length_mul lb lb
  have lbm := limbs_length_mul lbb lm
  have ln : (limbs (bn * bn * mn / tn)).length ≤ 100 := Nat.le_trans (limbs_length_mono (Nat.div_le_self _ _)) (by omega)
  have k1 : IntKind.u64.wrap (bn : Int) = (bn : Int) := by rw [IntKind.wrap_u64]; unfold B64 at b64; omega
  have k2 : IntKind.u64.wrap (mx15 wa) = (mn : Int) := by rw [em, IntKind.wrap_u64]; omega
  have k3 : IntKind.u64.wrap (tn : Int) = (tn : Int) := by rw [IntKind.wrap_u64]; omega
  have k4 : IntKind.u64.wrap (mn : Int) = (mn : Int) := by rw [IntKind.wrap_u64]; omega
  have ir : I64 (r : Int) := by unfold I64 at hi ⊢; omega
  have tn0 : tn ≠ 0 := by omega
  have CR := fun {W : World} {A : Option Addr} {n c : Nat} (h : Num W A n c (bn * bn * mn / tn)) => root_N (k := 2) h ln (by omega) (by omega)
  rw [er] at CR
  have HLB := Lib.hid lb
  have HLBB := Lib.hid lbb
  have HLBM := Lib.hid lbm
  have HLM := Lib.hid lm
  have HLT := Lib.hid lt
  have HIR := Lib.hid ir
  have HTN := Lib.hid tn0
  clear hb ht h1 h2 hi f0 f1 b64 m64 n64 hm1 lb lbb lbm lm lt ln er ir tn0 HF h0 h3
  have cc := Below.refl w.heap.size w
  go_enter Tryz.func22, Tryz.ntmps22
  go_wp2_with fail
  generalize hv_ : w.alloc (.cells #[.int .i64 kd, .int .i64 (bn : Int), .int .i64 ra, .int .i64 en, .int .i64 wa, .int .i64 ev, .int .i64 la, .int .i64 po] 23) = v1
  have bA : Below w.heap.size w v1 := by rw [← hv_]; exact ((Below.refl _ w).alloc (by simp) _)
  replace cc := bK cc bA
  clear bA
  have sc0 : v1.cell? ⟨w.heap.size, 0, none⟩ = some (.int .i64 kd) := by simp [← hv_, go_sem]
  have sc1 : v1.cell? ⟨w.heap.size, 1, none⟩ = some (.int .i64 (bn : Int)) := by simp [← hv_, go_sem]
  have sc2 : v1.cell? ⟨w.heap.size, 2, none⟩ = some (.int .i64 ra) := by simp [← hv_, go_sem]
  have sc3 : v1.cell? ⟨w.heap.size, 3, none⟩ = some (.int .i64 en) := by simp [← hv_, go_sem]
  have sc4 : v1.cell? ⟨w.heap.size, 4, none⟩ = some (.int .i64 wa) := by simp [← hv_, go_sem]
  have sc5 : v1.cell? ⟨w.heap.size, 5, none⟩ = some (.int .i64 ev) := by simp [← hv_, go_sem]
  have sc6 : v1.cell? ⟨w.heap.size, 6, none⟩ = some (.int .i64 la) := by simp [← hv_, go_sem]
  have sc7 : v1.cell? ⟨w.heap.size, 7, none⟩ = some (.int .i64 po) := by simp [← hv_, go_sem]
  have scl : w.heap.size < v1.heap.size := by simp [← hv_] <;> omega
  clear hv_
  go_wp2_with fail
  refine (CB _).mono ?_
  rintro e w2 ⟨Ab, nb, cb, rfl, hb, b⟩
  rewrite [cR b scl] at sc0 sc1 sc2 sc3 sc4 sc5 sc6 sc7
  replace scl := lK b scl
  replace cc := bK cc b
  clear b
  go_wp2_with fail
  have bD : Below w2.heap.size w2 w2.drew := below_drewN (Below.refl _ w2) 1
  replace hb := hb.on bD
  rewrite [cR bD scl] at sc0 sc1 sc2 sc3 sc4 sc5 sc6 sc7
  replace scl := lK bD scl
  replace cc := bK cc bD
  clear bD
  refine wp_region_held_drew (S := fun w' => w'.cell? ⟨w.heap.size, 0, none⟩ = some (.int .i64 kd) ∧ w'.cell? ⟨w.heap.size, 1, none⟩ = some (.int .i64 (bn : Int)) ∧ w'.cell? ⟨w.heap.size, 2, none⟩ = some (.int .i64 ra) ∧ w'.cell? ⟨w.heap.size, 3, none⟩ = some (.int .i64 en) ∧ w'.cell? ⟨w.heap.size, 4, none⟩ = some (.int .i64 wa) ∧ w'.cell? ⟨w.heap.size, 5, none⟩ = some (.int .i64 ev) ∧ w'.cell? ⟨w.heap.size, 6, none⟩ = some (.int .i64 la) ∧ w'.cell? ⟨w.heap.size, 7, none⟩ = some (.int .i64 po)) (by kernel_rfl) ?_ (fun hHeld => ?_)
  · exact ⟨sc0, sc1, sc2, sc3, sc4, sc5, sc6, sc7⟩
  refine tY (i := 0) (v := ?_) rfl ?_ hHeld ?_
  rotate_left
  · (intro w hSw; (try dsimp only at hSw); go_simp; (try with_reducible rfl))
  try simp only [Act.put, pT]
  refine tY (i := 1) (v := ?_) rfl ?_ hHeld ?_
  rotate_left
  · (intro w hSw; (try dsimp only at hSw); go_simp; (try with_reducible rfl))
  try simp only [Act.put, pT]
  refine tY (i := 3) (v := ?_) rfl ?_ hHeld ?_
  rotate_left
  · (intro w hSw; (try dsimp only at hSw); go_simp; (try with_reducible rfl))
  try simp only [Act.put, pT]
  refine tY (i := 4) (v := ?_) rfl ?_ hHeld ?_
  rotate_left
  · (intro w hSw; (try dsimp only at hSw); go_simp; (try with_reducible rfl))
  try simp only [Act.put, pT]
  refine tY (i := 5) (v := ?_) rfl ?_ hHeld ?_
  rotate_left
  · (intro w hSw; (try dsimp only at hSw); go_simp; (try with_reducible rfl))
  try simp only [Act.put, pT]
  refine tY (i := 6) (v := ?_) rfl ?_ hHeld ?_
  rotate_left
  · (intro w hSw; (try dsimp only at hSw); go_simp; (try with_reducible rfl))
  try simp only [Act.put, pT]
  refine wpAnyH_ready (rs := [2]) (by kernel_rfl) (by simp) ?_
  refine AllReadyH.cons rfl (fun K hK => ?_) AllReadyH.nil
  (try simp only [pT])
  rw [if_pos (by rfl)]
  go_simp
  go_at_call 42
  refine (mul_N hb hb (Nat.le_trans HLB.out (by omega)) (Nat.le_trans HLB.out (by omega))).mono ?_
  rintro e w3 ⟨Ap, np, cp, rfl, hp, b⟩
  replace hb := hb.on b
  rewrite [cR b scl] at sc0 sc1 sc2 sc3 sc4 sc5 sc6 sc7
  replace scl := lK b scl
  replace cc := bK cc b
  clear b
  refine hK.out _ _ ?_ (fun hHeld => ?_)
  · exact ⟨sc0, sc1, sc2, sc3, sc4, sc5, sc6, sc7⟩
  clear hK K
  try simp only [Act.put, pT]
  refine wpAnyH_ready (rs := [7]) (by kernel_rfl) (by simp) ?_
  refine AllReadyH.cons rfl (fun K hK => ?_) AllReadyH.nil
  (try simp only [pT])
  rw [if_pos (by rfl)]
  go_simp
  go_at_call 40
  refine (CM _).mono ?_
  rintro e w4 ⟨Am, nm, cm, rfl, hm, b⟩
  replace hb := hb.on b
  replace hp := hp.on b
  rewrite [cR b scl] at sc0 sc1 sc2 sc3 sc4 sc5 sc6 sc7
  replace scl := lK b scl
  replace cc := bK cc b
  clear b
  refine hK.out _ _ ?_ (fun hHeld => ?_)
  · exact ⟨sc0, sc1, sc2, sc3, sc4, sc5, sc6, sc7⟩
  clear hK K
  try simp only [Act.put, pT]
  refine wpAnyH_ready (rs := [8]) (by kernel_rfl) (by simp) ?_
  refine AllReadyH.cons rfl (fun K hK => ?_) AllReadyH.nil
  (try simp only [pT])
  rw [if_pos (by rfl)]
  go_simp
  go_at_call 42
  refine (mul_N hp hm (Nat.le_trans HLBB.out (by omega)) (Nat.le_trans HLM.out (by omega))).mono ?_
  rintro e w5 ⟨Aq, nq, cq, rfl, hq, b⟩
  replace hb := hb.on b
  replace hp := hp.on b
  replace hm := hm.on b
  rewrite [cR b scl] at sc0 sc1 sc2 sc3 sc4 sc5 sc6 sc7
  replace scl := lK b scl
  replace cc := bK cc b
  clear b
  refine hK.out _ _ ?_ (fun hHeld => ?_)
  · exact ⟨sc0, sc1, sc2, sc3, sc4, sc5, sc6, sc7⟩
  clear hK K
  try simp only [Act.put, pT]
  refine tY (i := 9) (v := ?_) rfl ?_ hHeld ?_
  rotate_left
  · (intro w hSw; (try dsimp only at hSw); go_simp; (try with_reducible rfl))
  try simp only [Act.put, pT]
  refine wpAnyH_done (by kernel_rfl) ?_ _
  clear hHeld
  go_wp2_with fail
  refine (CT _).mono ?_
  rintro e w6 ⟨As, ns, cs, rfl, hs, b⟩
  replace hb := hb.on b
  replace hp := hp.on b
  replace hm := hm.on b
  replace hq := hq.on b
  rewrite [cR b scl] at sc0 sc1 sc2 sc3 sc4 sc5 sc6 sc7
  replace scl := lK b scl
  replace cc := bK cc b
  clear b
  go_wp2_with fail
  refine (ddiv_N hq hs (Nat.le_trans HLBM.out (by omega)) (Nat.le_trans HLT.out (by omega)) HTN.out).mono ?_
  rintro e w7 ⟨Ad, nd, cd, Ae, ne_, ce, rfl, hd, he, b⟩
  replace hb := hb.on b
  replace hp := hp.on b
  replace hm := hm.on b
  replace hq := hq.on b
  replace hs := hs.on b
  rewrite [cR b scl] at sc0 sc1 sc2 sc3 sc4 sc5 sc6 sc7
  replace scl := lK b scl
  replace cc := bK cc b
  clear b
  clear he
  go_wp2_with fail
  refine (CR hd).mono ?_
  rintro e w8 ⟨Ar, nr_, cr, rfl, hr, b⟩
  replace hb := hb.on b
  replace hp := hp.on b
  replace hm := hm.on b
  replace hq := hq.on b
  replace hs := hs.on b
  replace hd := hd.on b
  rewrite [cR b scl] at sc0 sc1 sc2 sc3 sc4 sc5 sc6 sc7
  replace scl := lK b scl
  replace cc := bK cc b
  clear b
  have hz : Zn w8 false Ar nr_ cr (r : Int) := ⟨by rw [Int.natAbs_natCast]; exact hr, by simp⟩
  clear hr
  go_wp2_with fail
  refine (zint_yes hz HIR.out).mono ?_
  rintro e w9 ⟨rfl, b⟩
  replace hz := hz.on b
  rewrite [cR b scl] at sc0 sc1 sc2 sc3 sc4 sc5 sc6 sc7
  replace scl := lK b scl
  replace cc := bK cc b
  clear b
  go_wp2_with fail
  go_ret
  exact ⟨rfl, cc⟩

end Go.Proofs.YtmaolhajeoigpaaGreat

/-
  The contract of the fifteenth reference: poly.
-/
namespace Go.Proofs.YtmaolhajeoigpaaGreat
set_option maxRecDepth 100000
set_option maxHeartbeats 8000000
open Go.RowKit
set_option linter.unusedVariables false
set_option linter.unusedSimpArgs false

/-- A number, so often times a share. -/
def pX (a : Int) (Y : Rat) : Nat → Rat
  | 0 => (a : Rat)
  | i + 1 => pX a Y i * Y
theorem pX_sz {a : Int} {Y : Rat} (ha : (limbs a.natAbs).length ≤ 1) (hY : Sz Y 1) : ∀ i, Sz (pX a Y i) (1 + i)
  | 0 => sz_of ha
  | i + 1 => (pX_sz ha hY i).mul hY
theorem pX_times {a : Int} {n : Int} {d : Nat} (hd : d ≠ 0) : ∀ i, pX a (mkRat n d) i * ((d ^ i : Nat) : Rat) = ((a * n ^ i : Int) : Rat)
  | 0 => by show (a : Rat) * ((1 : Nat) : Rat) = ((a * n ^ 0 : Int) : Rat); rw [Int.pow_zero, Int.mul_one]; exact Rat.mul_one _
  | i + 1 => by
    have h := pX_times (a := a) (n := n) hd i
    have h2 := mk_times n d hd
    have e1 : ((d ^ (i + 1) : Nat) : Rat) = ((d ^ i : Nat) : Rat) * ((d : Nat) : Rat) := by rw [Nat.pow_succ]; exact Rat.natCast_mul _ _
    show pX a (mkRat n d) i * mkRat n d * ((d ^ (i + 1) : Nat) : Rat) = _
    rw [e1, Int.pow_succ, show a * (n ^ i * n) = a * n ^ i * n by rw [Int.mul_assoc], Rat.intCast_mul, ← h, ← h2]
    grind
theorem pX_nea {a : Int} {n : Int} {d : Nat} (hd : d ≠ 0) (i : Nat) : nea (pX a (mkRat n d) i) 0 = rn (a * n ^ i) (d ^ i) := by
  have h := rn_of (Nat.ne_of_gt (Nat.pow_pos (Nat.pos_of_ne_zero hd))) (pX_times (a := a) (n := n) hd i)
  rw [← h]
  unfold nea
  rw [show dw 0 = 1 from rfl, Rat.mul_one]

theorem rpoly15_end {w : World} {kd ba ra en wa ev la po t : Int} (h : la ≤ t) :
    Calls Tryz.prog 15 #[.agg #[.int .i64 kd, .int .i64 ba, .int .i64 ra, .int .i64 en, .int .i64 wa, .int .i64 ev, .int .i64 la, .int .i64 po], .int .i64 t] w (GotV w (.int .i64 (polyR ba en t la po))) := by
  have t0 : decide (la ≤ t) = true := decide_eq_true h
  have e : polyR ba en t la po = en := by unfold polyR; rw [if_pos h]
  rw [e]
  clear h e
  have cc := Below.refl w.heap.size w
  go_enter Tryz.func15, Tryz.ntmps15
  go_wp2_with fail
  generalize hv_ : w.alloc (.cells #[.int .i64 kd, .int .i64 ba, .int .i64 ra, .int .i64 en, .int .i64 wa, .int .i64 ev, .int .i64 la, .int .i64 po] 23) = v1
  have bA : Below w.heap.size w v1 := by rw [← hv_]; exact ((Below.refl _ w).alloc (by simp) _)
  replace cc := bK cc bA
  clear bA
  have sc0 : v1.cell? ⟨w.heap.size, 0, none⟩ = some (.int .i64 kd) := by simp [← hv_, go_sem]
  have sc1 : v1.cell? ⟨w.heap.size, 1, none⟩ = some (.int .i64 ba) := by simp [← hv_, go_sem]
  have sc2 : v1.cell? ⟨w.heap.size, 2, none⟩ = some (.int .i64 ra) := by simp [← hv_, go_sem]
  have sc3 : v1.cell? ⟨w.heap.size, 3, none⟩ = some (.int .i64 en) := by simp [← hv_, go_sem]
  have sc4 : v1.cell? ⟨w.heap.size, 4, none⟩ = some (.int .i64 wa) := by simp [← hv_, go_sem]
  have sc5 : v1.cell? ⟨w.heap.size, 5, none⟩ = some (.int .i64 ev) := by simp [← hv_, go_sem]
  have sc6 : v1.cell? ⟨w.heap.size, 6, none⟩ = some (.int .i64 la) := by simp [← hv_, go_sem]
  have sc7 : v1.cell? ⟨w.heap.size, 7, none⟩ = some (.int .i64 po) := by simp [← hv_, go_sem]
  have scl : w.heap.size < v1.heap.size := by simp [← hv_] <;> omega
  clear hv_
  go_wp2_with fail
  go_ret
  exact ⟨rfl, cc⟩

theorem rpoly15_main {w : World} {kd ba ra en wa ev la po t : Int} (h : t < la) (hi : I64 ba) (he : 0 ≤ en) (hb : en ≤ ba) (h1 : 1 ≤ la) (h2 : la ≤ 1000000) (h3 : 1 ≤ t) (h4 : 1 ≤ po) (h5 : po ≤ 8) :
    Calls Tryz.prog 15 #[.agg #[.int .i64 kd, .int .i64 ba, .int .i64 ra, .int .i64 en, .int .i64 wa, .int .i64 ev, .int .i64 la, .int .i64 po], .int .i64 t] w (GotV w (.int .i64 (polyR ba en t la po))) := by
  have t0 : decide (la ≤ t) = false := decide_eq_false (by omega)
  obtain ⟨pn, rfl⟩ : ∃ n : Nat, po = (n : Int) := ⟨po.toNat, by omega⟩
  obtain ⟨ln, rfl⟩ : ∃ n : Nat, la = (n : Int) := ⟨la.toNat, by omega⟩
  have hin := poly_in (t := t) (po := (pn : Int)) he hb (show 1 ≤ (ln : Int) by omega) (show 0 ≤ t by omega)
  have hP : polyR ba en t (ln : Int) (pn : Int) = en + rn ((ba - en) * ((ln : Int) - t) ^ pn) (ln ^ pn) := by unfold polyR; rw [if_neg (by omega), Int.toNat_natCast, Int.toNat_natCast]
  rw [hP] at hin ⊢
  obtain ⟨a, ea⟩ : ∃ a, ba - en = a := ⟨_, rfl⟩
  obtain ⟨b, eb⟩ : ∃ b, (ln : Int) - t = b := ⟨_, rfl⟩
  have ai : I64 a := by unfold I64 at hi ⊢; omega
  have bi : I64 b := by unfold I64; omega
  have li : I64 (ln : Int) := by unfold I64; omega
  have k1 : IntKind.i64.wrap (ba - en) = a := by rw [ea]; exact IntWalk.i64_in _ ai
  have k2 : IntKind.i64.wrap ((ln : Int) - t) = b := by rw [eb]; exact IntWalk.i64_in _ bi
  rw [ea, eb] at hin ⊢
  have hn := pX_nea (a := a) (n := b) (d := ln) (by omega) pn
  have hs := pX_sz (a := a) (len_one ai.abs) (sz_mk (p := b) (q := ln) (by omega) (len_one bi.abs) (len_one (show ln < B64 by unfold B64; omega)))
  have hsY : Sz (mkRat b ln) 1 := sz_mk (by omega) (len_one bi.abs) (len_one (show ln < B64 by unfold B64; omega))
  obtain ⟨R, eR⟩ : ∃ R, rn (a * b ^ pn) (ln ^ pn) = R := ⟨_, rfl⟩
  rw [eR] at hin hn ⊢
  have ri : I64 R := by unfold I64 at hi ⊢; omega
  have k9 : IntKind.i64.wrap (en + R) = en + R := IntWalk.i64_in _ (by unfold I64 at hi; omega)
  have CF := fun W : World => rtfrac_N W bi li (by omega)
  rw [show ((ln : Int)).natAbs = ln from Int.natAbs_natCast ln] at CF
  have CA := fun W : World => rtof_N W a ai
  obtain ⟨Y, eY⟩ : ∃ Y, mkRat b ln = Y := ⟨_, rfl⟩
  rw [eY] at CF hs hsY hn
  obtain ⟨X, eX⟩ : ∃ X : Nat → Rat, pX a Y = X := ⟨_, rfl⟩
  have HX : Hid (∀ i, X (i + 1) = X i * Y) := Lib.hid (fun i => by rw [← eX]; rfl)
  have HX0 : Hid (X 0 = (a : Rat)) := Lib.hid (by rw [← eX]; rfl)
  rw [eX] at hs hn
  have HS := Lib.hid hs
  have HSY := Lib.hid hsY
  have HN := Lib.hid hn
  have HRI := Lib.hid ri
  have HPN : Hid (pn ≤ 8) := Lib.hid (by omega)
  clear h hb he hi h1 h2 h3 h4 h5 hin hP ea eb ai bi li hn hs hsY eR ri eY eX
  have cc := Below.refl w.heap.size w
  go_enter Tryz.func15, Tryz.ntmps15
  go_wp2_with fail
  generalize hv_ : w.alloc (.cells #[.int .i64 kd, .int .i64 ba, .int .i64 ra, .int .i64 en, .int .i64 wa, .int .i64 ev, .int .i64 (ln : Int), .int .i64 (pn : Int)] 23) = v1
  have bA : Below w.heap.size w v1 := by rw [← hv_]; exact ((Below.refl _ w).alloc (by simp) _)
  replace cc := bK cc bA
  clear bA
  have sc0 : v1.cell? ⟨w.heap.size, 0, none⟩ = some (.int .i64 kd) := by simp [← hv_, go_sem]
  have sc1 : v1.cell? ⟨w.heap.size, 1, none⟩ = some (.int .i64 ba) := by simp [← hv_, go_sem]
  have sc2 : v1.cell? ⟨w.heap.size, 2, none⟩ = some (.int .i64 ra) := by simp [← hv_, go_sem]
  have sc3 : v1.cell? ⟨w.heap.size, 3, none⟩ = some (.int .i64 en) := by simp [← hv_, go_sem]
  have sc4 : v1.cell? ⟨w.heap.size, 4, none⟩ = some (.int .i64 wa) := by simp [← hv_, go_sem]
  have sc5 : v1.cell? ⟨w.heap.size, 5, none⟩ = some (.int .i64 ev) := by simp [← hv_, go_sem]
  have sc6 : v1.cell? ⟨w.heap.size, 6, none⟩ = some (.int .i64 (ln : Int)) := by simp [← hv_, go_sem]
  have sc7 : v1.cell? ⟨w.heap.size, 7, none⟩ = some (.int .i64 (pn : Int)) := by simp [← hv_, go_sem]
  have scl : w.heap.size < v1.heap.size := by simp [← hv_] <;> omega
  clear hv_
  go_wp2_with fail
  refine (CA _).mono ?_
  rintro e w2 ⟨bx, Ax, nx, cx, Bx, mx, dx, rfl, hx, b⟩
  rewrite [cR b scl] at sc0 sc1 sc2 sc3 sc4 sc5 sc6 sc7
  replace scl := lK b scl
  replace cc := bK cc b
  clear b
  go_upto_region 4 with fail
  have xsqsc : w.heap.size < w2.heap.size := scl
  generalize hv_ : w2.alloc (.cells #[.bool bx, .slice Ax nx cx, .slice Bx mx dx] 51) = v3
  have bA : Below w2.heap.size w2 v3 := by rw [← hv_]; exact below_one _ _
  replace hx := hx.on bA
  rewrite [cR bA scl] at sc0 sc1 sc2 sc3 sc4 sc5 sc6 sc7
  replace scl := lK bA scl
  replace cc := bK cc bA
  clear bA
  obtain ⟨xs0, xs1, xs2⟩ : Cs3 v3 w2.heap.size (.bool bx) (.slice Ax nx cx) (.slice Bx mx dx) := by simp [Cs3, ← hv_, go_sem]
  obtain ⟨xsr0, xsr1, xsr2⟩ : Fz3 v3 w2.heap.size := by simp [Fz3, ← hv_, go_sem]
  have xsl : w2.heap.size < v3.heap.size := by simp [← hv_]
  clear hv_
  go_wp2_with fail
  refine (CF _).mono ?_
  rintro e w4 ⟨bq, Aq, nq, cq, Bq, mq, dq, rfl, hq, b⟩
  replace hx := hx.on b
  rewrite [fR b xsl] at xsr0 xsr1 xsr2
  rewrite [cR b scl] at sc0 sc1 sc2 sc3 sc4 sc5 sc6 sc7
  replace scl := lK b scl
  rewrite [cR b xsl] at xs0 xs1 xs2
  replace xsl := lK b xsl
  replace cc := bK cc b
  clear b
  go_upto_region 5 with fail
  have psqsc : w.heap.size < w4.heap.size := scl
  have psqxs : w2.heap.size < w4.heap.size := xsl
  generalize hv_ : w4.alloc (.cells #[.bool bq, .slice Aq nq cq, .slice Bq mq dq] 51) = v5
  have bA : Below w4.heap.size w4 v5 := by rw [← hv_]; exact below_one _ _
  replace hx := hx.on bA
  replace hq := hq.on bA
  rewrite [fR bA xsl] at xsr0 xsr1 xsr2
  rewrite [cR bA scl] at sc0 sc1 sc2 sc3 sc4 sc5 sc6 sc7
  replace scl := lK bA scl
  rewrite [cR bA xsl] at xs0 xs1 xs2
  replace xsl := lK bA xsl
  replace cc := bK cc bA
  clear bA
  obtain ⟨ps0, ps1, ps2⟩ : Cs3 v5 w4.heap.size (.bool bq) (.slice Aq nq cq) (.slice Bq mq dq) := by simp [Cs3, ← hv_, go_sem]
  have psl : w4.heap.size < v5.heap.size := by simp [← hv_]
  clear hv_
  rw [← HX0.out] at hx
  have HI : Hid (BoxR v5 (w2.heap.size) bx Ax nx cx Bx mx dx ∧ Rt v5 bx Ax nx cx Bx mx dx (X 0) ∧ (v5.frozen? ⟨w2.heap.size, 0, none⟩ = false ∧ v5.frozen? ⟨w2.heap.size, 1, none⟩ = false ∧ v5.frozen? ⟨w2.heap.size, 2, none⟩ = false)) := Lib.hid ⟨⟨xs0, xs1, xs2⟩, hx, xsr0, xsr1, xsr2⟩
  have HJ : Hid (BoxR v5 (w4.heap.size) bq Aq nq cq Bq mq dq ∧ Rt v5 bq Aq nq cq Bq mq dq Y) := Lib.hid ⟨⟨ps0, ps1, ps2⟩, hq⟩
  have HK : Hid (v5.cell? ⟨w.heap.size, 3, none⟩ = some (.int .i64 en) ∧ v5.cell? ⟨w.heap.size, 7, none⟩ = some (.int .i64 (pn : Int))) := Lib.hid ⟨sc3, sc7⟩
  have HC := Lib.hid cc
  have HLS := Lib.hid scl
  have HLX := Lib.hid xsl
  have HLP := Lib.hid psl
  have HAX : Hid (w.heap.size < w2.heap.size ∧ w2.heap.size < w4.heap.size) := Lib.hid (by omega)
  clear hx hq cc scl xsl psl sc0 sc1 sc2 sc3 sc4 sc5 sc6 sc7 xs0 xs1 xs2 ps0 ps1 ps2 xsr0 xsr1 xsr2 psqxs psqsc xsqsc CA CF k1 k2 t0
  go_wp2_with fail
  go_loopw [7] (fun iv wr => ∃ (i : Nat) (bz : Bool) (Az : Option Addr) (nz cz : Nat) (Bz : Option Addr) (mz dz : Nat), i ≤ pn ∧ iv = .int .i64 (i : Int) ∧ BoxR wr (w2.heap.size) bz Az nz cz Bz mz dz ∧ Rt wr bz Az nz cz Bz mz dz (X i) ∧ (wr.frozen? ⟨w2.heap.size, 0, none⟩ = false ∧ wr.frozen? ⟨w2.heap.size, 1, none⟩ = false ∧ wr.frozen? ⟨w2.heap.size, 2, none⟩ = false) ∧ (BoxR wr (w4.heap.size) bq Aq nq cq Bq mq dq ∧ Rt wr bq Aq nq cq Bq mq dq Y) ∧ (wr.cell? ⟨w.heap.size, 3, none⟩ = some (.int .i64 en) ∧ wr.cell? ⟨w.heap.size, 7, none⟩ = some (.int .i64 (pn : Int))) ∧ Below w.heap.size w wr ∧ v5.heap.size ≤ wr.heap.size) (fun iv _ => pn - (intOf iv).toNat)
  case atStart => exact ⟨0, _, _, _, _, _, _, _, by omega, rfl, HI.out.1, HI.out.2.1, HI.out.2.2, HJ.out, HK.out, HC.out, Nat.le_refl _⟩
  case round =>
    clear HI HJ HK HC
    obtain ⟨i, bz, Az, nz, cz, Bz, mz, dz, hi, rfl, ⟨xs0, xs1, xs2⟩, hx, ⟨xsr0, xsr1, xsr2⟩, ⟨⟨ps0, ps1, ps2⟩, hq⟩, ⟨sc3, sc7⟩, cc, hsz⟩ := hrel
    have h8 := HPN.out
    obtain ⟨ax1, ax2⟩ := HAX.out
    have scl := Nat.lt_of_lt_of_le HLS.out hsz
    have xsl := Nat.lt_of_lt_of_le HLX.out hsz
    have psl := Nat.lt_of_lt_of_le HLP.out hsz
    by_cases hlt : i < pn
    · have hX := HX.out i
      have hS := (HS.out i).le (show 1 + i ≤ 40 by omega)
      have hSY := HSY.out.le (show 1 ≤ 40 by omega)
      obtain ⟨x_, ex⟩ : ∃ x, X i = x := ⟨_, rfl⟩
      rw [ex] at hX hS hx
      have HX1 := Lib.hid hX
      have HSX := Lib.hid hS
      have HSY1 := Lib.hid hSY
      have k3 : IntKind.i64.wrap ((i : Int) + 1) = ((i + 1 : Nat) : Int) := by rw [IntWalk.i64_in _ (by omega)]; omega
      have jl : (i : Int) < (pn : Int) := by omega
      have HZ_ := Lib.hid hsz
      clear hX hS hSY ex hsz
      go_wp2_with fail
      refine (rtmul_N hx HSX.out hq HSY1.out).mono ?_
      rintro e wz ⟨bu, Au, nu, cu, Bu, mu, du, rfl, hu, b⟩
      replace hx := hx.on b
      replace hq := hq.on b
      rewrite [cR b xsl] at xs0 xs1 xs2
      rewrite [cR b psl] at ps0 ps1 ps2
      rewrite [cR b scl] at sc3 sc7
      rewrite [fR b xsl] at xsr0 xsr1 xsr2
      have hw := b.size
      replace cc := bK cc b
      rw [← HX1.out] at hu
      have bb_ : BoxR wz (w2.heap.size) bz Az nz cz Bz mz dz := ⟨xs0, xs1, xs2⟩
      have HE : Hid (BoxR (putR wz (w2.heap.size) (.bool bu) (.slice Au nu cu) (.slice Bu mu du)) (w2.heap.size) bu Au nu cu Bu mu du ∧ Rt (putR wz (w2.heap.size) (.bool bu) (.slice Au nu cu) (.slice Bu mu du)) bu Au nu cu Bu mu du (X (i + 1)) ∧ ((putR wz (w2.heap.size) (.bool bu) (.slice Au nu cu) (.slice Bu mu du)).frozen? ⟨w2.heap.size, 0, none⟩ = false ∧ (putR wz (w2.heap.size) (.bool bu) (.slice Au nu cu) (.slice Bu mu du)).frozen? ⟨w2.heap.size, 1, none⟩ = false ∧ (putR wz (w2.heap.size) (.bool bu) (.slice Au nu cu) (.slice Bu mu du)).frozen? ⟨w2.heap.size, 2, none⟩ = false) ∧ (BoxR (putR wz (w2.heap.size) (.bool bu) (.slice Au nu cu) (.slice Bu mu du)) (w4.heap.size) bq Aq nq cq Bq mq dq ∧ Rt (putR wz (w2.heap.size) (.bool bu) (.slice Au nu cu) (.slice Bu mu du)) bq Aq nq cq Bq mq dq Y) ∧ ((putR wz (w2.heap.size) (.bool bu) (.slice Au nu cu) (.slice Bu mu du)).cell? ⟨w.heap.size, 3, none⟩ = some (.int .i64 en) ∧ (putR wz (w2.heap.size) (.bool bu) (.slice Au nu cu) (.slice Bu mu du)).cell? ⟨w.heap.size, 7, none⟩ = some (.int .i64 (pn : Int))) ∧ Below w.heap.size w (putR wz (w2.heap.size) (.bool bu) (.slice Au nu cu) (.slice Bu mu du)) ∧ v5.heap.size ≤ (putR wz (w2.heap.size) (.bool bu) (.slice Au nu cu) (.slice Bu mu du)).heap.size) := Lib.hid ⟨bb_.put _ _ _ _ _ _ _, Rt.putR hu bb_ _ _ _, ⟨by simpa [go_sem] using xsr0, by simpa [go_sem] using xsr1, by simpa [go_sem] using xsr2⟩, ⟨⟨(cell_putR (by omega)).trans ps0, (cell_putR (by omega)).trans ps1, (cell_putR (by omega)).trans ps2⟩, Rt.putR hq bb_ _ _ _⟩, ⟨(cell_putR (by omega)).trans sc3, (cell_putR (by omega)).trans sc7⟩, below_putR cc (by omega) _ _ _, by have := HZ_.out; simp; omega⟩
      clear bb_ hx hq hu cc
      go_wp2_with fail
      go_roundw
      case rel => exact ⟨i + 1, _, _, _, _, _, _, _, by omega, by go_num, HE.out⟩
      case measure => simp [intOf] <;> omega
    · obtain rfl : i = pn := by omega
      have hS := (HS.out i).le (show 1 + i ≤ 15 by omega)
      have hn := HN.out
      generalize X i = x_ at *
      have CO := rof8_N hx hS (j := 0) (by omega) (by omega)
      rw [show nea x_ (0 : Int).toNat = R from hn, (nI_yes HRI.out).1, (nI_yes HRI.out).2] at CO
      clear hn hS hx hq
      go_wp2_with fail
      refine CO.mono ?_
      rintro e wz ⟨rfl, b⟩
      replace sc3 := cK b sc3 scl
      replace cc := bK cc b
      clear b CO
      go_wp2_with fail
      go_ret
      exact ⟨rfl, cc⟩

end Go.Proofs.YtmaolhajeoigpaaGreat

/-
  Spans: values, boxes, what is answered.
-/
namespace Go.Proofs.YtmaolhajeoigpaaGreat
open Go.RowKit
set_option linter.unusedVariables false
set_option linter.unusedSimpArgs false

/-- A span: both ends. -/
def St (w : World) (b : Bool) (A : Option Addr) (n c : Nat) (B : Option Addr) (m d : Nat) (v : Bool) (V : Option Addr) (r k : Nat) (U : Option Addr) (o q : Nat) (x y : Rat) : Prop := Rt w b A n c B m d x ∧ Rt w v V r k U o q y
/-- A call has answered a span; and one with a code. -/
def GotSt (w : World) (x y : Rat) (e : Ending) (w' : World) : Prop := ∃ b A n c B m d v V r k U o q, e = .returned (.agg #[.bool b, .slice A n c, .slice B m d, .bool v, .slice V r k, .slice U o q]) ∧ St w' b A n c B m d v V r k U o q x y ∧ Below w.heap.size w w'
def GotSp (w : World) (x y : Rat) (z : Int) (e : Ending) (w' : World) : Prop := ∃ b A n c B m d v V r k U o q, e = .returned (.tuple #[.agg #[.bool b, .slice A n c, .slice B m d, .bool v, .slice V r k, .slice U o q], .int .i64 z]) ∧ St w' b A n c B m d v V r k U o q x y ∧ Below w.heap.size w w'
/-- A box of six cells, none of which is a digit. -/
def Held (W : World) (g : Nat) : Prop := ∀ i, i < 6 → ∃ u, W.cell? ⟨g, i, none⟩ = some u ∧ ∀ k n, u ≠ .int k n
theorem held6 {W : World} {g : Nat} {b v : Bool} {A B V U : Option Addr} {n c m d r k o q : Nat} (h0 : W.cell? ⟨g, 0, none⟩ = some (.bool b)) (h1 : W.cell? ⟨g, 1, none⟩ = some (.slice A n c)) (h2 : W.cell? ⟨g, 2, none⟩ = some (.slice B m d)) (h3 : W.cell? ⟨g, 3, none⟩ = some (.bool v)) (h4 : W.cell? ⟨g, 4, none⟩ = some (.slice V r k)) (h5 : W.cell? ⟨g, 5, none⟩ = some (.slice U o q)) : Held W g := by
  intro i hi
  match i, hi with
  | 0, _ => exact ⟨_, h0, fun _ _ e => by cases e⟩
  | 1, _ => exact ⟨_, h1, fun _ _ e => by cases e⟩
  | 2, _ => exact ⟨_, h2, fun _ _ e => by cases e⟩
  | 3, _ => exact ⟨_, h3, fun _ _ e => by cases e⟩
  | 4, _ => exact ⟨_, h4, fun _ _ e => by cases e⟩
  | 5, _ => exact ⟨_, h5, fun _ _ e => by cases e⟩
theorem Held.set {W : World} {g j : Nat} {v : Value} (h : Held W g) (hj : j < 6) (hv : ∀ k n, v ≠ .int k n) : Held (W.setCell ⟨g, j, none⟩ v) g := by
  intro i hi
  obtain ⟨u, h1, h2⟩ := h i hi
  by_cases e : j = i
  · subst e
    exact ⟨v, World.cell?_setCell_same _ _ _ h1, hv⟩
  · exact ⟨u, (World.cell?_setCell_other _ _ _ _ (addr_ne e)).trans h1, h2⟩
theorem Num.held {W : World} {g j : Nat} {v : Value} {A : Option Addr} {n c x : Nat} (hn : Num W A n c x) (h : Held W g) (hj : j < 6) : Num (W.setCell ⟨g, j, none⟩ v) A n c x := by
  obtain ⟨u, h1, h2⟩ := h j hj
  exact hn.set_other h1 h2
/-- All six cells are written. -/
@[reducible] def putS (W : World) (g : Nat) (a b c d e f : Value) : World := (((((W.setCell ⟨g, 0, none⟩ a).setCell ⟨g, 1, none⟩ b).setCell ⟨g, 2, none⟩ c).setCell ⟨g, 3, none⟩ d).setCell ⟨g, 4, none⟩ e).setCell ⟨g, 5, none⟩ f
theorem cell_putS {w : World} {s b o : Nat} {u1 u2 u3 u4 u5 u6 : Value} (h : b ≠ s) : (putS w s u1 u2 u3 u4 u5 u6).cell? ⟨b, o, none⟩ = w.cell? ⟨b, o, none⟩ := by
  unfold putS
  iterate 6 rw [World.cell?_setCell_other (h := addr_ne' (Ne.symm h))]
theorem below_putS {C g : Nat} {V W : World} (h : Below C V W) (hg : C ≤ g) (a b c d e f : Value) : Below C V (putS W g a b c d e f) := (((((h.setCell (p := ⟨g, 0, none⟩) hg a).setCell (p := ⟨g, 1, none⟩) hg b).setCell (p := ⟨g, 2, none⟩) hg c).setCell (p := ⟨g, 3, none⟩) hg d).setCell (p := ⟨g, 4, none⟩) hg e).setCell (p := ⟨g, 5, none⟩) hg f
section
variable {W : World} {g : Nat}
theorem Num.putS {A : Option Addr} {n c x : Nat} (hn : Num W A n c x) (h : Held W g) (b v : Bool) (u1 u2 u4 u5 : Option Addr × Nat × Nat) : Num (putS W g (.bool b) (.slice u1.1 u1.2.1 u1.2.2) (.slice u2.1 u2.2.1 u2.2.2) (.bool v) (.slice u4.1 u4.2.1 u4.2.2) (.slice u5.1 u5.2.1 u5.2.2)) A n c x := by
  have k0 := h.set (j := 0) (v := .bool b) (by omega) (fun _ _ e => by cases e)
  have k1 := k0.set (j := 1) (v := .slice u1.1 u1.2.1 u1.2.2) (by omega) (fun _ _ e => by cases e)
  have k2 := k1.set (j := 2) (v := .slice u2.1 u2.2.1 u2.2.2) (by omega) (fun _ _ e => by cases e)
  have k3 := k2.set (j := 3) (v := .bool v) (by omega) (fun _ _ e => by cases e)
  have k4 := k3.set (j := 4) (v := .slice u4.1 u4.2.1 u4.2.2) (by omega) (fun _ _ e => by cases e)
  exact (((((hn.held h (by omega)).held k0 (by omega)).held k1 (by omega)).held k2 (by omega)).held k3 (by omega)).held k4 (by omega)
theorem Rt.putS {b0 : Bool} {A0 B0 : Option Addr} {n0 c0 m0 d0 : Nat} {x : Rat} (hr : Rt W b0 A0 n0 c0 B0 m0 d0 x) (h : Held W g) (b v : Bool) {A1 A2 A4 A5 : Option Addr} {n1 c1 n2 c2 n4 c4 n5 c5 : Nat} : Rt (putS W g (.bool b) (.slice A1 n1 c1) (.slice A2 n2 c2) (.bool v) (.slice A4 n4 c4) (.slice A5 n5 c5)) b0 A0 n0 c0 B0 m0 d0 x :=
  ⟨⟨hr.1.1.putS h b v (A1, n1, c1) (A2, n2, c2) (A4, n4, c4) (A5, n5, c5), hr.1.2⟩, hr.2.putS h b v (A1, n1, c1) (A2, n2, c2) (A4, n4, c4) (A5, n5, c5)⟩
end

end Go.Proofs.YtmaolhajeoigpaaGreat

/-
  The contracts of the seventh reference: Same, Has, In.
-/
namespace Go.Proofs.YtmaolhajeoigpaaGreat
open Go.RowKit
set_option linter.unusedVariables false
set_option linter.unusedSimpArgs false






theorem cmpQ_le {a b : Rat} : cmpQ a b ≤ 0 ↔ a ≤ b := by unfold cmpQ; grind





end Go.Proofs.YtmaolhajeoigpaaGreat

/-
  The contracts of the seventh reference: Add.
-/
namespace Go.Proofs.YtmaolhajeoigpaaGreat
open Go.RowKit
set_option linter.unusedVariables false
set_option linter.unusedSimpArgs false


end Go.Proofs.YtmaolhajeoigpaaGreat

/-
  The contracts of the eighth reference: Add, Sub, Mul, Div, Scale.
-/
namespace Go.Proofs.YtmaolhajeoigpaaGreat
set_option maxRecDepth 100000
set_option maxHeartbeats 8000000
open Go.RowKit
set_option linter.unusedVariables false
set_option linter.unusedSimpArgs false

theorem bak_sz8 {a : Int} (h : I64 a) {k : Nat} (hk : k ≤ 500) : Sz (bak a k) 8 := bak_sz (Nat.le_trans (len_one h.abs) (by omega)) (by omega) hk
theorem of_nought {a : Int} : ((a : Int) : Rat).num = a := rfl



theorem prod_sz {a b : Int} (ha : I64 a) (hb : I64 b) {k : Nat} (hk : k ≤ 40) : Sz (bak a k * bak b k) 15 := by
  have h1 : ∀ {z : Int}, I64 z → Sz (bak z k) 7 := fun {z} h => sz_mk (pow_ne k) (Nat.le_trans (len_one h.abs) (by omega)) (Nat.le_trans (len_one (Nat.lt_of_le_of_lt (Nat.pow_le_pow_right (by omega) hk) (by decide))) (by omega))
  exact ((h1 ha).mul (h1 hb)).le (by omega)

theorem rmul8_N {w : World} {a b j : Int} (ha : I64 a) (hb : I64 b) (j0 : 0 ≤ j) (j1 : j ≤ 40) :
    Calls Tryz.prog 16 #[.int .i64 a, .int .i64 b, .int .i64 j] w (GotV w (.tuple #[.int .i64 (nI (rn (a * b) (2 ^ j.toNat))), .int .i64 (nE (rn (a * b) (2 ^ j.toNat)))])) := by
  obtain ⟨x, ex⟩ : ∃ v, bak a j.toNat = v := ⟨_, rfl⟩
  obtain ⟨y, ey⟩ : ∃ v, bak b j.toNat = v := ⟨_, rfl⟩
  have sx := bak_sz8 ha (show j.toNat ≤ 500 by omega)
  have sy := bak_sz8 hb (show j.toNat ≤ 500 by omega)
  rw [ex] at sx
  rw [ey] at sy
  skip
  have eq := nea_prod a b j.toNat
  obtain ⟨z, ez⟩ : ∃ z, rn (a * b) (2 ^ j.toNat) = z := ⟨_, rfl⟩
  rw [ex, ey, ez] at eq
  have sv : Sz (x * y) 15 := by rw [← ex, ← ey]; exact prod_sz ha hb (by omega)
  have CX : ∀ W : World, Calls Tryz.prog 36 #[.int .i64 a, .int .i64 j] W (GotRp W x 0) := fun W => by rw [← ex]; exact rrat8_N ha j0 j1
  have CY : ∀ W : World, Calls Tryz.prog 36 #[.int .i64 b, .int .i64 j] W (GotRp W y 0) := fun W => by rw [← ey]; exact rrat8_N hb j0 j1
  have CN : ∀ {W : World} {b : Bool} {A B : Option Addr} {n c m d : Nat}, Rt W b A n c B m d (x * y) → Calls Tryz.prog 28 #[.agg #[.bool b, .slice A n c, .slice B m d], .int .i64 j] W (GotV W (.tuple #[.int .i64 (nI (z)), .int .i64 (nE (z))])) := fun h => by rw [← eq]; exact near_N h sv j0 (by omega)
  rw [ez]
  clear ex ey ez eq
  have cc := Below.refl w.heap.size w
  go_enter Tryz.func16, Tryz.ntmps16
  go_wp2_with fail
  refine (CX _).mono ?_
  rintro e w1 ⟨bu, Au, nu, cu, Bu, mu, du, rfl, hu, b⟩
  replace cc := bK cc b
  clear b
  go_wp2_with fail
  generalize hv_ : w1.alloc (.cells #[.bool bu, .slice Au nu cu, .slice Bu mu du] 51) = v2
  have bA : Below w1.heap.size w1 v2 := by rw [← hv_]; exact below_one _ _
  replace hu := hu.on bA
  replace cc := bK cc bA
  clear bA
  obtain ⟨xa0, xa1, xa2⟩ : Cs3 v2 w1.heap.size (.bool bu) (.slice Au nu cu) (.slice Bu mu du) := by simp [Cs3, ← hv_, go_sem]
  have xal : w1.heap.size < v2.heap.size := by simp [← hv_]
  clear hv_
  refine (CY _).mono ?_
  rintro e w3 ⟨bv, Av, nv, cv, Bv, mv, dv, rfl, hv, b⟩
  replace hu := hu.on b
  rewrite [cR b xal] at xa0 xa1 xa2
  replace xal := lK b xal
  replace cc := bK cc b
  clear b
  go_wp2_with fail
  generalize hv_ : w3.alloc (.cells #[.bool bv, .slice Av nv cv, .slice Bv mv dv] 51) = v4
  have bA : Below w3.heap.size w3 v4 := by rw [← hv_]; exact below_one _ _
  replace hu := hu.on bA
  replace hv := hv.on bA
  rewrite [cR bA xal] at xa0 xa1 xa2
  replace xal := lK bA xal
  replace cc := bK cc bA
  clear bA
  obtain ⟨xb0, xb1, xb2⟩ : Cs3 v4 w3.heap.size (.bool bv) (.slice Av nv cv) (.slice Bv mv dv) := by simp [Cs3, ← hv_, go_sem]
  have xbl : w3.heap.size < v4.heap.size := by simp [← hv_]
  clear hv_
  go_wp2_with fail
  refine (rtmul_N hu (sx.le (by omega)) hv (sy.le (by omega))).mono ?_
  rintro e w5 ⟨be, Ae, ne, ce, Be, me, de, rfl, he, b⟩
  replace hu := hu.on b
  replace hv := hv.on b
  rewrite [cR b xal] at xa0 xa1 xa2
  replace xal := lK b xal
  rewrite [cR b xbl] at xb0 xb1 xb2
  replace xbl := lK b xbl
  replace cc := bK cc b
  clear b
  go_wp2_with fail
  refine (CN he).mono ?_
  rintro e w6 ⟨rfl, b⟩
  replace hu := hu.on b
  replace hv := hv.on b
  replace he := he.on b
  rewrite [cR b xal] at xa0 xa1 xa2
  replace xal := lK b xal
  rewrite [cR b xbl] at xb0 xb1 xb2
  replace xbl := lK b xbl
  replace cc := bK cc b
  clear b
  go_wp2_with fail
  go_ret2
  exact ⟨rfl, cc⟩

theorem rmul8_no {w : World} {a b j : Int} (h : j < 0 ∨ 40 < j) :
    Calls Tryz.prog 16 #[.int .i64 a, .int .i64 b, .int .i64 j] w (GotV w (.tuple #[.int .i64 (0), .int .i64 (1)])) := by
  have cc := Below.refl w.heap.size w
  go_enter Tryz.func16, Tryz.ntmps16
  go_wp2_with fail
  refine (rrat8_no h).mono ?_
  rintro e w1 ⟨rfl, b⟩
  replace cc := bK cc b
  clear b
  go_wp2_with fail
  generalize hv_ : w1.alloc (.cells #[.bool false, .slice none 0 0, .slice none 0 0] 51) = v2
  have bA : Below w1.heap.size w1 v2 := by rw [← hv_]; exact below_one _ _
  replace cc := bK cc bA
  clear bA
  obtain ⟨xa0, xa1, xa2⟩ : Cs3 v2 w1.heap.size (.bool false) (.slice none 0 0) (.slice none 0 0) := by simp [Cs3, ← hv_, go_sem]
  have xal : w1.heap.size < v2.heap.size := by simp [← hv_]
  clear hv_
  refine (rrat8_no h).mono ?_
  rintro e w3 ⟨rfl, b⟩
  rewrite [cR b xal] at xa0 xa1 xa2
  replace xal := lK b xal
  replace cc := bK cc b
  clear b
  go_wp2_with fail
  generalize hv_ : w3.alloc (.cells #[.bool false, .slice none 0 0, .slice none 0 0] 51) = v4
  have bA : Below w3.heap.size w3 v4 := by rw [← hv_]; exact below_one _ _
  rewrite [cR bA xal] at xa0 xa1 xa2
  replace xal := lK bA xal
  replace cc := bK cc bA
  clear bA
  obtain ⟨xb0, xb1, xb2⟩ : Cs3 v4 w3.heap.size (.bool false) (.slice none 0 0) (.slice none 0 0) := by simp [Cs3, ← hv_, go_sem]
  have xbl : w3.heap.size < v4.heap.size := by simp [← hv_]
  clear hv_
  go_wp2_with fail
  go_ret2
  exact ⟨rfl, cc⟩




theorem rscale8_N {w : World} {a b d : Int} (ha : I64 a) (hb : I64 b) (hd : I64 d) (h1 : 1 ≤ d) :
    Calls Tryz.prog 13 #[.int .i64 a, .int .i64 b, .int .i64 d] w (GotV w (.tuple #[.int .i64 (nI (rn (a * b) d.natAbs)), .int .i64 (nE (rn (a * b) d.natAbs))])) := by
  obtain ⟨q, rfl⟩ : ∃ q : Nat, d = (q : Int) := ⟨d.toNat, by omega⟩
  have sa : Sz ((a : Int) : Rat) 1 := sz_of (len_one ha.abs)
  have sb : Sz ((b : Int) : Rat) 1 := sz_of (len_one hb.abs)
  have sd : Sz (((q : Int) : Int) : Rat) 1 := sz_of (len_one hd.abs)
  have hn : (((q : Int) : Int) : Rat).num ≠ 0 := by show (q : Int) ≠ 0; omega
  have sm := sa.mul sb
  have sv := sm.div sd hn
  obtain ⟨m_, em⟩ : ∃ v, ((a : Int) : Rat) * ((b : Int) : Rat) = v := ⟨_, rfl⟩
  rw [em] at sm sv
  obtain ⟨v, e⟩ : ∃ v, m_ / (((q : Int) : Int) : Rat) = v := ⟨_, rfl⟩
  have eq := nea_scale a b q (by omega)
  rw [em, e] at eq
  rw [e] at sv
  obtain ⟨z, ez⟩ : ∃ z, rn (a * b) q = z := ⟨_, rfl⟩
  rw [ez] at eq
  have t1_ : decide ((q : Int) < 1) = false := decide_eq_false (by omega)
  have hq_ : ((q : Int)).natAbs = q := by omega
  have CN : ∀ {W : World} {b : Bool} {A B : Option Addr} {n c m d : Nat}, Rt W b A n c B m d v → Calls Tryz.prog 28 #[.agg #[.bool b, .slice A n c, .slice B m d], .int .i64 0] W (GotV W (.tuple #[.int .i64 (nI (z)), .int .i64 (nE (z))])) := fun h => by have k := near_N h (sv.le (by omega)) (j := 0) (by omega) (by omega); rw [show (0 : Int).toNat = 0 from rfl, eq] at k; exact k
  have CM : ∀ {W : World} {b0 : Bool} {A0 B0 : Option Addr} {n0 c0 m0 d0 : Nat} {b1 : Bool} {A1 B1 : Option Addr} {n1 c1 m1 d1 : Nat}, Rt W b0 A0 n0 c0 B0 m0 d0 ((a : Int) : Rat) → Rt W b1 A1 n1 c1 B1 m1 d1 ((b : Int) : Rat) → Calls Tryz.prog 26 #[.agg #[.bool b0, .slice A0 n0 c0, .slice B0 m0 d0], .agg #[.bool b1, .slice A1 n1 c1, .slice B1 m1 d1]] W (GotRt W m_) := fun h k => by rw [← em]; exact rtmul_N h (sa.le (by omega)) k (sb.le (by omega))
  obtain ⟨rq, eqq⟩ : ∃ r, (((q : Int) : Int) : Rat) = r := ⟨_, rfl⟩
  have CQ : ∀ W : World, Calls Tryz.prog 27 #[.int .i64 (q : Int)] W (GotRt W rq) := fun W => by rw [← eqq]; exact rtof_N W _ hd
  rw [eqq] at sd hn e
  have CO : ∀ {W : World} {b0 : Bool} {A0 B0 : Option Addr} {n0 c0 m0 d0 : Nat} {b1 : Bool} {A1 B1 : Option Addr} {n1 c1 m1 d1 : Nat}, Rt W b0 A0 n0 c0 B0 m0 d0 m_ → Rt W b1 A1 n1 c1 B1 m1 d1 rq → Calls Tryz.prog 25 #[.agg #[.bool b0, .slice A0 n0 c0, .slice B0 m0 d0], .agg #[.bool b1, .slice A1 n1 c1, .slice B1 m1 d1]] W (GotRp W v 0) := fun h k => by rw [← e]; exact rtdiv_N h (sm.le (by omega)) k (sd.le (by omega)) hn
  rw [hq_, ez]
  clear e em ez eq hn eqq hq_
  have cc := Below.refl w.heap.size w
  go_enter Tryz.func13, Tryz.ntmps13
  go_wp2_with fail
  refine (rtof_N _ a ha).mono ?_
  rintro e w1 ⟨bx, Ax, nx, cx, Bx, mx, dx, rfl, hx, b⟩
  replace cc := bK cc b
  clear b
  go_wp2_with fail
  refine (rtof_N _ b hb).mono ?_
  rintro e w2 ⟨bz, Az, nz, cz, Bz, mz, dz, rfl, hz, b⟩
  replace hx := hx.on b
  replace cc := bK cc b
  clear b
  go_wp2_with fail
  refine (CM hx hz).mono ?_
  rintro e w3 ⟨bu, Au, nu, cu, Bu, mu, du, rfl, hu, b⟩
  replace hx := hx.on b
  replace hz := hz.on b
  replace cc := bK cc b
  clear b
  go_wp2_with fail
  refine (CQ _).mono ?_
  rintro e w4 ⟨be, Ae, ne, ce, Be, me, de, rfl, he, b⟩
  replace hx := hx.on b
  replace hz := hz.on b
  replace hu := hu.on b
  replace cc := bK cc b
  clear b
  go_wp2_with fail
  refine (CO hu he).mono ?_
  rintro e w5 ⟨bk, Ak, nk, ck, Bk, mk, dk, rfl, hk, b⟩
  replace hx := hx.on b
  replace hz := hz.on b
  replace hu := hu.on b
  replace he := he.on b
  replace cc := bK cc b
  clear b
  go_wp2_with fail
  generalize hv_ : w5.alloc (.cells #[.bool bk, .slice Ak nk ck, .slice Bk mk dk] 51) = v6
  have bA : Below w5.heap.size w5 v6 := by rw [← hv_]; exact below_one _ _
  replace hx := hx.on bA
  replace hz := hz.on bA
  replace hu := hu.on bA
  replace he := he.on bA
  replace hk := hk.on bA
  replace cc := bK cc bA
  clear bA
  obtain ⟨xq0, xq1, xq2⟩ : Cs3 v6 w5.heap.size (.bool bk) (.slice Ak nk ck) (.slice Bk mk dk) := by simp [Cs3, ← hv_, go_sem]
  have xql : w5.heap.size < v6.heap.size := by simp [← hv_]
  clear hv_
  go_wp2_with fail
  refine (CN hk).mono ?_
  rintro e w7 ⟨rfl, b⟩
  replace hx := hx.on b
  replace hz := hz.on b
  replace hu := hu.on b
  replace he := he.on b
  replace hk := hk.on b
  rewrite [cR b xql] at xq0 xq1 xq2
  replace xql := lK b xql
  replace cc := bK cc b
  clear b
  go_wp2_with fail
  go_ret2
  exact ⟨rfl, cc⟩

theorem rscale8_no {w : World} {a b d : Int} (h : d < 1) :
    Calls Tryz.prog 13 #[.int .i64 a, .int .i64 b, .int .i64 d] w (GotV w (.tuple #[.int .i64 (0), .int .i64 (1)])) := by
  have t1_ : decide (d < 1) = true := decide_eq_true h
  have cc := Below.refl w.heap.size w
  go_enter Tryz.func13, Tryz.ntmps13
  go_wp2_with fail
  go_wp2_with fail
  go_ret2
  exact ⟨rfl, cc⟩

end Go.Proofs.YtmaolhajeoigpaaGreat

/-
  The contract of the fifteenth reference: Rate.
-/
namespace Go.Proofs.YtmaolhajeoigpaaGreat
set_option maxRecDepth 100000
set_option maxHeartbeats 8000000
open Go.RowKit
set_option linter.unusedVariables false
set_option linter.unusedSimpArgs false

/-- The lesser of a number and 200. -/
def mn15 (x : Int) : Int := min x 200
theorem mn15_run {P : Program} (w : World) (ts : Array TypeId) (t : TypeId) (x : Int) : (Builtin.min_ ts t #[.int .i64 x, .int .i64 200]).run P w = .ok (.int .i64 (mn15 x)) w := by
  rw [run_min_int2]
  congr 2
  unfold mn15
  split <;> omega
attribute [local go_sem ↓] mn15_run

theorem rRate15_n0 {w : World} {kd ba ra en wa ev la po t f : Int} (hR : ¬ OkR f kd ba ra en wa ev la po) :
    Calls Tryz.prog 5 #[.agg #[.int .i64 kd, .int .i64 ba, .int .i64 ra, .int .i64 en, .int .i64 wa, .int .i64 ev, .int .i64 la, .int .i64 po], .int .i64 t, .int .i64 f] w (GotV w (.tuple #[.int .i64 (0), .int .i64 1])) := by
  have CR : ∀ W : World, Calls Tryz.prog 8 #[.agg #[.int .i64 kd, .int .i64 ba, .int .i64 ra, .int .i64 en, .int .i64 wa, .int .i64 ev, .int .i64 la, .int .i64 po], .int .i64 f] W (GotV W (.bool false)) := fun W => by have h := rRight15_N (w := W) (f := f) (kd := kd) (ba := ba) (ra := ra) (en := en) (wa := wa) (ev := ev) (la := la) (po := po); rw [decide_eq_false hR] at h; exact h
  clear hR
  have cc := Below.refl w.heap.size w
  go_enter Tryz.func5, Tryz.ntmps5
  go_wp2_with fail
  generalize hv_ : w.alloc (.cells #[.int .i64 kd, .int .i64 ba, .int .i64 ra, .int .i64 en, .int .i64 wa, .int .i64 ev, .int .i64 la, .int .i64 po] 23) = v1
  have bA : Below w.heap.size w v1 := by rw [← hv_]; exact ((Below.refl _ w).alloc (by simp) _)
  replace cc := bK cc bA
  clear bA
  have sc0 : v1.cell? ⟨w.heap.size, 0, none⟩ = some (.int .i64 kd) := by simp [← hv_, go_sem]
  have sc1 : v1.cell? ⟨w.heap.size, 1, none⟩ = some (.int .i64 ba) := by simp [← hv_, go_sem]
  have sc2 : v1.cell? ⟨w.heap.size, 2, none⟩ = some (.int .i64 ra) := by simp [← hv_, go_sem]
  have sc3 : v1.cell? ⟨w.heap.size, 3, none⟩ = some (.int .i64 en) := by simp [← hv_, go_sem]
  have sc4 : v1.cell? ⟨w.heap.size, 4, none⟩ = some (.int .i64 wa) := by simp [← hv_, go_sem]
  have sc5 : v1.cell? ⟨w.heap.size, 5, none⟩ = some (.int .i64 ev) := by simp [← hv_, go_sem]
  have sc6 : v1.cell? ⟨w.heap.size, 6, none⟩ = some (.int .i64 la) := by simp [← hv_, go_sem]
  have sc7 : v1.cell? ⟨w.heap.size, 7, none⟩ = some (.int .i64 po) := by simp [← hv_, go_sem]
  have scl : w.heap.size < v1.heap.size := by simp [← hv_] <;> omega
  clear hv_
  go_wp2_with fail
  refine (CR _).mono ?_
  rintro e w2 ⟨rfl, b⟩
  rewrite [cR b scl] at sc0 sc1 sc2 sc3 sc4 sc5 sc6 sc7
  replace scl := lK b scl
  replace cc := bK cc b
  clear b
  go_wp2_with fail
  go_ret2
  exact ⟨rfl, cc⟩

theorem rRate15_n1 {w : World} {kd ba ra en wa ev la po t f : Int} (hR : OkR f kd ba ra en wa ev la po) (hT : ¬ (1 ≤ t ∧ t ≤ 1000000)) :
    Calls Tryz.prog 5 #[.agg #[.int .i64 kd, .int .i64 ba, .int .i64 ra, .int .i64 en, .int .i64 wa, .int .i64 ev, .int .i64 la, .int .i64 po], .int .i64 t, .int .i64 f] w (GotV w (.tuple #[.int .i64 (0), .int .i64 1])) := by
  have CR : ∀ W : World, Calls Tryz.prog 8 #[.agg #[.int .i64 kd, .int .i64 ba, .int .i64 ra, .int .i64 en, .int .i64 wa, .int .i64 ev, .int .i64 la, .int .i64 po], .int .i64 f] W (GotV W (.bool true)) := fun W => by have h := rRight15_N (w := W) (f := f) (kd := kd) (ba := ba) (ra := ra) (en := en) (wa := wa) (ev := ev) (la := la) (po := po); rw [decide_eq_true hR] at h; exact h
  have CI := fun W : World => rin15_false (w := W) hT
  clear hR hT
  have cc := Below.refl w.heap.size w
  go_enter Tryz.func5, Tryz.ntmps5
  go_wp2_with fail
  generalize hv_ : w.alloc (.cells #[.int .i64 kd, .int .i64 ba, .int .i64 ra, .int .i64 en, .int .i64 wa, .int .i64 ev, .int .i64 la, .int .i64 po] 23) = v1
  have bA : Below w.heap.size w v1 := by rw [← hv_]; exact ((Below.refl _ w).alloc (by simp) _)
  replace cc := bK cc bA
  clear bA
  have sc0 : v1.cell? ⟨w.heap.size, 0, none⟩ = some (.int .i64 kd) := by simp [← hv_, go_sem]
  have sc1 : v1.cell? ⟨w.heap.size, 1, none⟩ = some (.int .i64 ba) := by simp [← hv_, go_sem]
  have sc2 : v1.cell? ⟨w.heap.size, 2, none⟩ = some (.int .i64 ra) := by simp [← hv_, go_sem]
  have sc3 : v1.cell? ⟨w.heap.size, 3, none⟩ = some (.int .i64 en) := by simp [← hv_, go_sem]
  have sc4 : v1.cell? ⟨w.heap.size, 4, none⟩ = some (.int .i64 wa) := by simp [← hv_, go_sem]
  have sc5 : v1.cell? ⟨w.heap.size, 5, none⟩ = some (.int .i64 ev) := by simp [← hv_, go_sem]
  have sc6 : v1.cell? ⟨w.heap.size, 6, none⟩ = some (.int .i64 la) := by simp [← hv_, go_sem]
  have sc7 : v1.cell? ⟨w.heap.size, 7, none⟩ = some (.int .i64 po) := by simp [← hv_, go_sem]
  have scl : w.heap.size < v1.heap.size := by simp [← hv_] <;> omega
  clear hv_
  go_wp2_with fail
  refine (CR _).mono ?_
  rintro e w2 ⟨rfl, b⟩
  rewrite [cR b scl] at sc0 sc1 sc2 sc3 sc4 sc5 sc6 sc7
  replace scl := lK b scl
  replace cc := bK cc b
  clear b
  go_wp2_with fail
  refine (CI _).mono ?_
  rintro e w3 ⟨rfl, b⟩
  rewrite [cR b scl] at sc0 sc1 sc2 sc3 sc4 sc5 sc6 sc7
  replace scl := lK b scl
  replace cc := bK cc b
  clear b
  go_wp2_with fail
  go_ret2
  exact ⟨rfl, cc⟩

theorem rRate15_warm {w : World} {kd ba ra en wa ev la po t f : Int} (hR : OkR f kd ba ra en wa ev la po) (hT : 1 ≤ t ∧ t ≤ 1000000) (hI : I64 kd ∧ I64 ba ∧ I64 ra ∧ I64 en ∧ I64 wa ∧ I64 ev ∧ I64 la ∧ I64 po ∧ I64 t ∧ I64 f) (hw : t ≤ wa) :
    Calls Tryz.prog 5 #[.agg #[.int .i64 kd, .int .i64 ba, .int .i64 ra, .int .i64 en, .int .i64 wa, .int .i64 ev, .int .i64 la, .int .i64 po], .int .i64 t, .int .i64 f] w (GotV w (.tuple #[.int .i64 (rn (ba * t) wa.toNat), .int .i64 0])) := by
  obtain ⟨f0, f1, b0, w0, d0, p0⟩ := id hR
  obtain ⟨i_kd, i_ba, i_ra, i_en, i_wa, i_ev, i_la, i_po, i_t, i_f⟩ := id hI
  have CR : ∀ W : World, Calls Tryz.prog 8 #[.agg #[.int .i64 kd, .int .i64 ba, .int .i64 ra, .int .i64 en, .int .i64 wa, .int .i64 ev, .int .i64 la, .int .i64 po], .int .i64 f] W (GotV W (.bool true)) := fun W => by have h := rRight15_N (w := W) (f := f) (kd := kd) (ba := ba) (ra := ra) (en := en) (wa := wa) (ev := ev) (la := la) (po := po); rw [decide_eq_true hR] at h; exact h
  have CI := fun W : World => rin15_true (w := W) hT
  have t0 : decide (t ≤ wa) = true := decide_eq_true (by omega)
  have e1 : wa.natAbs = wa.toNat := by omega
  have CS := fun W : World => rscale8_N (w := W) i_ba i_t i_wa (by omega)
  rw [e1] at CS
  have h1 := rn_nonneg (x := ba * t) (d := wa.toNat) (by omega) (Int.mul_nonneg b0 (by omega))
  have h2 := rn_le (x := ba) (ra := t) (d := wa.toNat) (by omega) b0 (by omega)
  obtain ⟨v, ev_⟩ : ∃ v, rn (ba * t) wa.toNat = v := ⟨_, rfl⟩
  rw [ev_] at CS h1 h2 ⊢
  have hv : I64 v := by unfold I64 at i_ba ⊢; omega
  rw [(nI_yes hv).1, (nI_yes hv).2] at CS
  clear f0 f1 b0 w0 d0 p0 i_kd i_ba i_ra i_en i_wa i_ev i_la i_po i_t i_f hR hT hI hw h1 h2 hv ev_ e1
  have cc := Below.refl w.heap.size w
  go_enter Tryz.func5, Tryz.ntmps5
  go_wp2_with fail
  generalize hv_ : w.alloc (.cells #[.int .i64 kd, .int .i64 ba, .int .i64 ra, .int .i64 en, .int .i64 wa, .int .i64 ev, .int .i64 la, .int .i64 po] 23) = v1
  have bA : Below w.heap.size w v1 := by rw [← hv_]; exact ((Below.refl _ w).alloc (by simp) _)
  replace cc := bK cc bA
  clear bA
  have sc0 : v1.cell? ⟨w.heap.size, 0, none⟩ = some (.int .i64 kd) := by simp [← hv_, go_sem]
  have sc1 : v1.cell? ⟨w.heap.size, 1, none⟩ = some (.int .i64 ba) := by simp [← hv_, go_sem]
  have sc2 : v1.cell? ⟨w.heap.size, 2, none⟩ = some (.int .i64 ra) := by simp [← hv_, go_sem]
  have sc3 : v1.cell? ⟨w.heap.size, 3, none⟩ = some (.int .i64 en) := by simp [← hv_, go_sem]
  have sc4 : v1.cell? ⟨w.heap.size, 4, none⟩ = some (.int .i64 wa) := by simp [← hv_, go_sem]
  have sc5 : v1.cell? ⟨w.heap.size, 5, none⟩ = some (.int .i64 ev) := by simp [← hv_, go_sem]
  have sc6 : v1.cell? ⟨w.heap.size, 6, none⟩ = some (.int .i64 la) := by simp [← hv_, go_sem]
  have sc7 : v1.cell? ⟨w.heap.size, 7, none⟩ = some (.int .i64 po) := by simp [← hv_, go_sem]
  have scl : w.heap.size < v1.heap.size := by simp [← hv_] <;> omega
  clear hv_
  go_wp2_with fail
  refine (CR _).mono ?_
  rintro e w2 ⟨rfl, b⟩
  rewrite [cR b scl] at sc0 sc1 sc2 sc3 sc4 sc5 sc6 sc7
  replace scl := lK b scl
  replace cc := bK cc b
  clear b
  go_wp2_with fail
  refine (CI _).mono ?_
  rintro e w3 ⟨rfl, b⟩
  rewrite [cR b scl] at sc0 sc1 sc2 sc3 sc4 sc5 sc6 sc7
  replace scl := lK b scl
  replace cc := bK cc b
  clear b
  go_wp2_with fail
  refine (CS _).mono ?_
  rintro e w4 ⟨rfl, b⟩
  rewrite [cR b scl] at sc0 sc1 sc2 sc3 sc4 sc5 sc6 sc7
  replace scl := lK b scl
  replace cc := bK cc b
  clear b
  go_wp2_with fail
  go_ret2
  exact ⟨rfl, cc⟩

theorem rRate15_root {w : World} {kd ba ra en wa ev la po t f : Int} (hR : OkR f kd ba ra en wa ev la po) (hT : 1 ≤ t ∧ t ≤ 1000000) (hI : I64 kd ∧ I64 ba ∧ I64 ra ∧ I64 en ∧ I64 wa ∧ I64 ev ∧ I64 la ∧ I64 po ∧ I64 t ∧ I64 f) (hw : ¬ t ≤ wa) (hk : kd = 1) :
    Calls Tryz.prog 5 #[.agg #[.int .i64 kd, .int .i64 ba, .int .i64 ra, .int .i64 en, .int .i64 wa, .int .i64 ev, .int .i64 la, .int .i64 po], .int .i64 t, .int .i64 f] w (GotV w (.tuple #[.int .i64 (fellR ba wa t), .int .i64 0])) := by
  obtain ⟨f0, f1, b0, w0, d0, p0⟩ := id hR
  obtain ⟨i_kd, i_ba, i_ra, i_en, i_wa, i_ev, i_la, i_po, i_t, i_f⟩ := id hI
  have CR : ∀ W : World, Calls Tryz.prog 8 #[.agg #[.int .i64 kd, .int .i64 ba, .int .i64 ra, .int .i64 en, .int .i64 wa, .int .i64 ev, .int .i64 la, .int .i64 po], .int .i64 f] W (GotV W (.bool true)) := fun W => by have h := rRight15_N (w := W) (f := f) (kd := kd) (ba := ba) (ra := ra) (en := en) (wa := wa) (ev := ev) (la := la) (po := po); rw [decide_eq_true hR] at h; exact h
  have CI := fun W : World => rin15_true (w := W) hT
  have t0 : decide (t ≤ wa) = false := decide_eq_false (by omega)
  have s1 : ((kd : Int) == 1) = true := beq_iff_eq.2 (by omega)
  have CF := fun W : World => rfell15_N (w := W) (kd := kd) (ra := ra) (en := en) (ev := ev) (la := la) (po := po) w0.1 w0.2 b0 i_ba (show wa < t by omega) hT.1 hT.2
  generalize fellR ba wa t = v at *
  clear f0 f1 b0 w0 d0 p0 i_kd i_ba i_ra i_en i_wa i_ev i_la i_po i_t i_f hR hT hI hw hk
  have cc := Below.refl w.heap.size w
  go_enter Tryz.func5, Tryz.ntmps5
  go_wp2_with fail
  generalize hv_ : w.alloc (.cells #[.int .i64 kd, .int .i64 ba, .int .i64 ra, .int .i64 en, .int .i64 wa, .int .i64 ev, .int .i64 la, .int .i64 po] 23) = v1
  have bA : Below w.heap.size w v1 := by rw [← hv_]; exact ((Below.refl _ w).alloc (by simp) _)
  replace cc := bK cc bA
  clear bA
  have sc0 : v1.cell? ⟨w.heap.size, 0, none⟩ = some (.int .i64 kd) := by simp [← hv_, go_sem]
  have sc1 : v1.cell? ⟨w.heap.size, 1, none⟩ = some (.int .i64 ba) := by simp [← hv_, go_sem]
  have sc2 : v1.cell? ⟨w.heap.size, 2, none⟩ = some (.int .i64 ra) := by simp [← hv_, go_sem]
  have sc3 : v1.cell? ⟨w.heap.size, 3, none⟩ = some (.int .i64 en) := by simp [← hv_, go_sem]
  have sc4 : v1.cell? ⟨w.heap.size, 4, none⟩ = some (.int .i64 wa) := by simp [← hv_, go_sem]
  have sc5 : v1.cell? ⟨w.heap.size, 5, none⟩ = some (.int .i64 ev) := by simp [← hv_, go_sem]
  have sc6 : v1.cell? ⟨w.heap.size, 6, none⟩ = some (.int .i64 la) := by simp [← hv_, go_sem]
  have sc7 : v1.cell? ⟨w.heap.size, 7, none⟩ = some (.int .i64 po) := by simp [← hv_, go_sem]
  have scl : w.heap.size < v1.heap.size := by simp [← hv_] <;> omega
  clear hv_
  go_wp2_with fail
  refine (CR _).mono ?_
  rintro e w2 ⟨rfl, b⟩
  rewrite [cR b scl] at sc0 sc1 sc2 sc3 sc4 sc5 sc6 sc7
  replace scl := lK b scl
  replace cc := bK cc b
  clear b
  go_wp2_with fail
  refine (CI _).mono ?_
  rintro e w3 ⟨rfl, b⟩
  rewrite [cR b scl] at sc0 sc1 sc2 sc3 sc4 sc5 sc6 sc7
  replace scl := lK b scl
  replace cc := bK cc b
  clear b
  go_wp2_with fail
  refine (CF _).mono ?_
  rintro e w4 ⟨rfl, b⟩
  rewrite [cR b scl] at sc0 sc1 sc2 sc3 sc4 sc5 sc6 sc7
  replace scl := lK b scl
  replace cc := bK cc b
  clear b
  go_wp2_with fail
  go_ret2
  exact ⟨rfl, cc⟩

theorem rRate15_poly {w : World} {kd ba ra en wa ev la po t f : Int} (hR : OkR f kd ba ra en wa ev la po) (hT : 1 ≤ t ∧ t ≤ 1000000) (hI : I64 kd ∧ I64 ba ∧ I64 ra ∧ I64 en ∧ I64 wa ∧ I64 ev ∧ I64 la ∧ I64 po ∧ I64 t ∧ I64 f) (hw : ¬ t ≤ wa) (hk : kd = 3) :
    Calls Tryz.prog 5 #[.agg #[.int .i64 kd, .int .i64 ba, .int .i64 ra, .int .i64 en, .int .i64 wa, .int .i64 ev, .int .i64 la, .int .i64 po], .int .i64 t, .int .i64 f] w (GotV w (.tuple #[.int .i64 (polyR ba en t la po), .int .i64 0])) := by
  obtain ⟨f0, f1, b0, w0, d0, p0⟩ := id hR
  obtain ⟨i_kd, i_ba, i_ra, i_en, i_wa, i_ev, i_la, i_po, i_t, i_f⟩ := id hI
  have CR : ∀ W : World, Calls Tryz.prog 8 #[.agg #[.int .i64 kd, .int .i64 ba, .int .i64 ra, .int .i64 en, .int .i64 wa, .int .i64 ev, .int .i64 la, .int .i64 po], .int .i64 f] W (GotV W (.bool true)) := fun W => by have h := rRight15_N (w := W) (f := f) (kd := kd) (ba := ba) (ra := ra) (en := en) (wa := wa) (ev := ev) (la := la) (po := po); rw [decide_eq_true hR] at h; exact h
  have CI := fun W : World => rin15_true (w := W) hT
  have t0 : decide (t ≤ wa) = false := decide_eq_false (by omega)
  have s1 : ((kd : Int) == 1) = false := beq_eq_false_iff_ne.2 (by omega)
  have s3 : ((kd : Int) == 3) = true := beq_iff_eq.2 (by omega)
  obtain ⟨p1, p2, p3, p4⟩ := p0 hk
  have CP : ∀ W : World, Calls Tryz.prog 15 #[.agg #[.int .i64 kd, .int .i64 ba, .int .i64 ra, .int .i64 en, .int .i64 wa, .int .i64 ev, .int .i64 la, .int .i64 po], .int .i64 t] W (GotV W (.int .i64 (polyR ba en t la po))) := fun W => by
    by_cases q : la ≤ t
    · exact rpoly15_end q
    · exact rpoly15_main (by omega) i_ba p3 p4 p1.1 p1.2 hT.1 p2.1 p2.2
  generalize polyR ba en t la po = v at *
  clear f0 f1 b0 w0 d0 p0 i_kd i_ba i_ra i_en i_wa i_ev i_la i_po i_t i_f hR hT hI hw hk p1 p2 p3 p4
  have cc := Below.refl w.heap.size w
  go_enter Tryz.func5, Tryz.ntmps5
  go_wp2_with fail
  generalize hv_ : w.alloc (.cells #[.int .i64 kd, .int .i64 ba, .int .i64 ra, .int .i64 en, .int .i64 wa, .int .i64 ev, .int .i64 la, .int .i64 po] 23) = v1
  have bA : Below w.heap.size w v1 := by rw [← hv_]; exact ((Below.refl _ w).alloc (by simp) _)
  replace cc := bK cc bA
  clear bA
  have sc0 : v1.cell? ⟨w.heap.size, 0, none⟩ = some (.int .i64 kd) := by simp [← hv_, go_sem]
  have sc1 : v1.cell? ⟨w.heap.size, 1, none⟩ = some (.int .i64 ba) := by simp [← hv_, go_sem]
  have sc2 : v1.cell? ⟨w.heap.size, 2, none⟩ = some (.int .i64 ra) := by simp [← hv_, go_sem]
  have sc3 : v1.cell? ⟨w.heap.size, 3, none⟩ = some (.int .i64 en) := by simp [← hv_, go_sem]
  have sc4 : v1.cell? ⟨w.heap.size, 4, none⟩ = some (.int .i64 wa) := by simp [← hv_, go_sem]
  have sc5 : v1.cell? ⟨w.heap.size, 5, none⟩ = some (.int .i64 ev) := by simp [← hv_, go_sem]
  have sc6 : v1.cell? ⟨w.heap.size, 6, none⟩ = some (.int .i64 la) := by simp [← hv_, go_sem]
  have sc7 : v1.cell? ⟨w.heap.size, 7, none⟩ = some (.int .i64 po) := by simp [← hv_, go_sem]
  have scl : w.heap.size < v1.heap.size := by simp [← hv_] <;> omega
  clear hv_
  go_wp2_with fail
  refine (CR _).mono ?_
  rintro e w2 ⟨rfl, b⟩
  rewrite [cR b scl] at sc0 sc1 sc2 sc3 sc4 sc5 sc6 sc7
  replace scl := lK b scl
  replace cc := bK cc b
  clear b
  go_wp2_with fail
  refine (CI _).mono ?_
  rintro e w3 ⟨rfl, b⟩
  rewrite [cR b scl] at sc0 sc1 sc2 sc3 sc4 sc5 sc6 sc7
  replace scl := lK b scl
  replace cc := bK cc b
  clear b
  go_wp2_with fail
  refine (CP _).mono ?_
  rintro e w4 ⟨rfl, b⟩
  rewrite [cR b scl] at sc0 sc1 sc2 sc3 sc4 sc5 sc6 sc7
  replace scl := lK b scl
  replace cc := bK cc b
  clear b
  go_wp2_with fail
  go_ret2
  exact ⟨rfl, cc⟩

theorem rRate15_const {w : World} {kd ba ra en wa ev la po t f : Int} (hR : OkR f kd ba ra en wa ev la po) (hT : 1 ≤ t ∧ t ≤ 1000000) (hI : I64 kd ∧ I64 ba ∧ I64 ra ∧ I64 en ∧ I64 wa ∧ I64 ev ∧ I64 la ∧ I64 po ∧ I64 t ∧ I64 f) (hw : ¬ t ≤ wa) (hk : kd = 0) :
    Calls Tryz.prog 5 #[.agg #[.int .i64 kd, .int .i64 ba, .int .i64 ra, .int .i64 en, .int .i64 wa, .int .i64 ev, .int .i64 la, .int .i64 po], .int .i64 t, .int .i64 f] w (GotV w (.tuple #[.int .i64 (ba), .int .i64 0])) := by
  obtain ⟨f0, f1, b0, w0, d0, p0⟩ := id hR
  obtain ⟨i_kd, i_ba, i_ra, i_en, i_wa, i_ev, i_la, i_po, i_t, i_f⟩ := id hI
  have CR : ∀ W : World, Calls Tryz.prog 8 #[.agg #[.int .i64 kd, .int .i64 ba, .int .i64 ra, .int .i64 en, .int .i64 wa, .int .i64 ev, .int .i64 la, .int .i64 po], .int .i64 f] W (GotV W (.bool true)) := fun W => by have h := rRight15_N (w := W) (f := f) (kd := kd) (ba := ba) (ra := ra) (en := en) (wa := wa) (ev := ev) (la := la) (po := po); rw [decide_eq_true hR] at h; exact h
  have CI := fun W : World => rin15_true (w := W) hT
  have t0 : decide (t ≤ wa) = false := decide_eq_false (by omega)
  have s1 : ((kd : Int) == 1) = false := beq_eq_false_iff_ne.2 (by omega)
  have s3 : ((kd : Int) == 3) = false := beq_eq_false_iff_ne.2 (by omega)
  have s2 : ((kd : Int) == 2) = false := beq_eq_false_iff_ne.2 (by omega)
  clear f0 f1 b0 w0 d0 p0 i_kd i_ba i_ra i_en i_wa i_ev i_la i_po i_t i_f hR hT hI hw hk
  have cc := Below.refl w.heap.size w
  go_enter Tryz.func5, Tryz.ntmps5
  go_wp2_with fail
  generalize hv_ : w.alloc (.cells #[.int .i64 kd, .int .i64 ba, .int .i64 ra, .int .i64 en, .int .i64 wa, .int .i64 ev, .int .i64 la, .int .i64 po] 23) = v1
  have bA : Below w.heap.size w v1 := by rw [← hv_]; exact ((Below.refl _ w).alloc (by simp) _)
  replace cc := bK cc bA
  clear bA
  have sc0 : v1.cell? ⟨w.heap.size, 0, none⟩ = some (.int .i64 kd) := by simp [← hv_, go_sem]
  have sc1 : v1.cell? ⟨w.heap.size, 1, none⟩ = some (.int .i64 ba) := by simp [← hv_, go_sem]
  have sc2 : v1.cell? ⟨w.heap.size, 2, none⟩ = some (.int .i64 ra) := by simp [← hv_, go_sem]
  have sc3 : v1.cell? ⟨w.heap.size, 3, none⟩ = some (.int .i64 en) := by simp [← hv_, go_sem]
  have sc4 : v1.cell? ⟨w.heap.size, 4, none⟩ = some (.int .i64 wa) := by simp [← hv_, go_sem]
  have sc5 : v1.cell? ⟨w.heap.size, 5, none⟩ = some (.int .i64 ev) := by simp [← hv_, go_sem]
  have sc6 : v1.cell? ⟨w.heap.size, 6, none⟩ = some (.int .i64 la) := by simp [← hv_, go_sem]
  have sc7 : v1.cell? ⟨w.heap.size, 7, none⟩ = some (.int .i64 po) := by simp [← hv_, go_sem]
  have scl : w.heap.size < v1.heap.size := by simp [← hv_] <;> omega
  clear hv_
  go_wp2_with fail
  refine (CR _).mono ?_
  rintro e w2 ⟨rfl, b⟩
  rewrite [cR b scl] at sc0 sc1 sc2 sc3 sc4 sc5 sc6 sc7
  replace scl := lK b scl
  replace cc := bK cc b
  clear b
  go_wp2_with fail
  refine (CI _).mono ?_
  rintro e w3 ⟨rfl, b⟩
  rewrite [cR b scl] at sc0 sc1 sc2 sc3 sc4 sc5 sc6 sc7
  replace scl := lK b scl
  replace cc := bK cc b
  clear b
  go_wp2_with fail
  go_ret2
  exact ⟨rfl, cc⟩

theorem rRate15_drop {w : World} {kd ba ra en wa ev la po t f : Int} (hR : OkR f kd ba ra en wa ev la po) (hT : 1 ≤ t ∧ t ≤ 1000000) (hI : I64 kd ∧ I64 ba ∧ I64 ra ∧ I64 en ∧ I64 wa ∧ I64 ev ∧ I64 la ∧ I64 po ∧ I64 t ∧ I64 f) (hw : ¬ t ≤ wa) (hk : kd = 2) :
    Calls Tryz.prog 5 #[.agg #[.int .i64 kd, .int .i64 ba, .int .i64 ra, .int .i64 en, .int .i64 wa, .int .i64 ev, .int .i64 la, .int .i64 po], .int .i64 t, .int .i64 f] w (GotV w (.tuple #[.int .i64 (dropR ba ra (2 ^ f.toNat) (min ((t - wa) / ev) 200).toNat), .int .i64 0])) := by
  obtain ⟨f0, f1, b0, w0, d0, p0⟩ := id hR
  obtain ⟨i_kd, i_ba, i_ra, i_en, i_wa, i_ev, i_la, i_po, i_t, i_f⟩ := id hI
  have CR : ∀ W : World, Calls Tryz.prog 8 #[.agg #[.int .i64 kd, .int .i64 ba, .int .i64 ra, .int .i64 en, .int .i64 wa, .int .i64 ev, .int .i64 la, .int .i64 po], .int .i64 f] W (GotV W (.bool true)) := fun W => by have h := rRight15_N (w := W) (f := f) (kd := kd) (ba := ba) (ra := ra) (en := en) (wa := wa) (ev := ev) (la := la) (po := po); rw [decide_eq_true hR] at h; exact h
  have CI := fun W : World => rin15_true (w := W) hT
  have t0 : decide (t ≤ wa) = false := decide_eq_false (by omega)
  have s1 : ((kd : Int) == 1) = false := beq_eq_false_iff_ne.2 (by omega)
  have s3 : ((kd : Int) == 3) = false := beq_eq_false_iff_ne.2 (by omega)
  have s2 : ((kd : Int) == 2) = true := beq_iff_eq.2 (by omega)
  obtain ⟨d1, d2, d3⟩ := d0 hk
  have hd : 2 ^ f.toNat ≠ 0 := Nat.ne_of_gt (Nat.pow_pos (by omega))
  have hin := drop_in hd b0 d2 d3
  obtain ⟨X, eX⟩ : ∃ X : Nat → Int, dropR ba ra (2 ^ f.toNat) = X := ⟨_, rfl⟩
  have HX : Hid (∀ i, rn (X i * ra) (2 ^ f.toNat) = X (i + 1)) := Lib.hid (fun i => by rw [← eX]; rfl)
  have HX0 : Hid (X 0 = ba) := Lib.hid (by rw [← eX]; rfl)
  rw [eX] at hin ⊢
  have HXI : Hid (∀ i, I64 (X i)) := Lib.hid (fun i => by have := hin i; unfold I64 at i_ba ⊢; omega)
  have CMu : ∀ (W : World) (i : Nat), Calls Tryz.prog 16 #[.int .i64 (X i), .int .i64 ra, .int .i64 f] W (GotV W (.tuple #[.int .i64 (X (i + 1)), .int .i64 0])) := fun W i => by
    have h := rmul8_N (w := W) (HXI.out i) i_ra f0.1 f0.2
    rw [HX.out i, (nI_yes (HXI.out (i + 1))).1, (nI_yes (HXI.out (i + 1))).2] at h
    exact h
  obtain ⟨q, eq⟩ : ∃ q, (t - wa) / ev = q := ⟨_, rfl⟩
  have q0 : 0 ≤ q ∧ q ≤ 1000000 := by rw [← eq]; exact ⟨Int.ediv_nonneg (by omega) (by omega), Int.le_trans (Int.ediv_le_self _ (by omega)) (by omega)⟩
  obtain ⟨N, eN⟩ : ∃ N : Nat, mn15 q = (N : Int) := ⟨(mn15 q).toNat, by unfold mn15; omega⟩
  have hN : N ≤ 200 := by unfold mn15 at eN; omega
  have eM : (min q 200).toNat = N := by unfold mn15 at eN; omega
  rw [eq, eM]
  obtain ⟨a, ea⟩ : ∃ a, t - wa = a := ⟨_, rfl⟩
  have k1 : IntKind.i64.wrap (t - wa) = a := by rw [ea]; exact IntWalk.i64_in _ (by omega)
  rw [ea] at eq
  have k5 : (ev == 0) = false := beq_eq_false_iff_ne.2 (by omega)
  have k7 : ¬ ev = 0 := by omega
  have k3q : Int.tdiv a ev = q := by rw [Int.tdiv_eq_ediv_of_nonneg (by omega)]; exact eq
  have k4q : IntKind.i64.wrap q = q := IntWalk.i64_in _ (by omega)
  have k6q : IntKind.i64.wrap (a / ev) = q := by rw [eq]; exact k4q
  have HN := Lib.hid hN
  clear f0 f1 b0 w0 d0 p0 i_kd i_ba i_ra i_en i_wa i_ev i_la i_po i_t i_f hR hT hI hw hk d1 d2 d3 hd hin eX eq q0 hN eM ea
  have cc := Below.refl w.heap.size w
  go_enter Tryz.func5, Tryz.ntmps5
  go_wp2_with fail
  generalize hv_ : w.alloc (.cells #[.int .i64 kd, .int .i64 ba, .int .i64 ra, .int .i64 en, .int .i64 wa, .int .i64 ev, .int .i64 la, .int .i64 po] 23) = v1
  have bA : Below w.heap.size w v1 := by rw [← hv_]; exact ((Below.refl _ w).alloc (by simp) _)
  replace cc := bK cc bA
  clear bA
  have sc0 : v1.cell? ⟨w.heap.size, 0, none⟩ = some (.int .i64 kd) := by simp [← hv_, go_sem]
  have sc1 : v1.cell? ⟨w.heap.size, 1, none⟩ = some (.int .i64 ba) := by simp [← hv_, go_sem]
  have sc2 : v1.cell? ⟨w.heap.size, 2, none⟩ = some (.int .i64 ra) := by simp [← hv_, go_sem]
  have sc3 : v1.cell? ⟨w.heap.size, 3, none⟩ = some (.int .i64 en) := by simp [← hv_, go_sem]
  have sc4 : v1.cell? ⟨w.heap.size, 4, none⟩ = some (.int .i64 wa) := by simp [← hv_, go_sem]
  have sc5 : v1.cell? ⟨w.heap.size, 5, none⟩ = some (.int .i64 ev) := by simp [← hv_, go_sem]
  have sc6 : v1.cell? ⟨w.heap.size, 6, none⟩ = some (.int .i64 la) := by simp [← hv_, go_sem]
  have sc7 : v1.cell? ⟨w.heap.size, 7, none⟩ = some (.int .i64 po) := by simp [← hv_, go_sem]
  have scl : w.heap.size < v1.heap.size := by simp [← hv_] <;> omega
  clear hv_
  go_wp2_with fail
  refine (CR _).mono ?_
  rintro e w2 ⟨rfl, b⟩
  rewrite [cR b scl] at sc0 sc1 sc2 sc3 sc4 sc5 sc6 sc7
  replace scl := lK b scl
  replace cc := bK cc b
  clear b
  go_wp2_with fail
  refine (CI _).mono ?_
  rintro e w3 ⟨rfl, b⟩
  rewrite [cR b scl] at sc0 sc1 sc2 sc3 sc4 sc5 sc6 sc7
  replace scl := lK b scl
  replace cc := bK cc b
  clear b
  have H0 := Lib.hid sc0
  have H1 := Lib.hid sc1
  have H2 := Lib.hid sc2
  have H3 := Lib.hid sc3
  have H4 := Lib.hid sc4
  have H5 := Lib.hid sc5
  have H6 := Lib.hid sc6
  have H7 := Lib.hid sc7
  have HL := Lib.hid scl
  have HC := Lib.hid cc
  go_wp2_with fail
  clear sc0 sc1 sc2 sc3 sc4 sc5 sc6 sc7 scl cc
  go_loopw [8, 9] (fun ov iv wr => ∃ i : Nat, i ≤ N ∧ iv = .int .i64 (i : Int) ∧ ov = .int .i64 (X i) ∧ Below w3.heap.size w3 wr) (fun _ iv _ => N - (intOf iv).toNat)
  case atStart => exact ⟨0, by omega, rfl, by rw [HX0.out], Below.refl _ _⟩
  case round =>
    obtain ⟨i, hi, rfl, rfl, hbl⟩ := hrel
    have sc0 := (hbl.cell (p := ⟨w.heap.size, 0, none⟩) HL.out).trans H0.out
    have sc1 := (hbl.cell (p := ⟨w.heap.size, 1, none⟩) HL.out).trans H1.out
    have sc2 := (hbl.cell (p := ⟨w.heap.size, 2, none⟩) HL.out).trans H2.out
    have sc3 := (hbl.cell (p := ⟨w.heap.size, 3, none⟩) HL.out).trans H3.out
    have sc4 := (hbl.cell (p := ⟨w.heap.size, 4, none⟩) HL.out).trans H4.out
    have sc5 := (hbl.cell (p := ⟨w.heap.size, 5, none⟩) HL.out).trans H5.out
    have sc6 := (hbl.cell (p := ⟨w.heap.size, 6, none⟩) HL.out).trans H6.out
    have sc7 := (hbl.cell (p := ⟨w.heap.size, 7, none⟩) HL.out).trans H7.out
    have scl := Nat.lt_of_lt_of_le HL.out hbl.size
    have cc := HC.out.trans (hbl.mono HC.out.size)
    have hN := HN.out
    by_cases hlt : i < N
    · have CMi := fun W : World => CMu W i
      have k8 : IntKind.i64.wrap ((i : Int) + 1) = ((i + 1 : Nat) : Int) := by rw [IntWalk.i64_in _ (by omega)]; omega
      have jl : (i : Int) < (N : Int) := by omega
      obtain ⟨x, ex⟩ : ∃ x, X i = x := ⟨_, rfl⟩
      obtain ⟨y, ey⟩ : ∃ y, X (i + 1) = y := ⟨_, rfl⟩
      rw [ex, ey] at CMi
      rw [ex]
      have HY := Lib.hid ey
      clear ex ey CMu
      go_wp2_with fail
      refine (CMi _).mono ?_
      rintro e wz ⟨rfl, b⟩
      replace hbl := bK hbl b
      clear b
      go_wp2_with fail
      go_roundw
      case rel => exact ⟨i + 1, by omega, by go_num, by rw [HY.out], hbl⟩
      case measure => simp [intOf] <;> omega
    · obtain rfl : i = N := by omega
      generalize X i = x at *
      go_wp2_with fail
      go_ret2
      exact ⟨rfl, cc⟩

theorem rRate15_N {w : World} {kd ba ra en wa ev la po t f : Int} (hI : I64 kd ∧ I64 ba ∧ I64 ra ∧ I64 en ∧ I64 wa ∧ I64 ev ∧ I64 la ∧ I64 po ∧ I64 t ∧ I64 f) : Calls Tryz.prog 5 #[.agg #[.int .i64 kd, .int .i64 ba, .int .i64 ra, .int .i64 en, .int .i64 wa, .int .i64 ev, .int .i64 la, .int .i64 po], .int .i64 t, .int .i64 f] w (GotV w (.tuple #[.int .i64 (rV f kd ba ra en wa ev la po t), .int .i64 (rE f kd ba ra en wa ev la po t)])) := by
  by_cases hR : OkR f kd ba ra en wa ev la po
  rotate_left
  · unfold rV rE; rw [if_neg (fun h => hR h.1), if_neg (fun h => hR h.1)]; exact rRate15_n0 hR
  by_cases hT : 1 ≤ t ∧ t ≤ 1000000
  rotate_left
  · unfold rV rE; rw [if_neg (fun h => hT h.2), if_neg (fun h => hT h.2)]; exact rRate15_n1 hR hT
  unfold rV rE
  rw [if_pos ⟨hR, hT⟩, if_pos ⟨hR, hT⟩]
  unfold rt15
  have hk := hR.2.1
  by_cases hw : t ≤ wa
  · rw [if_pos hw]; exact rRate15_warm hR hT hI hw
  rw [if_neg hw]
  by_cases k1 : kd = 1
  · rw [if_pos k1]; exact rRate15_root hR hT hI hw k1
  rw [if_neg k1]
  by_cases k3 : kd = 3
  · rw [if_pos k3]; exact rRate15_poly hR hT hI hw k3
  rw [if_neg k3]
  by_cases k2 : kd = 2
  · rw [if_pos k2]; exact rRate15_drop hR hT hI hw k2
  rw [if_neg k2]
  exact rRate15_const hR hT hI hw (by omega)

end Go.Proofs.YtmaolhajeoigpaaGreat

/-
  The contract of the library's Div64, for any divisor.
-/
namespace Go.Proofs.YtmaolhajeoigpaaGreat
set_option maxRecDepth 100000
open Go.RowKit

theorem norm64 {H L Y s : Nat} (hs : s = 64 - blen Y) (hH : H < Y) (hL : L < B64) (hY : Y < B64) :
    s < 64 ∧ Y * 2 ^ s < B64 ∧ B64 ≤ 2 * (Y * 2 ^ s) ∧ shlD H s + shrD L s < Y * 2 ^ s ∧ shlD L s < B64 ∧
    ((shlD H s + shrD L s) * B64 + shlD L s) / (Y * 2 ^ s) = (H * B64 + L) / Y ∧ ((shlD H s + shrD L s) * B64 + shlD L s) % (Y * 2 ^ s) / 2 ^ s = (H * B64 + L) % Y := by
  have h0 : Y ≠ 0 := by omega
  have b1 := blen_pos h0
  have b2 : blen Y ≤ 64 := blen_le (by rw [← B64_two]; exact hY)
  have b3 := lt_blen Y
  have b4 := blen_ge h0
  have e1 : 2 ^ blen Y * 2 ^ s = B64 := by rw [B64_two, ← Nat.pow_add]; congr 1; omega
  have e2 : 2 * (2 ^ (blen Y - 1) * 2 ^ s) = B64 := by
    rw [← e1, ← Nat.mul_assoc, Nat.mul_comm 2, ← Nat.pow_succ]; congr 3; omega
  have hp : 0 < 2 ^ s := Nat.pow_pos (by omega)
  have c1 : Y * 2 ^ s < B64 := by rw [← e1]; exact Nat.mul_lt_mul_of_pos_right b3 hp
  have c2 : B64 ≤ 2 * (Y * 2 ^ s) := by rw [← e2]; exact Nat.mul_le_mul_left _ (Nat.mul_le_mul_right _ b4)
  have c3 : H * 2 ^ s < B64 := Nat.lt_of_le_of_lt (Nat.mul_le_mul_right _ (by omega)) c1
  have c4 : shlD H s = H * 2 ^ s := Nat.mod_eq_of_lt c3
  have c5 : shlD L s + B64 * shrD L s = L * 2 ^ s := sh_split L (by omega)
  have c6 : shlD L s < B64 := Nat.mod_lt _ B64_pos
  have c7 : (shlD H s + shrD L s) * B64 + shlD L s = (H * B64 + L) * 2 ^ s := by
    rw [c4, Nat.add_mul, Nat.add_mul, ← c5]
    have : H * 2 ^ s * B64 = H * B64 * 2 ^ s := by ac_rfl
    rw [this, Nat.mul_comm (shrD L s)]
    omega
  have c8 : shlD H s + shrD L s < Y * 2 ^ s := by
    refine Nat.lt_of_mul_lt_mul_right (a := B64) ?_
    have k1 : H * B64 + L < Y * B64 := by
      have := Nat.mul_le_mul_right B64 (show H + 1 ≤ Y from hH)
      rw [Nat.add_mul] at this
      omega
    have k2 := Nat.mul_lt_mul_of_pos_right k1 hp
    have k3 : Y * 2 ^ s * B64 = Y * B64 * 2 ^ s := by ac_rfl
    rw [k3]
    omega
  refine ⟨by omega, c1, c2, c8, c6, ?_, ?_⟩
  · rw [c7, Nat.mul_div_mul_right _ _ hp]
  · rw [c7, Nat.mul_mod_mul_right, Nat.mul_div_cancel _ hp]
theorem shr_nat (n s : Nat) : ((n : Int)) / 2 ^ s = ((n / 2 ^ s : Nat) : Int) := by simp

set_option maxHeartbeats 4000000 in
theorem div64_full (H L Y : Nat) (w : World) (h0 : H ≠ 0) (hH : H < Y) (hL : L < B64) (hYB : Y < B64) :
    Calls Tryz.prog 38 #[.int .u64 (H : Int), .int .u64 (L : Int), .int .u64 (Y : Int)] w fun e w' => e = .returned (.tuple #[.int .u64 ((H * B64 + L) / Y : Nat), .int .u64 ((H * B64 + L) % Y : Nat)]) ∧ w = w' := by
  have hy0 : ((Y : Int) == 0) = false := by simp; omega
  have hle : decide (Y ≤ H) = false := by simp; omega
  have hh0 : ((H : Int) == 0) = false := by simp; omega
  obtain ⟨s, hs⟩ : ∃ s, s = 64 - blen Y := ⟨_, rfl⟩
  have hn := norm64 hs hH hL hYB
  have hc := shrD_lt (s := s) hL (by omega)
  have hor := or_shl H (s := s) (c := shrD L s) (by omega) hc
  have CL : Calls Tryz.prog 71 #[.int .u64 (Y : Int)] w fun e w' => e = .returned (.int .i64 (s : Int)) ∧ w = w' := by rw [hs]; exact lead_any Y w hYB
  obtain ⟨y, hyd⟩ : ∃ y, y = Y * 2 ^ s := ⟨_, rfl⟩
  obtain ⟨hi, hhd⟩ : ∃ hi, hi = shlD H s + shrD L s := ⟨_, rfl⟩
  obtain ⟨lo, hld⟩ : ∃ lo, lo = shlD L s := ⟨_, rfl⟩
  obtain ⟨t, htd⟩ : ∃ t, t = 64 - s := ⟨_, rfl⟩
  obtain ⟨c, hcd⟩ : ∃ c, c = shrD L s := ⟨_, rfl⟩
  rw [← hyd, ← hhd, ← hld] at hn
  rw [← hhd, ← hcd] at hor
  obtain ⟨hs64, hy, ht, hhi, hlo, hdiv, hmod⟩ := hn
  rw [← hdiv, ← hmod]
  have HN := Lib.hid (show y = Y * 2 ^ s from hyd)
  have as1 : IntKind.u64.wrap (s : Int) = (s : Int) := by rw [IntKind.wrap_u64]; omega
  have as2 : IntKind.u64.wrap (64 - (s : Int)) = (t : Int) := by rw [IntKind.wrap_u64, htd]; omega
  have as3 : IntKind.u64.wrap ((Y : Int) * 2 ^ s) = (y : Int) := by
    have : ((Y : Int) * 2 ^ s) = ((Y * 2 ^ s : Nat) : Int) := by simp
    rw [this, ← hyd]; exact wrap_nat hy
  have as4 : IntKind.u64.wrap ((L : Int) * 2 ^ s) = (lo : Int) := by
    rw [hld, IntKind.wrap_u64, show (18446744073709551616 : Int) = (B64 : Int) from rfl]
    unfold shlD
    simp
  have am : min t 64 = t := by omega
  have as5 : (L : Int) / 2 ^ t = (c : Int) := by rw [htd, hcd]; exact shr_eq L s
  clear hs hcd hhd hld hyd htd hc hdiv hmod hH hL
  have HS := Lib.hid hs64
  obtain ⟨y1, hy1⟩ : ∃ y1, y1 = hiH y := ⟨_, rfl⟩
  obtain ⟨y0, hyl⟩ : ∃ y0, y0 = loH y := ⟨_, rfl⟩
  obtain ⟨l1, hl1⟩ : ∃ l1, l1 = hiH lo := ⟨_, rfl⟩
  obtain ⟨l0, hll⟩ : ∃ l0, l0 = loH lo := ⟨_, rfl⟩
  have a2 : (y : Int) / 4294967296 = (y1 : Int) := by rw [hy1]; unfold hiH H32; omega
  have a3 : bits .and .u64 (y : Int) 4294967295 = (y0 : Int) := by rw [u64_and32, hyl]; unfold loH H32; omega
  have a5 : (lo : Int) / 4294967296 = (l1 : Int) := by rw [hl1]; unfold hiH H32; omega
  have a6 : bits .and .u64 (lo : Int) 4294967295 = (l0 : Int) := by rw [u64_and32, hll]; unfold loH H32; omega
  have hY := Half.start (u := hi) (y := y) (y1 := y1) (y0 := y0) (d := l1) (by rw [hy1, hyl]; unfold hiH loH; rw [Nat.mul_comm]; exact (Nat.div_add_mod y H32).symm) (by rw [hyl]; exact loH_lt y) (by rw [hy1]; exact hiH_lt hy)
    (by rw [hy1]; unfold hiH H32; unfold B64 at ht; omega) hhi (by rw [hl1]; exact hiH_lt hlo)
  have b1 : ¬ y1 = 0 := by have := hY.top; unfold H32 at this; omega
  have hr := Half.r_lt (u := hi) hY.top
  obtain ⟨q, hq⟩ : ∃ q, q = hi / y1 := ⟨_, rfl⟩
  obtain ⟨r, hr'⟩ : ∃ r, r = hi % y1 := ⟨_, rfl⟩
  rw [← hq, ← hr'] at hY
  rw [← hr'] at hr
  have a10 : IntKind.u64.wrap ((hi : Int) / (y1 : Int)) = (q : Int) := by
    rw [hq, IntKind.wrap_u64]
    have h1 : hi / y1 ≤ hi := Nat.div_le_self _ _
    have h2 : ((hi / y1 : Nat) : Int) = (hi : Int) / (y1 : Int) := by simp
    rw [← h2]
    unfold B64 at hy
    omega
  have a11 : IntKind.u64.wrap ((hi : Int) - IntKind.u64.wrap ((q : Int) * (y1 : Int))) = (r : Int) := by
    have h1 := hY.hq
    have h2 : ((q * y1 : Nat) : Int) = (q : Int) * (y1 : Int) := by simp
    rw [← h2, IntKind.wrap_u64, IntKind.wrap_u64]
    unfold B64 at hy
    omega
  have HQ := Lib.hid hq
  have HR := Lib.hid hr'
  have HY1 := Lib.hid hy1
  have HYL := Lib.hid hyl
  have HL1 := Lib.hid hl1
  have HLL := Lib.hid hll
  have HYY := Lib.hid hY
  clear hq hr' hy1 hyl hl1 hll hY
  go_enter Tryz.func38, Tryz.ntmps38
  go_upto_block 0 with (go_at_call 71; refine CL.mono ?_; rintro e w' ⟨rfl, rfl⟩)
  go_cut [15] (fun qv wx => ∃ q : Nat, qv = .int .u64 (q : Int) ∧ q < H32 ∧ Hid (q = (hi * H32 + l1) / y) ∧ w = wx)
  case first =>
    go_wp2_with fail
    go_loop [15, 16] (fun qv rv => ∃ q r : Nat, qv = .int .u64 (q : Int) ∧ rv = .int .u64 (r : Int) ∧ Half hi y y1 y0 l1 q r ∧ r < H32) (fun qv _ => (intOf qv).toNat)
    case atStart => exact ⟨q, r, rfl, rfl, HYY.out, by have := HYY.out.h1; omega⟩
    case round =>
      obtain ⟨q, r, rfl, rfl, hH, hr32⟩ := hrel
      have hq2 := hH.q_le
      have hd32 := hH.hd
      have hy32 := hH.h1
      obtain ⟨m1, hm1⟩ : ∃ m1, m1 = q * y0 := ⟨_, rfl⟩
      obtain ⟨m2, hm2⟩ : ∃ m2, m2 = H32 * r + l1 := ⟨_, rfl⟩
      have c4 : IntKind.u64.wrap (IntKind.u64.wrap (4294967296 * (r : Int)) + (l1 : Int)) = (m2 : Int) := by rw [hm2]; exact wrap_fit hr32 hd32
      by_cases hb : tooBig q y0 r l1
      · have hH' := hH.step hb
        have hpos := (hH.pos hb).2
        have hask := hH.ask hb hm1 hm2
        obtain ⟨q', hq'⟩ : ∃ q', q' = q - 1 := ⟨_, rfl⟩
        obtain ⟨r', hr'⟩ : ∃ r', r' = r + y1 := ⟨_, rfl⟩
        rw [← hq', ← hr'] at hH'
        have c1 : IntKind.u64.wrap ((q : Int) - 1) = (q' : Int) := by
          rw [IntKind.wrap_u64]; unfold H32 at hq2; omega
        have c2 : IntKind.u64.wrap ((r : Int) + (y1 : Int)) = (r' : Int) := by
          rw [IntKind.wrap_u64]; unfold H32 at hr32 hy32; omega
        have hlt : q' < q := by omega
        have HH := Lib.hid hH'
        clear hH' hH hb hm1 hm2 hq' hr' hpos hq2 hd32 hy32
        by_cases hx : H32 ≤ r'
        · have g2 : (4294967296 : Int) ≤ (r' : Int) := by unfold H32 at hx; omega
          have hfin := HH.out.fin (.inl hx)
          have HF := Lib.hid hfin
          clear hfin hx
          rcases hask with g1 | ⟨g1, c3, g3⟩
          all_goals
            go_wp2_with fail
            go_meet
            exact ⟨q', rfl, HF.out.2, Lib.hid HF.out.1, rfl⟩
        · have g2 : ¬ (4294967296 : Int) ≤ (r' : Int) := by unfold H32 at hx; omega
          have hr3 : r' < H32 := by omega
          clear hx
          rcases hask with g1 | ⟨g1, c3, g3⟩
          all_goals
            go_wp2_with fail
            go_round
            case rel => exact ⟨q', r', rfl, rfl, HH.out, hr3⟩
            case measure => simp [intOf]; omega
      · have hfin := hH.fin (.inr hb)
        obtain ⟨g1, c3, g3⟩ := hH.ask_no hb hm1 hm2
        have HF := Lib.hid hfin
        clear hfin hH hb hm1 hm2 hq2 hd32 hy32
        go_wp2_with fail
        go_meet
        exact ⟨q, rfl, HF.out.2, Lib.hid HF.out.1, rfl⟩
  case rest =>
    obtain ⟨q1, rfl, hq1, HQ1, rfl⟩ := hcut
    obtain ⟨u, hu⟩ : ∃ u, u = (hi * H32 + l1) % y := ⟨_, rfl⟩
    have hy0' : 0 < y := by omega
    have huy : u < y := by rw [hu]; exact Nat.mod_lt _ hy0'
    have d1 : IntKind.u64.wrap (IntKind.u64.wrap (IntKind.u64.wrap ((hi : Int) * 4294967296) + (l1 : Int)) - IntKind.u64.wrap ((q1 : Int) * (y : Int))) = (u : Int) := by
      have e : u + y * q1 = hi * H32 + l1 := by rw [hu, HQ1.out]; exact Nat.mod_add_div _ _
      have e2 : ((q1 : Int) * (y : Int)) = ((y * q1 : Nat) : Int) := by rw [Nat.mul_comm]; simp
      rw [e2, IntKind.wrap_u64, IntKind.wrap_u64, IntKind.wrap_u64, IntKind.wrap_u64]
      generalize y * q1 = z at *
      unfold H32 at e
      unfold B64 at hy
      omega
    have hY := Half.start (u := u) (d := l0) HYY.out.hy HYY.out.h0 HYY.out.h1 HYY.out.top huy (by rw [HLL.out]; exact loH_lt lo)
    have hr2 := Half.r_lt (u := u) hY.top
    obtain ⟨q2, hq2⟩ : ∃ q, q = u / y1 := ⟨_, rfl⟩
    obtain ⟨r2, hr2'⟩ : ∃ r, r = u % y1 := ⟨_, rfl⟩
    rw [← hq2, ← hr2'] at hY
    rw [← hr2'] at hr2
    have d2 : IntKind.u64.wrap ((u : Int) / (y1 : Int)) = (q2 : Int) := by
      rw [hq2, IntKind.wrap_u64]
      have h1 : u / y1 ≤ u := Nat.div_le_self _ _
      have h2 : ((u / y1 : Nat) : Int) = (u : Int) / (y1 : Int) := by simp
      rw [← h2]
      unfold B64 at hy
      omega
    have d3 : IntKind.u64.wrap ((u : Int) - IntKind.u64.wrap ((q2 : Int) * (y1 : Int))) = (r2 : Int) := by
      have h1 := hY.hq
      have h2 : ((q2 * y1 : Nat) : Int) = (q2 : Int) * (y1 : Int) := by simp
      rw [← h2, IntKind.wrap_u64, IntKind.wrap_u64]
      unfold B64 at hy
      omega
    have HU := Lib.hid hu
    have HZ := Lib.hid hY
    clear hu hY hq2 hr2'
    go_upto_block 2 with fail
    go_cut [18] (fun qv wx => ∃ q : Nat, qv = .int .u64 (q : Int) ∧ q < H32 ∧ Hid (q = (u * H32 + l0) / y) ∧ w = wx)
    case first =>
      go_wp2_with fail
      go_loop [18, 16] (fun qv rv => ∃ q r : Nat, qv = .int .u64 (q : Int) ∧ rv = .int .u64 (r : Int) ∧ Half u y y1 y0 l0 q r ∧ r < H32) (fun qv _ => (intOf qv).toNat)
      case atStart => exact ⟨q2, r2, rfl, rfl, HZ.out, by have := HZ.out.h1; omega⟩
      case round =>
        obtain ⟨q, r, rfl, rfl, hH, hr32⟩ := hrel
        have hq2 := hH.q_le
        have hd32 := hH.hd
        have hy32 := hH.h1
        obtain ⟨m1, hm1⟩ : ∃ m1, m1 = q * y0 := ⟨_, rfl⟩
        obtain ⟨m2, hm2⟩ : ∃ m2, m2 = H32 * r + l0 := ⟨_, rfl⟩
        have c4 : IntKind.u64.wrap (IntKind.u64.wrap (4294967296 * (r : Int)) + (l0 : Int)) = (m2 : Int) := by rw [hm2]; exact wrap_fit hr32 hd32
        by_cases hb : tooBig q y0 r l0
        · have hH' := hH.step hb
          have hpos := (hH.pos hb).2
          have hask := hH.ask hb hm1 hm2
          obtain ⟨q', hq'⟩ : ∃ q', q' = q - 1 := ⟨_, rfl⟩
          obtain ⟨r', hr'⟩ : ∃ r', r' = r + y1 := ⟨_, rfl⟩
          rw [← hq', ← hr'] at hH'
          have c1 : IntKind.u64.wrap ((q : Int) - 1) = (q' : Int) := by
            rw [IntKind.wrap_u64]; unfold H32 at hq2; omega
          have c2 : IntKind.u64.wrap ((r : Int) + (y1 : Int)) = (r' : Int) := by
            rw [IntKind.wrap_u64]; unfold H32 at hr32 hy32; omega
          have hlt : q' < q := by omega
          have HH := Lib.hid hH'
          clear hH' hH hb hm1 hm2 hq' hr' hpos hq2 hd32 hy32
          by_cases hx : H32 ≤ r'
          · have g2 : (4294967296 : Int) ≤ (r' : Int) := by unfold H32 at hx; omega
            have hfin := HH.out.fin (.inl hx)
            have HF := Lib.hid hfin
            clear hfin hx
            rcases hask with g1 | ⟨g1, c3, g3⟩
            all_goals
              go_wp2_with fail
              go_meet
              exact ⟨q', rfl, HF.out.2, Lib.hid HF.out.1, rfl⟩
          · have g2 : ¬ (4294967296 : Int) ≤ (r' : Int) := by unfold H32 at hx; omega
            have hr3 : r' < H32 := by omega
            clear hx
            rcases hask with g1 | ⟨g1, c3, g3⟩
            all_goals
              go_wp2_with fail
              go_round
              case rel => exact ⟨q', r', rfl, rfl, HH.out, hr3⟩
              case measure => simp [intOf]; omega
        · have hfin := hH.fin (.inr hb)
          obtain ⟨g1, c3, g3⟩ := hH.ask_no hb hm1 hm2
          have HF := Lib.hid hfin
          clear hfin hH hb hm1 hm2 hq2 hd32 hy32
          go_wp2_with fail
          go_meet
          exact ⟨q, rfl, HF.out.2, Lib.hid HF.out.1, rfl⟩
    case rest =>
      obtain ⟨q0, rfl, hq0, HQ0, rfl⟩ := hcut
      have hB := both_halves (hi := hi) (l1 := l1) (l0 := l0) hy0' HQ1.out HU.out HQ0.out
      have hlo2 : l1 * H32 + l0 = lo := by rw [HL1.out, HLL.out]; unfold hiH loH; rw [Nat.mul_comm]; exact Nat.div_add_mod lo H32
      rw [hlo2] at hB
      have e1 : IntKind.u64.wrap (IntKind.u64.wrap ((q1 : Int) * 4294967296) + (q0 : Int)) = ((q1 * H32 + q0 : Nat) : Int) := by
        rw [IntKind.wrap_u64, IntKind.wrap_u64]
        unfold H32 at hq1 hq0 ⊢
        omega
      have e2 : IntKind.u64.wrap (IntKind.u64.wrap (IntKind.u64.wrap ((u : Int) * 4294967296) + (l0 : Int)) - IntKind.u64.wrap ((q0 : Int) * (y : Int))) = (((u * H32 + l0) % y : Nat) : Int) := by
        have e : (u * H32 + l0) % y + y * q0 = u * H32 + l0 := by rw [HQ0.out]; exact Nat.mod_add_div _ _
        have hlt : (u * H32 + l0) % y < y := Nat.mod_lt _ hy0'
        have e2 : ((q0 : Int) * (y : Int)) = ((y * q0 : Nat) : Int) := by rw [Nat.mul_comm]; simp
        rw [e2, IntKind.wrap_u64, IntKind.wrap_u64, IntKind.wrap_u64, IntKind.wrap_u64]
        generalize y * q0 = z at *
        generalize (u * H32 + l0) % y = v at *
        unfold H32 at e
        unfold B64 at hy
        omega
      have HB := Lib.hid hB
      have E1 := Lib.hid e1
      have E2 := Lib.hid e2
      clear hB hlo2 e1 e2
      go_wp2_with fail
      go_ret2
      refine ⟨ret_two ?_ ?_, rfl⟩
      · rw [E1.out, HB.out.1]
      · rw [← HB.out.2, ← shr_nat, ← E2.out]

theorem div64_N (H L Y : Nat) (w : World) (hH : H < Y) (hL : L < B64) (hY : Y < B64) :
    Calls Tryz.prog 38 #[.int .u64 (H : Int), .int .u64 (L : Int), .int .u64 (Y : Int)] w fun e w' => e = .returned (.tuple #[.int .u64 ((H * B64 + L) / Y : Nat), .int .u64 ((H * B64 + L) % Y : Nat)]) ∧ ∃ n, w' = w.drewN n := by
  by_cases h0 : H = 0
  · subst h0
    rw [Nat.zero_mul, Nat.zero_add]
    exact div64_zero L Y w hL hH
  · refine (div64_full H L Y w h0 hH hL hY).mono ?_
    rintro e w' ⟨rfl, rfl⟩
    exact ⟨rfl, 0, rfl⟩
end Go.Proofs.YtmaolhajeoigpaaGreat

/-
  The contracts of the landed fix: size, isFrac, product, plus, mantissa.
-/
namespace Go.Proofs.YtmaolhajeoigpaaGreat
set_option maxRecDepth 100000
set_option maxHeartbeats 8000000
open Go.RowKit
set_option linter.unusedVariables false
set_option linter.unusedSimpArgs false

theorem size_neg (w : World) {a : Int} (ha : I64 a) (h : a < 0) :
    Calls Tryz.prog 20 #[.int .i64 a] w (GotV w (.int .u64 (a.natAbs : Int))) := by
  have t1 : decide (a < 0) = true := decide_eq_true h
  have k1 : IntKind.u64.wrap (-IntKind.u64.wrap a) = (a.natAbs : Int) := by unfold I64 at ha; rw [IntKind.wrap_u64, IntKind.wrap_u64]; omega
  go_enter Tryz.func20, Tryz.ntmps20
  go_wp2_with fail
  go_ret
  exact ⟨rfl, Below.refl _ _⟩

theorem size_pos (w : World) {a : Int} (ha : I64 a) (h : 0 ≤ a) :
    Calls Tryz.prog 20 #[.int .i64 a] w (GotV w (.int .u64 (a.natAbs : Int))) := by
  have t1 : decide (a < 0) = false := decide_eq_false (by omega)
  have k1 : IntKind.u64.wrap a = (a.natAbs : Int) := by unfold I64 at ha; rw [IntKind.wrap_u64]; omega
  go_enter Tryz.func20, Tryz.ntmps20
  go_wp2_with fail
  go_ret
  exact ⟨rfl, Below.refl _ _⟩

theorem size_N (w : World) {a : Int} (ha : I64 a) :
    Calls Tryz.prog 20 #[.int .i64 a] w (GotV w (.int .u64 (a.natAbs : Int))) := by
  by_cases h : a < 0
  · exact size_neg w ha h
  · exact size_pos w ha (by omega)

theorem isf_0 (w : World) {j : Int} (h : j < 0) :
    Calls Tryz.prog 83 #[.int .i64 j] w (GotV w (.bool false)) := by
  have t1 : decide (0 ≤ j) = false := decide_eq_false (by omega)
  go_enter Tryz.func83, Tryz.ntmps83
  go_wp2_with fail
  go_ret
  exact ⟨rfl, Below.refl _ _⟩

theorem isf_1 (w : World) {j : Int} (h0 : 0 ≤ j) (h1 : 40 < j) :
    Calls Tryz.prog 83 #[.int .i64 j] w (GotV w (.bool false)) := by
  have t1 : decide (0 ≤ j) = true := decide_eq_true h0
  have t2 : decide (j ≤ 40) = false := decide_eq_false (by omega)
  go_enter Tryz.func83, Tryz.ntmps83
  go_wp2_with fail
  go_ret
  exact ⟨rfl, Below.refl _ _⟩

theorem isf_2 (w : World) {j : Int} (h0 : 0 ≤ j) (h1 : j ≤ 40) :
    Calls Tryz.prog 83 #[.int .i64 j] w (GotV w (.bool true)) := by
  have t1 : decide (0 ≤ j) = true := decide_eq_true h0
  have t2 : decide (j ≤ 40) = true := decide_eq_true (by omega)
  go_enter Tryz.func83, Tryz.ntmps83
  go_wp2_with fail
  go_ret
  exact ⟨rfl, Below.refl _ _⟩

theorem isf_no (w : World) {j : Int} (h : j < 0 ∨ 40 < j) :
    Calls Tryz.prog 83 #[.int .i64 j] w (GotV w (.bool false)) := by
  by_cases h0 : 0 ≤ j
  · exact isf_1 w h0 (by omega)
  · exact isf_0 w (by omega)

theorem product_N {w : World} {x y : Nat} (hx : x < B64) (hy : y < B64) :
    Calls Tryz.prog 19 #[.int .u64 (x : Int), .int .u64 (y : Int)] w (GotV w (.agg #[.int .u64 (mulLo x y : Int), .int .u64 (mulHi x y : Int)])) := by
  have cc := Below.refl w.heap.size w
  go_enter Tryz.func19, Tryz.ntmps19
  go_wp2_with fail
  generalize hv_ : w.alloc (.cells #[.int .u64 0, .int .u64 0] 43) = v1
  obtain ⟨f0, f1⟩ : Fz2 v1 w.heap.size := by simp [Fz2, ← hv_, go_sem]
  have bA : Below w.heap.size w v1 := by rw [← hv_]; exact ((Below.refl _ w).alloc (by simp) _)
  replace cc := bK cc bA
  clear bA
  obtain ⟨g_0, g_1⟩ : Cs2 v1 w.heap.size (.int .u64 0) (.int .u64 0) := by simp [Cs2, ← hv_, go_sem]
  have g_l : w.heap.size < v1.heap.size := by simp [← hv_] <;> omega
  clear hv_
  refine (mul64_any x y _ hx hy).mono ?_
  rintro e w' ⟨rfl, rfl⟩
  go_wp2_with fail
  refine bodyPost_ret (v := .agg #[.int .u64 (mulLo x y : Int), .int .u64 (mulHi x y : Int)]) (by simp [results, Tryz.results19, go_sem, g_0, g_1]) rfl ⟨rfl, below_put cc (by omega) _ _⟩

theorem plus_N {w : World} {l h y : Nat} (hl : l < B64) (hy : y < B64) (hh : h + sumHi l y 0 < B64) :
    Calls Tryz.prog 37 #[.agg #[.int .u64 (l : Int), .int .u64 (h : Int)], .int .u64 (y : Int)] w (GotV w (.agg #[.int .u64 (sumLo l y 0 : Int), .int .u64 ((h + sumHi l y 0 : Nat) : Int)])) := by
  obtain ⟨q, hq⟩ : ∃ q, h + sumHi l y 0 = q := ⟨_, rfl⟩
  rw [hq] at hh ⊢
  have k1 : IntKind.u64.wrap ((h : Int) + (sumHi l y 0 : Int)) = (q : Int) := by rw [← hq] at hh ⊢; rw [← Int.natCast_add]; exact wrap_nat hh
  have r1 := add64_run0 l y
  clear hq
  go_enter Tryz.func37, Tryz.ntmps37
  go_wp2_with fail
  refine bodyPost_ret (v := .agg #[.int .u64 (sumLo l y 0 : Int), .int .u64 (q : Int)]) (by simp [results, Tryz.results37, go_sem]) rfl ⟨rfl, below_two _ _ _⟩

theorem mant_yes {w : World} {b : Bool} {A : Option Addr} {n c : Nat} {z : Int} (hz : Zn w b A n c z) (hx : (limbs z.natAbs).length ≤ 300) (hi : I64 z) :
    Calls Tryz.prog 39 #[.agg #[.bool b, .slice A n c]] w (GotV w (.tuple #[.int .i64 (z), .int .i64 (0)])) := by
  have cc := Below.refl w.heap.size w
  go_enter Tryz.func39, Tryz.ntmps39
  go_wp2_with fail
  generalize hv_ : w.alloc (.cells #[.bool b, .slice A n c] 49) = v1
  have bA : Below w.heap.size w v1 := by rw [← hv_]; exact ((Below.refl _ w).alloc (by simp) _)
  replace hz := hz.on bA
  replace cc := bK cc bA
  clear bA
  obtain ⟨ka0, ka1⟩ : Cs2 v1 w.heap.size (.bool b) (.slice A n c) := by simp [Cs2, ← hv_, go_sem]
  have kal : w.heap.size < v1.heap.size := by simp [← hv_] <;> omega
  clear hv_
  refine (zint_yes hz hi).mono ?_
  rintro e w2 ⟨rfl, b⟩
  replace hz := hz.on b
  rewrite [cR b kal] at ka0 ka1
  replace kal := lK b kal
  replace cc := bK cc b
  clear b
  go_wp2_with fail
  go_ret2
  exact ⟨rfl, cc⟩

theorem mant_no {w : World} {b : Bool} {A : Option Addr} {n c : Nat} {z : Int} (hz : Zn w b A n c z) (hx : (limbs z.natAbs).length ≤ 300) (hi : ¬ I64 z) :
    Calls Tryz.prog 39 #[.agg #[.bool b, .slice A n c]] w (GotV w (.tuple #[.int .i64 (0), .int .i64 (2)])) := by
  have cc := Below.refl w.heap.size w
  go_enter Tryz.func39, Tryz.ntmps39
  go_wp2_with fail
  generalize hv_ : w.alloc (.cells #[.bool b, .slice A n c] 49) = v1
  have bA : Below w.heap.size w v1 := by rw [← hv_]; exact ((Below.refl _ w).alloc (by simp) _)
  replace hz := hz.on bA
  replace cc := bK cc bA
  clear bA
  obtain ⟨ka0, ka1⟩ : Cs2 v1 w.heap.size (.bool b) (.slice A n c) := by simp [Cs2, ← hv_, go_sem]
  have kal : w.heap.size < v1.heap.size := by simp [← hv_] <;> omega
  clear hv_
  refine (zint_no hz hx hi).mono ?_
  rintro e w2 ⟨rfl, b⟩
  replace hz := hz.on b
  rewrite [cR b kal] at ka0 ka1
  replace kal := lK b kal
  replace cc := bK cc b
  clear b
  go_wp2_with fail
  go_ret2
  exact ⟨rfl, cc⟩

theorem mant_N {w : World} {b : Bool} {A : Option Addr} {n c : Nat} {z : Int} (hz : Zn w b A n c z) (hx : (limbs z.natAbs).length ≤ 300) :
    Calls Tryz.prog 39 #[.agg #[.bool b, .slice A n c]] w (GotV w (.tuple #[.int .i64 (nI (z)), .int .i64 (nE (z))])) := by
  by_cases hi : I64 z
  · rw [(nI_yes hi).1, (nI_yes hi).2]; exact mant_yes hz hx hi
  · rw [(nI_no hi).1, (nI_no hi).2]; exact mant_no hz hx hi

end Go.Proofs.YtmaolhajeoigpaaGreat
