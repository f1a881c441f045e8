/-
  The ways of IvalRoot.
-/
import Derived.Test.YtanpklbconflmaaGreatFO
import Derived.Test.YtanpklbconflmaaGreatA3
namespace Go.Proofs.YtanpklbconflmaaGreat
set_option maxRecDepth 100000
set_option maxHeartbeats 8000000
open Go.RowKit
set_option linter.unusedVariables false
set_option linter.unusedSimpArgs false

theorem IvalRoot_no0 {w : World} {b0 p0 : Bool} {A0 B0 V0 U0 : Option Addr} {n0 c0 m0 d0 r0 k0 o0 q0 : Nat} {j : Int} (G0 : ∀ W : World, Below w.heap.size w W → Calls Tryz.prog 17 #[.agg #[.bool b0, .slice A0 n0 c0, .slice B0 m0 d0, .bool p0, .slice V0 r0 k0, .slice U0 o0 q0], .int .i64 3] W (GotV W (.bool false))) :
    Calls Tryz.prog 8 #[.agg #[.bool b0, .slice A0 n0 c0, .slice B0 m0 d0, .bool p0, .slice V0 r0 k0, .slice U0 o0 q0], .int .i64 j] w (fun e w' => e = .returned (.bool true) ∧ Below w.heap.size w w') := by
  have cc := Below.refl w.heap.size w
  go_enter Tryz.func8, Tryz.ntmps8
  go_wp2_with fail
  generalize hv_ : w.alloc (.cells #[.bool b0, .slice A0 n0 c0, .slice B0 m0 d0, .bool p0, .slice V0 r0 k0, .slice U0 o0 q0] 29) = v1
  have bA : Below w.heap.size w v1 := by rw [← hv_]; exact ((Below.refl _ w).alloc (by simp) _)
  replace cc := bK cc bA
  clear bA
  obtain ⟨pa0, pa1, pa2, pa3, pa4, pa5⟩ : Cs6 v1 w.heap.size (.bool b0) (.slice A0 n0 c0) (.slice B0 m0 d0) (.bool p0) (.slice V0 r0 k0) (.slice U0 o0 q0) := by simp [Cs6, ← hv_, go_sem]
  have pal : w.heap.size < v1.heap.size := by simp [← hv_] <;> omega
  clear hv_
  refine (G0 _ cc).mono ?_
  rintro e w2 ⟨rfl, b⟩
  rewrite [cR b pal] at pa0 pa1 pa2 pa3 pa4 pa5
  replace pal := lK b pal
  replace cc := bK cc b
  clear b
  go_wp2_with fail
  refine (alive7_any _).mono ?_
  rintro e w3 ⟨rfl, b⟩
  rewrite [cR b pal] at pa0 pa1 pa2 pa3 pa4 pa5
  replace pal := lK b pal
  replace cc := bK cc b
  clear b
  go_wp2_with fail
  go_ret
  exact ⟨rfl, cc⟩

theorem IvalRoot_low {w : World} {b0 p0 : Bool} {A0 B0 V0 U0 : Option Addr} {n0 c0 m0 d0 r0 k0 o0 q0 : Nat} {j : Int} (G0 : ∀ W : World, Below w.heap.size w W → Calls Tryz.prog 17 #[.agg #[.bool b0, .slice A0 n0 c0, .slice B0 m0 d0, .bool p0, .slice V0 r0 k0, .slice U0 o0 q0], .int .i64 3] W (GotV W (.bool true))) (hj : j < 0) :
    Calls Tryz.prog 8 #[.agg #[.bool b0, .slice A0 n0 c0, .slice B0 m0 d0, .bool p0, .slice V0 r0 k0, .slice U0 o0 q0], .int .i64 j] w (fun e w' => e = .returned (.bool true) ∧ Below w.heap.size w w') := by
  have t1_ : decide (j < 0) = true := decide_eq_true hj
  have cc := Below.refl w.heap.size w
  go_enter Tryz.func8, Tryz.ntmps8
  go_wp2_with fail
  generalize hv_ : w.alloc (.cells #[.bool b0, .slice A0 n0 c0, .slice B0 m0 d0, .bool p0, .slice V0 r0 k0, .slice U0 o0 q0] 29) = v1
  have bA : Below w.heap.size w v1 := by rw [← hv_]; exact ((Below.refl _ w).alloc (by simp) _)
  replace cc := bK cc bA
  clear bA
  obtain ⟨pa0, pa1, pa2, pa3, pa4, pa5⟩ : Cs6 v1 w.heap.size (.bool b0) (.slice A0 n0 c0) (.slice B0 m0 d0) (.bool p0) (.slice V0 r0 k0) (.slice U0 o0 q0) := by simp [Cs6, ← hv_, go_sem]
  have pal : w.heap.size < v1.heap.size := by simp [← hv_] <;> omega
  clear hv_
  refine (G0 _ cc).mono ?_
  rintro e w2 ⟨rfl, b⟩
  rewrite [cR b pal] at pa0 pa1 pa2 pa3 pa4 pa5
  replace pal := lK b pal
  replace cc := bK cc b
  clear b
  go_wp2_with fail
  refine (alive7_any _).mono ?_
  rintro e w3 ⟨rfl, b⟩
  rewrite [cR b pal] at pa0 pa1 pa2 pa3 pa4 pa5
  replace pal := lK b pal
  replace cc := bK cc b
  clear b
  go_wp2_with fail
  go_ret
  exact ⟨rfl, cc⟩

theorem IvalRoot_high {w : World} {b0 p0 : Bool} {A0 B0 V0 U0 : Option Addr} {n0 c0 m0 d0 r0 k0 o0 q0 : Nat} {j : Int} (G0 : ∀ W : World, Below w.heap.size w W → Calls Tryz.prog 17 #[.agg #[.bool b0, .slice A0 n0 c0, .slice B0 m0 d0, .bool p0, .slice V0 r0 k0, .slice U0 o0 q0], .int .i64 3] W (GotV W (.bool true))) (hj : 300 < j) :
    Calls Tryz.prog 8 #[.agg #[.bool b0, .slice A0 n0 c0, .slice B0 m0 d0, .bool p0, .slice V0 r0 k0, .slice U0 o0 q0], .int .i64 j] w (fun e w' => e = .returned (.bool true) ∧ Below w.heap.size w w') := by
  have t1_ : decide (j < 0) = false := decide_eq_false (by omega)
  have t2_ : decide (300 < j) = true := decide_eq_true hj
  have cc := Below.refl w.heap.size w
  go_enter Tryz.func8, Tryz.ntmps8
  go_wp2_with fail
  generalize hv_ : w.alloc (.cells #[.bool b0, .slice A0 n0 c0, .slice B0 m0 d0, .bool p0, .slice V0 r0 k0, .slice U0 o0 q0] 29) = v1
  have bA : Below w.heap.size w v1 := by rw [← hv_]; exact ((Below.refl _ w).alloc (by simp) _)
  replace cc := bK cc bA
  clear bA
  obtain ⟨pa0, pa1, pa2, pa3, pa4, pa5⟩ : Cs6 v1 w.heap.size (.bool b0) (.slice A0 n0 c0) (.slice B0 m0 d0) (.bool p0) (.slice V0 r0 k0) (.slice U0 o0 q0) := by simp [Cs6, ← hv_, go_sem]
  have pal : w.heap.size < v1.heap.size := by simp [← hv_] <;> omega
  clear hv_
  refine (G0 _ cc).mono ?_
  rintro e w2 ⟨rfl, b⟩
  rewrite [cR b pal] at pa0 pa1 pa2 pa3 pa4 pa5
  replace pal := lK b pal
  replace cc := bK cc b
  clear b
  go_wp2_with fail
  refine (alive7_any _).mono ?_
  rintro e w3 ⟨rfl, b⟩
  rewrite [cR b pal] at pa0 pa1 pa2 pa3 pa4 pa5
  replace pal := lK b pal
  replace cc := bK cc b
  clear b
  go_wp2_with fail
  go_ret
  exact ⟨rfl, cc⟩

theorem IvalRoot_neg {w : World} {b0 p0 : Bool} {A0 B0 V0 U0 : Option Addr} {n0 c0 m0 d0 r0 k0 o0 q0 : Nat} {j : Int} {x0 y0 : Rat} (h0 : Rt w b0 A0 n0 c0 B0 m0 d0 x0) (g0 : Rt w p0 V0 r0 k0 U0 o0 q0 y0) (s0 : Sz x0 3) (t0 : Sz y0 3) (G0 : ∀ W : World, Below w.heap.size w W → Calls Tryz.prog 17 #[.agg #[.bool b0, .slice A0 n0 c0, .slice B0 m0 d0, .bool p0, .slice V0 r0 k0, .slice U0 o0 q0], .int .i64 3] W (GotV W (.bool true))) (j0 : 0 ≤ j) (j1 : j ≤ 300) (hb : b0 = true) :
    Calls Tryz.prog 8 #[.agg #[.bool b0, .slice A0 n0 c0, .slice B0 m0 d0, .bool p0, .slice V0 r0 k0, .slice U0 o0 q0], .int .i64 j] w (fun e w' => e = .returned (.bool true) ∧ Below w.heap.size w w') := by
  have t1_ : decide (j < 0) = false := decide_eq_false (by omega)
  have t2_ : decide (300 < j) = false := decide_eq_false (by omega)
  subst hb
  have cc := Below.refl w.heap.size w
  go_enter Tryz.func8, Tryz.ntmps8
  go_wp2_with fail
  generalize hv_ : w.alloc (.cells #[.bool true, .slice A0 n0 c0, .slice B0 m0 d0, .bool p0, .slice V0 r0 k0, .slice U0 o0 q0] 29) = v1
  have bA : Below w.heap.size w v1 := by rw [← hv_]; exact ((Below.refl _ w).alloc (by simp) _)
  replace h0 := h0.on bA
  replace g0 := g0.on bA
  replace cc := bK cc bA
  clear bA
  obtain ⟨pa0, pa1, pa2, pa3, pa4, pa5⟩ : Cs6 v1 w.heap.size (.bool true) (.slice A0 n0 c0) (.slice B0 m0 d0) (.bool p0) (.slice V0 r0 k0) (.slice U0 o0 q0) := by simp [Cs6, ← hv_, go_sem]
  have pal : w.heap.size < v1.heap.size := by simp [← hv_] <;> omega
  clear hv_
  refine (G0 _ cc).mono ?_
  rintro e w2 ⟨rfl, b⟩
  replace h0 := h0.on b
  replace g0 := g0.on b
  rewrite [cR b pal] at pa0 pa1 pa2 pa3 pa4 pa5
  replace pal := lK b pal
  replace cc := bK cc b
  clear b
  go_wp2_with fail
  refine (isqrt_no h0 (s0.le (by omega)) (.inr (.inr rfl))).mono ?_
  rintro e w3 ⟨rfl, b⟩
  replace h0 := h0.on b
  replace g0 := g0.on b
  rewrite [cR b pal] at pa0 pa1 pa2 pa3 pa4 pa5
  replace pal := lK b pal
  replace cc := bK cc b
  clear b
  go_wp2_with fail
  generalize hv_ : w3.alloc (.cells #[.bool false, .slice none 0 0, .slice none 0 0, .bool false, .slice none 0 0, .slice none 0 0] 29) = v4
  have bA : Below w3.heap.size w3 v4 := by rw [← hv_]; exact below_one _ _
  replace h0 := h0.on bA
  replace g0 := g0.on bA
  rewrite [cR bA pal] at pa0 pa1 pa2 pa3 pa4 pa5
  replace pal := lK bA pal
  replace cc := bK cc bA
  clear bA
  obtain ⟨rr0, rr1, rr2, rr3, rr4, rr5⟩ : Cs6 v4 w3.heap.size (.bool false) (.slice none 0 0) (.slice none 0 0) (.bool false) (.slice none 0 0) (.slice none 0 0) := by simp [Cs6, ← hv_, go_sem]
  have rrl : w3.heap.size < v4.heap.size := by simp [← hv_]
  clear hv_
  go_wp2_with fail
  refine (alive7_any _).mono ?_
  rintro e w5 ⟨rfl, b⟩
  replace h0 := h0.on b
  replace g0 := g0.on b
  rewrite [cR b pal] at pa0 pa1 pa2 pa3 pa4 pa5
  replace pal := lK b pal
  rewrite [cR b rrl] at rr0 rr1 rr2 rr3 rr4 rr5
  replace rrl := lK b rrl
  replace cc := bK cc b
  clear b
  go_wp2_with fail
  go_ret
  exact ⟨rfl, cc⟩

theorem IvalRoot_less {w : World} {b0 p0 : Bool} {A0 B0 V0 U0 : Option Addr} {n0 c0 m0 d0 r0 k0 o0 q0 : Nat} {j : Int} {x0 y0 : Rat} (h0 : Rt w b0 A0 n0 c0 B0 m0 d0 x0) (g0 : Rt w p0 V0 r0 k0 U0 o0 q0 y0) (s0 : Sz x0 3) (t0 : Sz y0 3) (G0 : ∀ W : World, Below w.heap.size w W → Calls Tryz.prog 17 #[.agg #[.bool b0, .slice A0 n0 c0, .slice B0 m0 d0, .bool p0, .slice V0 r0 k0, .slice U0 o0 q0], .int .i64 3] W (GotV W (.bool true))) (j0 : 0 ≤ j) (j1 : j ≤ 300) (hb : b0 = false) (hxy : x0 ≤ y0) (hl : (sqh y0 j.toNat - bak 1 j.toNat).num < 0) :
    Calls Tryz.prog 8 #[.agg #[.bool b0, .slice A0 n0 c0, .slice B0 m0 d0, .bool p0, .slice V0 r0 k0, .slice U0 o0 q0], .int .i64 j] w (fun e w' => e = .returned (.bool true) ∧ Below w.heap.size w w') := by
  have t1_ : decide (j < 0) = false := decide_eq_false (by omega)
  have t2_ : decide (300 < j) = false := decide_eq_false (by omega)
  have hx0 : ¬ x0.num < 0 := of_decide_eq_false (h0.1.2.symm.trans hb)
  have hy0 := num_up hxy hx0
  obtain ⟨k, hk⟩ : ∃ k, j.toNat = k := ⟨_, rfl⟩
  have jk : k ≤ 310 := by omega
  have jk5 : k ≤ 500 := by omega
  rw [hk] at hl
  have zl_ := sqr_bak_sz (s0.le (show 3 ≤ 10 by omega)) jk
  have zh_ := sqh_sz (t0.le (show 3 ≤ 10 by omega)) jk
  have zs_ : Sz (bak 1 k) 8 := bak_sz (Nat.le_trans (len_one (by decide)) (by omega)) (by omega) jk5
  have m1 := sqr_le k hx0
  have m2 := sqr_lt k hx0
  rw [bak_step] at m2
  have m3 := sqh_ge k hy0
  have m4 := sqh_less k hy0
  have m5 := sqr_sqh k hx0 hy0 hxy
  have m6 := sqr_on x0 k
  have m7 := sqh_on y0 k
  have m8 := bak_nat (sqr x0 k) k
  obtain ⟨sl, q_sl⟩ : ∃ r, bak (sqr x0 k : Int) k = r := ⟨_, rfl⟩
  rw [q_sl] at zl_ m1 m2 m5 m6 m8
  obtain ⟨sh, q_sh⟩ : ∃ r, sqh y0 k = r := ⟨_, rfl⟩
  rw [q_sh] at zh_ m3 m4 m5 m7 hl
  obtain ⟨st, q_st⟩ : ∃ r, bak 1 k = r := ⟨_, rfl⟩
  rw [q_st] at zs_ m2 m4 hl
  have QI : ∀ {W : World} {p0 : Bool} {A0 B0 V0 U0 : Option Addr} {n0 c0 m0 d0 r0 k0 o0 q0 : Nat}, Rt W false A0 n0 c0 B0 m0 d0 x0 → Rt W p0 V0 r0 k0 U0 o0 q0 y0 → Calls Tryz.prog 30 #[.agg #[.bool false, .slice A0 n0 c0, .slice B0 m0 d0, .bool p0, .slice V0 r0 k0, .slice U0 o0 q0], .int .i64 j] W (GotSp W sl sh 0) := fun a b => by rw [← q_sl, ← q_sh, ← hk]; exact isqrt_N a b (s0.le (by omega)) (t0.le (by omega)) (by omega) (by omega) rfl hxy
  have OR : ∀ {W : World} {b0 p0 : Bool} {A0 B0 V0 U0 : Option Addr} {n0 c0 m0 d0 r0 k0 o0 q0 : Nat}, Rt W b0 A0 n0 c0 B0 m0 d0 sl → Rt W p0 V0 r0 k0 U0 o0 q0 sh → Calls Tryz.prog 29 #[.agg #[.bool b0, .slice A0 n0 c0, .slice B0 m0 d0, .bool p0, .slice V0 r0 k0, .slice U0 o0 q0], .int .i64 j] W (GotSp W sl sh 0) := fun a b => by have h := stout_N a b (zl_.le (by omega)) (zh_.le (by omega)) (j := j) (by omega) (by omega); rw [hk, m6, m7] at h; exact h
  have CB : ∀ {W : World} {A : Option Addr} {n c : Nat}, Zn W false A n c 1 → Calls Tryz.prog 37 #[.agg #[.bool false, .slice A n c], .int .i64 j] W (GotRp W st 0) := fun a => by rw [← q_st, ← hk]; exact rback_N a (Nat.le_trans (len_one (by decide)) (by omega)) (by omega) (by omega)
  have HN : Hid (decide (sl.num < 0) = false) := Lib.hid (decide_eq_false (by have := Rat.num_nonneg.2 m8; omega))
  have HR : Hid (decide (sl ≤ sh) = true) := Lib.hid (decide_eq_true m5)
  have zm_ := zl_.add zs_
  have zn_ := zh_.sub zs_
  clear q_sl q_sh q_st hk m5 m6 m7 m8 hx0 hy0 hxy jk jk5
  obtain ⟨mv, q_mv⟩ : ∃ r, sl + st = r := ⟨_, rfl⟩
  rw [q_mv] at m2 zm_
  obtain ⟨lv, q_lv⟩ : ∃ r, sh - st = r := ⟨_, rfl⟩
  rw [q_lv] at m4 hl zn_
  have CA : ∀ {W : World} {b0 : Bool} {A0 B0 : Option Addr} {n0 c0 m0 d0 : Nat} {b1 : Bool} {A1 B1 : Option Addr} {n1 c1 m1 d1 : Nat}, Rt W b0 A0 n0 c0 B0 m0 d0 sl → Rt W b1 A1 n1 c1 B1 m1 d1 st → Calls Tryz.prog 33 #[.agg #[.bool b0, .slice A0 n0 c0, .slice B0 m0 d0], .agg #[.bool b1, .slice A1 n1 c1, .slice B1 m1 d1]] W (GotRt W mv) := fun a b => by rw [← q_mv]; exact rtadd_N a (zl_.le (by omega)) b (zs_.le (by omega))
  have CM : ∀ {W : World} {b0 : Bool} {A0 B0 : Option Addr} {n0 c0 m0 d0 : Nat} {b1 : Bool} {A1 B1 : Option Addr} {n1 c1 m1 d1 : Nat}, Rt W b0 A0 n0 c0 B0 m0 d0 sh → Rt W b1 A1 n1 c1 B1 m1 d1 st → Calls Tryz.prog 38 #[.agg #[.bool b0, .slice A0 n0 c0, .slice B0 m0 d0], .agg #[.bool b1, .slice A1 n1 c1, .slice B1 m1 d1]] W (GotRt W lv) := fun a b => by rw [← q_lv]; exact rtsub_N a (zh_.le (by omega)) b (zs_.le (by omega))
  clear q_mv q_lv
  have HL : Hid (decide (lv.num < 0) = true) := Lib.hid (decide_eq_true hl)
  have zll := zl_.mul zl_
  have zmm := zm_.mul zm_
  have zhh := zh_.mul zh_
  have znn := zn_.mul zn_
  obtain ⟨c1_, ec1_⟩ : ∃ c, cmpQ (sl * sl) x0 = c := ⟨_, rfl⟩
  have Hc1_ := Lib.hid ec1_
  obtain ⟨c2_, ec2_⟩ : ∃ c, cmpQ (mv * mv) x0 = c := ⟨_, rfl⟩
  have Hc2_ := Lib.hid ec2_
  obtain ⟨c3_, ec3_⟩ : ∃ c, cmpQ (sh * sh) y0 = c := ⟨_, rfl⟩
  have Hc3_ := Lib.hid ec3_
  have t3_ : decide (c1_ ≤ 0) = true := decide_eq_true (by rw [← ec1_]; exact cmpQ_le.2 m1)
  have t4_ : decide (0 < c2_) = true := decide_eq_true (by rw [← ec2_]; exact cmpQ_pos.2 m2)
  have t5_ : decide (0 ≤ c3_) = true := decide_eq_true (by rw [← ec3_]; exact cmpQ_nneg.2 m3)
  clear ec1_ ec2_ ec3_ m1 m2 m3 m4 hl
  subst hb
  have cc := Below.refl w.heap.size w
  go_enter Tryz.func8, Tryz.ntmps8
  go_wp2_with fail
  generalize hv_ : w.alloc (.cells #[.bool false, .slice A0 n0 c0, .slice B0 m0 d0, .bool p0, .slice V0 r0 k0, .slice U0 o0 q0] 29) = v1
  have bA : Below w.heap.size w v1 := by rw [← hv_]; exact ((Below.refl _ w).alloc (by simp) _)
  replace h0 := h0.on bA
  replace g0 := g0.on bA
  replace cc := bK cc bA
  clear bA
  obtain ⟨pa0, pa1, pa2, pa3, pa4, pa5⟩ : Cs6 v1 w.heap.size (.bool false) (.slice A0 n0 c0) (.slice B0 m0 d0) (.bool p0) (.slice V0 r0 k0) (.slice U0 o0 q0) := by simp [Cs6, ← hv_, go_sem]
  have pal : w.heap.size < v1.heap.size := by simp [← hv_] <;> omega
  clear hv_
  refine (G0 _ cc).mono ?_
  rintro e w2 ⟨rfl, b⟩
  replace h0 := h0.on b
  replace g0 := g0.on b
  rewrite [cR b pal] at pa0 pa1 pa2 pa3 pa4 pa5
  replace pal := lK b pal
  replace cc := bK cc b
  clear b
  go_wp2_with fail
  refine (QI h0 g0).mono ?_
  rintro e w3 ⟨bu, Au, nu, cu, Bu, mu, du, pu, Vu, ru, ku, Uu, ou, qu, rfl, ⟨hu, gu⟩, b⟩
  have hbu : bu = false := hu.1.2.trans HN.out
  subst hbu
  replace h0 := h0.on b
  replace g0 := g0.on b
  rewrite [cR b pal] at pa0 pa1 pa2 pa3 pa4 pa5
  replace pal := lK b pal
  replace cc := bK cc b
  clear b
  go_wp2_with fail
  generalize hv_ : w3.alloc (.cells #[.bool false, .slice Au nu cu, .slice Bu mu du, .bool pu, .slice Vu ru ku, .slice Uu ou qu] 29) = v4
  have bA : Below w3.heap.size w3 v4 := by rw [← hv_]; exact below_one _ _
  replace h0 := h0.on bA
  replace g0 := g0.on bA
  replace hu := hu.on bA
  replace gu := gu.on bA
  rewrite [cR bA pal] at pa0 pa1 pa2 pa3 pa4 pa5
  replace pal := lK bA pal
  replace cc := bK cc bA
  clear bA
  obtain ⟨rr0, rr1, rr2, rr3, rr4, rr5⟩ : Cs6 v4 w3.heap.size (.bool false) (.slice Au nu cu) (.slice Bu mu du) (.bool pu) (.slice Vu ru ku) (.slice Uu ou qu) := by simp [Cs6, ← hv_, go_sem]
  have rrl : w3.heap.size < v4.heap.size := by simp [← hv_]
  clear hv_
  go_wp2_with fail
  refine (stright_N hu gu (zl_.le (by omega)) (zh_.le (by omega)) true HR.out).mono ?_
  rintro e w5 ⟨rfl, b⟩
  replace h0 := h0.on b
  replace g0 := g0.on b
  replace hu := hu.on b
  replace gu := gu.on b
  rewrite [cR b pal] at pa0 pa1 pa2 pa3 pa4 pa5
  replace pal := lK b pal
  rewrite [cR b rrl] at rr0 rr1 rr2 rr3 rr4 rr5
  replace rrl := lK b rrl
  replace cc := bK cc b
  clear b
  go_wp2_with fail
  generalize hv_ : w5.alloc (.cells #[.int .u64 1] 53) = v6
  have n1_ : Num v6 (some ⟨w5.heap.size, 0, none⟩) 1 1 1 := by rw [← hv_]; exact num_one (x := 1) (by decide) (by decide) w5
  have bA : Below w5.heap.size w5 v6 := by rw [← hv_]; exact below_one _ _
  replace h0 := h0.on bA
  replace g0 := g0.on bA
  replace hu := hu.on bA
  replace gu := gu.on bA
  rewrite [cR bA pal] at pa0 pa1 pa2 pa3 pa4 pa5
  replace pal := lK bA pal
  rewrite [cR bA rrl] at rr0 rr1 rr2 rr3 rr4 rr5
  replace rrl := lK bA rrl
  replace cc := bK cc bA
  clear bA
  have nn0 : v6.cell? ⟨w5.heap.size, 0, none⟩ = some (.int .u64 1) := by simp [← hv_, go_sem]
  have nnl : w5.heap.size < v6.heap.size := by simp [← hv_]
  clear hv_
  have z1_ : Zn v6 false (some ⟨w5.heap.size, 0, none⟩) 1 1 1 := zn_nat n1_
  refine (CB z1_).mono ?_
  rintro e w7 ⟨bt, At, nt, ct, Bt, mt, dt, rfl, ht, b⟩
  replace h0 := h0.on b
  replace g0 := g0.on b
  replace hu := hu.on b
  replace gu := gu.on b
  replace n1_ := n1_.on b
  replace z1_ := z1_.on b
  rewrite [cR b pal] at pa0 pa1 pa2 pa3 pa4 pa5
  replace pal := lK b pal
  rewrite [cR b rrl] at rr0 rr1 rr2 rr3 rr4 rr5
  replace rrl := lK b rrl
  replace nn0 := cK b nn0 nnl
  replace nnl := lK b nnl
  replace cc := bK cc b
  clear b
  clear n1_ z1_
  go_wp2_with fail
  generalize hv_ : w7.alloc (.cells #[.bool bt, .slice At nt ct, .slice Bt mt dt] 27) = v8
  have bA : Below w7.heap.size w7 v8 := by rw [← hv_]; exact below_one _ _
  replace h0 := h0.on bA
  replace g0 := g0.on bA
  replace hu := hu.on bA
  replace gu := gu.on bA
  replace ht := ht.on bA
  rewrite [cR bA pal] at pa0 pa1 pa2 pa3 pa4 pa5
  replace pal := lK bA pal
  rewrite [cR bA rrl] at rr0 rr1 rr2 rr3 rr4 rr5
  replace rrl := lK bA rrl
  replace nn0 := cK bA nn0 nnl
  replace nnl := lK bA nnl
  replace cc := bK cc bA
  clear bA
  obtain ⟨sp0, sp1, sp2⟩ : Cs3 v8 w7.heap.size (.bool bt) (.slice At nt ct) (.slice Bt mt dt) := by simp [Cs3, ← hv_, go_sem]
  have spl : w7.heap.size < v8.heap.size := by simp [← hv_]
  clear hv_
  go_upto_region 9 with fail
  go_cut [9, 10] (fun ux uy wx => ∃ (gx gy : Nat) (bx : Bool) (Ax : Option Addr) (nx kx : Nat) (Cx : Option Addr) (mx dx : Nat) (bY : Bool) (Ay : Option Addr) (ny ky : Nat) (Cy : Option Addr) (my dy : Nat), ux = .pointer (some ⟨gx, 0, none⟩) ∧ uy = .pointer (some ⟨gy, 0, none⟩) ∧ BothR v8 wx gx gy bx Ax nx kx Cx mx dx bY Ay ny ky Cy my dy (mv) (lv))
  case first =>
    have BB0 : Below v8.heap.size v8 v8.drew := below_drewN (Below.refl _ v8) 1
    have BB1 : Below v8.heap.size v8 (v8.alloc (.cells #[.bool false, .slice none 0 0, .slice none 0 0] 27)).drew := below_drewN (below_one _ _) 1
    have BB2 : Below v8.heap.size v8 ((v8.alloc (.cells #[.bool false, .slice none 0 0, .slice none 0 0] 27)).alloc (.cells #[.bool false, .slice none 0 0, .slice none 0 0] 27)).drew := below_drewN (below_two _ _ _) 1
    go_region_held3 (fun w' => w'.cell? ⟨w.heap.size, 0, none⟩ = some (.bool false) ∧ w'.cell? ⟨w.heap.size, 1, none⟩ = some (.slice A0 n0 c0) ∧ w'.cell? ⟨w.heap.size, 2, none⟩ = some (.slice B0 m0 d0) ∧ w'.cell? ⟨w.heap.size, 3, none⟩ = some (.bool p0) ∧ w'.cell? ⟨w.heap.size, 4, none⟩ = some (.slice V0 r0 k0) ∧ w'.cell? ⟨w.heap.size, 5, none⟩ = some (.slice U0 o0 q0) ∧ w'.cell? ⟨w3.heap.size, 0, none⟩ = some (.bool false) ∧ w'.cell? ⟨w3.heap.size, 1, none⟩ = some (.slice Au nu cu) ∧ w'.cell? ⟨w3.heap.size, 2, none⟩ = some (.slice Bu mu du) ∧ w'.cell? ⟨w3.heap.size, 3, none⟩ = some (.bool pu) ∧ w'.cell? ⟨w3.heap.size, 4, none⟩ = some (.slice Vu ru ku) ∧ w'.cell? ⟨w3.heap.size, 5, none⟩ = some (.slice Uu ou qu) ∧ w'.cell? ⟨w5.heap.size, 0, none⟩ = some (.int .u64 1) ∧ w'.cell? ⟨w7.heap.size, 0, none⟩ = some (.bool bt) ∧ w'.cell? ⟨w7.heap.size, 1, none⟩ = some (.slice At nt ct) ∧ w'.cell? ⟨w7.heap.size, 2, none⟩ = some (.slice Bt mt dt))
      (first | with_reducible exact ⟨(cK qq pa0 pal), (cK qq pa1 pal), (cK qq pa2 pal), (cK qq pa3 pal), (cK qq pa4 pal), (cK qq pa5 pal), (cK qq rr0 rrl), (cK qq rr1 rrl), (cK qq rr2 rrl), (cK qq rr3 rrl), (cK qq rr4 rrl), (cK qq rr5 rrl), (cK qq nn0 nnl), (cK qq sp0 spl), (cK qq sp1 spl), (cK qq sp2 spl)⟩ | with_reducible exact ⟨keep_alloc ((cK qq pa0 pal)), keep_alloc ((cK qq pa1 pal)), keep_alloc ((cK qq pa2 pal)), keep_alloc ((cK qq pa3 pal)), keep_alloc ((cK qq pa4 pal)), keep_alloc ((cK qq pa5 pal)), keep_alloc ((cK qq rr0 rrl)), keep_alloc ((cK qq rr1 rrl)), keep_alloc ((cK qq rr2 rrl)), keep_alloc ((cK qq rr3 rrl)), keep_alloc ((cK qq rr4 rrl)), keep_alloc ((cK qq rr5 rrl)), keep_alloc ((cK qq nn0 nnl)), keep_alloc ((cK qq sp0 spl)), keep_alloc ((cK qq sp1 spl)), keep_alloc ((cK qq sp2 spl))⟩ | with_reducible exact ⟨keep_alloc (keep_alloc ((cK qq pa0 pal))), keep_alloc (keep_alloc ((cK qq pa1 pal))), keep_alloc (keep_alloc ((cK qq pa2 pal))), keep_alloc (keep_alloc ((cK qq pa3 pal))), keep_alloc (keep_alloc ((cK qq pa4 pal))), keep_alloc (keep_alloc ((cK qq pa5 pal))), keep_alloc (keep_alloc ((cK qq rr0 rrl))), keep_alloc (keep_alloc ((cK qq rr1 rrl))), keep_alloc (keep_alloc ((cK qq rr2 rrl))), keep_alloc (keep_alloc ((cK qq rr3 rrl))), keep_alloc (keep_alloc ((cK qq rr4 rrl))), keep_alloc (keep_alloc ((cK qq rr5 rrl))), keep_alloc (keep_alloc ((cK qq nn0 nnl))), keep_alloc (keep_alloc ((cK qq sp0 spl))), keep_alloc (keep_alloc ((cK qq sp1 spl))), keep_alloc (keep_alloc ((cK qq sp2 spl)))⟩ | with_reducible exact ⟨((cell_putR (by omega)).trans (cK qq pa0 pal)), ((cell_putR (by omega)).trans (cK qq pa1 pal)), ((cell_putR (by omega)).trans (cK qq pa2 pal)), ((cell_putR (by omega)).trans (cK qq pa3 pal)), ((cell_putR (by omega)).trans (cK qq pa4 pal)), ((cell_putR (by omega)).trans (cK qq pa5 pal)), ((cell_putR (by omega)).trans (cK qq rr0 rrl)), ((cell_putR (by omega)).trans (cK qq rr1 rrl)), ((cell_putR (by omega)).trans (cK qq rr2 rrl)), ((cell_putR (by omega)).trans (cK qq rr3 rrl)), ((cell_putR (by omega)).trans (cK qq rr4 rrl)), ((cell_putR (by omega)).trans (cK qq rr5 rrl)), ((cell_putR (by omega)).trans (cK qq nn0 nnl)), ((cell_putR (by omega)).trans (cK qq sp0 spl)), ((cell_putR (by omega)).trans (cK qq sp1 spl)), ((cell_putR (by omega)).trans (cK qq sp2 spl))⟩ | with_reducible exact ⟨keep_alloc (((cell_putR (by omega)).trans (cK qq pa0 pal))), keep_alloc (((cell_putR (by omega)).trans (cK qq pa1 pal))), keep_alloc (((cell_putR (by omega)).trans (cK qq pa2 pal))), keep_alloc (((cell_putR (by omega)).trans (cK qq pa3 pal))), keep_alloc (((cell_putR (by omega)).trans (cK qq pa4 pal))), keep_alloc (((cell_putR (by omega)).trans (cK qq pa5 pal))), keep_alloc (((cell_putR (by omega)).trans (cK qq rr0 rrl))), keep_alloc (((cell_putR (by omega)).trans (cK qq rr1 rrl))), keep_alloc (((cell_putR (by omega)).trans (cK qq rr2 rrl))), keep_alloc (((cell_putR (by omega)).trans (cK qq rr3 rrl))), keep_alloc (((cell_putR (by omega)).trans (cK qq rr4 rrl))), keep_alloc (((cell_putR (by omega)).trans (cK qq rr5 rrl))), keep_alloc (((cell_putR (by omega)).trans (cK qq nn0 nnl))), keep_alloc (((cell_putR (by omega)).trans (cK qq sp0 spl))), keep_alloc (((cell_putR (by omega)).trans (cK qq sp1 spl))), keep_alloc (((cell_putR (by omega)).trans (cK qq sp2 spl)))⟩ | with_reducible exact ⟨((cell_putR (by omega)).trans ((cell_putR (by omega)).trans (cK qq pa0 pal))), ((cell_putR (by omega)).trans ((cell_putR (by omega)).trans (cK qq pa1 pal))), ((cell_putR (by omega)).trans ((cell_putR (by omega)).trans (cK qq pa2 pal))), ((cell_putR (by omega)).trans ((cell_putR (by omega)).trans (cK qq pa3 pal))), ((cell_putR (by omega)).trans ((cell_putR (by omega)).trans (cK qq pa4 pal))), ((cell_putR (by omega)).trans ((cell_putR (by omega)).trans (cK qq pa5 pal))), ((cell_putR (by omega)).trans ((cell_putR (by omega)).trans (cK qq rr0 rrl))), ((cell_putR (by omega)).trans ((cell_putR (by omega)).trans (cK qq rr1 rrl))), ((cell_putR (by omega)).trans ((cell_putR (by omega)).trans (cK qq rr2 rrl))), ((cell_putR (by omega)).trans ((cell_putR (by omega)).trans (cK qq rr3 rrl))), ((cell_putR (by omega)).trans ((cell_putR (by omega)).trans (cK qq rr4 rrl))), ((cell_putR (by omega)).trans ((cell_putR (by omega)).trans (cK qq rr5 rrl))), ((cell_putR (by omega)).trans ((cell_putR (by omega)).trans (cK qq nn0 nnl))), ((cell_putR (by omega)).trans ((cell_putR (by omega)).trans (cK qq sp0 spl))), ((cell_putR (by omega)).trans ((cell_putR (by omega)).trans (cK qq sp1 spl))), ((cell_putR (by omega)).trans ((cell_putR (by omega)).trans (cK qq sp2 spl)))⟩ | go_keep)
      (first
        | (go_at_call 33; (with_reducible refine (CA (hu.on BB0) (ht.on BB0)).mono ?_); rintro e wy ⟨bx, Ax, nx, kx, Cx, mx, dx, rfl, hx, q⟩; have qq := BB0.trans (q.mono BB0.size); have qs := qq.size; clear q)
        | (go_at_call 33; (with_reducible refine (CA (hu.on BB1) (ht.on BB1)).mono ?_); rintro e wy ⟨bx, Ax, nx, kx, Cx, mx, dx, rfl, hx, q⟩; have qq := BB1.trans (q.mono BB1.size); have qs := qq.size; obtain ⟨c00, d00, c01, d01, c02, d02, l0⟩ := zb3 (g := v8.heap.size) q (by simp <;> omega) (by simp [Cs3, go_sem]) (by simp [Fz3, go_sem]); clear q)
        | (go_at_call 33; (with_reducible refine (CA (hu.on BB2) (ht.on BB2)).mono ?_); rintro e wy ⟨bx, Ax, nx, kx, Cx, mx, dx, rfl, hx, q⟩; have qq := BB2.trans (q.mono BB2.size); have qs := qq.size; obtain ⟨c00, d00, c01, d01, c02, d02, l0⟩ := zb3 (g := v8.heap.size) q (by simp <;> omega) (by simp [Cs3, go_sem]) (by simp [Fz3, go_sem]); obtain ⟨c10, d10, c11, d11, c12, d12, l1⟩ := zb3 (g := v8.heap.size + 1) q (by simp <;> omega) (by simp [Cs3, go_sem]) (by simp [Fz3, go_sem]); clear q)
        | (go_at_call 38; have up := Below.refl wy.heap.size wy; (with_reducible refine (CM ((gu.on qq).on up) ((ht.on qq).on up)).mono ?_); rintro e wz ⟨bY, Ay, ny, ky, Cy, my, dy, rfl, hy, q⟩; (try (rewrite [cR up l0, cR q (lK up l0)] at c00 c01 c02; rewrite [fR up l0, fR q (lK up l0)] at d00 d01 d02; have l0' := lK q (lK up l0))); (try (rewrite [cR up l1, cR q (lK up l1)] at c10 c11 c12; rewrite [fR up l1, fR q (lK up l1)] at d10 d11 d12; have l1' := lK q (lK up l1))); replace hx := (hx.on up).on q; replace qq := uK qq up q; have qs2 := qq.size; clear q up)
        | (go_at_call 38; have up := below_one wy (.cells #[.bool false, .slice none 0 0, .slice none 0 0] 27); (with_reducible refine (CM ((gu.on qq).on up) ((ht.on qq).on up)).mono ?_); rintro e wz ⟨bY, Ay, ny, ky, Cy, my, dy, rfl, hy, q⟩; (try (rewrite [cR up l0, cR q (lK up l0)] at c00 c01 c02; rewrite [fR up l0, fR q (lK up l0)] at d00 d01 d02; have l0' := lK q (lK up l0))); (try (rewrite [cR up l1, cR q (lK up l1)] at c10 c11 c12; rewrite [fR up l1, fR q (lK up l1)] at d10 d11 d12; have l1' := lK q (lK up l1))); obtain ⟨e00, f00, e01, f01, e02, f02, n0⟩ := zb3 (g := wy.heap.size) q (by simp <;> omega) (by simp [Cs3, go_sem]) (by simp [Fz3, go_sem]); replace hx := (hx.on up).on q; replace qq := uK qq up q; have qs2 := qq.size; clear q up)
        | (go_at_call 38; have up := below_two wy (.cells #[.bool false, .slice none 0 0, .slice none 0 0] 27) (.cells #[.bool false, .slice none 0 0, .slice none 0 0] 27); (with_reducible refine (CM ((gu.on qq).on up) ((ht.on qq).on up)).mono ?_); rintro e wz ⟨bY, Ay, ny, ky, Cy, my, dy, rfl, hy, q⟩; (try (rewrite [cR up l0, cR q (lK up l0)] at c00 c01 c02; rewrite [fR up l0, fR q (lK up l0)] at d00 d01 d02; have l0' := lK q (lK up l0))); (try (rewrite [cR up l1, cR q (lK up l1)] at c10 c11 c12; rewrite [fR up l1, fR q (lK up l1)] at d10 d11 d12; have l1' := lK q (lK up l1))); obtain ⟨e00, f00, e01, f01, e02, f02, n0⟩ := zb3 (g := wy.heap.size) q (by simp <;> omega) (by simp [Cs3, go_sem]) (by simp [Fz3, go_sem]); obtain ⟨e10, f10, e11, f11, e12, f12, n1⟩ := zb3 (g := wy.heap.size + 1) q (by simp <;> omega) (by simp [Cs3, go_sem]) (by simp [Fz3, go_sem]); replace hx := (hx.on up).on q; replace qq := uK qq up q; have qs2 := qq.size; clear q up))
    all_goals (go_wp2_with fail; go_meet)
    all_goals refine ⟨_, _, bx, Ax, nx, kx, Cx, mx, dx, bY, Ay, ny, ky, Cy, my, dy, rfl, rfl, ?_⟩
    all_goals first
      | with_reducible exact pairRA hx hy qq _
      | with_reducible exact pairRA' hx hy qq _
      | with_reducible exact pairRB (by assumption) (by assumption) (by assumption) hx hy qq (by omega) _
      | with_reducible exact pairRB' (by assumption) (by assumption) (by assumption) hx hy qq (by omega) _
      | with_reducible exact pairRC (by assumption) (by assumption) (by assumption) (by assumption) (by assumption) (by assumption) hx hy qq (by omega) (by omega) (by omega)
  case rest =>
    obtain ⟨gmo, gls, bmo, Amo, nmo, kmo, Cmo, mmo, dmo, bls, Als, nls, kls, Cls, mls, dls, rfl, rfl, ⟨mo0, mo1, mo2⟩, ⟨ls0, ls1, ls2⟩, hmo, hls, b, moge, lsge, moqls⟩ := hcut
    have mol := cell_lt mo0
    have lsl := cell_lt ls0
    simp only at mol lsl
    have moqpa : w.heap.size < gmo := Nat.lt_of_lt_of_le pal moge
    have moqrr : w3.heap.size < gmo := Nat.lt_of_lt_of_le rrl moge
    have moqnn : w5.heap.size < gmo := Nat.lt_of_lt_of_le nnl moge
    have moqsp : w7.heap.size < gmo := Nat.lt_of_lt_of_le spl moge
    have lsqpa : w.heap.size < gls := Nat.lt_of_lt_of_le pal lsge
    have lsqrr : w3.heap.size < gls := Nat.lt_of_lt_of_le rrl lsge
    have lsqnn : w5.heap.size < gls := Nat.lt_of_lt_of_le nnl lsge
    have lsqsp : w7.heap.size < gls := Nat.lt_of_lt_of_le spl lsge
    replace h0 := h0.on b
    replace g0 := g0.on b
    replace hu := hu.on b
    replace gu := gu.on b
    replace ht := ht.on b
    rewrite [cR b pal] at pa0 pa1 pa2 pa3 pa4 pa5
    replace pal := lK b pal
    rewrite [cR b rrl] at rr0 rr1 rr2 rr3 rr4 rr5
    replace rrl := lK b rrl
    replace nn0 := cK b nn0 nnl
    replace nnl := lK b nnl
    rewrite [cR b spl] at sp0 sp1 sp2
    replace spl := lK b spl
    replace cc := bK cc b
    clear b
    have hbl : bls = true := hls.1.2.trans HL.out
    subst hbl
    go_wp2_with fail
    have bD : Below wc.heap.size wc wc.drew := below_drewN (Below.refl _ wc) 1
    replace h0 := h0.on bD
    replace g0 := g0.on bD
    replace hu := hu.on bD
    replace gu := gu.on bD
    replace ht := ht.on bD
    replace hmo := hmo.on bD
    replace hls := hls.on bD
    rewrite [cR bD pal] at pa0 pa1 pa2 pa3 pa4 pa5
    replace pal := lK bD pal
    rewrite [cR bD rrl] at rr0 rr1 rr2 rr3 rr4 rr5
    replace rrl := lK bD rrl
    replace nn0 := cK bD nn0 nnl
    replace nnl := lK bD nnl
    rewrite [cR bD spl] at sp0 sp1 sp2
    replace spl := lK bD spl
    rewrite [cR bD mol] at mo0 mo1 mo2
    replace mol := lK bD mol
    rewrite [cR bD lsl] at ls0 ls1 ls2
    replace lsl := lK bD lsl
    replace cc := bK cc bD
    clear bD
    refine wp_region_held_drew (S := fun w' => w'.cell? ⟨w.heap.size, 0, none⟩ = some (.bool false) ∧ w'.cell? ⟨w.heap.size, 1, none⟩ = some (.slice A0 n0 c0) ∧ w'.cell? ⟨w.heap.size, 2, none⟩ = some (.slice B0 m0 d0) ∧ w'.cell? ⟨w.heap.size, 3, none⟩ = some (.bool p0) ∧ w'.cell? ⟨w.heap.size, 4, none⟩ = some (.slice V0 r0 k0) ∧ w'.cell? ⟨w.heap.size, 5, none⟩ = some (.slice U0 o0 q0) ∧ w'.cell? ⟨w3.heap.size, 0, none⟩ = some (.bool false) ∧ w'.cell? ⟨w3.heap.size, 1, none⟩ = some (.slice Au nu cu) ∧ w'.cell? ⟨w3.heap.size, 2, none⟩ = some (.slice Bu mu du) ∧ w'.cell? ⟨w3.heap.size, 3, none⟩ = some (.bool pu) ∧ w'.cell? ⟨w3.heap.size, 4, none⟩ = some (.slice Vu ru ku) ∧ w'.cell? ⟨w3.heap.size, 5, none⟩ = some (.slice Uu ou qu) ∧ w'.cell? ⟨w5.heap.size, 0, none⟩ = some (.int .u64 1) ∧ w'.cell? ⟨w7.heap.size, 0, none⟩ = some (.bool bt) ∧ w'.cell? ⟨w7.heap.size, 1, none⟩ = some (.slice At nt ct) ∧ w'.cell? ⟨w7.heap.size, 2, none⟩ = some (.slice Bt mt dt) ∧ w'.cell? ⟨gmo, 0, none⟩ = some (.bool bmo) ∧ w'.cell? ⟨gmo, 1, none⟩ = some (.slice Amo nmo kmo) ∧ w'.cell? ⟨gmo, 2, none⟩ = some (.slice Cmo mmo dmo) ∧ w'.cell? ⟨gls, 0, none⟩ = some (.bool true) ∧ w'.cell? ⟨gls, 1, none⟩ = some (.slice Als nls kls) ∧ w'.cell? ⟨gls, 2, none⟩ = some (.slice Cls mls dls)) (by kernel_rfl) ?_ (fun hHeld => ?_)
    · exact ⟨pa0, pa1, pa2, pa3, pa4, pa5, rr0, rr1, rr2, rr3, rr4, rr5, nn0, sp0, sp1, sp2, mo0, mo1, mo2, ls0, ls1, ls2⟩
    refine wpAnyH_take (i := 0) (v := ?_) rfl (by kernel_rfl) (by kernel_rfl) (by kernel_rfl) (fun _ _ _ h => h) (Or.inl ⟨by rfl, ?_⟩) hHeld ?_
    rotate_left
    · (intro w hSw; (try dsimp only at hSw); go_simp; (try with_reducible rfl))
    try simp only [Act.put, pT]
    refine wpAnyH_take (i := 1) (v := ?_) rfl (by kernel_rfl) (by kernel_rfl) (by kernel_rfl) (fun _ _ _ h => h) (Or.inl ⟨by rfl, ?_⟩) hHeld ?_
    rotate_left
    · (intro w hSw; (try dsimp only at hSw); go_simp; (try with_reducible rfl))
    try simp only [Act.put, pT]
    refine wpAnyH_take (i := 2) (v := ?_) rfl (by kernel_rfl) (by kernel_rfl) (by kernel_rfl) (fun _ _ _ h => h) (Or.inl ⟨by rfl, ?_⟩) hHeld ?_
    rotate_left
    · (intro w hSw; (try dsimp only at hSw); go_simp; (try with_reducible rfl))
    try simp only [Act.put, pT]
    refine wpAnyH_take (i := 3) (v := ?_) rfl (by kernel_rfl) (by kernel_rfl) (by kernel_rfl) (fun _ _ _ h => h) (Or.inl ⟨by rfl, ?_⟩) hHeld ?_
    rotate_left
    · (intro w hSw; (try dsimp only at hSw); go_simp; (try with_reducible rfl))
    try simp only [Act.put, pT]
    refine wpAnyH_take (i := 5) (v := ?_) rfl (by kernel_rfl) (by kernel_rfl) (by kernel_rfl) (fun _ _ _ h => h) (Or.inl ⟨by rfl, ?_⟩) hHeld ?_
    rotate_left
    · (intro w hSw; (try dsimp only at hSw); go_simp; (try with_reducible rfl))
    try simp only [Act.put, pT]
    refine wpAnyH_take (i := 6) (v := ?_) rfl (by kernel_rfl) (by kernel_rfl) (by kernel_rfl) (fun _ _ _ h => h) (Or.inl ⟨by rfl, ?_⟩) hHeld ?_
    rotate_left
    · (intro w hSw; (try dsimp only at hSw); go_simp; (try with_reducible rfl))
    try simp only [Act.put, pT]
    refine wpAnyH_ready (rs := [4]) (by kernel_rfl) (by simp) ?_
    refine AllReadyH.cons rfl (fun K hK => ?_) AllReadyH.nil
    (try simp only [pT])
    rw [if_pos (by rfl)]
    go_simp
    go_at_call 34
    refine (rtmul_N hu (zl_.le (by omega)) hu (zl_.le (by omega))).mono ?_
    rintro e w9 ⟨be, Ae, ne, ce, Be, me, de, rfl, he, b⟩
    replace h0 := h0.on b
    replace g0 := g0.on b
    replace hu := hu.on b
    replace gu := gu.on b
    replace ht := ht.on b
    replace hmo := hmo.on b
    replace hls := hls.on b
    rewrite [cR b pal] at pa0 pa1 pa2 pa3 pa4 pa5
    replace pal := lK b pal
    rewrite [cR b rrl] at rr0 rr1 rr2 rr3 rr4 rr5
    replace rrl := lK b rrl
    replace nn0 := cK b nn0 nnl
    replace nnl := lK b nnl
    rewrite [cR b spl] at sp0 sp1 sp2
    replace spl := lK b spl
    rewrite [cR b mol] at mo0 mo1 mo2
    replace mol := lK b mol
    rewrite [cR b lsl] at ls0 ls1 ls2
    replace lsl := lK b lsl
    replace cc := bK cc b
    clear b
    refine hK.out _ _ ?_ (fun hHeld => ?_)
    · exact ⟨pa0, pa1, pa2, pa3, pa4, pa5, rr0, rr1, rr2, rr3, rr4, rr5, nn0, sp0, sp1, sp2, mo0, mo1, mo2, ls0, ls1, ls2⟩
    clear hK K
    try simp only [Act.put, pT]
    refine wpAnyH_ready (rs := [7]) (by kernel_rfl) (by simp) ?_
    refine AllReadyH.cons rfl (fun K hK => ?_) AllReadyH.nil
    (try simp only [pT])
    rw [if_pos (by rfl)]
    go_simp
    go_at_call 39
    refine (rtcmp_v c1_ he (zll.le (by omega)) h0 (s0.le (by omega)) Hc1_.out).mono ?_
    rintro e w10 ⟨rfl, b⟩
    replace h0 := h0.on b
    replace g0 := g0.on b
    replace hu := hu.on b
    replace gu := gu.on b
    replace ht := ht.on b
    replace hmo := hmo.on b
    replace hls := hls.on b
    replace he := he.on b
    rewrite [cR b pal] at pa0 pa1 pa2 pa3 pa4 pa5
    replace pal := lK b pal
    rewrite [cR b rrl] at rr0 rr1 rr2 rr3 rr4 rr5
    replace rrl := lK b rrl
    replace nn0 := cK b nn0 nnl
    replace nnl := lK b nnl
    rewrite [cR b spl] at sp0 sp1 sp2
    replace spl := lK b spl
    rewrite [cR b mol] at mo0 mo1 mo2
    replace mol := lK b mol
    rewrite [cR b lsl] at ls0 ls1 ls2
    replace lsl := lK b lsl
    replace cc := bK cc b
    clear b
    refine hK.out _ _ ?_ (fun hHeld => ?_)
    · exact ⟨pa0, pa1, pa2, pa3, pa4, pa5, rr0, rr1, rr2, rr3, rr4, rr5, nn0, sp0, sp1, sp2, mo0, mo1, mo2, ls0, ls1, ls2⟩
    clear hK K
    try simp only [Act.put, pT]
    refine wpAnyH_take (i := 8) (v := ?_) rfl (by kernel_rfl) (by kernel_rfl) (by kernel_rfl) (fun _ _ _ h => h) (Or.inl ⟨by rfl, ?_⟩) hHeld ?_
    rotate_left
    · (intro w hSw; (try dsimp only at hSw); go_simp; (try with_reducible rfl))
    try simp only [Act.put, pT]
    refine wpAnyH_take (i := 9) (v := ?_) rfl (by kernel_rfl) (by kernel_rfl) (by kernel_rfl) (fun _ _ _ h => h) (Or.inl ⟨by rfl, ?_⟩) hHeld ?_
    rotate_left
    · (intro w hSw; (try dsimp only at hSw); go_simp; (try with_reducible rfl))
    try simp only [Act.put, pT]
    refine wpAnyH_take (i := 10) (v := ?_) rfl (by kernel_rfl) (by kernel_rfl) (by kernel_rfl) (fun _ _ _ h => h) (Or.inl ⟨by rfl, ?_⟩) hHeld ?_
    rotate_left
    · (intro w hSw; (try dsimp only at hSw); go_simp; (try with_reducible rfl))
    try simp only [Act.put, pT]
    refine wpAnyH_take (i := 11) (v := ?_) rfl (by kernel_rfl) (by kernel_rfl) (by kernel_rfl) (fun _ _ _ h => h) (Or.inl ⟨by rfl, ?_⟩) hHeld ?_
    rotate_left
    · (intro w hSw; (try dsimp only at hSw); go_simp; (try with_reducible rfl))
    try simp only [Act.put, pT]
    refine wpAnyH_take (i := 13) (v := ?_) rfl (by kernel_rfl) (by kernel_rfl) (by kernel_rfl) (fun _ _ _ h => h) (Or.inl ⟨by rfl, ?_⟩) hHeld ?_
    rotate_left
    · (intro w hSw; (try dsimp only at hSw); go_simp; (try with_reducible rfl))
    try simp only [Act.put, pT]
    refine wpAnyH_take (i := 14) (v := ?_) rfl (by kernel_rfl) (by kernel_rfl) (by kernel_rfl) (fun _ _ _ h => h) (Or.inl ⟨by rfl, ?_⟩) hHeld ?_
    rotate_left
    · (intro w hSw; (try dsimp only at hSw); go_simp; (try with_reducible rfl))
    try simp only [Act.put, pT]
    refine wpAnyH_ready (rs := [12]) (by kernel_rfl) (by simp) ?_
    refine AllReadyH.cons rfl (fun K hK => ?_) AllReadyH.nil
    (try simp only [pT])
    rw [if_pos (by rfl)]
    go_simp
    go_at_call 34
    refine (rtmul_N hmo (zm_.le (by omega)) hmo (zm_.le (by omega))).mono ?_
    rintro e w11 ⟨bf, Af, nf, cf, Bf, mf, df, rfl, hf, b⟩
    replace h0 := h0.on b
    replace g0 := g0.on b
    replace hu := hu.on b
    replace gu := gu.on b
    replace ht := ht.on b
    replace hmo := hmo.on b
    replace hls := hls.on b
    replace he := he.on b
    rewrite [cR b pal] at pa0 pa1 pa2 pa3 pa4 pa5
    replace pal := lK b pal
    rewrite [cR b rrl] at rr0 rr1 rr2 rr3 rr4 rr5
    replace rrl := lK b rrl
    replace nn0 := cK b nn0 nnl
    replace nnl := lK b nnl
    rewrite [cR b spl] at sp0 sp1 sp2
    replace spl := lK b spl
    rewrite [cR b mol] at mo0 mo1 mo2
    replace mol := lK b mol
    rewrite [cR b lsl] at ls0 ls1 ls2
    replace lsl := lK b lsl
    replace cc := bK cc b
    clear b
    refine hK.out _ _ ?_ (fun hHeld => ?_)
    · exact ⟨pa0, pa1, pa2, pa3, pa4, pa5, rr0, rr1, rr2, rr3, rr4, rr5, nn0, sp0, sp1, sp2, mo0, mo1, mo2, ls0, ls1, ls2⟩
    clear hK K
    try simp only [Act.put, pT]
    refine wpAnyH_ready (rs := [15]) (by kernel_rfl) (by simp) ?_
    refine AllReadyH.cons rfl (fun K hK => ?_) AllReadyH.nil
    (try simp only [pT])
    rw [if_pos (by rfl)]
    go_simp
    go_at_call 39
    refine (rtcmp_v c2_ hf (zmm.le (by omega)) h0 (s0.le (by omega)) Hc2_.out).mono ?_
    rintro e w12 ⟨rfl, b⟩
    replace h0 := h0.on b
    replace g0 := g0.on b
    replace hu := hu.on b
    replace gu := gu.on b
    replace ht := ht.on b
    replace hmo := hmo.on b
    replace hls := hls.on b
    replace he := he.on b
    replace hf := hf.on b
    rewrite [cR b pal] at pa0 pa1 pa2 pa3 pa4 pa5
    replace pal := lK b pal
    rewrite [cR b rrl] at rr0 rr1 rr2 rr3 rr4 rr5
    replace rrl := lK b rrl
    replace nn0 := cK b nn0 nnl
    replace nnl := lK b nnl
    rewrite [cR b spl] at sp0 sp1 sp2
    replace spl := lK b spl
    rewrite [cR b mol] at mo0 mo1 mo2
    replace mol := lK b mol
    rewrite [cR b lsl] at ls0 ls1 ls2
    replace lsl := lK b lsl
    replace cc := bK cc b
    clear b
    refine hK.out _ _ ?_ (fun hHeld => ?_)
    · exact ⟨pa0, pa1, pa2, pa3, pa4, pa5, rr0, rr1, rr2, rr3, rr4, rr5, nn0, sp0, sp1, sp2, mo0, mo1, mo2, ls0, ls1, ls2⟩
    clear hK K
    try simp only [Act.put, pT]
    refine wpAnyH_take (i := 16) (v := ?_) rfl (by kernel_rfl) (by kernel_rfl) (by kernel_rfl) (fun _ _ _ h => h) (Or.inl ⟨by rfl, ?_⟩) hHeld ?_
    rotate_left
    · (intro w hSw; (try dsimp only at hSw); go_simp; (try with_reducible rfl))
    try simp only [Act.put, pT]
    refine wpAnyH_take (i := 17) (v := ?_) rfl (by kernel_rfl) (by kernel_rfl) (by kernel_rfl) (fun _ _ _ h => h) (Or.inl ⟨by rfl, ?_⟩) hHeld ?_
    rotate_left
    · (intro w hSw; (try dsimp only at hSw); go_simp; (try with_reducible rfl))
    try simp only [Act.put, pT]
    refine wpAnyH_take (i := 18) (v := ?_) rfl (by kernel_rfl) (by kernel_rfl) (by kernel_rfl) (fun _ _ _ h => h) (Or.inl ⟨by rfl, ?_⟩) hHeld ?_
    rotate_left
    · (intro w hSw; (try dsimp only at hSw); go_simp; (try with_reducible rfl))
    try simp only [Act.put, pT]
    refine wpAnyH_done (by kernel_rfl) ?_ _
    clear hHeld
    clear he hf hmo h0
    go_wp2_with fail
    have bD : Below w12.heap.size w12 w12.drew := below_drewN (Below.refl _ w12) 1
    replace g0 := g0.on bD
    replace hu := hu.on bD
    replace gu := gu.on bD
    replace ht := ht.on bD
    replace hls := hls.on bD
    rewrite [cR bD pal] at pa0 pa1 pa2 pa3 pa4 pa5
    replace pal := lK bD pal
    rewrite [cR bD rrl] at rr0 rr1 rr2 rr3 rr4 rr5
    replace rrl := lK bD rrl
    replace nn0 := cK bD nn0 nnl
    replace nnl := lK bD nnl
    rewrite [cR bD spl] at sp0 sp1 sp2
    replace spl := lK bD spl
    rewrite [cR bD mol] at mo0 mo1 mo2
    replace mol := lK bD mol
    rewrite [cR bD lsl] at ls0 ls1 ls2
    replace lsl := lK bD lsl
    replace cc := bK cc bD
    clear bD
    refine wp_region_held_drew (S := fun w' => w'.cell? ⟨w.heap.size, 0, none⟩ = some (.bool false) ∧ w'.cell? ⟨w.heap.size, 1, none⟩ = some (.slice A0 n0 c0) ∧ w'.cell? ⟨w.heap.size, 2, none⟩ = some (.slice B0 m0 d0) ∧ w'.cell? ⟨w.heap.size, 3, none⟩ = some (.bool p0) ∧ w'.cell? ⟨w.heap.size, 4, none⟩ = some (.slice V0 r0 k0) ∧ w'.cell? ⟨w.heap.size, 5, none⟩ = some (.slice U0 o0 q0) ∧ w'.cell? ⟨w3.heap.size, 0, none⟩ = some (.bool false) ∧ w'.cell? ⟨w3.heap.size, 1, none⟩ = some (.slice Au nu cu) ∧ w'.cell? ⟨w3.heap.size, 2, none⟩ = some (.slice Bu mu du) ∧ w'.cell? ⟨w3.heap.size, 3, none⟩ = some (.bool pu) ∧ w'.cell? ⟨w3.heap.size, 4, none⟩ = some (.slice Vu ru ku) ∧ w'.cell? ⟨w3.heap.size, 5, none⟩ = some (.slice Uu ou qu) ∧ w'.cell? ⟨w5.heap.size, 0, none⟩ = some (.int .u64 1) ∧ w'.cell? ⟨w7.heap.size, 0, none⟩ = some (.bool bt) ∧ w'.cell? ⟨w7.heap.size, 1, none⟩ = some (.slice At nt ct) ∧ w'.cell? ⟨w7.heap.size, 2, none⟩ = some (.slice Bt mt dt) ∧ w'.cell? ⟨gmo, 0, none⟩ = some (.bool bmo) ∧ w'.cell? ⟨gmo, 1, none⟩ = some (.slice Amo nmo kmo) ∧ w'.cell? ⟨gmo, 2, none⟩ = some (.slice Cmo mmo dmo) ∧ w'.cell? ⟨gls, 0, none⟩ = some (.bool true) ∧ w'.cell? ⟨gls, 1, none⟩ = some (.slice Als nls kls) ∧ w'.cell? ⟨gls, 2, none⟩ = some (.slice Cls mls dls)) (by kernel_rfl) ?_ (fun hHeld => ?_)
    · exact ⟨pa0, pa1, pa2, pa3, pa4, pa5, rr0, rr1, rr2, rr3, rr4, rr5, nn0, sp0, sp1, sp2, mo0, mo1, mo2, ls0, ls1, ls2⟩
    refine wpAnyH_take (i := 0) (v := ?_) rfl (by kernel_rfl) (by kernel_rfl) (by kernel_rfl) (fun _ _ _ h => h) (Or.inl ⟨by rfl, ?_⟩) hHeld ?_
    rotate_left
    · (intro w hSw; (try dsimp only at hSw); go_simp; (try with_reducible rfl))
    try simp only [Act.put, pT]
    refine wpAnyH_take (i := 1) (v := ?_) rfl (by kernel_rfl) (by kernel_rfl) (by kernel_rfl) (fun _ _ _ h => h) (Or.inl ⟨by rfl, ?_⟩) hHeld ?_
    rotate_left
    · (intro w hSw; (try dsimp only at hSw); go_simp; (try with_reducible rfl))
    try simp only [Act.put, pT]
    refine wpAnyH_take (i := 2) (v := ?_) rfl (by kernel_rfl) (by kernel_rfl) (by kernel_rfl) (fun _ _ _ h => h) (Or.inl ⟨by rfl, ?_⟩) hHeld ?_
    rotate_left
    · (intro w hSw; (try dsimp only at hSw); go_simp; (try with_reducible rfl))
    try simp only [Act.put, pT]
    refine wpAnyH_take (i := 3) (v := ?_) rfl (by kernel_rfl) (by kernel_rfl) (by kernel_rfl) (fun _ _ _ h => h) (Or.inl ⟨by rfl, ?_⟩) hHeld ?_
    rotate_left
    · (intro w hSw; (try dsimp only at hSw); go_simp; (try with_reducible rfl))
    try simp only [Act.put, pT]
    refine wpAnyH_take (i := 5) (v := ?_) rfl (by kernel_rfl) (by kernel_rfl) (by kernel_rfl) (fun _ _ _ h => h) (Or.inl ⟨by rfl, ?_⟩) hHeld ?_
    rotate_left
    · (intro w hSw; (try dsimp only at hSw); go_simp; (try with_reducible rfl))
    try simp only [Act.put, pT]
    refine wpAnyH_take (i := 6) (v := ?_) rfl (by kernel_rfl) (by kernel_rfl) (by kernel_rfl) (fun _ _ _ h => h) (Or.inl ⟨by rfl, ?_⟩) hHeld ?_
    rotate_left
    · (intro w hSw; (try dsimp only at hSw); go_simp; (try with_reducible rfl))
    try simp only [Act.put, pT]
    refine wpAnyH_ready (rs := [4]) (by kernel_rfl) (by simp) ?_
    refine AllReadyH.cons rfl (fun K hK => ?_) AllReadyH.nil
    (try simp only [pT])
    rw [if_pos (by rfl)]
    go_simp
    go_at_call 34
    refine (rtmul_N gu (zh_.le (by omega)) gu (zh_.le (by omega))).mono ?_
    rintro e w13 ⟨be, Ae, ne, ce, Be, me, de, rfl, he, b⟩
    replace g0 := g0.on b
    replace hu := hu.on b
    replace gu := gu.on b
    replace ht := ht.on b
    replace hls := hls.on b
    rewrite [cR b pal] at pa0 pa1 pa2 pa3 pa4 pa5
    replace pal := lK b pal
    rewrite [cR b rrl] at rr0 rr1 rr2 rr3 rr4 rr5
    replace rrl := lK b rrl
    replace nn0 := cK b nn0 nnl
    replace nnl := lK b nnl
    rewrite [cR b spl] at sp0 sp1 sp2
    replace spl := lK b spl
    rewrite [cR b mol] at mo0 mo1 mo2
    replace mol := lK b mol
    rewrite [cR b lsl] at ls0 ls1 ls2
    replace lsl := lK b lsl
    replace cc := bK cc b
    clear b
    refine hK.out _ _ ?_ (fun hHeld => ?_)
    · exact ⟨pa0, pa1, pa2, pa3, pa4, pa5, rr0, rr1, rr2, rr3, rr4, rr5, nn0, sp0, sp1, sp2, mo0, mo1, mo2, ls0, ls1, ls2⟩
    clear hK K
    try simp only [Act.put, pT]
    refine wpAnyH_ready (rs := [7]) (by kernel_rfl) (by simp) ?_
    refine AllReadyH.cons rfl (fun K hK => ?_) AllReadyH.nil
    (try simp only [pT])
    rw [if_pos (by rfl)]
    go_simp
    go_at_call 39
    refine (rtcmp_v c3_ he (zhh.le (by omega)) g0 (t0.le (by omega)) Hc3_.out).mono ?_
    rintro e w14 ⟨rfl, b⟩
    replace g0 := g0.on b
    replace hu := hu.on b
    replace gu := gu.on b
    replace ht := ht.on b
    replace hls := hls.on b
    replace he := he.on b
    rewrite [cR b pal] at pa0 pa1 pa2 pa3 pa4 pa5
    replace pal := lK b pal
    rewrite [cR b rrl] at rr0 rr1 rr2 rr3 rr4 rr5
    replace rrl := lK b rrl
    replace nn0 := cK b nn0 nnl
    replace nnl := lK b nnl
    rewrite [cR b spl] at sp0 sp1 sp2
    replace spl := lK b spl
    rewrite [cR b mol] at mo0 mo1 mo2
    replace mol := lK b mol
    rewrite [cR b lsl] at ls0 ls1 ls2
    replace lsl := lK b lsl
    replace cc := bK cc b
    clear b
    refine hK.out _ _ ?_ (fun hHeld => ?_)
    · exact ⟨pa0, pa1, pa2, pa3, pa4, pa5, rr0, rr1, rr2, rr3, rr4, rr5, nn0, sp0, sp1, sp2, mo0, mo1, mo2, ls0, ls1, ls2⟩
    clear hK K
    try simp only [Act.put, pT]
    refine wpAnyH_take (i := 8) (v := ?_) rfl (by kernel_rfl) (by kernel_rfl) (by kernel_rfl) (fun _ _ _ h => h) (Or.inl ⟨by rfl, ?_⟩) hHeld ?_
    rotate_left
    · (intro w hSw; (try dsimp only at hSw); go_simp; (try with_reducible rfl))
    try simp only [Act.put, pT]
    refine wpAnyH_take (i := 9) (v := ?_) rfl (by kernel_rfl) (by kernel_rfl) (by kernel_rfl) (fun _ _ _ h => h) (Or.inl ⟨by rfl, ?_⟩) hHeld ?_
    rotate_left
    · (intro w hSw; (try dsimp only at hSw); go_simp; (try with_reducible rfl))
    try simp only [Act.put, pT]
    refine wpAnyH_take (i := 10) (v := ?_) rfl (by kernel_rfl) (by kernel_rfl) (by kernel_rfl) (fun _ _ _ h => h) (Or.inl ⟨by rfl, ?_⟩) hHeld ?_
    rotate_left
    · (intro w hSw; (try dsimp only at hSw); go_simp; (try with_reducible rfl))
    try simp only [Act.put, pT]
    refine wpAnyH_take (i := 11) (v := ?_) rfl (by kernel_rfl) (by kernel_rfl) (by kernel_rfl) (fun _ _ _ h => h) (Or.inl ⟨by rfl, ?_⟩) hHeld ?_
    rotate_left
    · (intro w hSw; (try dsimp only at hSw); go_simp; (try with_reducible rfl))
    try simp only [Act.put, pT]
    refine wpAnyH_take (i := 12) (v := ?_) rfl (by kernel_rfl) (by kernel_rfl) (by kernel_rfl) (fun _ _ _ h => h) (Or.inl ⟨by rfl, ?_⟩) hHeld ?_
    rotate_left
    · (intro w hSw; (try dsimp only at hSw); go_simp; (try with_reducible rfl))
    try simp only [Act.put, pT]
    refine wpAnyH_take (i := 13) (v := ?_) rfl (by kernel_rfl) (by kernel_rfl) (by kernel_rfl) (fun _ _ _ h => h) (Or.inl ⟨by rfl, ?_⟩) hHeld ?_
    rotate_left
    · (intro w hSw; (try dsimp only at hSw); go_simp; (try with_reducible rfl))
    try simp only [Act.put, pT]
    refine wpAnyH_take (i := 14) (v := undef) rfl (by kernel_rfl) (by kernel_rfl) (by kernel_rfl) (fun _ _ _ h => h) (Or.inr ⟨by rfl, rfl⟩) hHeld ?_
    try simp only [Act.put, pT]
    refine wpAnyH_take (i := 15) (v := undef) rfl (by kernel_rfl) (by kernel_rfl) (by kernel_rfl) (fun _ _ _ h => h) (Or.inr ⟨by rfl, rfl⟩) hHeld ?_
    try simp only [Act.put, pT]
    refine wpAnyH_take (i := 16) (v := undef) rfl (by kernel_rfl) (by kernel_rfl) (by kernel_rfl) (fun _ _ _ h => h) (Or.inr ⟨by rfl, rfl⟩) hHeld ?_
    try simp only [Act.put, pT]
    refine wpAnyH_take (i := 17) (v := undef) rfl (by kernel_rfl) (by kernel_rfl) (by kernel_rfl) (fun _ _ _ h => h) (Or.inr ⟨by rfl, rfl⟩) hHeld ?_
    try simp only [Act.put, pT]
    refine wpAnyH_take (i := 18) (v := undef) rfl (by kernel_rfl) (by kernel_rfl) (by kernel_rfl) (fun _ _ _ h => h) (Or.inr ⟨by rfl, rfl⟩) hHeld ?_
    try simp only [Act.put, pT]
    refine wpAnyH_take (i := 19) (v := undef) rfl (by kernel_rfl) (by kernel_rfl) (by kernel_rfl) (fun _ _ _ h => h) (Or.inr ⟨by rfl, rfl⟩) hHeld ?_
    try simp only [Act.put, pT]
    refine wpAnyH_take (i := 20) (v := undef) rfl (by kernel_rfl) (by kernel_rfl) (by kernel_rfl) (fun _ _ _ h => h) (Or.inr ⟨by rfl, rfl⟩) hHeld ?_
    try simp only [Act.put, pT]
    refine wpAnyH_take (i := 21) (v := ?_) rfl (by kernel_rfl) (by kernel_rfl) (by kernel_rfl) (fun _ _ _ h => h) (Or.inl ⟨by rfl, ?_⟩) hHeld ?_
    rotate_left
    · (intro w hSw; (try dsimp only at hSw); go_simp; (try with_reducible rfl))
    try simp only [Act.put, pT]
    refine wpAnyH_take (i := 22) (v := ?_) rfl (by kernel_rfl) (by kernel_rfl) (by kernel_rfl) (fun _ _ _ h => h) (Or.inl ⟨by rfl, ?_⟩) hHeld ?_
    rotate_left
    · (intro w hSw; (try dsimp only at hSw); go_simp; (try with_reducible rfl))
    try simp only [Act.put, pT]
    refine wpAnyH_take (i := 23) (v := ?_) rfl (by kernel_rfl) (by kernel_rfl) (by kernel_rfl) (fun _ _ _ h => h) (Or.inl ⟨by rfl, ?_⟩) hHeld ?_
    rotate_left
    · (intro w hSw; (try dsimp only at hSw); go_simp; (try with_reducible rfl))
    try simp only [Act.put, pT]
    refine wpAnyH_done (by kernel_rfl) ?_ _
    clear hHeld
    clear he hls g0 ht
    go_wp2_with fail
    refine (OR hu gu).mono ?_
    rintro e w15 ⟨bz, Az, nz, cz, Bz, mz, dz, pz, Vz, rz, kz, Uz, oz, qz, rfl, ⟨hz, gz⟩, b⟩
    replace hu := hu.on b
    replace gu := gu.on b
    rewrite [cR b pal] at pa0 pa1 pa2 pa3 pa4 pa5
    replace pal := lK b pal
    rewrite [cR b rrl] at rr0 rr1 rr2 rr3 rr4 rr5
    replace rrl := lK b rrl
    replace nn0 := cK b nn0 nnl
    replace nnl := lK b nnl
    rewrite [cR b spl] at sp0 sp1 sp2
    replace spl := lK b spl
    rewrite [cR b mol] at mo0 mo1 mo2
    replace mol := lK b mol
    rewrite [cR b lsl] at ls0 ls1 ls2
    replace lsl := lK b lsl
    replace cc := bK cc b
    clear b
    go_wp2_with fail
    generalize hv_ : w15.alloc (.cells #[.bool bz, .slice Az nz cz, .slice Bz mz dz, .bool pz, .slice Vz rz kz, .slice Uz oz qz] 29) = v16
    have bA : Below w15.heap.size w15 v16 := by rw [← hv_]; exact below_one _ _
    replace hu := hu.on bA
    replace gu := gu.on bA
    replace hz := hz.on bA
    replace gz := gz.on bA
    rewrite [cR bA pal] at pa0 pa1 pa2 pa3 pa4 pa5
    replace pal := lK bA pal
    rewrite [cR bA rrl] at rr0 rr1 rr2 rr3 rr4 rr5
    replace rrl := lK bA rrl
    replace nn0 := cK bA nn0 nnl
    replace nnl := lK bA nnl
    rewrite [cR bA spl] at sp0 sp1 sp2
    replace spl := lK bA spl
    rewrite [cR bA mol] at mo0 mo1 mo2
    replace mol := lK bA mol
    rewrite [cR bA lsl] at ls0 ls1 ls2
    replace lsl := lK bA lsl
    replace cc := bK cc bA
    clear bA
    obtain ⟨on0, on1, on2, on3, on4, on5⟩ : Cs6 v16 w15.heap.size (.bool bz) (.slice Az nz cz) (.slice Bz mz dz) (.bool pz) (.slice Vz rz kz) (.slice Uz oz qz) := by simp [Cs6, ← hv_, go_sem]
    have onl : w15.heap.size < v16.heap.size := by simp [← hv_]
    clear hv_
    go_wp2_with fail
    refine (alive7_any _).mono ?_
    rintro e w17 ⟨rfl, b⟩
    replace hu := hu.on b
    replace gu := gu.on b
    replace hz := hz.on b
    replace gz := gz.on b
    rewrite [cR b pal] at pa0 pa1 pa2 pa3 pa4 pa5
    replace pal := lK b pal
    rewrite [cR b rrl] at rr0 rr1 rr2 rr3 rr4 rr5
    replace rrl := lK b rrl
    replace nn0 := cK b nn0 nnl
    replace nnl := lK b nnl
    rewrite [cR b spl] at sp0 sp1 sp2
    replace spl := lK b spl
    rewrite [cR b mol] at mo0 mo1 mo2
    replace mol := lK b mol
    rewrite [cR b lsl] at ls0 ls1 ls2
    replace lsl := lK b lsl
    rewrite [cR b onl] at on0 on1 on2 on3 on4 on5
    replace onl := lK b onl
    replace cc := bK cc b
    clear b
    go_wp2_with fail
    refine (stsame_N hz gz (zl_.le (by omega)) (zh_.le (by omega)) hu gu (zl_.le (by omega)) (zh_.le (by omega)) true two_eq).mono ?_
    rintro e w18 ⟨rfl, b⟩
    replace hu := hu.on b
    replace gu := gu.on b
    replace hz := hz.on b
    replace gz := gz.on b
    rewrite [cR b pal] at pa0 pa1 pa2 pa3 pa4 pa5
    replace pal := lK b pal
    rewrite [cR b rrl] at rr0 rr1 rr2 rr3 rr4 rr5
    replace rrl := lK b rrl
    replace nn0 := cK b nn0 nnl
    replace nnl := lK b nnl
    rewrite [cR b spl] at sp0 sp1 sp2
    replace spl := lK b spl
    rewrite [cR b mol] at mo0 mo1 mo2
    replace mol := lK b mol
    rewrite [cR b lsl] at ls0 ls1 ls2
    replace lsl := lK b lsl
    rewrite [cR b onl] at on0 on1 on2 on3 on4 on5
    replace onl := lK b onl
    replace cc := bK cc b
    clear b
    go_wp2_with fail
    go_ret
    exact ⟨rfl, cc⟩

theorem IvalRoot_more {w : World} {b0 p0 : Bool} {A0 B0 V0 U0 : Option Addr} {n0 c0 m0 d0 r0 k0 o0 q0 : Nat} {j : Int} {x0 y0 : Rat} (h0 : Rt w b0 A0 n0 c0 B0 m0 d0 x0) (g0 : Rt w p0 V0 r0 k0 U0 o0 q0 y0) (s0 : Sz x0 3) (t0 : Sz y0 3) (G0 : ∀ W : World, Below w.heap.size w W → Calls Tryz.prog 17 #[.agg #[.bool b0, .slice A0 n0 c0, .slice B0 m0 d0, .bool p0, .slice V0 r0 k0, .slice U0 o0 q0], .int .i64 3] W (GotV W (.bool true))) (j0 : 0 ≤ j) (j1 : j ≤ 300) (hb : b0 = false) (hxy : x0 ≤ y0) (hl : ¬ (sqh y0 j.toNat - bak 1 j.toNat).num < 0) :
    Calls Tryz.prog 8 #[.agg #[.bool b0, .slice A0 n0 c0, .slice B0 m0 d0, .bool p0, .slice V0 r0 k0, .slice U0 o0 q0], .int .i64 j] w (fun e w' => e = .returned (.bool true) ∧ Below w.heap.size w w') := by
  have t1_ : decide (j < 0) = false := decide_eq_false (by omega)
  have t2_ : decide (300 < j) = false := decide_eq_false (by omega)
  have hx0 : ¬ x0.num < 0 := of_decide_eq_false (h0.1.2.symm.trans hb)
  have hy0 := num_up hxy hx0
  obtain ⟨k, hk⟩ : ∃ k, j.toNat = k := ⟨_, rfl⟩
  have jk : k ≤ 310 := by omega
  have jk5 : k ≤ 500 := by omega
  rw [hk] at hl
  have zl_ := sqr_bak_sz (s0.le (show 3 ≤ 10 by omega)) jk
  have zh_ := sqh_sz (t0.le (show 3 ≤ 10 by omega)) jk
  have zs_ : Sz (bak 1 k) 8 := bak_sz (Nat.le_trans (len_one (by decide)) (by omega)) (by omega) jk5
  have m1 := sqr_le k hx0
  have m2 := sqr_lt k hx0
  rw [bak_step] at m2
  have m3 := sqh_ge k hy0
  have m4 := sqh_less k hy0
  have m5 := sqr_sqh k hx0 hy0 hxy
  have m6 := sqr_on x0 k
  have m7 := sqh_on y0 k
  have m8 := bak_nat (sqr x0 k) k
  obtain ⟨sl, q_sl⟩ : ∃ r, bak (sqr x0 k : Int) k = r := ⟨_, rfl⟩
  rw [q_sl] at zl_ m1 m2 m5 m6 m8
  obtain ⟨sh, q_sh⟩ : ∃ r, sqh y0 k = r := ⟨_, rfl⟩
  rw [q_sh] at zh_ m3 m4 m5 m7 hl
  obtain ⟨st, q_st⟩ : ∃ r, bak 1 k = r := ⟨_, rfl⟩
  rw [q_st] at zs_ m2 m4 hl
  have QI : ∀ {W : World} {p0 : Bool} {A0 B0 V0 U0 : Option Addr} {n0 c0 m0 d0 r0 k0 o0 q0 : Nat}, Rt W false A0 n0 c0 B0 m0 d0 x0 → Rt W p0 V0 r0 k0 U0 o0 q0 y0 → Calls Tryz.prog 30 #[.agg #[.bool false, .slice A0 n0 c0, .slice B0 m0 d0, .bool p0, .slice V0 r0 k0, .slice U0 o0 q0], .int .i64 j] W (GotSp W sl sh 0) := fun a b => by rw [← q_sl, ← q_sh, ← hk]; exact isqrt_N a b (s0.le (by omega)) (t0.le (by omega)) (by omega) (by omega) rfl hxy
  have OR : ∀ {W : World} {b0 p0 : Bool} {A0 B0 V0 U0 : Option Addr} {n0 c0 m0 d0 r0 k0 o0 q0 : Nat}, Rt W b0 A0 n0 c0 B0 m0 d0 sl → Rt W p0 V0 r0 k0 U0 o0 q0 sh → Calls Tryz.prog 29 #[.agg #[.bool b0, .slice A0 n0 c0, .slice B0 m0 d0, .bool p0, .slice V0 r0 k0, .slice U0 o0 q0], .int .i64 j] W (GotSp W sl sh 0) := fun a b => by have h := stout_N a b (zl_.le (by omega)) (zh_.le (by omega)) (j := j) (by omega) (by omega); rw [hk, m6, m7] at h; exact h
  have CB : ∀ {W : World} {A : Option Addr} {n c : Nat}, Zn W false A n c 1 → Calls Tryz.prog 37 #[.agg #[.bool false, .slice A n c], .int .i64 j] W (GotRp W st 0) := fun a => by rw [← q_st, ← hk]; exact rback_N a (Nat.le_trans (len_one (by decide)) (by omega)) (by omega) (by omega)
  have HN : Hid (decide (sl.num < 0) = false) := Lib.hid (decide_eq_false (by have := Rat.num_nonneg.2 m8; omega))
  have HR : Hid (decide (sl ≤ sh) = true) := Lib.hid (decide_eq_true m5)
  have zm_ := zl_.add zs_
  have zn_ := zh_.sub zs_
  clear q_sl q_sh q_st hk m5 m6 m7 m8 hx0 hy0 hxy jk jk5
  obtain ⟨mv, q_mv⟩ : ∃ r, sl + st = r := ⟨_, rfl⟩
  rw [q_mv] at m2 zm_
  obtain ⟨lv, q_lv⟩ : ∃ r, sh - st = r := ⟨_, rfl⟩
  rw [q_lv] at m4 hl zn_
  have CA : ∀ {W : World} {b0 : Bool} {A0 B0 : Option Addr} {n0 c0 m0 d0 : Nat} {b1 : Bool} {A1 B1 : Option Addr} {n1 c1 m1 d1 : Nat}, Rt W b0 A0 n0 c0 B0 m0 d0 sl → Rt W b1 A1 n1 c1 B1 m1 d1 st → Calls Tryz.prog 33 #[.agg #[.bool b0, .slice A0 n0 c0, .slice B0 m0 d0], .agg #[.bool b1, .slice A1 n1 c1, .slice B1 m1 d1]] W (GotRt W mv) := fun a b => by rw [← q_mv]; exact rtadd_N a (zl_.le (by omega)) b (zs_.le (by omega))
  have CM : ∀ {W : World} {b0 : Bool} {A0 B0 : Option Addr} {n0 c0 m0 d0 : Nat} {b1 : Bool} {A1 B1 : Option Addr} {n1 c1 m1 d1 : Nat}, Rt W b0 A0 n0 c0 B0 m0 d0 sh → Rt W b1 A1 n1 c1 B1 m1 d1 st → Calls Tryz.prog 38 #[.agg #[.bool b0, .slice A0 n0 c0, .slice B0 m0 d0], .agg #[.bool b1, .slice A1 n1 c1, .slice B1 m1 d1]] W (GotRt W lv) := fun a b => by rw [← q_lv]; exact rtsub_N a (zh_.le (by omega)) b (zs_.le (by omega))
  clear q_mv q_lv
  have HL : Hid (decide (lv.num < 0) = false) := Lib.hid (decide_eq_false hl)
  have zll := zl_.mul zl_
  have zmm := zm_.mul zm_
  have zhh := zh_.mul zh_
  have znn := zn_.mul zn_
  obtain ⟨c1_, ec1_⟩ : ∃ c, cmpQ (sl * sl) x0 = c := ⟨_, rfl⟩
  have Hc1_ := Lib.hid ec1_
  obtain ⟨c2_, ec2_⟩ : ∃ c, cmpQ (mv * mv) x0 = c := ⟨_, rfl⟩
  have Hc2_ := Lib.hid ec2_
  obtain ⟨c3_, ec3_⟩ : ∃ c, cmpQ (sh * sh) y0 = c := ⟨_, rfl⟩
  have Hc3_ := Lib.hid ec3_
  obtain ⟨c4_, ec4_⟩ : ∃ c, cmpQ (lv * lv) y0 = c := ⟨_, rfl⟩
  have Hc4_ := Lib.hid ec4_
  have t3_ : decide (c1_ ≤ 0) = true := decide_eq_true (by rw [← ec1_]; exact cmpQ_le.2 m1)
  have t4_ : decide (0 < c2_) = true := decide_eq_true (by rw [← ec2_]; exact cmpQ_pos.2 m2)
  have t5_ : decide (0 ≤ c3_) = true := decide_eq_true (by rw [← ec3_]; exact cmpQ_nneg.2 m3)
  have t6_ : decide (c4_ < 0) = true := decide_eq_true (by rw [← ec4_, cmpQ_neg]; rcases m4 with m | m; exact absurd (below_nought.1 m) hl; exact m)
  clear ec1_ ec2_ ec3_ m1 m2 m3 m4 hl ec4_
  subst hb
  have cc := Below.refl w.heap.size w
  go_enter Tryz.func8, Tryz.ntmps8
  go_wp2_with fail
  generalize hv_ : w.alloc (.cells #[.bool false, .slice A0 n0 c0, .slice B0 m0 d0, .bool p0, .slice V0 r0 k0, .slice U0 o0 q0] 29) = v1
  have bA : Below w.heap.size w v1 := by rw [← hv_]; exact ((Below.refl _ w).alloc (by simp) _)
  replace h0 := h0.on bA
  replace g0 := g0.on bA
  replace cc := bK cc bA
  clear bA
  obtain ⟨pa0, pa1, pa2, pa3, pa4, pa5⟩ : Cs6 v1 w.heap.size (.bool false) (.slice A0 n0 c0) (.slice B0 m0 d0) (.bool p0) (.slice V0 r0 k0) (.slice U0 o0 q0) := by simp [Cs6, ← hv_, go_sem]
  have pal : w.heap.size < v1.heap.size := by simp [← hv_] <;> omega
  clear hv_
  refine (G0 _ cc).mono ?_
  rintro e w2 ⟨rfl, b⟩
  replace h0 := h0.on b
  replace g0 := g0.on b
  rewrite [cR b pal] at pa0 pa1 pa2 pa3 pa4 pa5
  replace pal := lK b pal
  replace cc := bK cc b
  clear b
  go_wp2_with fail
  refine (QI h0 g0).mono ?_
  rintro e w3 ⟨bu, Au, nu, cu, Bu, mu, du, pu, Vu, ru, ku, Uu, ou, qu, rfl, ⟨hu, gu⟩, b⟩
  have hbu : bu = false := hu.1.2.trans HN.out
  subst hbu
  replace h0 := h0.on b
  replace g0 := g0.on b
  rewrite [cR b pal] at pa0 pa1 pa2 pa3 pa4 pa5
  replace pal := lK b pal
  replace cc := bK cc b
  clear b
  go_wp2_with fail
  generalize hv_ : w3.alloc (.cells #[.bool false, .slice Au nu cu, .slice Bu mu du, .bool pu, .slice Vu ru ku, .slice Uu ou qu] 29) = v4
  have bA : Below w3.heap.size w3 v4 := by rw [← hv_]; exact below_one _ _
  replace h0 := h0.on bA
  replace g0 := g0.on bA
  replace hu := hu.on bA
  replace gu := gu.on bA
  rewrite [cR bA pal] at pa0 pa1 pa2 pa3 pa4 pa5
  replace pal := lK bA pal
  replace cc := bK cc bA
  clear bA
  obtain ⟨rr0, rr1, rr2, rr3, rr4, rr5⟩ : Cs6 v4 w3.heap.size (.bool false) (.slice Au nu cu) (.slice Bu mu du) (.bool pu) (.slice Vu ru ku) (.slice Uu ou qu) := by simp [Cs6, ← hv_, go_sem]
  have rrl : w3.heap.size < v4.heap.size := by simp [← hv_]
  clear hv_
  go_wp2_with fail
  refine (stright_N hu gu (zl_.le (by omega)) (zh_.le (by omega)) true HR.out).mono ?_
  rintro e w5 ⟨rfl, b⟩
  replace h0 := h0.on b
  replace g0 := g0.on b
  replace hu := hu.on b
  replace gu := gu.on b
  rewrite [cR b pal] at pa0 pa1 pa2 pa3 pa4 pa5
  replace pal := lK b pal
  rewrite [cR b rrl] at rr0 rr1 rr2 rr3 rr4 rr5
  replace rrl := lK b rrl
  replace cc := bK cc b
  clear b
  go_wp2_with fail
  generalize hv_ : w5.alloc (.cells #[.int .u64 1] 53) = v6
  have n1_ : Num v6 (some ⟨w5.heap.size, 0, none⟩) 1 1 1 := by rw [← hv_]; exact num_one (x := 1) (by decide) (by decide) w5
  have bA : Below w5.heap.size w5 v6 := by rw [← hv_]; exact below_one _ _
  replace h0 := h0.on bA
  replace g0 := g0.on bA
  replace hu := hu.on bA
  replace gu := gu.on bA
  rewrite [cR bA pal] at pa0 pa1 pa2 pa3 pa4 pa5
  replace pal := lK bA pal
  rewrite [cR bA rrl] at rr0 rr1 rr2 rr3 rr4 rr5
  replace rrl := lK bA rrl
  replace cc := bK cc bA
  clear bA
  have nn0 : v6.cell? ⟨w5.heap.size, 0, none⟩ = some (.int .u64 1) := by simp [← hv_, go_sem]
  have nnl : w5.heap.size < v6.heap.size := by simp [← hv_]
  clear hv_
  have z1_ : Zn v6 false (some ⟨w5.heap.size, 0, none⟩) 1 1 1 := zn_nat n1_
  refine (CB z1_).mono ?_
  rintro e w7 ⟨bt, At, nt, ct, Bt, mt, dt, rfl, ht, b⟩
  replace h0 := h0.on b
  replace g0 := g0.on b
  replace hu := hu.on b
  replace gu := gu.on b
  replace n1_ := n1_.on b
  replace z1_ := z1_.on b
  rewrite [cR b pal] at pa0 pa1 pa2 pa3 pa4 pa5
  replace pal := lK b pal
  rewrite [cR b rrl] at rr0 rr1 rr2 rr3 rr4 rr5
  replace rrl := lK b rrl
  replace nn0 := cK b nn0 nnl
  replace nnl := lK b nnl
  replace cc := bK cc b
  clear b
  clear n1_ z1_
  go_wp2_with fail
  generalize hv_ : w7.alloc (.cells #[.bool bt, .slice At nt ct, .slice Bt mt dt] 27) = v8
  have bA : Below w7.heap.size w7 v8 := by rw [← hv_]; exact below_one _ _
  replace h0 := h0.on bA
  replace g0 := g0.on bA
  replace hu := hu.on bA
  replace gu := gu.on bA
  replace ht := ht.on bA
  rewrite [cR bA pal] at pa0 pa1 pa2 pa3 pa4 pa5
  replace pal := lK bA pal
  rewrite [cR bA rrl] at rr0 rr1 rr2 rr3 rr4 rr5
  replace rrl := lK bA rrl
  replace nn0 := cK bA nn0 nnl
  replace nnl := lK bA nnl
  replace cc := bK cc bA
  clear bA
  obtain ⟨sp0, sp1, sp2⟩ : Cs3 v8 w7.heap.size (.bool bt) (.slice At nt ct) (.slice Bt mt dt) := by simp [Cs3, ← hv_, go_sem]
  have spl : w7.heap.size < v8.heap.size := by simp [← hv_]
  clear hv_
  go_upto_region 9 with fail
  go_cut [9, 10] (fun ux uy wx => ∃ (gx gy : Nat) (bx : Bool) (Ax : Option Addr) (nx kx : Nat) (Cx : Option Addr) (mx dx : Nat) (bY : Bool) (Ay : Option Addr) (ny ky : Nat) (Cy : Option Addr) (my dy : Nat), ux = .pointer (some ⟨gx, 0, none⟩) ∧ uy = .pointer (some ⟨gy, 0, none⟩) ∧ BothR v8 wx gx gy bx Ax nx kx Cx mx dx bY Ay ny ky Cy my dy (mv) (lv))
  case first =>
    have BB0 : Below v8.heap.size v8 v8.drew := below_drewN (Below.refl _ v8) 1
    have BB1 : Below v8.heap.size v8 (v8.alloc (.cells #[.bool false, .slice none 0 0, .slice none 0 0] 27)).drew := below_drewN (below_one _ _) 1
    have BB2 : Below v8.heap.size v8 ((v8.alloc (.cells #[.bool false, .slice none 0 0, .slice none 0 0] 27)).alloc (.cells #[.bool false, .slice none 0 0, .slice none 0 0] 27)).drew := below_drewN (below_two _ _ _) 1
    go_region_held3 (fun w' => w'.cell? ⟨w.heap.size, 0, none⟩ = some (.bool false) ∧ w'.cell? ⟨w.heap.size, 1, none⟩ = some (.slice A0 n0 c0) ∧ w'.cell? ⟨w.heap.size, 2, none⟩ = some (.slice B0 m0 d0) ∧ w'.cell? ⟨w.heap.size, 3, none⟩ = some (.bool p0) ∧ w'.cell? ⟨w.heap.size, 4, none⟩ = some (.slice V0 r0 k0) ∧ w'.cell? ⟨w.heap.size, 5, none⟩ = some (.slice U0 o0 q0) ∧ w'.cell? ⟨w3.heap.size, 0, none⟩ = some (.bool false) ∧ w'.cell? ⟨w3.heap.size, 1, none⟩ = some (.slice Au nu cu) ∧ w'.cell? ⟨w3.heap.size, 2, none⟩ = some (.slice Bu mu du) ∧ w'.cell? ⟨w3.heap.size, 3, none⟩ = some (.bool pu) ∧ w'.cell? ⟨w3.heap.size, 4, none⟩ = some (.slice Vu ru ku) ∧ w'.cell? ⟨w3.heap.size, 5, none⟩ = some (.slice Uu ou qu) ∧ w'.cell? ⟨w5.heap.size, 0, none⟩ = some (.int .u64 1) ∧ w'.cell? ⟨w7.heap.size, 0, none⟩ = some (.bool bt) ∧ w'.cell? ⟨w7.heap.size, 1, none⟩ = some (.slice At nt ct) ∧ w'.cell? ⟨w7.heap.size, 2, none⟩ = some (.slice Bt mt dt))
      (first | with_reducible exact ⟨(cK qq pa0 pal), (cK qq pa1 pal), (cK qq pa2 pal), (cK qq pa3 pal), (cK qq pa4 pal), (cK qq pa5 pal), (cK qq rr0 rrl), (cK qq rr1 rrl), (cK qq rr2 rrl), (cK qq rr3 rrl), (cK qq rr4 rrl), (cK qq rr5 rrl), (cK qq nn0 nnl), (cK qq sp0 spl), (cK qq sp1 spl), (cK qq sp2 spl)⟩ | with_reducible exact ⟨keep_alloc ((cK qq pa0 pal)), keep_alloc ((cK qq pa1 pal)), keep_alloc ((cK qq pa2 pal)), keep_alloc ((cK qq pa3 pal)), keep_alloc ((cK qq pa4 pal)), keep_alloc ((cK qq pa5 pal)), keep_alloc ((cK qq rr0 rrl)), keep_alloc ((cK qq rr1 rrl)), keep_alloc ((cK qq rr2 rrl)), keep_alloc ((cK qq rr3 rrl)), keep_alloc ((cK qq rr4 rrl)), keep_alloc ((cK qq rr5 rrl)), keep_alloc ((cK qq nn0 nnl)), keep_alloc ((cK qq sp0 spl)), keep_alloc ((cK qq sp1 spl)), keep_alloc ((cK qq sp2 spl))⟩ | with_reducible exact ⟨keep_alloc (keep_alloc ((cK qq pa0 pal))), keep_alloc (keep_alloc ((cK qq pa1 pal))), keep_alloc (keep_alloc ((cK qq pa2 pal))), keep_alloc (keep_alloc ((cK qq pa3 pal))), keep_alloc (keep_alloc ((cK qq pa4 pal))), keep_alloc (keep_alloc ((cK qq pa5 pal))), keep_alloc (keep_alloc ((cK qq rr0 rrl))), keep_alloc (keep_alloc ((cK qq rr1 rrl))), keep_alloc (keep_alloc ((cK qq rr2 rrl))), keep_alloc (keep_alloc ((cK qq rr3 rrl))), keep_alloc (keep_alloc ((cK qq rr4 rrl))), keep_alloc (keep_alloc ((cK qq rr5 rrl))), keep_alloc (keep_alloc ((cK qq nn0 nnl))), keep_alloc (keep_alloc ((cK qq sp0 spl))), keep_alloc (keep_alloc ((cK qq sp1 spl))), keep_alloc (keep_alloc ((cK qq sp2 spl)))⟩ | with_reducible exact ⟨((cell_putR (by omega)).trans (cK qq pa0 pal)), ((cell_putR (by omega)).trans (cK qq pa1 pal)), ((cell_putR (by omega)).trans (cK qq pa2 pal)), ((cell_putR (by omega)).trans (cK qq pa3 pal)), ((cell_putR (by omega)).trans (cK qq pa4 pal)), ((cell_putR (by omega)).trans (cK qq pa5 pal)), ((cell_putR (by omega)).trans (cK qq rr0 rrl)), ((cell_putR (by omega)).trans (cK qq rr1 rrl)), ((cell_putR (by omega)).trans (cK qq rr2 rrl)), ((cell_putR (by omega)).trans (cK qq rr3 rrl)), ((cell_putR (by omega)).trans (cK qq rr4 rrl)), ((cell_putR (by omega)).trans (cK qq rr5 rrl)), ((cell_putR (by omega)).trans (cK qq nn0 nnl)), ((cell_putR (by omega)).trans (cK qq sp0 spl)), ((cell_putR (by omega)).trans (cK qq sp1 spl)), ((cell_putR (by omega)).trans (cK qq sp2 spl))⟩ | with_reducible exact ⟨keep_alloc (((cell_putR (by omega)).trans (cK qq pa0 pal))), keep_alloc (((cell_putR (by omega)).trans (cK qq pa1 pal))), keep_alloc (((cell_putR (by omega)).trans (cK qq pa2 pal))), keep_alloc (((cell_putR (by omega)).trans (cK qq pa3 pal))), keep_alloc (((cell_putR (by omega)).trans (cK qq pa4 pal))), keep_alloc (((cell_putR (by omega)).trans (cK qq pa5 pal))), keep_alloc (((cell_putR (by omega)).trans (cK qq rr0 rrl))), keep_alloc (((cell_putR (by omega)).trans (cK qq rr1 rrl))), keep_alloc (((cell_putR (by omega)).trans (cK qq rr2 rrl))), keep_alloc (((cell_putR (by omega)).trans (cK qq rr3 rrl))), keep_alloc (((cell_putR (by omega)).trans (cK qq rr4 rrl))), keep_alloc (((cell_putR (by omega)).trans (cK qq rr5 rrl))), keep_alloc (((cell_putR (by omega)).trans (cK qq nn0 nnl))), keep_alloc (((cell_putR (by omega)).trans (cK qq sp0 spl))), keep_alloc (((cell_putR (by omega)).trans (cK qq sp1 spl))), keep_alloc (((cell_putR (by omega)).trans (cK qq sp2 spl)))⟩ | with_reducible exact ⟨((cell_putR (by omega)).trans ((cell_putR (by omega)).trans (cK qq pa0 pal))), ((cell_putR (by omega)).trans ((cell_putR (by omega)).trans (cK qq pa1 pal))), ((cell_putR (by omega)).trans ((cell_putR (by omega)).trans (cK qq pa2 pal))), ((cell_putR (by omega)).trans ((cell_putR (by omega)).trans (cK qq pa3 pal))), ((cell_putR (by omega)).trans ((cell_putR (by omega)).trans (cK qq pa4 pal))), ((cell_putR (by omega)).trans ((cell_putR (by omega)).trans (cK qq pa5 pal))), ((cell_putR (by omega)).trans ((cell_putR (by omega)).trans (cK qq rr0 rrl))), ((cell_putR (by omega)).trans ((cell_putR (by omega)).trans (cK qq rr1 rrl))), ((cell_putR (by omega)).trans ((cell_putR (by omega)).trans (cK qq rr2 rrl))), ((cell_putR (by omega)).trans ((cell_putR (by omega)).trans (cK qq rr3 rrl))), ((cell_putR (by omega)).trans ((cell_putR (by omega)).trans (cK qq rr4 rrl))), ((cell_putR (by omega)).trans ((cell_putR (by omega)).trans (cK qq rr5 rrl))), ((cell_putR (by omega)).trans ((cell_putR (by omega)).trans (cK qq nn0 nnl))), ((cell_putR (by omega)).trans ((cell_putR (by omega)).trans (cK qq sp0 spl))), ((cell_putR (by omega)).trans ((cell_putR (by omega)).trans (cK qq sp1 spl))), ((cell_putR (by omega)).trans ((cell_putR (by omega)).trans (cK qq sp2 spl)))⟩ | go_keep)
      (first
        | (go_at_call 33; (with_reducible refine (CA (hu.on BB0) (ht.on BB0)).mono ?_); rintro e wy ⟨bx, Ax, nx, kx, Cx, mx, dx, rfl, hx, q⟩; have qq := BB0.trans (q.mono BB0.size); have qs := qq.size; clear q)
        | (go_at_call 33; (with_reducible refine (CA (hu.on BB1) (ht.on BB1)).mono ?_); rintro e wy ⟨bx, Ax, nx, kx, Cx, mx, dx, rfl, hx, q⟩; have qq := BB1.trans (q.mono BB1.size); have qs := qq.size; obtain ⟨c00, d00, c01, d01, c02, d02, l0⟩ := zb3 (g := v8.heap.size) q (by simp <;> omega) (by simp [Cs3, go_sem]) (by simp [Fz3, go_sem]); clear q)
        | (go_at_call 33; (with_reducible refine (CA (hu.on BB2) (ht.on BB2)).mono ?_); rintro e wy ⟨bx, Ax, nx, kx, Cx, mx, dx, rfl, hx, q⟩; have qq := BB2.trans (q.mono BB2.size); have qs := qq.size; obtain ⟨c00, d00, c01, d01, c02, d02, l0⟩ := zb3 (g := v8.heap.size) q (by simp <;> omega) (by simp [Cs3, go_sem]) (by simp [Fz3, go_sem]); obtain ⟨c10, d10, c11, d11, c12, d12, l1⟩ := zb3 (g := v8.heap.size + 1) q (by simp <;> omega) (by simp [Cs3, go_sem]) (by simp [Fz3, go_sem]); clear q)
        | (go_at_call 38; have up := Below.refl wy.heap.size wy; (with_reducible refine (CM ((gu.on qq).on up) ((ht.on qq).on up)).mono ?_); rintro e wz ⟨bY, Ay, ny, ky, Cy, my, dy, rfl, hy, q⟩; (try (rewrite [cR up l0, cR q (lK up l0)] at c00 c01 c02; rewrite [fR up l0, fR q (lK up l0)] at d00 d01 d02; have l0' := lK q (lK up l0))); (try (rewrite [cR up l1, cR q (lK up l1)] at c10 c11 c12; rewrite [fR up l1, fR q (lK up l1)] at d10 d11 d12; have l1' := lK q (lK up l1))); replace hx := (hx.on up).on q; replace qq := uK qq up q; have qs2 := qq.size; clear q up)
        | (go_at_call 38; have up := below_one wy (.cells #[.bool false, .slice none 0 0, .slice none 0 0] 27); (with_reducible refine (CM ((gu.on qq).on up) ((ht.on qq).on up)).mono ?_); rintro e wz ⟨bY, Ay, ny, ky, Cy, my, dy, rfl, hy, q⟩; (try (rewrite [cR up l0, cR q (lK up l0)] at c00 c01 c02; rewrite [fR up l0, fR q (lK up l0)] at d00 d01 d02; have l0' := lK q (lK up l0))); (try (rewrite [cR up l1, cR q (lK up l1)] at c10 c11 c12; rewrite [fR up l1, fR q (lK up l1)] at d10 d11 d12; have l1' := lK q (lK up l1))); obtain ⟨e00, f00, e01, f01, e02, f02, n0⟩ := zb3 (g := wy.heap.size) q (by simp <;> omega) (by simp [Cs3, go_sem]) (by simp [Fz3, go_sem]); replace hx := (hx.on up).on q; replace qq := uK qq up q; have qs2 := qq.size; clear q up)
        | (go_at_call 38; have up := below_two wy (.cells #[.bool false, .slice none 0 0, .slice none 0 0] 27) (.cells #[.bool false, .slice none 0 0, .slice none 0 0] 27); (with_reducible refine (CM ((gu.on qq).on up) ((ht.on qq).on up)).mono ?_); rintro e wz ⟨bY, Ay, ny, ky, Cy, my, dy, rfl, hy, q⟩; (try (rewrite [cR up l0, cR q (lK up l0)] at c00 c01 c02; rewrite [fR up l0, fR q (lK up l0)] at d00 d01 d02; have l0' := lK q (lK up l0))); (try (rewrite [cR up l1, cR q (lK up l1)] at c10 c11 c12; rewrite [fR up l1, fR q (lK up l1)] at d10 d11 d12; have l1' := lK q (lK up l1))); obtain ⟨e00, f00, e01, f01, e02, f02, n0⟩ := zb3 (g := wy.heap.size) q (by simp <;> omega) (by simp [Cs3, go_sem]) (by simp [Fz3, go_sem]); obtain ⟨e10, f10, e11, f11, e12, f12, n1⟩ := zb3 (g := wy.heap.size + 1) q (by simp <;> omega) (by simp [Cs3, go_sem]) (by simp [Fz3, go_sem]); replace hx := (hx.on up).on q; replace qq := uK qq up q; have qs2 := qq.size; clear q up))
    all_goals (go_wp2_with fail; go_meet)
    all_goals refine ⟨_, _, bx, Ax, nx, kx, Cx, mx, dx, bY, Ay, ny, ky, Cy, my, dy, rfl, rfl, ?_⟩
    all_goals first
      | with_reducible exact pairRA hx hy qq _
      | with_reducible exact pairRA' hx hy qq _
      | with_reducible exact pairRB (by assumption) (by assumption) (by assumption) hx hy qq (by omega) _
      | with_reducible exact pairRB' (by assumption) (by assumption) (by assumption) hx hy qq (by omega) _
      | with_reducible exact pairRC (by assumption) (by assumption) (by assumption) (by assumption) (by assumption) (by assumption) hx hy qq (by omega) (by omega) (by omega)
  case rest =>
    obtain ⟨gmo, gls, bmo, Amo, nmo, kmo, Cmo, mmo, dmo, bls, Als, nls, kls, Cls, mls, dls, rfl, rfl, ⟨mo0, mo1, mo2⟩, ⟨ls0, ls1, ls2⟩, hmo, hls, b, moge, lsge, moqls⟩ := hcut
    have mol := cell_lt mo0
    have lsl := cell_lt ls0
    simp only at mol lsl
    have moqpa : w.heap.size < gmo := Nat.lt_of_lt_of_le pal moge
    have moqrr : w3.heap.size < gmo := Nat.lt_of_lt_of_le rrl moge
    have moqnn : w5.heap.size < gmo := Nat.lt_of_lt_of_le nnl moge
    have moqsp : w7.heap.size < gmo := Nat.lt_of_lt_of_le spl moge
    have lsqpa : w.heap.size < gls := Nat.lt_of_lt_of_le pal lsge
    have lsqrr : w3.heap.size < gls := Nat.lt_of_lt_of_le rrl lsge
    have lsqnn : w5.heap.size < gls := Nat.lt_of_lt_of_le nnl lsge
    have lsqsp : w7.heap.size < gls := Nat.lt_of_lt_of_le spl lsge
    replace h0 := h0.on b
    replace g0 := g0.on b
    replace hu := hu.on b
    replace gu := gu.on b
    replace ht := ht.on b
    rewrite [cR b pal] at pa0 pa1 pa2 pa3 pa4 pa5
    replace pal := lK b pal
    rewrite [cR b rrl] at rr0 rr1 rr2 rr3 rr4 rr5
    replace rrl := lK b rrl
    replace nn0 := cK b nn0 nnl
    replace nnl := lK b nnl
    rewrite [cR b spl] at sp0 sp1 sp2
    replace spl := lK b spl
    replace cc := bK cc b
    clear b
    have hbl : bls = false := hls.1.2.trans HL.out
    subst hbl
    go_wp2_with fail
    have bD : Below wc.heap.size wc wc.drew := below_drewN (Below.refl _ wc) 1
    replace h0 := h0.on bD
    replace g0 := g0.on bD
    replace hu := hu.on bD
    replace gu := gu.on bD
    replace ht := ht.on bD
    replace hmo := hmo.on bD
    replace hls := hls.on bD
    rewrite [cR bD pal] at pa0 pa1 pa2 pa3 pa4 pa5
    replace pal := lK bD pal
    rewrite [cR bD rrl] at rr0 rr1 rr2 rr3 rr4 rr5
    replace rrl := lK bD rrl
    replace nn0 := cK bD nn0 nnl
    replace nnl := lK bD nnl
    rewrite [cR bD spl] at sp0 sp1 sp2
    replace spl := lK bD spl
    rewrite [cR bD mol] at mo0 mo1 mo2
    replace mol := lK bD mol
    rewrite [cR bD lsl] at ls0 ls1 ls2
    replace lsl := lK bD lsl
    replace cc := bK cc bD
    clear bD
    refine wp_region_held_drew (S := fun w' => w'.cell? ⟨w.heap.size, 0, none⟩ = some (.bool false) ∧ w'.cell? ⟨w.heap.size, 1, none⟩ = some (.slice A0 n0 c0) ∧ w'.cell? ⟨w.heap.size, 2, none⟩ = some (.slice B0 m0 d0) ∧ w'.cell? ⟨w.heap.size, 3, none⟩ = some (.bool p0) ∧ w'.cell? ⟨w.heap.size, 4, none⟩ = some (.slice V0 r0 k0) ∧ w'.cell? ⟨w.heap.size, 5, none⟩ = some (.slice U0 o0 q0) ∧ w'.cell? ⟨w3.heap.size, 0, none⟩ = some (.bool false) ∧ w'.cell? ⟨w3.heap.size, 1, none⟩ = some (.slice Au nu cu) ∧ w'.cell? ⟨w3.heap.size, 2, none⟩ = some (.slice Bu mu du) ∧ w'.cell? ⟨w3.heap.size, 3, none⟩ = some (.bool pu) ∧ w'.cell? ⟨w3.heap.size, 4, none⟩ = some (.slice Vu ru ku) ∧ w'.cell? ⟨w3.heap.size, 5, none⟩ = some (.slice Uu ou qu) ∧ w'.cell? ⟨w5.heap.size, 0, none⟩ = some (.int .u64 1) ∧ w'.cell? ⟨w7.heap.size, 0, none⟩ = some (.bool bt) ∧ w'.cell? ⟨w7.heap.size, 1, none⟩ = some (.slice At nt ct) ∧ w'.cell? ⟨w7.heap.size, 2, none⟩ = some (.slice Bt mt dt) ∧ w'.cell? ⟨gmo, 0, none⟩ = some (.bool bmo) ∧ w'.cell? ⟨gmo, 1, none⟩ = some (.slice Amo nmo kmo) ∧ w'.cell? ⟨gmo, 2, none⟩ = some (.slice Cmo mmo dmo) ∧ w'.cell? ⟨gls, 0, none⟩ = some (.bool false) ∧ w'.cell? ⟨gls, 1, none⟩ = some (.slice Als nls kls) ∧ w'.cell? ⟨gls, 2, none⟩ = some (.slice Cls mls dls)) (by kernel_rfl) ?_ (fun hHeld => ?_)
    · exact ⟨pa0, pa1, pa2, pa3, pa4, pa5, rr0, rr1, rr2, rr3, rr4, rr5, nn0, sp0, sp1, sp2, mo0, mo1, mo2, ls0, ls1, ls2⟩
    refine wpAnyH_take (i := 0) (v := ?_) rfl (by kernel_rfl) (by kernel_rfl) (by kernel_rfl) (fun _ _ _ h => h) (Or.inl ⟨by rfl, ?_⟩) hHeld ?_
    rotate_left
    · (intro w hSw; (try dsimp only at hSw); go_simp; (try with_reducible rfl))
    try simp only [Act.put, pT]
    refine wpAnyH_take (i := 1) (v := ?_) rfl (by kernel_rfl) (by kernel_rfl) (by kernel_rfl) (fun _ _ _ h => h) (Or.inl ⟨by rfl, ?_⟩) hHeld ?_
    rotate_left
    · (intro w hSw; (try dsimp only at hSw); go_simp; (try with_reducible rfl))
    try simp only [Act.put, pT]
    refine wpAnyH_take (i := 2) (v := ?_) rfl (by kernel_rfl) (by kernel_rfl) (by kernel_rfl) (fun _ _ _ h => h) (Or.inl ⟨by rfl, ?_⟩) hHeld ?_
    rotate_left
    · (intro w hSw; (try dsimp only at hSw); go_simp; (try with_reducible rfl))
    try simp only [Act.put, pT]
    refine wpAnyH_take (i := 3) (v := ?_) rfl (by kernel_rfl) (by kernel_rfl) (by kernel_rfl) (fun _ _ _ h => h) (Or.inl ⟨by rfl, ?_⟩) hHeld ?_
    rotate_left
    · (intro w hSw; (try dsimp only at hSw); go_simp; (try with_reducible rfl))
    try simp only [Act.put, pT]
    refine wpAnyH_take (i := 5) (v := ?_) rfl (by kernel_rfl) (by kernel_rfl) (by kernel_rfl) (fun _ _ _ h => h) (Or.inl ⟨by rfl, ?_⟩) hHeld ?_
    rotate_left
    · (intro w hSw; (try dsimp only at hSw); go_simp; (try with_reducible rfl))
    try simp only [Act.put, pT]
    refine wpAnyH_take (i := 6) (v := ?_) rfl (by kernel_rfl) (by kernel_rfl) (by kernel_rfl) (fun _ _ _ h => h) (Or.inl ⟨by rfl, ?_⟩) hHeld ?_
    rotate_left
    · (intro w hSw; (try dsimp only at hSw); go_simp; (try with_reducible rfl))
    try simp only [Act.put, pT]
    refine wpAnyH_ready (rs := [4]) (by kernel_rfl) (by simp) ?_
    refine AllReadyH.cons rfl (fun K hK => ?_) AllReadyH.nil
    (try simp only [pT])
    rw [if_pos (by rfl)]
    go_simp
    go_at_call 34
    refine (rtmul_N hu (zl_.le (by omega)) hu (zl_.le (by omega))).mono ?_
    rintro e w9 ⟨be, Ae, ne, ce, Be, me, de, rfl, he, b⟩
    replace h0 := h0.on b
    replace g0 := g0.on b
    replace hu := hu.on b
    replace gu := gu.on b
    replace ht := ht.on b
    replace hmo := hmo.on b
    replace hls := hls.on b
    rewrite [cR b pal] at pa0 pa1 pa2 pa3 pa4 pa5
    replace pal := lK b pal
    rewrite [cR b rrl] at rr0 rr1 rr2 rr3 rr4 rr5
    replace rrl := lK b rrl
    replace nn0 := cK b nn0 nnl
    replace nnl := lK b nnl
    rewrite [cR b spl] at sp0 sp1 sp2
    replace spl := lK b spl
    rewrite [cR b mol] at mo0 mo1 mo2
    replace mol := lK b mol
    rewrite [cR b lsl] at ls0 ls1 ls2
    replace lsl := lK b lsl
    replace cc := bK cc b
    clear b
    refine hK.out _ _ ?_ (fun hHeld => ?_)
    · exact ⟨pa0, pa1, pa2, pa3, pa4, pa5, rr0, rr1, rr2, rr3, rr4, rr5, nn0, sp0, sp1, sp2, mo0, mo1, mo2, ls0, ls1, ls2⟩
    clear hK K
    try simp only [Act.put, pT]
    refine wpAnyH_ready (rs := [7]) (by kernel_rfl) (by simp) ?_
    refine AllReadyH.cons rfl (fun K hK => ?_) AllReadyH.nil
    (try simp only [pT])
    rw [if_pos (by rfl)]
    go_simp
    go_at_call 39
    refine (rtcmp_v c1_ he (zll.le (by omega)) h0 (s0.le (by omega)) Hc1_.out).mono ?_
    rintro e w10 ⟨rfl, b⟩
    replace h0 := h0.on b
    replace g0 := g0.on b
    replace hu := hu.on b
    replace gu := gu.on b
    replace ht := ht.on b
    replace hmo := hmo.on b
    replace hls := hls.on b
    replace he := he.on b
    rewrite [cR b pal] at pa0 pa1 pa2 pa3 pa4 pa5
    replace pal := lK b pal
    rewrite [cR b rrl] at rr0 rr1 rr2 rr3 rr4 rr5
    replace rrl := lK b rrl
    replace nn0 := cK b nn0 nnl
    replace nnl := lK b nnl
    rewrite [cR b spl] at sp0 sp1 sp2
    replace spl := lK b spl
    rewrite [cR b mol] at mo0 mo1 mo2
    replace mol := lK b mol
    rewrite [cR b lsl] at ls0 ls1 ls2
    replace lsl := lK b lsl
    replace cc := bK cc b
    clear b
    refine hK.out _ _ ?_ (fun hHeld => ?_)
    · exact ⟨pa0, pa1, pa2, pa3, pa4, pa5, rr0, rr1, rr2, rr3, rr4, rr5, nn0, sp0, sp1, sp2, mo0, mo1, mo2, ls0, ls1, ls2⟩
    clear hK K
    try simp only [Act.put, pT]
    refine wpAnyH_take (i := 8) (v := ?_) rfl (by kernel_rfl) (by kernel_rfl) (by kernel_rfl) (fun _ _ _ h => h) (Or.inl ⟨by rfl, ?_⟩) hHeld ?_
    rotate_left
    · (intro w hSw; (try dsimp only at hSw); go_simp; (try with_reducible rfl))
    try simp only [Act.put, pT]
    refine wpAnyH_take (i := 9) (v := ?_) rfl (by kernel_rfl) (by kernel_rfl) (by kernel_rfl) (fun _ _ _ h => h) (Or.inl ⟨by rfl, ?_⟩) hHeld ?_
    rotate_left
    · (intro w hSw; (try dsimp only at hSw); go_simp; (try with_reducible rfl))
    try simp only [Act.put, pT]
    refine wpAnyH_take (i := 10) (v := ?_) rfl (by kernel_rfl) (by kernel_rfl) (by kernel_rfl) (fun _ _ _ h => h) (Or.inl ⟨by rfl, ?_⟩) hHeld ?_
    rotate_left
    · (intro w hSw; (try dsimp only at hSw); go_simp; (try with_reducible rfl))
    try simp only [Act.put, pT]
    refine wpAnyH_take (i := 11) (v := ?_) rfl (by kernel_rfl) (by kernel_rfl) (by kernel_rfl) (fun _ _ _ h => h) (Or.inl ⟨by rfl, ?_⟩) hHeld ?_
    rotate_left
    · (intro w hSw; (try dsimp only at hSw); go_simp; (try with_reducible rfl))
    try simp only [Act.put, pT]
    refine wpAnyH_take (i := 13) (v := ?_) rfl (by kernel_rfl) (by kernel_rfl) (by kernel_rfl) (fun _ _ _ h => h) (Or.inl ⟨by rfl, ?_⟩) hHeld ?_
    rotate_left
    · (intro w hSw; (try dsimp only at hSw); go_simp; (try with_reducible rfl))
    try simp only [Act.put, pT]
    refine wpAnyH_take (i := 14) (v := ?_) rfl (by kernel_rfl) (by kernel_rfl) (by kernel_rfl) (fun _ _ _ h => h) (Or.inl ⟨by rfl, ?_⟩) hHeld ?_
    rotate_left
    · (intro w hSw; (try dsimp only at hSw); go_simp; (try with_reducible rfl))
    try simp only [Act.put, pT]
    refine wpAnyH_ready (rs := [12]) (by kernel_rfl) (by simp) ?_
    refine AllReadyH.cons rfl (fun K hK => ?_) AllReadyH.nil
    (try simp only [pT])
    rw [if_pos (by rfl)]
    go_simp
    go_at_call 34
    refine (rtmul_N hmo (zm_.le (by omega)) hmo (zm_.le (by omega))).mono ?_
    rintro e w11 ⟨bf, Af, nf, cf, Bf, mf, df, rfl, hf, b⟩
    replace h0 := h0.on b
    replace g0 := g0.on b
    replace hu := hu.on b
    replace gu := gu.on b
    replace ht := ht.on b
    replace hmo := hmo.on b
    replace hls := hls.on b
    replace he := he.on b
    rewrite [cR b pal] at pa0 pa1 pa2 pa3 pa4 pa5
    replace pal := lK b pal
    rewrite [cR b rrl] at rr0 rr1 rr2 rr3 rr4 rr5
    replace rrl := lK b rrl
    replace nn0 := cK b nn0 nnl
    replace nnl := lK b nnl
    rewrite [cR b spl] at sp0 sp1 sp2
    replace spl := lK b spl
    rewrite [cR b mol] at mo0 mo1 mo2
    replace mol := lK b mol
    rewrite [cR b lsl] at ls0 ls1 ls2
    replace lsl := lK b lsl
    replace cc := bK cc b
    clear b
    refine hK.out _ _ ?_ (fun hHeld => ?_)
    · exact ⟨pa0, pa1, pa2, pa3, pa4, pa5, rr0, rr1, rr2, rr3, rr4, rr5, nn0, sp0, sp1, sp2, mo0, mo1, mo2, ls0, ls1, ls2⟩
    clear hK K
    try simp only [Act.put, pT]
    refine wpAnyH_ready (rs := [15]) (by kernel_rfl) (by simp) ?_
    refine AllReadyH.cons rfl (fun K hK => ?_) AllReadyH.nil
    (try simp only [pT])
    rw [if_pos (by rfl)]
    go_simp
    go_at_call 39
    refine (rtcmp_v c2_ hf (zmm.le (by omega)) h0 (s0.le (by omega)) Hc2_.out).mono ?_
    rintro e w12 ⟨rfl, b⟩
    replace h0 := h0.on b
    replace g0 := g0.on b
    replace hu := hu.on b
    replace gu := gu.on b
    replace ht := ht.on b
    replace hmo := hmo.on b
    replace hls := hls.on b
    replace he := he.on b
    replace hf := hf.on b
    rewrite [cR b pal] at pa0 pa1 pa2 pa3 pa4 pa5
    replace pal := lK b pal
    rewrite [cR b rrl] at rr0 rr1 rr2 rr3 rr4 rr5
    replace rrl := lK b rrl
    replace nn0 := cK b nn0 nnl
    replace nnl := lK b nnl
    rewrite [cR b spl] at sp0 sp1 sp2
    replace spl := lK b spl
    rewrite [cR b mol] at mo0 mo1 mo2
    replace mol := lK b mol
    rewrite [cR b lsl] at ls0 ls1 ls2
    replace lsl := lK b lsl
    replace cc := bK cc b
    clear b
    refine hK.out _ _ ?_ (fun hHeld => ?_)
    · exact ⟨pa0, pa1, pa2, pa3, pa4, pa5, rr0, rr1, rr2, rr3, rr4, rr5, nn0, sp0, sp1, sp2, mo0, mo1, mo2, ls0, ls1, ls2⟩
    clear hK K
    try simp only [Act.put, pT]
    refine wpAnyH_take (i := 16) (v := ?_) rfl (by kernel_rfl) (by kernel_rfl) (by kernel_rfl) (fun _ _ _ h => h) (Or.inl ⟨by rfl, ?_⟩) hHeld ?_
    rotate_left
    · (intro w hSw; (try dsimp only at hSw); go_simp; (try with_reducible rfl))
    try simp only [Act.put, pT]
    refine wpAnyH_take (i := 17) (v := ?_) rfl (by kernel_rfl) (by kernel_rfl) (by kernel_rfl) (fun _ _ _ h => h) (Or.inl ⟨by rfl, ?_⟩) hHeld ?_
    rotate_left
    · (intro w hSw; (try dsimp only at hSw); go_simp; (try with_reducible rfl))
    try simp only [Act.put, pT]
    refine wpAnyH_take (i := 18) (v := ?_) rfl (by kernel_rfl) (by kernel_rfl) (by kernel_rfl) (fun _ _ _ h => h) (Or.inl ⟨by rfl, ?_⟩) hHeld ?_
    rotate_left
    · (intro w hSw; (try dsimp only at hSw); go_simp; (try with_reducible rfl))
    try simp only [Act.put, pT]
    refine wpAnyH_done (by kernel_rfl) ?_ _
    clear hHeld
    clear he hf hmo h0
    go_wp2_with fail
    have bD : Below w12.heap.size w12 w12.drew := below_drewN (Below.refl _ w12) 1
    replace g0 := g0.on bD
    replace hu := hu.on bD
    replace gu := gu.on bD
    replace ht := ht.on bD
    replace hls := hls.on bD
    rewrite [cR bD pal] at pa0 pa1 pa2 pa3 pa4 pa5
    replace pal := lK bD pal
    rewrite [cR bD rrl] at rr0 rr1 rr2 rr3 rr4 rr5
    replace rrl := lK bD rrl
    replace nn0 := cK bD nn0 nnl
    replace nnl := lK bD nnl
    rewrite [cR bD spl] at sp0 sp1 sp2
    replace spl := lK bD spl
    rewrite [cR bD mol] at mo0 mo1 mo2
    replace mol := lK bD mol
    rewrite [cR bD lsl] at ls0 ls1 ls2
    replace lsl := lK bD lsl
    replace cc := bK cc bD
    clear bD
    refine wp_region_held_drew (S := fun w' => w'.cell? ⟨w.heap.size, 0, none⟩ = some (.bool false) ∧ w'.cell? ⟨w.heap.size, 1, none⟩ = some (.slice A0 n0 c0) ∧ w'.cell? ⟨w.heap.size, 2, none⟩ = some (.slice B0 m0 d0) ∧ w'.cell? ⟨w.heap.size, 3, none⟩ = some (.bool p0) ∧ w'.cell? ⟨w.heap.size, 4, none⟩ = some (.slice V0 r0 k0) ∧ w'.cell? ⟨w.heap.size, 5, none⟩ = some (.slice U0 o0 q0) ∧ w'.cell? ⟨w3.heap.size, 0, none⟩ = some (.bool false) ∧ w'.cell? ⟨w3.heap.size, 1, none⟩ = some (.slice Au nu cu) ∧ w'.cell? ⟨w3.heap.size, 2, none⟩ = some (.slice Bu mu du) ∧ w'.cell? ⟨w3.heap.size, 3, none⟩ = some (.bool pu) ∧ w'.cell? ⟨w3.heap.size, 4, none⟩ = some (.slice Vu ru ku) ∧ w'.cell? ⟨w3.heap.size, 5, none⟩ = some (.slice Uu ou qu) ∧ w'.cell? ⟨w5.heap.size, 0, none⟩ = some (.int .u64 1) ∧ w'.cell? ⟨w7.heap.size, 0, none⟩ = some (.bool bt) ∧ w'.cell? ⟨w7.heap.size, 1, none⟩ = some (.slice At nt ct) ∧ w'.cell? ⟨w7.heap.size, 2, none⟩ = some (.slice Bt mt dt) ∧ w'.cell? ⟨gmo, 0, none⟩ = some (.bool bmo) ∧ w'.cell? ⟨gmo, 1, none⟩ = some (.slice Amo nmo kmo) ∧ w'.cell? ⟨gmo, 2, none⟩ = some (.slice Cmo mmo dmo) ∧ w'.cell? ⟨gls, 0, none⟩ = some (.bool false) ∧ w'.cell? ⟨gls, 1, none⟩ = some (.slice Als nls kls) ∧ w'.cell? ⟨gls, 2, none⟩ = some (.slice Cls mls dls)) (by kernel_rfl) ?_ (fun hHeld => ?_)
    · exact ⟨pa0, pa1, pa2, pa3, pa4, pa5, rr0, rr1, rr2, rr3, rr4, rr5, nn0, sp0, sp1, sp2, mo0, mo1, mo2, ls0, ls1, ls2⟩
    refine wpAnyH_take (i := 0) (v := ?_) rfl (by kernel_rfl) (by kernel_rfl) (by kernel_rfl) (fun _ _ _ h => h) (Or.inl ⟨by rfl, ?_⟩) hHeld ?_
    rotate_left
    · (intro w hSw; (try dsimp only at hSw); go_simp; (try with_reducible rfl))
    try simp only [Act.put, pT]
    refine wpAnyH_take (i := 1) (v := ?_) rfl (by kernel_rfl) (by kernel_rfl) (by kernel_rfl) (fun _ _ _ h => h) (Or.inl ⟨by rfl, ?_⟩) hHeld ?_
    rotate_left
    · (intro w hSw; (try dsimp only at hSw); go_simp; (try with_reducible rfl))
    try simp only [Act.put, pT]
    refine wpAnyH_take (i := 2) (v := ?_) rfl (by kernel_rfl) (by kernel_rfl) (by kernel_rfl) (fun _ _ _ h => h) (Or.inl ⟨by rfl, ?_⟩) hHeld ?_
    rotate_left
    · (intro w hSw; (try dsimp only at hSw); go_simp; (try with_reducible rfl))
    try simp only [Act.put, pT]
    refine wpAnyH_take (i := 3) (v := ?_) rfl (by kernel_rfl) (by kernel_rfl) (by kernel_rfl) (fun _ _ _ h => h) (Or.inl ⟨by rfl, ?_⟩) hHeld ?_
    rotate_left
    · (intro w hSw; (try dsimp only at hSw); go_simp; (try with_reducible rfl))
    try simp only [Act.put, pT]
    refine wpAnyH_take (i := 5) (v := ?_) rfl (by kernel_rfl) (by kernel_rfl) (by kernel_rfl) (fun _ _ _ h => h) (Or.inl ⟨by rfl, ?_⟩) hHeld ?_
    rotate_left
    · (intro w hSw; (try dsimp only at hSw); go_simp; (try with_reducible rfl))
    try simp only [Act.put, pT]
    refine wpAnyH_take (i := 6) (v := ?_) rfl (by kernel_rfl) (by kernel_rfl) (by kernel_rfl) (fun _ _ _ h => h) (Or.inl ⟨by rfl, ?_⟩) hHeld ?_
    rotate_left
    · (intro w hSw; (try dsimp only at hSw); go_simp; (try with_reducible rfl))
    try simp only [Act.put, pT]
    refine wpAnyH_ready (rs := [4]) (by kernel_rfl) (by simp) ?_
    refine AllReadyH.cons rfl (fun K hK => ?_) AllReadyH.nil
    (try simp only [pT])
    rw [if_pos (by rfl)]
    go_simp
    go_at_call 34
    refine (rtmul_N gu (zh_.le (by omega)) gu (zh_.le (by omega))).mono ?_
    rintro e w13 ⟨be, Ae, ne, ce, Be, me, de, rfl, he, b⟩
    replace g0 := g0.on b
    replace hu := hu.on b
    replace gu := gu.on b
    replace ht := ht.on b
    replace hls := hls.on b
    rewrite [cR b pal] at pa0 pa1 pa2 pa3 pa4 pa5
    replace pal := lK b pal
    rewrite [cR b rrl] at rr0 rr1 rr2 rr3 rr4 rr5
    replace rrl := lK b rrl
    replace nn0 := cK b nn0 nnl
    replace nnl := lK b nnl
    rewrite [cR b spl] at sp0 sp1 sp2
    replace spl := lK b spl
    rewrite [cR b mol] at mo0 mo1 mo2
    replace mol := lK b mol
    rewrite [cR b lsl] at ls0 ls1 ls2
    replace lsl := lK b lsl
    replace cc := bK cc b
    clear b
    refine hK.out _ _ ?_ (fun hHeld => ?_)
    · exact ⟨pa0, pa1, pa2, pa3, pa4, pa5, rr0, rr1, rr2, rr3, rr4, rr5, nn0, sp0, sp1, sp2, mo0, mo1, mo2, ls0, ls1, ls2⟩
    clear hK K
    try simp only [Act.put, pT]
    refine wpAnyH_ready (rs := [7]) (by kernel_rfl) (by simp) ?_
    refine AllReadyH.cons rfl (fun K hK => ?_) AllReadyH.nil
    (try simp only [pT])
    rw [if_pos (by rfl)]
    go_simp
    go_at_call 39
    refine (rtcmp_v c3_ he (zhh.le (by omega)) g0 (t0.le (by omega)) Hc3_.out).mono ?_
    rintro e w14 ⟨rfl, b⟩
    replace g0 := g0.on b
    replace hu := hu.on b
    replace gu := gu.on b
    replace ht := ht.on b
    replace hls := hls.on b
    replace he := he.on b
    rewrite [cR b pal] at pa0 pa1 pa2 pa3 pa4 pa5
    replace pal := lK b pal
    rewrite [cR b rrl] at rr0 rr1 rr2 rr3 rr4 rr5
    replace rrl := lK b rrl
    replace nn0 := cK b nn0 nnl
    replace nnl := lK b nnl
    rewrite [cR b spl] at sp0 sp1 sp2
    replace spl := lK b spl
    rewrite [cR b mol] at mo0 mo1 mo2
    replace mol := lK b mol
    rewrite [cR b lsl] at ls0 ls1 ls2
    replace lsl := lK b lsl
    replace cc := bK cc b
    clear b
    refine hK.out _ _ ?_ (fun hHeld => ?_)
    · exact ⟨pa0, pa1, pa2, pa3, pa4, pa5, rr0, rr1, rr2, rr3, rr4, rr5, nn0, sp0, sp1, sp2, mo0, mo1, mo2, ls0, ls1, ls2⟩
    clear hK K
    try simp only [Act.put, pT]
    refine wpAnyH_take (i := 8) (v := ?_) rfl (by kernel_rfl) (by kernel_rfl) (by kernel_rfl) (fun _ _ _ h => h) (Or.inl ⟨by rfl, ?_⟩) hHeld ?_
    rotate_left
    · (intro w hSw; (try dsimp only at hSw); go_simp; (try with_reducible rfl))
    try simp only [Act.put, pT]
    refine wpAnyH_take (i := 9) (v := ?_) rfl (by kernel_rfl) (by kernel_rfl) (by kernel_rfl) (fun _ _ _ h => h) (Or.inl ⟨by rfl, ?_⟩) hHeld ?_
    rotate_left
    · (intro w hSw; (try dsimp only at hSw); go_simp; (try with_reducible rfl))
    try simp only [Act.put, pT]
    refine wpAnyH_take (i := 10) (v := ?_) rfl (by kernel_rfl) (by kernel_rfl) (by kernel_rfl) (fun _ _ _ h => h) (Or.inl ⟨by rfl, ?_⟩) hHeld ?_
    rotate_left
    · (intro w hSw; (try dsimp only at hSw); go_simp; (try with_reducible rfl))
    try simp only [Act.put, pT]
    refine wpAnyH_take (i := 11) (v := ?_) rfl (by kernel_rfl) (by kernel_rfl) (by kernel_rfl) (fun _ _ _ h => h) (Or.inl ⟨by rfl, ?_⟩) hHeld ?_
    rotate_left
    · (intro w hSw; (try dsimp only at hSw); go_simp; (try with_reducible rfl))
    try simp only [Act.put, pT]
    refine wpAnyH_take (i := 12) (v := ?_) rfl (by kernel_rfl) (by kernel_rfl) (by kernel_rfl) (fun _ _ _ h => h) (Or.inl ⟨by rfl, ?_⟩) hHeld ?_
    rotate_left
    · (intro w hSw; (try dsimp only at hSw); go_simp; (try with_reducible rfl))
    try simp only [Act.put, pT]
    refine wpAnyH_take (i := 13) (v := ?_) rfl (by kernel_rfl) (by kernel_rfl) (by kernel_rfl) (fun _ _ _ h => h) (Or.inl ⟨by rfl, ?_⟩) hHeld ?_
    rotate_left
    · (intro w hSw; (try dsimp only at hSw); go_simp; (try with_reducible rfl))
    try simp only [Act.put, pT]
    refine wpAnyH_take (i := 14) (v := ?_) rfl (by kernel_rfl) (by kernel_rfl) (by kernel_rfl) (fun _ _ _ h => h) (Or.inl ⟨by rfl, ?_⟩) hHeld ?_
    rotate_left
    · (intro w hSw; (try dsimp only at hSw); go_simp; (try with_reducible rfl))
    try simp only [Act.put, pT]
    refine wpAnyH_take (i := 15) (v := ?_) rfl (by kernel_rfl) (by kernel_rfl) (by kernel_rfl) (fun _ _ _ h => h) (Or.inl ⟨by rfl, ?_⟩) hHeld ?_
    rotate_left
    · (intro w hSw; (try dsimp only at hSw); go_simp; (try with_reducible rfl))
    try simp only [Act.put, pT]
    refine wpAnyH_take (i := 17) (v := ?_) rfl (by kernel_rfl) (by kernel_rfl) (by kernel_rfl) (fun _ _ _ h => h) (Or.inl ⟨by rfl, ?_⟩) hHeld ?_
    rotate_left
    · (intro w hSw; (try dsimp only at hSw); go_simp; (try with_reducible rfl))
    try simp only [Act.put, pT]
    refine wpAnyH_take (i := 18) (v := ?_) rfl (by kernel_rfl) (by kernel_rfl) (by kernel_rfl) (fun _ _ _ h => h) (Or.inl ⟨by rfl, ?_⟩) hHeld ?_
    rotate_left
    · (intro w hSw; (try dsimp only at hSw); go_simp; (try with_reducible rfl))
    try simp only [Act.put, pT]
    refine wpAnyH_ready (rs := [16]) (by kernel_rfl) (by simp) ?_
    refine AllReadyH.cons rfl (fun K hK => ?_) AllReadyH.nil
    (try simp only [pT])
    rw [if_pos (by rfl)]
    go_simp
    go_at_call 34
    refine (rtmul_N hls (zn_.le (by omega)) hls (zn_.le (by omega))).mono ?_
    rintro e w15 ⟨bf, Af, nf, cf, Bf, mf, df, rfl, hf, b⟩
    replace g0 := g0.on b
    replace hu := hu.on b
    replace gu := gu.on b
    replace ht := ht.on b
    replace hls := hls.on b
    replace he := he.on b
    rewrite [cR b pal] at pa0 pa1 pa2 pa3 pa4 pa5
    replace pal := lK b pal
    rewrite [cR b rrl] at rr0 rr1 rr2 rr3 rr4 rr5
    replace rrl := lK b rrl
    replace nn0 := cK b nn0 nnl
    replace nnl := lK b nnl
    rewrite [cR b spl] at sp0 sp1 sp2
    replace spl := lK b spl
    rewrite [cR b mol] at mo0 mo1 mo2
    replace mol := lK b mol
    rewrite [cR b lsl] at ls0 ls1 ls2
    replace lsl := lK b lsl
    replace cc := bK cc b
    clear b
    refine hK.out _ _ ?_ (fun hHeld => ?_)
    · exact ⟨pa0, pa1, pa2, pa3, pa4, pa5, rr0, rr1, rr2, rr3, rr4, rr5, nn0, sp0, sp1, sp2, mo0, mo1, mo2, ls0, ls1, ls2⟩
    clear hK K
    try simp only [Act.put, pT]
    refine wpAnyH_ready (rs := [19]) (by kernel_rfl) (by simp) ?_
    refine AllReadyH.cons rfl (fun K hK => ?_) AllReadyH.nil
    (try simp only [pT])
    rw [if_pos (by rfl)]
    go_simp
    go_at_call 39
    refine (rtcmp_v c4_ hf (znn.le (by omega)) g0 (t0.le (by omega)) Hc4_.out).mono ?_
    rintro e w16 ⟨rfl, b⟩
    replace g0 := g0.on b
    replace hu := hu.on b
    replace gu := gu.on b
    replace ht := ht.on b
    replace hls := hls.on b
    replace he := he.on b
    replace hf := hf.on b
    rewrite [cR b pal] at pa0 pa1 pa2 pa3 pa4 pa5
    replace pal := lK b pal
    rewrite [cR b rrl] at rr0 rr1 rr2 rr3 rr4 rr5
    replace rrl := lK b rrl
    replace nn0 := cK b nn0 nnl
    replace nnl := lK b nnl
    rewrite [cR b spl] at sp0 sp1 sp2
    replace spl := lK b spl
    rewrite [cR b mol] at mo0 mo1 mo2
    replace mol := lK b mol
    rewrite [cR b lsl] at ls0 ls1 ls2
    replace lsl := lK b lsl
    replace cc := bK cc b
    clear b
    refine hK.out _ _ ?_ (fun hHeld => ?_)
    · exact ⟨pa0, pa1, pa2, pa3, pa4, pa5, rr0, rr1, rr2, rr3, rr4, rr5, nn0, sp0, sp1, sp2, mo0, mo1, mo2, ls0, ls1, ls2⟩
    clear hK K
    try simp only [Act.put, pT]
    refine wpAnyH_take (i := 20) (v := ?_) rfl (by kernel_rfl) (by kernel_rfl) (by kernel_rfl) (fun _ _ _ h => h) (Or.inl ⟨by rfl, ?_⟩) hHeld ?_
    rotate_left
    · (intro w hSw; (try dsimp only at hSw); go_simp; (try with_reducible rfl))
    try simp only [Act.put, pT]
    refine wpAnyH_take (i := 21) (v := ?_) rfl (by kernel_rfl) (by kernel_rfl) (by kernel_rfl) (fun _ _ _ h => h) (Or.inl ⟨by rfl, ?_⟩) hHeld ?_
    rotate_left
    · (intro w hSw; (try dsimp only at hSw); go_simp; (try with_reducible rfl))
    try simp only [Act.put, pT]
    refine wpAnyH_take (i := 22) (v := ?_) rfl (by kernel_rfl) (by kernel_rfl) (by kernel_rfl) (fun _ _ _ h => h) (Or.inl ⟨by rfl, ?_⟩) hHeld ?_
    rotate_left
    · (intro w hSw; (try dsimp only at hSw); go_simp; (try with_reducible rfl))
    try simp only [Act.put, pT]
    refine wpAnyH_take (i := 23) (v := ?_) rfl (by kernel_rfl) (by kernel_rfl) (by kernel_rfl) (fun _ _ _ h => h) (Or.inl ⟨by rfl, ?_⟩) hHeld ?_
    rotate_left
    · (intro w hSw; (try dsimp only at hSw); go_simp; (try with_reducible rfl))
    try simp only [Act.put, pT]
    refine wpAnyH_done (by kernel_rfl) ?_ _
    clear hHeld
    clear he hls g0 ht hf
    go_wp2_with fail
    refine (OR hu gu).mono ?_
    rintro e w17 ⟨bz, Az, nz, cz, Bz, mz, dz, pz, Vz, rz, kz, Uz, oz, qz, rfl, ⟨hz, gz⟩, b⟩
    replace hu := hu.on b
    replace gu := gu.on b
    rewrite [cR b pal] at pa0 pa1 pa2 pa3 pa4 pa5
    replace pal := lK b pal
    rewrite [cR b rrl] at rr0 rr1 rr2 rr3 rr4 rr5
    replace rrl := lK b rrl
    replace nn0 := cK b nn0 nnl
    replace nnl := lK b nnl
    rewrite [cR b spl] at sp0 sp1 sp2
    replace spl := lK b spl
    rewrite [cR b mol] at mo0 mo1 mo2
    replace mol := lK b mol
    rewrite [cR b lsl] at ls0 ls1 ls2
    replace lsl := lK b lsl
    replace cc := bK cc b
    clear b
    go_wp2_with fail
    generalize hv_ : w17.alloc (.cells #[.bool bz, .slice Az nz cz, .slice Bz mz dz, .bool pz, .slice Vz rz kz, .slice Uz oz qz] 29) = v18
    have bA : Below w17.heap.size w17 v18 := by rw [← hv_]; exact below_one _ _
    replace hu := hu.on bA
    replace gu := gu.on bA
    replace hz := hz.on bA
    replace gz := gz.on bA
    rewrite [cR bA pal] at pa0 pa1 pa2 pa3 pa4 pa5
    replace pal := lK bA pal
    rewrite [cR bA rrl] at rr0 rr1 rr2 rr3 rr4 rr5
    replace rrl := lK bA rrl
    replace nn0 := cK bA nn0 nnl
    replace nnl := lK bA nnl
    rewrite [cR bA spl] at sp0 sp1 sp2
    replace spl := lK bA spl
    rewrite [cR bA mol] at mo0 mo1 mo2
    replace mol := lK bA mol
    rewrite [cR bA lsl] at ls0 ls1 ls2
    replace lsl := lK bA lsl
    replace cc := bK cc bA
    clear bA
    obtain ⟨on0, on1, on2, on3, on4, on5⟩ : Cs6 v18 w17.heap.size (.bool bz) (.slice Az nz cz) (.slice Bz mz dz) (.bool pz) (.slice Vz rz kz) (.slice Uz oz qz) := by simp [Cs6, ← hv_, go_sem]
    have onl : w17.heap.size < v18.heap.size := by simp [← hv_]
    clear hv_
    go_wp2_with fail
    refine (alive7_any _).mono ?_
    rintro e w19 ⟨rfl, b⟩
    replace hu := hu.on b
    replace gu := gu.on b
    replace hz := hz.on b
    replace gz := gz.on b
    rewrite [cR b pal] at pa0 pa1 pa2 pa3 pa4 pa5
    replace pal := lK b pal
    rewrite [cR b rrl] at rr0 rr1 rr2 rr3 rr4 rr5
    replace rrl := lK b rrl
    replace nn0 := cK b nn0 nnl
    replace nnl := lK b nnl
    rewrite [cR b spl] at sp0 sp1 sp2
    replace spl := lK b spl
    rewrite [cR b mol] at mo0 mo1 mo2
    replace mol := lK b mol
    rewrite [cR b lsl] at ls0 ls1 ls2
    replace lsl := lK b lsl
    rewrite [cR b onl] at on0 on1 on2 on3 on4 on5
    replace onl := lK b onl
    replace cc := bK cc b
    clear b
    go_wp2_with fail
    refine (stsame_N hz gz (zl_.le (by omega)) (zh_.le (by omega)) hu gu (zl_.le (by omega)) (zh_.le (by omega)) true two_eq).mono ?_
    rintro e w20 ⟨rfl, b⟩
    replace hu := hu.on b
    replace gu := gu.on b
    replace hz := hz.on b
    replace gz := gz.on b
    rewrite [cR b pal] at pa0 pa1 pa2 pa3 pa4 pa5
    replace pal := lK b pal
    rewrite [cR b rrl] at rr0 rr1 rr2 rr3 rr4 rr5
    replace rrl := lK b rrl
    replace nn0 := cK b nn0 nnl
    replace nnl := lK b nnl
    rewrite [cR b spl] at sp0 sp1 sp2
    replace spl := lK b spl
    rewrite [cR b mol] at mo0 mo1 mo2
    replace mol := lK b mol
    rewrite [cR b lsl] at ls0 ls1 ls2
    replace lsl := lK b lsl
    rewrite [cR b onl] at on0 on1 on2 on3 on4 on5
    replace onl := lK b onl
    replace cc := bK cc b
    clear b
    go_wp2_with fail
    go_ret
    exact ⟨rfl, cc⟩

end Go.Proofs.YtanpklbconflmaaGreat
