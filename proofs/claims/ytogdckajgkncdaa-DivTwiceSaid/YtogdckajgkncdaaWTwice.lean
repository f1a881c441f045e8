/-
  The walk of DivTwice.
-/
import Derived.Test.YtogdckajgkncdaaLM
import Derived.Test.YtogdckajgkncdaaL
namespace Go.Proofs.Ytogdckajgkncdaa
open Go.RowKit
set_option linter.unusedVariables false

theorem Num.first {w : World} {A : Option Addr} {n c x : Nat} (h : Num w A n c x) (h0 : 0 < n) : ∃ b off, A = some ⟨b, off, none⟩ ∧ w.cell? ⟨b, off, none⟩ = some (.int .u64 (((limbs x)[0]?.getD 0 : Nat) : Int)) := by
  obtain ⟨b, off, e, _, hc⟩ := h.2.2.2 h0
  exact ⟨b, off, e, hc 0 h0⟩
theorem dshr_v {w : World} {A : Option Addr} {n c x k : Nat} {v : Int} (hv : v = (k : Int)) (ha : Num w A n c x) (hx : (limbs x).length ≤ 300) (hk : k ≤ 20000) : Calls Try.prog 14 #[.slice A n c, .int .i64 v] w (GotP w (x / 2 ^ k) 0) := by
  rw [hv]
  exact dshr_N ha hx hk

set_option maxHeartbeats 2000000 in
theorem DivTwice_no {a0 a1 a2 : Option Addr} {len0 cap0 len1 cap1 len2 cap2 : Nat} {w : World} (G : Hid (Calls Try.prog 10 #[.slice (some ⟨w.heap.size, 0, none⟩) 3 3] (w.alloc (.cells #[.slice a0 len0 cap0, .slice a1 len1 cap1, .slice a2 len2 cap2] 23)) (GotV (w.alloc (.cells #[.slice a0 len0 cap0, .slice a1 len1 cap1, .slice a2 len2 cap2] 23)) (.bool false)))) :
    Calls Try.prog 8 #[.slice a0 len0 cap0, .slice a1 len1 cap1, .slice a2 len2 cap2] w fun e w' => e = .returned (.bool true) ∧ Below w.heap.size w w' := by
  go_enter Try.func8, Try.ntmps8
  go_wp2_with fail
  refine G.out.mono ?_
  rintro e w1 ⟨rfl, b1⟩
  go_wp2_with fail
  refine (alive_any _).mono ?_
  rintro e w2 ⟨rfl, b2⟩
  go_wp2_with fail
  go_ret
  exact ⟨rfl, ((Below.refl _ w).alloc (Nat.le_refl _) _).trans ((b1.trans (b2.mono b1.size)).mono (by simp))⟩

set_option maxRecDepth 100000 in
set_option maxHeartbeats 16000000 in
theorem DivTwice_yes {a0 a1 a2 : Option Addr} {len0 cap0 len1 cap1 len2 cap2 x y z : Nat} {w : World} (h0 : Num w a0 len0 cap0 x) (h1 : Num w a1 len1 cap1 y) (h2 : Num w a2 len2 cap2 z) (lx : (limbs x).length ≤ 20) (ly : (limbs y).length ≤ 20) (lz : (limbs z).length ≤ 20)
    (G : Hid (Calls Try.prog 10 #[.slice (some ⟨w.heap.size, 0, none⟩) 3 3] (w.alloc (.cells #[.slice a0 len0 cap0, .slice a1 len1 cap1, .slice a2 len2 cap2] 23)) (GotV (w.alloc (.cells #[.slice a0 len0 cap0, .slice a1 len1 cap1, .slice a2 len2 cap2] 23)) (.bool true))))
    (hc : len0 ≤ 8) (hd : len1 ≤ 8) (he : len2 ≤ 8) (hd0 : 0 < len1) (he0 : 0 < len2) :
    Calls Try.prog 8 #[.slice a0 len0 cap0, .slice a1 len1 cap1, .slice a2 len2 cap2] w fun e w' => e = .returned (.bool true) ∧ Below w.heap.size w w' := by
  have m0 : (limbs x).length ≤ 8 := by rw [← h0.len]; exact hc
  have m1 : (limbs y).length ≤ 8 := by rw [← h1.len]; exact hd
  have m2 : (limbs z).length ≤ 8 := by rw [← h2.len]; exact he
  have u1 : (limbs (x / y)).length ≤ 8 := len_quot _ m0
  have u2 : (limbs (x / y / z)).length ≤ 8 := len_quot _ u1
  have u3 : (limbs (y * z)).length ≤ 8 + 8 := limbs_length_mul m1 m2
  have u4 : (limbs (x / (y * z))).length ≤ 8 := len_quot _ m0
  have e1 : ((len1 : Int) == 0) = false := by simp; omega
  have e2 : ((len2 : Int) == 0) = false := by simp; omega
  have hy : y ≠ 0 := fun h => by rw [h] at h1; have := h1.nought; omega
  have hz : z ≠ 0 := fun h => by rw [h] at h2; have := h2.nought; omega
  have HM := Lib.hid (Nat.mul_ne_zero hy hz)
  have HY := Lib.hid hy
  have HZ := Lib.hid hz
  clear hy hz
  go_enter Try.func8, Try.ntmps8
  go_wp2_with fail
  refine G.out.mono ?_
  rintro e w1 ⟨rfl, b1⟩
  have cc : Below w.heap.size w w1 := ((Below.refl _ w).alloc (Nat.le_refl _) _).trans (b1.mono (by simp))
  clear b1 G
  replace h0 := h0.on cc
  replace h1 := h1.on cc
  replace h2 := h2.on cc
  go_wp2_with fail
  refine (ddiv_N h0 h1 (by omega) (by omega) HY.out).mono ?_
  rintro e w2 ⟨A2, n2, c2, B2, m2, d2, rfl, q1, r1, b⟩
  replace h0 := h0.on b
  replace h1 := h1.on b
  replace h2 := h2.on b
  replace cc := cc.trans (b.mono cc.size)
  clear b
  clear r1
  go_wp2_with fail
  refine (ddiv_N q1 h2 (by omega) (by omega) HZ.out).mono ?_
  rintro e w3 ⟨A3, n3, c3, B3, m3, d3, rfl, p1, r1, b⟩
  replace h0 := h0.on b
  replace h1 := h1.on b
  replace h2 := h2.on b
  replace q1 := q1.on b
  replace cc := cc.trans (b.mono cc.size)
  clear b
  clear r1 q1
  go_wp2_with fail
  refine (rmul_N h1 h2 (by omega) (by omega)).mono ?_
  rintro e w4 ⟨A4, n4, c4, rfl, m, b⟩
  replace h0 := h0.on b
  replace h1 := h1.on b
  replace h2 := h2.on b
  replace p1 := p1.on b
  replace cc := cc.trans (b.mono cc.size)
  clear b
  go_wp2_with fail
  refine (ddiv_N h0 m (by omega) (by omega) HM.out).mono ?_
  rintro e w5 ⟨A5, n5, c5, B5, m5, d5, rfl, x1, r1, b⟩
  replace h0 := h0.on b
  replace h1 := h1.on b
  replace h2 := h2.on b
  replace p1 := p1.on b
  replace m := m.on b
  replace cc := cc.trans (b.mono cc.size)
  clear b
  clear r1 m
  obtain ⟨b1, o1, rfl, f1⟩ := h1.first hd0
  obtain ⟨b2, o2, rfl, f2⟩ := h2.first he0
  generalize (limbs y)[0]?.getD 0 = g1 at f1
  generalize (limbs z)[0]?.getD 0 = g2 at f2
  have v1 : (limbs (x / 2 ^ (g1 % 300))).length ≤ 8 := len_quot _ m0
  have v3 : (limbs (x / 2 ^ (g1 % 300) / 2 ^ (g2 % 300))).length ≤ 8 := len_quot _ v1
  have v4 : (limbs (x / 2 ^ (g1 % 300 + g2 % 300))).length ≤ 8 := len_quot _ m0
  clear h1 h2
  go_wp2_with fail
  go_quiet (fail)
  have bq : Below w5.heap.size w5 (w5.drewN nq) := below_drewN (Below.refl _ _) nq
  replace cc := cc.trans (bq.mono cc.size)
  replace h0 := h0.on bq
  replace p1 := p1.on bq
  replace x1 := x1.on bq
  clear bq f1 f2
  go_wp2_with fail
  refine (dshr_v (k := g1 % 300) (by omega) h0 (by omega) (by omega)).mono ?_
  rintro e w6 ⟨A6, n6, c6, rfl, u, b⟩
  replace h0 := h0.on b
  replace p1 := p1.on b
  replace x1 := x1.on b
  replace cc := cc.trans (b.mono cc.size)
  clear b
  go_wp2_with fail
  refine (dshr_v (k := g2 % 300) (by omega) u (by omega) (by omega)).mono ?_
  rintro e w7 ⟨A7, n7, c7, rfl, v, b⟩
  replace h0 := h0.on b
  replace p1 := p1.on b
  replace x1 := x1.on b
  replace u := u.on b
  replace cc := cc.trans (b.mono cc.size)
  clear b
  clear u
  go_wp2_with fail
  refine (dshr_v (k := g1 % 300 + g2 % 300) (by omega) h0 (by omega) (by omega)).mono ?_
  rintro e w8 ⟨A8, n8, c8, rfl, v2, b⟩
  replace h0 := h0.on b
  replace p1 := p1.on b
  replace x1 := x1.on b
  replace v := v.on b
  replace cc := cc.trans (b.mono cc.size)
  clear b
  go_wp2_with fail
  refine (alive_any _).mono ?_
  rintro e w9 ⟨rfl, b⟩
  replace h0 := h0.on b
  replace p1 := p1.on b
  replace x1 := x1.on b
  replace v := v.on b
  replace v2 := v2.on b
  replace cc := cc.trans (b.mono cc.size)
  clear b
  go_wp2_with fail
  refine (same_N p1 x1 (by omega) (by omega) (Nat.div_div_eq_div_mul _ _ _)).mono ?_
  rintro e w10 ⟨rfl, b⟩
  replace h0 := h0.on b
  replace p1 := p1.on b
  replace x1 := x1.on b
  replace v := v.on b
  replace v2 := v2.on b
  replace cc := cc.trans (b.mono cc.size)
  clear b
  go_wp2_with fail
  refine (same_N v v2 (by omega) (by omega) (by rw [Nat.div_div_eq_div_mul, ← Nat.pow_add])).mono ?_
  rintro e w11 ⟨rfl, b⟩
  replace h0 := h0.on b
  replace p1 := p1.on b
  replace x1 := x1.on b
  replace v := v.on b
  replace v2 := v2.on b
  replace cc := cc.trans (b.mono cc.size)
  clear b
  go_wp2_with fail
  go_ret
  exact ⟨rfl, cc⟩

set_option maxRecDepth 100000 in
set_option maxHeartbeats 8000000 in
theorem DivTwice_a {a0 a1 a2 : Option Addr} {len0 cap0 len1 cap1 len2 cap2 x y z : Nat} {w : World} (h0 : Num w a0 len0 cap0 x) (h1 : Num w a1 len1 cap1 y) (h2 : Num w a2 len2 cap2 z) (lx : (limbs x).length ≤ 20) (ly : (limbs y).length ≤ 20) (lz : (limbs z).length ≤ 20)
    (G : Hid (Calls Try.prog 10 #[.slice (some ⟨w.heap.size, 0, none⟩) 3 3] (w.alloc (.cells #[.slice a0 len0 cap0, .slice a1 len1 cap1, .slice a2 len2 cap2] 23)) (GotV (w.alloc (.cells #[.slice a0 len0 cap0, .slice a1 len1 cap1, .slice a2 len2 cap2] 23)) (.bool true))))
    (hc : 8 < len0) :
    Calls Try.prog 8 #[.slice a0 len0 cap0, .slice a1 len1 cap1, .slice a2 len2 cap2] w fun e w' => e = .returned (.bool true) ∧ Below w.heap.size w w' := by
  go_enter Try.func8, Try.ntmps8
  go_wp2_with fail
  refine G.out.mono ?_
  rintro e w1 ⟨rfl, b1⟩
  have cc : Below w.heap.size w w1 := ((Below.refl _ w).alloc (Nat.le_refl _) _).trans (b1.mono (by simp))
  clear b1 G
  replace h0 := h0.on cc
  replace h1 := h1.on cc
  replace h2 := h2.on cc
  go_wp2_with fail
  refine (alive_any _).mono ?_
  rintro e w2 ⟨rfl, b⟩
  replace h0 := h0.on b
  replace h1 := h1.on b
  replace h2 := h2.on b
  replace cc := cc.trans (b.mono cc.size)
  clear b
  go_wp2_with fail
  go_ret
  exact ⟨rfl, cc⟩

set_option maxRecDepth 100000 in
set_option maxHeartbeats 8000000 in
theorem DivTwice_b {a0 a1 a2 : Option Addr} {len0 cap0 len1 cap1 len2 cap2 x y z : Nat} {w : World} (h0 : Num w a0 len0 cap0 x) (h1 : Num w a1 len1 cap1 y) (h2 : Num w a2 len2 cap2 z) (lx : (limbs x).length ≤ 20) (ly : (limbs y).length ≤ 20) (lz : (limbs z).length ≤ 20)
    (G : Hid (Calls Try.prog 10 #[.slice (some ⟨w.heap.size, 0, none⟩) 3 3] (w.alloc (.cells #[.slice a0 len0 cap0, .slice a1 len1 cap1, .slice a2 len2 cap2] 23)) (GotV (w.alloc (.cells #[.slice a0 len0 cap0, .slice a1 len1 cap1, .slice a2 len2 cap2] 23)) (.bool true))))
    (hc : len0 ≤ 8) (hd : 8 < len1) :
    Calls Try.prog 8 #[.slice a0 len0 cap0, .slice a1 len1 cap1, .slice a2 len2 cap2] w fun e w' => e = .returned (.bool true) ∧ Below w.heap.size w w' := by
  go_enter Try.func8, Try.ntmps8
  go_wp2_with fail
  refine G.out.mono ?_
  rintro e w1 ⟨rfl, b1⟩
  have cc : Below w.heap.size w w1 := ((Below.refl _ w).alloc (Nat.le_refl _) _).trans (b1.mono (by simp))
  clear b1 G
  replace h0 := h0.on cc
  replace h1 := h1.on cc
  replace h2 := h2.on cc
  go_wp2_with fail
  refine (alive_any _).mono ?_
  rintro e w2 ⟨rfl, b⟩
  replace h0 := h0.on b
  replace h1 := h1.on b
  replace h2 := h2.on b
  replace cc := cc.trans (b.mono cc.size)
  clear b
  go_wp2_with fail
  go_ret
  exact ⟨rfl, cc⟩

set_option maxRecDepth 100000 in
set_option maxHeartbeats 8000000 in
theorem DivTwice_c {a0 a1 a2 : Option Addr} {len0 cap0 len1 cap1 len2 cap2 x y z : Nat} {w : World} (h0 : Num w a0 len0 cap0 x) (h1 : Num w a1 len1 cap1 y) (h2 : Num w a2 len2 cap2 z) (lx : (limbs x).length ≤ 20) (ly : (limbs y).length ≤ 20) (lz : (limbs z).length ≤ 20)
    (G : Hid (Calls Try.prog 10 #[.slice (some ⟨w.heap.size, 0, none⟩) 3 3] (w.alloc (.cells #[.slice a0 len0 cap0, .slice a1 len1 cap1, .slice a2 len2 cap2] 23)) (GotV (w.alloc (.cells #[.slice a0 len0 cap0, .slice a1 len1 cap1, .slice a2 len2 cap2] 23)) (.bool true))))
    (hc : len0 ≤ 8) (hd : len1 ≤ 8) (he : 8 < len2) :
    Calls Try.prog 8 #[.slice a0 len0 cap0, .slice a1 len1 cap1, .slice a2 len2 cap2] w fun e w' => e = .returned (.bool true) ∧ Below w.heap.size w w' := by
  go_enter Try.func8, Try.ntmps8
  go_wp2_with fail
  refine G.out.mono ?_
  rintro e w1 ⟨rfl, b1⟩
  have cc : Below w.heap.size w w1 := ((Below.refl _ w).alloc (Nat.le_refl _) _).trans (b1.mono (by simp))
  clear b1 G
  replace h0 := h0.on cc
  replace h1 := h1.on cc
  replace h2 := h2.on cc
  go_wp2_with fail
  refine (alive_any _).mono ?_
  rintro e w2 ⟨rfl, b⟩
  replace h0 := h0.on b
  replace h1 := h1.on b
  replace h2 := h2.on b
  replace cc := cc.trans (b.mono cc.size)
  clear b
  go_wp2_with fail
  go_ret
  exact ⟨rfl, cc⟩

set_option maxRecDepth 100000 in
set_option maxHeartbeats 8000000 in
theorem DivTwice_d {a0 a1 a2 : Option Addr} {len0 cap0 len1 cap1 len2 cap2 x y z : Nat} {w : World} (h0 : Num w a0 len0 cap0 x) (h1 : Num w a1 len1 cap1 y) (h2 : Num w a2 len2 cap2 z) (lx : (limbs x).length ≤ 20) (ly : (limbs y).length ≤ 20) (lz : (limbs z).length ≤ 20)
    (G : Hid (Calls Try.prog 10 #[.slice (some ⟨w.heap.size, 0, none⟩) 3 3] (w.alloc (.cells #[.slice a0 len0 cap0, .slice a1 len1 cap1, .slice a2 len2 cap2] 23)) (GotV (w.alloc (.cells #[.slice a0 len0 cap0, .slice a1 len1 cap1, .slice a2 len2 cap2] 23)) (.bool true))))
    (hc : len0 ≤ 8) (hd : len1 = 0) (he : len2 ≤ 8) :
    Calls Try.prog 8 #[.slice a0 len0 cap0, .slice a1 len1 cap1, .slice a2 len2 cap2] w fun e w' => e = .returned (.bool true) ∧ Below w.heap.size w w' := by
  subst hd
  go_enter Try.func8, Try.ntmps8
  go_wp2_with fail
  refine G.out.mono ?_
  rintro e w1 ⟨rfl, b1⟩
  have cc : Below w.heap.size w w1 := ((Below.refl _ w).alloc (Nat.le_refl _) _).trans (b1.mono (by simp))
  clear b1 G
  replace h0 := h0.on cc
  replace h1 := h1.on cc
  replace h2 := h2.on cc
  go_wp2_with fail
  refine (alive_any _).mono ?_
  rintro e w2 ⟨rfl, b⟩
  replace h0 := h0.on b
  replace h1 := h1.on b
  replace h2 := h2.on b
  replace cc := cc.trans (b.mono cc.size)
  clear b
  go_wp2_with fail
  go_ret
  exact ⟨rfl, cc⟩

set_option maxRecDepth 100000 in
set_option maxHeartbeats 8000000 in
theorem DivTwice_e {a0 a1 a2 : Option Addr} {len0 cap0 len1 cap1 len2 cap2 x y z : Nat} {w : World} (h0 : Num w a0 len0 cap0 x) (h1 : Num w a1 len1 cap1 y) (h2 : Num w a2 len2 cap2 z) (lx : (limbs x).length ≤ 20) (ly : (limbs y).length ≤ 20) (lz : (limbs z).length ≤ 20)
    (G : Hid (Calls Try.prog 10 #[.slice (some ⟨w.heap.size, 0, none⟩) 3 3] (w.alloc (.cells #[.slice a0 len0 cap0, .slice a1 len1 cap1, .slice a2 len2 cap2] 23)) (GotV (w.alloc (.cells #[.slice a0 len0 cap0, .slice a1 len1 cap1, .slice a2 len2 cap2] 23)) (.bool true))))
    (hc : len0 ≤ 8) (hd : len1 ≤ 8) (hd0 : 0 < len1) (he : len2 = 0) :
    Calls Try.prog 8 #[.slice a0 len0 cap0, .slice a1 len1 cap1, .slice a2 len2 cap2] w fun e w' => e = .returned (.bool true) ∧ Below w.heap.size w w' := by
  have e1 : ((len1 : Int) == 0) = false := by simp; omega
  subst he
  go_enter Try.func8, Try.ntmps8
  go_wp2_with fail
  refine G.out.mono ?_
  rintro e w1 ⟨rfl, b1⟩
  have cc : Below w.heap.size w w1 := ((Below.refl _ w).alloc (Nat.le_refl _) _).trans (b1.mono (by simp))
  clear b1 G
  replace h0 := h0.on cc
  replace h1 := h1.on cc
  replace h2 := h2.on cc
  go_wp2_with fail
  refine (alive_any _).mono ?_
  rintro e w2 ⟨rfl, b⟩
  replace h0 := h0.on b
  replace h1 := h1.on b
  replace h2 := h2.on b
  replace cc := cc.trans (b.mono cc.size)
  clear b
  go_wp2_with fail
  go_ret
  exact ⟨rfl, cc⟩

theorem DivTwice_walk {a0 a1 a2 : Option Addr} {len0 cap0 len1 cap1 len2 cap2 : Nat} {l0 l1 l2 : List Nat} {w : World} (hl0 : Lim w.heap.size w a0 len0 cap0 l0) (hs0 : len0 ≤ 9223372036854775807) (hl1 : Lim w.heap.size w a1 len1 cap1 l1) (hs1 : len1 ≤ 9223372036854775807) (hl2 : Lim w.heap.size w a2 len2 cap2 l2) (hs2 : len2 ≤ 9223372036854775807) :
    Calls Try.prog 8 #[.slice a0 len0 cap0, .slice a1 len1 cap1, .slice a2 len2 cap2] w fun e w' => e = .returned (.bool true) ∧ Below w.heap.size w w' := by
  have hi0 : Arg.isIn ⟨a0, len0, cap0, l0⟩ w := ⟨hl0, hs0⟩
  have hi1 : Arg.isIn ⟨a1, len1, cap1, l1⟩ w := ⟨hl1, hs1⟩
  have hi2 : Arg.isIn ⟨a2, len2, cap2, l2⟩ w := ⟨hl2, hs2⟩
  cases hr : (Arg.ok ⟨a0, len0, cap0, l0⟩ && Arg.ok ⟨a1, len1, cap1, l1⟩ && Arg.ok ⟨a2, len2, cap2, l2⟩) with
  | false => exact DivTwice_no (Lib.hid (given_three ⟨a0, len0, cap0, l0⟩ ⟨a1, len1, cap1, l1⟩ ⟨a2, len2, cap2, l2⟩ false w hi0 hi1 hi2 hr))
  | true =>
    have G := Lib.hid (given_three ⟨a0, len0, cap0, l0⟩ ⟨a1, len1, cap1, l1⟩ ⟨a2, len2, cap2, l2⟩ true w hi0 hi1 hi2 hr)
    rw [Bool.and_eq_true, Bool.and_eq_true] at hr
    obtain ⟨⟨k0, k1⟩, k2⟩ := hr
    have h0 := hl0.num (ok_parts k0).2
    have lx : (limbs (val l0)).length ≤ 20 := by rw [← h0.len]; exact (ok_parts k0).1
    have h1 := hl1.num (ok_parts k1).2
    have ly : (limbs (val l1)).length ≤ 20 := by rw [← h1.len]; exact (ok_parts k1).1
    have h2 := hl2.num (ok_parts k2).2
    have lz : (limbs (val l2)).length ≤ 20 := by rw [← h2.len]; exact (ok_parts k2).1
    generalize val l0 = x at h0 lx
    generalize val l1 = y at h1 ly
    generalize val l2 = z at h2 lz
    by_cases hc : 8 < len0
    · exact DivTwice_a h0 h1 h2 lx ly lz G hc
    by_cases hd : 8 < len1
    · exact DivTwice_b h0 h1 h2 lx ly lz G (by omega) hd
    by_cases he : 8 < len2
    · exact DivTwice_c h0 h1 h2 lx ly lz G (by omega) (by omega) he
    by_cases hd0 : len1 = 0
    · exact DivTwice_d h0 h1 h2 lx ly lz G (by omega) hd0 (by omega)
    by_cases he0 : len2 = 0
    · exact DivTwice_e h0 h1 h2 lx ly lz G (by omega) (by omega) (by omega) he0
    exact DivTwice_yes h0 h1 h2 lx ly lz G (by omega) (by omega) (by omega) (by omega) (by omega)

end Go.Proofs.Ytogdckajgkncdaa
