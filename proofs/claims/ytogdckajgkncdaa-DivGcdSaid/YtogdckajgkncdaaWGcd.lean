/-
  The walk of DivGcd.
-/
import Derived.Test.YtogdckajgkncdaaLM
import Derived.Test.YtogdckajgkncdaaL
namespace Go.Proofs.Ytogdckajgkncdaa
open Go.RowKit
set_option linter.unusedVariables false

set_option maxHeartbeats 2000000 in
theorem DivGcd_no {a0 a1 a2 : Option Addr} {len0 cap0 len1 cap1 len2 cap2 : Nat} {w : World} (G : Hid (Calls Try.prog 10 #[.slice (some ⟨w.heap.size, 0, none⟩) 3 3] (w.alloc (.cells #[.slice a0 len0 cap0, .slice a1 len1 cap1, .slice a2 len2 cap2] 23)) (GotV (w.alloc (.cells #[.slice a0 len0 cap0, .slice a1 len1 cap1, .slice a2 len2 cap2] 23)) (.bool false)))) :
    Calls Try.prog 7 #[.slice a0 len0 cap0, .slice a1 len1 cap1, .slice a2 len2 cap2] w fun e w' => e = .returned (.bool true) ∧ Below w.heap.size w w' := by
  go_enter Try.func7, Try.ntmps7
  go_wp2_with fail
  refine G.out.mono ?_
  rintro e w1 ⟨rfl, b1⟩
  go_wp2_with fail
  refine (alive_any _).mono ?_
  rintro e w2 ⟨rfl, b2⟩
  go_wp2_with fail
  go_ret
  exact ⟨rfl, ((Below.refl _ w).alloc (Nat.le_refl _) _).trans ((b1.trans (b2.mono b1.size)).mono (by simp))⟩

set_option maxRecDepth 100000 in
set_option maxHeartbeats 16000000 in
theorem DivGcd_case_nx {a0 a1 a2 : Option Addr} {len0 cap0 len1 cap1 len2 cap2 x y z : Nat} {w : World} (h0 : Num w a0 len0 cap0 x) (h1 : Num w a1 len1 cap1 y) (h2 : Num w a2 len2 cap2 z) (lx : (limbs x).length ≤ 20) (ly : (limbs y).length ≤ 20) (lz : (limbs z).length ≤ 20)
    (G : Hid (Calls Try.prog 10 #[.slice (some ⟨w.heap.size, 0, none⟩) 3 3] (w.alloc (.cells #[.slice a0 len0 cap0, .slice a1 len1 cap1, .slice a2 len2 cap2] 23)) (GotV (w.alloc (.cells #[.slice a0 len0 cap0, .slice a1 len1 cap1, .slice a2 len2 cap2] 23)) (.bool true))))
    (hc : len0 ≤ 8) (hd : len1 ≤ 8) (he : len2 ≤ 8)
    (hz : ¬ z ∣ x)
    (hx : x ≠ 0) :
    Calls Try.prog 7 #[.slice a0 len0 cap0, .slice a1 len1 cap1, .slice a2 len2 cap2] w fun e w' => e = .returned (.bool true) ∧ Below w.heap.size w w' := by
  have m0 : (limbs x).length ≤ 8 := by rw [← h0.len]; exact hc
  have m1 : (limbs y).length ≤ 8 := by rw [← h1.len]; exact hd
  have m2 : (limbs z).length ≤ 8 := by rw [← h2.len]; exact he
  have u1 : (limbs (Nat.gcd x y)).length ≤ 8 := len_gcd m0 m1
  have u2 : (limbs (Nat.gcd y x)).length ≤ 8 := len_gcd m1 m0
  have u3 : (limbs (x * z)).length ≤ 8 + 8 := limbs_length_mul m0 m2
  have u4 : (limbs (y * z)).length ≤ 8 + 8 := limbs_length_mul m1 m2
  have u5 : (limbs (Nat.gcd (x * z) (y * z))).length ≤ 8 + 8 := len_gcd u3 u4
  have u6 : (limbs (Nat.gcd x y * z)).length ≤ 8 + 8 := limbs_length_mul u1 m2
  have G1 := Lib.hid (show decide (Nat.gcd x y ∣ x) = true from decide_eq_true (Nat.gcd_dvd_left x y))
  have G2 := Lib.hid (show decide (Nat.gcd x y ∣ y) = true from decide_eq_true (Nat.gcd_dvd_right x y))
  have D1 := Lib.hid (show decide (z ∣ x) = false from decide_eq_false hz)
  clear hz
  have p0 : 0 < len0 := h0.some_len hx
  have pf0 : ((len0 : Int) == 0) = false := by simp; omega
  have hg := Lib.hid (show Nat.gcd x y ≠ 0 from fun h => hx (Nat.eq_zero_of_gcd_eq_zero_left h))
  clear hx
  go_enter Try.func7, Try.ntmps7
  go_wp2_with fail
  refine G.out.mono ?_
  rintro e w1 ⟨rfl, b1⟩
  have cc : Below w.heap.size w w1 := ((Below.refl _ w).alloc (Nat.le_refl _) _).trans (b1.mono (by simp))
  clear b1 G
  replace h0 := h0.on cc
  replace h1 := h1.on cc
  replace h2 := h2.on cc
  go_wp2_with fail
  refine (dgcd_N h0 h1 (by omega) (by omega)).mono ?_
  rintro e w2 ⟨A2, n2, c2, rfl, g, b⟩
  replace h0 := h0.on b
  replace h1 := h1.on b
  replace h2 := h2.on b
  replace cc := cc.trans (b.mono cc.size)
  clear b
  have pg : 0 < n2 := g.some_len hg.out
  have pf : ((n2 : Int) == 0) = false := by simp; omega
  go_wp2_with fail
  refine (rright_N g (by omega)).mono ?_
  rintro e w3 ⟨rfl, b⟩
  replace h0 := h0.on b
  replace h1 := h1.on b
  replace h2 := h2.on b
  replace g := g.on b
  replace cc := cc.trans (b.mono cc.size)
  clear b
  go_wp2_with fail
  refine (goes_N true g h0 (by omega) (by omega) G1.out).mono ?_
  rintro e w4 ⟨rfl, b⟩
  replace h0 := h0.on b
  replace h1 := h1.on b
  replace h2 := h2.on b
  replace g := g.on b
  replace cc := cc.trans (b.mono cc.size)
  clear b
  go_wp2_with fail
  refine (goes_N true g h1 (by omega) (by omega) G2.out).mono ?_
  rintro e w5 ⟨rfl, b⟩
  replace h0 := h0.on b
  replace h1 := h1.on b
  replace h2 := h2.on b
  replace g := g.on b
  replace cc := cc.trans (b.mono cc.size)
  clear b
  go_wp2_with fail
  refine (dgcd_N h1 h0 (by omega) (by omega)).mono ?_
  rintro e w6 ⟨A6, n6, c6, rfl, g2, b⟩
  replace h0 := h0.on b
  replace h1 := h1.on b
  replace h2 := h2.on b
  replace g := g.on b
  replace cc := cc.trans (b.mono cc.size)
  clear b
  go_wp2_with fail
  refine (same_N g g2 (by omega) (by omega) (Nat.gcd_comm _ _)).mono ?_
  rintro e w7 ⟨rfl, b⟩
  replace h0 := h0.on b
  replace h1 := h1.on b
  replace h2 := h2.on b
  replace g := g.on b
  replace g2 := g2.on b
  replace cc := cc.trans (b.mono cc.size)
  clear b
  clear g2
  go_wp2_with fail
  refine (goes_N false h2 h0 (by omega) (by omega) D1.out).mono ?_
  rintro e w8 ⟨rfl, b⟩
  replace h0 := h0.on b
  replace h1 := h1.on b
  replace h2 := h2.on b
  replace g := g.on b
  replace cc := cc.trans (b.mono cc.size)
  clear b
  go_wp2_with fail
  refine (rmul_N h0 h2 (by omega) (by omega)).mono ?_
  rintro e w9 ⟨A9, n9, c9, rfl, ma, b⟩
  replace h0 := h0.on b
  replace h1 := h1.on b
  replace h2 := h2.on b
  replace g := g.on b
  replace cc := cc.trans (b.mono cc.size)
  clear b
  go_wp2_with fail
  refine (rmul_N h1 h2 (by omega) (by omega)).mono ?_
  rintro e w10 ⟨A10, n10, c10, rfl, mb, b⟩
  replace h0 := h0.on b
  replace h1 := h1.on b
  replace h2 := h2.on b
  replace g := g.on b
  replace ma := ma.on b
  replace cc := cc.trans (b.mono cc.size)
  clear b
  go_wp2_with fail
  refine (dgcd_N ma mb (by omega) (by omega)).mono ?_
  rintro e w11 ⟨A11, n11, c11, rfl, mo, b⟩
  replace h0 := h0.on b
  replace h1 := h1.on b
  replace h2 := h2.on b
  replace g := g.on b
  replace ma := ma.on b
  replace mb := mb.on b
  replace cc := cc.trans (b.mono cc.size)
  clear b
  clear ma mb
  go_wp2_with fail
  refine (alive_any _).mono ?_
  rintro e w12 ⟨rfl, b⟩
  replace h0 := h0.on b
  replace h1 := h1.on b
  replace h2 := h2.on b
  replace g := g.on b
  replace mo := mo.on b
  replace cc := cc.trans (b.mono cc.size)
  clear b
  go_wp2_with fail
  refine (rmul_N g h2 (by omega) (by omega)).mono ?_
  rintro e w13 ⟨A13, n13, c13, rfl, mg, b⟩
  replace h0 := h0.on b
  replace h1 := h1.on b
  replace h2 := h2.on b
  replace g := g.on b
  replace mo := mo.on b
  replace cc := cc.trans (b.mono cc.size)
  clear b
  go_wp2_with fail
  refine (same_N mo mg (by omega) (by omega) (Nat.gcd_mul_right _ _ _)).mono ?_
  rintro e w14 ⟨rfl, b⟩
  replace h0 := h0.on b
  replace h1 := h1.on b
  replace h2 := h2.on b
  replace g := g.on b
  replace mo := mo.on b
  replace mg := mg.on b
  replace cc := cc.trans (b.mono cc.size)
  clear b
  go_wp2_with fail
  go_ret
  exact ⟨rfl, cc⟩

set_option maxRecDepth 100000 in
set_option maxHeartbeats 16000000 in
theorem DivGcd_case_ny {a0 a1 a2 : Option Addr} {len0 cap0 len1 cap1 len2 cap2 x y z : Nat} {w : World} (h0 : Num w a0 len0 cap0 x) (h1 : Num w a1 len1 cap1 y) (h2 : Num w a2 len2 cap2 z) (lx : (limbs x).length ≤ 20) (ly : (limbs y).length ≤ 20) (lz : (limbs z).length ≤ 20)
    (G : Hid (Calls Try.prog 10 #[.slice (some ⟨w.heap.size, 0, none⟩) 3 3] (w.alloc (.cells #[.slice a0 len0 cap0, .slice a1 len1 cap1, .slice a2 len2 cap2] 23)) (GotV (w.alloc (.cells #[.slice a0 len0 cap0, .slice a1 len1 cap1, .slice a2 len2 cap2] 23)) (.bool true))))
    (hc : len0 ≤ 8) (hd : len1 ≤ 8) (he : len2 ≤ 8)
    (hz : ¬ z ∣ x)
    (hx : x = 0) (hy : y ≠ 0) :
    Calls Try.prog 7 #[.slice a0 len0 cap0, .slice a1 len1 cap1, .slice a2 len2 cap2] w fun e w' => e = .returned (.bool true) ∧ Below w.heap.size w w' := by
  have m0 : (limbs x).length ≤ 8 := by rw [← h0.len]; exact hc
  have m1 : (limbs y).length ≤ 8 := by rw [← h1.len]; exact hd
  have m2 : (limbs z).length ≤ 8 := by rw [← h2.len]; exact he
  have u1 : (limbs (Nat.gcd x y)).length ≤ 8 := len_gcd m0 m1
  have u2 : (limbs (Nat.gcd y x)).length ≤ 8 := len_gcd m1 m0
  have u3 : (limbs (x * z)).length ≤ 8 + 8 := limbs_length_mul m0 m2
  have u4 : (limbs (y * z)).length ≤ 8 + 8 := limbs_length_mul m1 m2
  have u5 : (limbs (Nat.gcd (x * z) (y * z))).length ≤ 8 + 8 := len_gcd u3 u4
  have u6 : (limbs (Nat.gcd x y * z)).length ≤ 8 + 8 := limbs_length_mul u1 m2
  have G1 := Lib.hid (show decide (Nat.gcd x y ∣ x) = true from decide_eq_true (Nat.gcd_dvd_left x y))
  have G2 := Lib.hid (show decide (Nat.gcd x y ∣ y) = true from decide_eq_true (Nat.gcd_dvd_right x y))
  have D1 := Lib.hid (show decide (z ∣ x) = false from decide_eq_false hz)
  clear hz
  have p0 : len0 = 0 := by rw [hx] at h0; exact h0.nought
  have p1 : 0 < len1 := h1.some_len hy
  have pf1 : ((len1 : Int) == 0) = false := by simp; omega
  have hg := Lib.hid (show Nat.gcd x y ≠ 0 from fun h => hy (Nat.eq_zero_of_gcd_eq_zero_right h))
  clear hx hy
  subst p0
  go_enter Try.func7, Try.ntmps7
  go_wp2_with fail
  refine G.out.mono ?_
  rintro e w1 ⟨rfl, b1⟩
  have cc : Below w.heap.size w w1 := ((Below.refl _ w).alloc (Nat.le_refl _) _).trans (b1.mono (by simp))
  clear b1 G
  replace h0 := h0.on cc
  replace h1 := h1.on cc
  replace h2 := h2.on cc
  go_wp2_with fail
  refine (dgcd_N h0 h1 (by omega) (by omega)).mono ?_
  rintro e w2 ⟨A2, n2, c2, rfl, g, b⟩
  replace h0 := h0.on b
  replace h1 := h1.on b
  replace h2 := h2.on b
  replace cc := cc.trans (b.mono cc.size)
  clear b
  have pg : 0 < n2 := g.some_len hg.out
  have pf : ((n2 : Int) == 0) = false := by simp; omega
  go_wp2_with fail
  refine (rright_N g (by omega)).mono ?_
  rintro e w3 ⟨rfl, b⟩
  replace h0 := h0.on b
  replace h1 := h1.on b
  replace h2 := h2.on b
  replace g := g.on b
  replace cc := cc.trans (b.mono cc.size)
  clear b
  go_wp2_with fail
  refine (goes_N true g h0 (by omega) (by omega) G1.out).mono ?_
  rintro e w4 ⟨rfl, b⟩
  replace h0 := h0.on b
  replace h1 := h1.on b
  replace h2 := h2.on b
  replace g := g.on b
  replace cc := cc.trans (b.mono cc.size)
  clear b
  go_wp2_with fail
  refine (goes_N true g h1 (by omega) (by omega) G2.out).mono ?_
  rintro e w5 ⟨rfl, b⟩
  replace h0 := h0.on b
  replace h1 := h1.on b
  replace h2 := h2.on b
  replace g := g.on b
  replace cc := cc.trans (b.mono cc.size)
  clear b
  go_wp2_with fail
  refine (dgcd_N h1 h0 (by omega) (by omega)).mono ?_
  rintro e w6 ⟨A6, n6, c6, rfl, g2, b⟩
  replace h0 := h0.on b
  replace h1 := h1.on b
  replace h2 := h2.on b
  replace g := g.on b
  replace cc := cc.trans (b.mono cc.size)
  clear b
  go_wp2_with fail
  refine (same_N g g2 (by omega) (by omega) (Nat.gcd_comm _ _)).mono ?_
  rintro e w7 ⟨rfl, b⟩
  replace h0 := h0.on b
  replace h1 := h1.on b
  replace h2 := h2.on b
  replace g := g.on b
  replace g2 := g2.on b
  replace cc := cc.trans (b.mono cc.size)
  clear b
  clear g2
  go_wp2_with fail
  refine (goes_N false h2 h0 (by omega) (by omega) D1.out).mono ?_
  rintro e w8 ⟨rfl, b⟩
  replace h0 := h0.on b
  replace h1 := h1.on b
  replace h2 := h2.on b
  replace g := g.on b
  replace cc := cc.trans (b.mono cc.size)
  clear b
  go_wp2_with fail
  refine (rmul_N h0 h2 (by omega) (by omega)).mono ?_
  rintro e w9 ⟨A9, n9, c9, rfl, ma, b⟩
  replace h0 := h0.on b
  replace h1 := h1.on b
  replace h2 := h2.on b
  replace g := g.on b
  replace cc := cc.trans (b.mono cc.size)
  clear b
  go_wp2_with fail
  refine (rmul_N h1 h2 (by omega) (by omega)).mono ?_
  rintro e w10 ⟨A10, n10, c10, rfl, mb, b⟩
  replace h0 := h0.on b
  replace h1 := h1.on b
  replace h2 := h2.on b
  replace g := g.on b
  replace ma := ma.on b
  replace cc := cc.trans (b.mono cc.size)
  clear b
  go_wp2_with fail
  refine (dgcd_N ma mb (by omega) (by omega)).mono ?_
  rintro e w11 ⟨A11, n11, c11, rfl, mo, b⟩
  replace h0 := h0.on b
  replace h1 := h1.on b
  replace h2 := h2.on b
  replace g := g.on b
  replace ma := ma.on b
  replace mb := mb.on b
  replace cc := cc.trans (b.mono cc.size)
  clear b
  clear ma mb
  go_wp2_with fail
  refine (alive_any _).mono ?_
  rintro e w12 ⟨rfl, b⟩
  replace h0 := h0.on b
  replace h1 := h1.on b
  replace h2 := h2.on b
  replace g := g.on b
  replace mo := mo.on b
  replace cc := cc.trans (b.mono cc.size)
  clear b
  go_wp2_with fail
  refine (rmul_N g h2 (by omega) (by omega)).mono ?_
  rintro e w13 ⟨A13, n13, c13, rfl, mg, b⟩
  replace h0 := h0.on b
  replace h1 := h1.on b
  replace h2 := h2.on b
  replace g := g.on b
  replace mo := mo.on b
  replace cc := cc.trans (b.mono cc.size)
  clear b
  go_wp2_with fail
  refine (same_N mo mg (by omega) (by omega) (Nat.gcd_mul_right _ _ _)).mono ?_
  rintro e w14 ⟨rfl, b⟩
  replace h0 := h0.on b
  replace h1 := h1.on b
  replace h2 := h2.on b
  replace g := g.on b
  replace mo := mo.on b
  replace mg := mg.on b
  replace cc := cc.trans (b.mono cc.size)
  clear b
  go_wp2_with fail
  go_ret
  exact ⟨rfl, cc⟩

set_option maxRecDepth 100000 in
set_option maxHeartbeats 16000000 in
theorem DivGcd_case_no {a0 a1 a2 : Option Addr} {len0 cap0 len1 cap1 len2 cap2 x y z : Nat} {w : World} (h0 : Num w a0 len0 cap0 x) (h1 : Num w a1 len1 cap1 y) (h2 : Num w a2 len2 cap2 z) (lx : (limbs x).length ≤ 20) (ly : (limbs y).length ≤ 20) (lz : (limbs z).length ≤ 20)
    (G : Hid (Calls Try.prog 10 #[.slice (some ⟨w.heap.size, 0, none⟩) 3 3] (w.alloc (.cells #[.slice a0 len0 cap0, .slice a1 len1 cap1, .slice a2 len2 cap2] 23)) (GotV (w.alloc (.cells #[.slice a0 len0 cap0, .slice a1 len1 cap1, .slice a2 len2 cap2] 23)) (.bool true))))
    (hc : len0 ≤ 8) (hd : len1 ≤ 8) (he : len2 ≤ 8)
    (hz : ¬ z ∣ x)
    (hx : x = 0) (hy : y = 0) :
    Calls Try.prog 7 #[.slice a0 len0 cap0, .slice a1 len1 cap1, .slice a2 len2 cap2] w fun e w' => e = .returned (.bool true) ∧ Below w.heap.size w w' := by
  have m0 : (limbs x).length ≤ 8 := by rw [← h0.len]; exact hc
  have m1 : (limbs y).length ≤ 8 := by rw [← h1.len]; exact hd
  have m2 : (limbs z).length ≤ 8 := by rw [← h2.len]; exact he
  have u1 : (limbs (Nat.gcd x y)).length ≤ 8 := len_gcd m0 m1
  have u2 : (limbs (Nat.gcd y x)).length ≤ 8 := len_gcd m1 m0
  have u3 : (limbs (x * z)).length ≤ 8 + 8 := limbs_length_mul m0 m2
  have u4 : (limbs (y * z)).length ≤ 8 + 8 := limbs_length_mul m1 m2
  have u5 : (limbs (Nat.gcd (x * z) (y * z))).length ≤ 8 + 8 := len_gcd u3 u4
  have u6 : (limbs (Nat.gcd x y * z)).length ≤ 8 + 8 := limbs_length_mul u1 m2
  have G1 := Lib.hid (show decide (Nat.gcd x y ∣ x) = true from decide_eq_true (Nat.gcd_dvd_left x y))
  have G2 := Lib.hid (show decide (Nat.gcd x y ∣ y) = true from decide_eq_true (Nat.gcd_dvd_right x y))
  have D1 := Lib.hid (show decide (z ∣ x) = false from decide_eq_false hz)
  clear hz
  have p0 : len0 = 0 := by rw [hx] at h0; exact h0.nought
  have p1 : len1 = 0 := by rw [hy] at h1; exact h1.nought
  have hg := Lib.hid (show Nat.gcd x y = 0 by rw [hx, hy]; rfl)
  clear hx hy
  subst p0
  subst p1
  go_enter Try.func7, Try.ntmps7
  go_wp2_with fail
  refine G.out.mono ?_
  rintro e w1 ⟨rfl, b1⟩
  have cc : Below w.heap.size w w1 := ((Below.refl _ w).alloc (Nat.le_refl _) _).trans (b1.mono (by simp))
  clear b1 G
  replace h0 := h0.on cc
  replace h1 := h1.on cc
  replace h2 := h2.on cc
  go_wp2_with fail
  refine (dgcd_N h0 h1 (by omega) (by omega)).mono ?_
  rintro e w2 ⟨A2, n2, c2, rfl, g, b⟩
  replace h0 := h0.on b
  replace h1 := h1.on b
  replace h2 := h2.on b
  replace cc := cc.trans (b.mono cc.size)
  clear b
  obtain ⟨ng, hng⟩ : ∃ j, j = n2 := ⟨_, rfl⟩
  have pg : n2 = 0 := by have e := hg.out; unfold Num at g; rw [e] at g; exact Num.nought g
  subst pg
  clear hng ng
  go_wp2_with fail
  refine (rright_N g (by omega)).mono ?_
  rintro e w3 ⟨rfl, b⟩
  replace h0 := h0.on b
  replace h1 := h1.on b
  replace h2 := h2.on b
  replace g := g.on b
  replace cc := cc.trans (b.mono cc.size)
  clear b
  go_wp2_with fail
  refine (goes_N true g h0 (by omega) (by omega) G1.out).mono ?_
  rintro e w4 ⟨rfl, b⟩
  replace h0 := h0.on b
  replace h1 := h1.on b
  replace h2 := h2.on b
  replace g := g.on b
  replace cc := cc.trans (b.mono cc.size)
  clear b
  go_wp2_with fail
  refine (goes_N true g h1 (by omega) (by omega) G2.out).mono ?_
  rintro e w5 ⟨rfl, b⟩
  replace h0 := h0.on b
  replace h1 := h1.on b
  replace h2 := h2.on b
  replace g := g.on b
  replace cc := cc.trans (b.mono cc.size)
  clear b
  go_wp2_with fail
  refine (dgcd_N h1 h0 (by omega) (by omega)).mono ?_
  rintro e w6 ⟨A6, n6, c6, rfl, g2, b⟩
  replace h0 := h0.on b
  replace h1 := h1.on b
  replace h2 := h2.on b
  replace g := g.on b
  replace cc := cc.trans (b.mono cc.size)
  clear b
  go_wp2_with fail
  refine (same_N g g2 (by omega) (by omega) (Nat.gcd_comm _ _)).mono ?_
  rintro e w7 ⟨rfl, b⟩
  replace h0 := h0.on b
  replace h1 := h1.on b
  replace h2 := h2.on b
  replace g := g.on b
  replace g2 := g2.on b
  replace cc := cc.trans (b.mono cc.size)
  clear b
  clear g2
  go_wp2_with fail
  refine (goes_N false h2 h0 (by omega) (by omega) D1.out).mono ?_
  rintro e w8 ⟨rfl, b⟩
  replace h0 := h0.on b
  replace h1 := h1.on b
  replace h2 := h2.on b
  replace g := g.on b
  replace cc := cc.trans (b.mono cc.size)
  clear b
  go_wp2_with fail
  refine (rmul_N h0 h2 (by omega) (by omega)).mono ?_
  rintro e w9 ⟨A9, n9, c9, rfl, ma, b⟩
  replace h0 := h0.on b
  replace h1 := h1.on b
  replace h2 := h2.on b
  replace g := g.on b
  replace cc := cc.trans (b.mono cc.size)
  clear b
  go_wp2_with fail
  refine (rmul_N h1 h2 (by omega) (by omega)).mono ?_
  rintro e w10 ⟨A10, n10, c10, rfl, mb, b⟩
  replace h0 := h0.on b
  replace h1 := h1.on b
  replace h2 := h2.on b
  replace g := g.on b
  replace ma := ma.on b
  replace cc := cc.trans (b.mono cc.size)
  clear b
  go_wp2_with fail
  refine (dgcd_N ma mb (by omega) (by omega)).mono ?_
  rintro e w11 ⟨A11, n11, c11, rfl, mo, b⟩
  replace h0 := h0.on b
  replace h1 := h1.on b
  replace h2 := h2.on b
  replace g := g.on b
  replace ma := ma.on b
  replace mb := mb.on b
  replace cc := cc.trans (b.mono cc.size)
  clear b
  clear ma mb
  go_wp2_with fail
  refine (alive_any _).mono ?_
  rintro e w12 ⟨rfl, b⟩
  replace h0 := h0.on b
  replace h1 := h1.on b
  replace h2 := h2.on b
  replace g := g.on b
  replace mo := mo.on b
  replace cc := cc.trans (b.mono cc.size)
  clear b
  go_wp2_with fail
  refine (rmul_N g h2 (by omega) (by omega)).mono ?_
  rintro e w13 ⟨A13, n13, c13, rfl, mg, b⟩
  replace h0 := h0.on b
  replace h1 := h1.on b
  replace h2 := h2.on b
  replace g := g.on b
  replace mo := mo.on b
  replace cc := cc.trans (b.mono cc.size)
  clear b
  go_wp2_with fail
  refine (same_N mo mg (by omega) (by omega) (Nat.gcd_mul_right _ _ _)).mono ?_
  rintro e w14 ⟨rfl, b⟩
  replace h0 := h0.on b
  replace h1 := h1.on b
  replace h2 := h2.on b
  replace g := g.on b
  replace mo := mo.on b
  replace mg := mg.on b
  replace cc := cc.trans (b.mono cc.size)
  clear b
  go_wp2_with fail
  go_ret
  exact ⟨rfl, cc⟩

set_option maxRecDepth 100000 in
set_option maxHeartbeats 16000000 in
theorem DivGcd_case_mx {a0 a1 a2 : Option Addr} {len0 cap0 len1 cap1 len2 cap2 x y z : Nat} {w : World} (h0 : Num w a0 len0 cap0 x) (h1 : Num w a1 len1 cap1 y) (h2 : Num w a2 len2 cap2 z) (lx : (limbs x).length ≤ 20) (ly : (limbs y).length ≤ 20) (lz : (limbs z).length ≤ 20)
    (G : Hid (Calls Try.prog 10 #[.slice (some ⟨w.heap.size, 0, none⟩) 3 3] (w.alloc (.cells #[.slice a0 len0 cap0, .slice a1 len1 cap1, .slice a2 len2 cap2] 23)) (GotV (w.alloc (.cells #[.slice a0 len0 cap0, .slice a1 len1 cap1, .slice a2 len2 cap2] 23)) (.bool true))))
    (hc : len0 ≤ 8) (hd : len1 ≤ 8) (he : len2 ≤ 8)
    (hz : z ∣ x) (hv : ¬ z ∣ y)
    (hx : x ≠ 0) :
    Calls Try.prog 7 #[.slice a0 len0 cap0, .slice a1 len1 cap1, .slice a2 len2 cap2] w fun e w' => e = .returned (.bool true) ∧ Below w.heap.size w w' := by
  have m0 : (limbs x).length ≤ 8 := by rw [← h0.len]; exact hc
  have m1 : (limbs y).length ≤ 8 := by rw [← h1.len]; exact hd
  have m2 : (limbs z).length ≤ 8 := by rw [← h2.len]; exact he
  have u1 : (limbs (Nat.gcd x y)).length ≤ 8 := len_gcd m0 m1
  have u2 : (limbs (Nat.gcd y x)).length ≤ 8 := len_gcd m1 m0
  have u3 : (limbs (x * z)).length ≤ 8 + 8 := limbs_length_mul m0 m2
  have u4 : (limbs (y * z)).length ≤ 8 + 8 := limbs_length_mul m1 m2
  have u5 : (limbs (Nat.gcd (x * z) (y * z))).length ≤ 8 + 8 := len_gcd u3 u4
  have u6 : (limbs (Nat.gcd x y * z)).length ≤ 8 + 8 := limbs_length_mul u1 m2
  have G1 := Lib.hid (show decide (Nat.gcd x y ∣ x) = true from decide_eq_true (Nat.gcd_dvd_left x y))
  have G2 := Lib.hid (show decide (Nat.gcd x y ∣ y) = true from decide_eq_true (Nat.gcd_dvd_right x y))
  have D1 := Lib.hid (show decide (z ∣ x) = true from decide_eq_true hz)
  have D2 := Lib.hid (show decide (z ∣ y) = false from decide_eq_false hv)
  clear hz hv
  have p0 : 0 < len0 := h0.some_len hx
  have pf0 : ((len0 : Int) == 0) = false := by simp; omega
  have hg := Lib.hid (show Nat.gcd x y ≠ 0 from fun h => hx (Nat.eq_zero_of_gcd_eq_zero_left h))
  clear hx
  go_enter Try.func7, Try.ntmps7
  go_wp2_with fail
  refine G.out.mono ?_
  rintro e w1 ⟨rfl, b1⟩
  have cc : Below w.heap.size w w1 := ((Below.refl _ w).alloc (Nat.le_refl _) _).trans (b1.mono (by simp))
  clear b1 G
  replace h0 := h0.on cc
  replace h1 := h1.on cc
  replace h2 := h2.on cc
  go_wp2_with fail
  refine (dgcd_N h0 h1 (by omega) (by omega)).mono ?_
  rintro e w2 ⟨A2, n2, c2, rfl, g, b⟩
  replace h0 := h0.on b
  replace h1 := h1.on b
  replace h2 := h2.on b
  replace cc := cc.trans (b.mono cc.size)
  clear b
  have pg : 0 < n2 := g.some_len hg.out
  have pf : ((n2 : Int) == 0) = false := by simp; omega
  go_wp2_with fail
  refine (rright_N g (by omega)).mono ?_
  rintro e w3 ⟨rfl, b⟩
  replace h0 := h0.on b
  replace h1 := h1.on b
  replace h2 := h2.on b
  replace g := g.on b
  replace cc := cc.trans (b.mono cc.size)
  clear b
  go_wp2_with fail
  refine (goes_N true g h0 (by omega) (by omega) G1.out).mono ?_
  rintro e w4 ⟨rfl, b⟩
  replace h0 := h0.on b
  replace h1 := h1.on b
  replace h2 := h2.on b
  replace g := g.on b
  replace cc := cc.trans (b.mono cc.size)
  clear b
  go_wp2_with fail
  refine (goes_N true g h1 (by omega) (by omega) G2.out).mono ?_
  rintro e w5 ⟨rfl, b⟩
  replace h0 := h0.on b
  replace h1 := h1.on b
  replace h2 := h2.on b
  replace g := g.on b
  replace cc := cc.trans (b.mono cc.size)
  clear b
  go_wp2_with fail
  refine (dgcd_N h1 h0 (by omega) (by omega)).mono ?_
  rintro e w6 ⟨A6, n6, c6, rfl, g2, b⟩
  replace h0 := h0.on b
  replace h1 := h1.on b
  replace h2 := h2.on b
  replace g := g.on b
  replace cc := cc.trans (b.mono cc.size)
  clear b
  go_wp2_with fail
  refine (same_N g g2 (by omega) (by omega) (Nat.gcd_comm _ _)).mono ?_
  rintro e w7 ⟨rfl, b⟩
  replace h0 := h0.on b
  replace h1 := h1.on b
  replace h2 := h2.on b
  replace g := g.on b
  replace g2 := g2.on b
  replace cc := cc.trans (b.mono cc.size)
  clear b
  clear g2
  go_wp2_with fail
  refine (goes_N true h2 h0 (by omega) (by omega) D1.out).mono ?_
  rintro e w8 ⟨rfl, b⟩
  replace h0 := h0.on b
  replace h1 := h1.on b
  replace h2 := h2.on b
  replace g := g.on b
  replace cc := cc.trans (b.mono cc.size)
  clear b
  go_wp2_with fail
  refine (goes_N false h2 h1 (by omega) (by omega) D2.out).mono ?_
  rintro e w9 ⟨rfl, b⟩
  replace h0 := h0.on b
  replace h1 := h1.on b
  replace h2 := h2.on b
  replace g := g.on b
  replace cc := cc.trans (b.mono cc.size)
  clear b
  go_wp2_with fail
  refine (rmul_N h0 h2 (by omega) (by omega)).mono ?_
  rintro e w10 ⟨A10, n10, c10, rfl, ma, b⟩
  replace h0 := h0.on b
  replace h1 := h1.on b
  replace h2 := h2.on b
  replace g := g.on b
  replace cc := cc.trans (b.mono cc.size)
  clear b
  go_wp2_with fail
  refine (rmul_N h1 h2 (by omega) (by omega)).mono ?_
  rintro e w11 ⟨A11, n11, c11, rfl, mb, b⟩
  replace h0 := h0.on b
  replace h1 := h1.on b
  replace h2 := h2.on b
  replace g := g.on b
  replace ma := ma.on b
  replace cc := cc.trans (b.mono cc.size)
  clear b
  go_wp2_with fail
  refine (dgcd_N ma mb (by omega) (by omega)).mono ?_
  rintro e w12 ⟨A12, n12, c12, rfl, mo, b⟩
  replace h0 := h0.on b
  replace h1 := h1.on b
  replace h2 := h2.on b
  replace g := g.on b
  replace ma := ma.on b
  replace mb := mb.on b
  replace cc := cc.trans (b.mono cc.size)
  clear b
  clear ma mb
  go_wp2_with fail
  refine (alive_any _).mono ?_
  rintro e w13 ⟨rfl, b⟩
  replace h0 := h0.on b
  replace h1 := h1.on b
  replace h2 := h2.on b
  replace g := g.on b
  replace mo := mo.on b
  replace cc := cc.trans (b.mono cc.size)
  clear b
  go_wp2_with fail
  refine (rmul_N g h2 (by omega) (by omega)).mono ?_
  rintro e w14 ⟨A14, n14, c14, rfl, mg, b⟩
  replace h0 := h0.on b
  replace h1 := h1.on b
  replace h2 := h2.on b
  replace g := g.on b
  replace mo := mo.on b
  replace cc := cc.trans (b.mono cc.size)
  clear b
  go_wp2_with fail
  refine (same_N mo mg (by omega) (by omega) (Nat.gcd_mul_right _ _ _)).mono ?_
  rintro e w15 ⟨rfl, b⟩
  replace h0 := h0.on b
  replace h1 := h1.on b
  replace h2 := h2.on b
  replace g := g.on b
  replace mo := mo.on b
  replace mg := mg.on b
  replace cc := cc.trans (b.mono cc.size)
  clear b
  go_wp2_with fail
  go_ret
  exact ⟨rfl, cc⟩

set_option maxRecDepth 100000 in
set_option maxHeartbeats 16000000 in
theorem DivGcd_case_my {a0 a1 a2 : Option Addr} {len0 cap0 len1 cap1 len2 cap2 x y z : Nat} {w : World} (h0 : Num w a0 len0 cap0 x) (h1 : Num w a1 len1 cap1 y) (h2 : Num w a2 len2 cap2 z) (lx : (limbs x).length ≤ 20) (ly : (limbs y).length ≤ 20) (lz : (limbs z).length ≤ 20)
    (G : Hid (Calls Try.prog 10 #[.slice (some ⟨w.heap.size, 0, none⟩) 3 3] (w.alloc (.cells #[.slice a0 len0 cap0, .slice a1 len1 cap1, .slice a2 len2 cap2] 23)) (GotV (w.alloc (.cells #[.slice a0 len0 cap0, .slice a1 len1 cap1, .slice a2 len2 cap2] 23)) (.bool true))))
    (hc : len0 ≤ 8) (hd : len1 ≤ 8) (he : len2 ≤ 8)
    (hz : z ∣ x) (hv : ¬ z ∣ y)
    (hx : x = 0) (hy : y ≠ 0) :
    Calls Try.prog 7 #[.slice a0 len0 cap0, .slice a1 len1 cap1, .slice a2 len2 cap2] w fun e w' => e = .returned (.bool true) ∧ Below w.heap.size w w' := by
  have m0 : (limbs x).length ≤ 8 := by rw [← h0.len]; exact hc
  have m1 : (limbs y).length ≤ 8 := by rw [← h1.len]; exact hd
  have m2 : (limbs z).length ≤ 8 := by rw [← h2.len]; exact he
  have u1 : (limbs (Nat.gcd x y)).length ≤ 8 := len_gcd m0 m1
  have u2 : (limbs (Nat.gcd y x)).length ≤ 8 := len_gcd m1 m0
  have u3 : (limbs (x * z)).length ≤ 8 + 8 := limbs_length_mul m0 m2
  have u4 : (limbs (y * z)).length ≤ 8 + 8 := limbs_length_mul m1 m2
  have u5 : (limbs (Nat.gcd (x * z) (y * z))).length ≤ 8 + 8 := len_gcd u3 u4
  have u6 : (limbs (Nat.gcd x y * z)).length ≤ 8 + 8 := limbs_length_mul u1 m2
  have G1 := Lib.hid (show decide (Nat.gcd x y ∣ x) = true from decide_eq_true (Nat.gcd_dvd_left x y))
  have G2 := Lib.hid (show decide (Nat.gcd x y ∣ y) = true from decide_eq_true (Nat.gcd_dvd_right x y))
  have D1 := Lib.hid (show decide (z ∣ x) = true from decide_eq_true hz)
  have D2 := Lib.hid (show decide (z ∣ y) = false from decide_eq_false hv)
  clear hz hv
  have p0 : len0 = 0 := by rw [hx] at h0; exact h0.nought
  have p1 : 0 < len1 := h1.some_len hy
  have pf1 : ((len1 : Int) == 0) = false := by simp; omega
  have hg := Lib.hid (show Nat.gcd x y ≠ 0 from fun h => hy (Nat.eq_zero_of_gcd_eq_zero_right h))
  clear hx hy
  subst p0
  go_enter Try.func7, Try.ntmps7
  go_wp2_with fail
  refine G.out.mono ?_
  rintro e w1 ⟨rfl, b1⟩
  have cc : Below w.heap.size w w1 := ((Below.refl _ w).alloc (Nat.le_refl _) _).trans (b1.mono (by simp))
  clear b1 G
  replace h0 := h0.on cc
  replace h1 := h1.on cc
  replace h2 := h2.on cc
  go_wp2_with fail
  refine (dgcd_N h0 h1 (by omega) (by omega)).mono ?_
  rintro e w2 ⟨A2, n2, c2, rfl, g, b⟩
  replace h0 := h0.on b
  replace h1 := h1.on b
  replace h2 := h2.on b
  replace cc := cc.trans (b.mono cc.size)
  clear b
  have pg : 0 < n2 := g.some_len hg.out
  have pf : ((n2 : Int) == 0) = false := by simp; omega
  go_wp2_with fail
  refine (rright_N g (by omega)).mono ?_
  rintro e w3 ⟨rfl, b⟩
  replace h0 := h0.on b
  replace h1 := h1.on b
  replace h2 := h2.on b
  replace g := g.on b
  replace cc := cc.trans (b.mono cc.size)
  clear b
  go_wp2_with fail
  refine (goes_N true g h0 (by omega) (by omega) G1.out).mono ?_
  rintro e w4 ⟨rfl, b⟩
  replace h0 := h0.on b
  replace h1 := h1.on b
  replace h2 := h2.on b
  replace g := g.on b
  replace cc := cc.trans (b.mono cc.size)
  clear b
  go_wp2_with fail
  refine (goes_N true g h1 (by omega) (by omega) G2.out).mono ?_
  rintro e w5 ⟨rfl, b⟩
  replace h0 := h0.on b
  replace h1 := h1.on b
  replace h2 := h2.on b
  replace g := g.on b
  replace cc := cc.trans (b.mono cc.size)
  clear b
  go_wp2_with fail
  refine (dgcd_N h1 h0 (by omega) (by omega)).mono ?_
  rintro e w6 ⟨A6, n6, c6, rfl, g2, b⟩
  replace h0 := h0.on b
  replace h1 := h1.on b
  replace h2 := h2.on b
  replace g := g.on b
  replace cc := cc.trans (b.mono cc.size)
  clear b
  go_wp2_with fail
  refine (same_N g g2 (by omega) (by omega) (Nat.gcd_comm _ _)).mono ?_
  rintro e w7 ⟨rfl, b⟩
  replace h0 := h0.on b
  replace h1 := h1.on b
  replace h2 := h2.on b
  replace g := g.on b
  replace g2 := g2.on b
  replace cc := cc.trans (b.mono cc.size)
  clear b
  clear g2
  go_wp2_with fail
  refine (goes_N true h2 h0 (by omega) (by omega) D1.out).mono ?_
  rintro e w8 ⟨rfl, b⟩
  replace h0 := h0.on b
  replace h1 := h1.on b
  replace h2 := h2.on b
  replace g := g.on b
  replace cc := cc.trans (b.mono cc.size)
  clear b
  go_wp2_with fail
  refine (goes_N false h2 h1 (by omega) (by omega) D2.out).mono ?_
  rintro e w9 ⟨rfl, b⟩
  replace h0 := h0.on b
  replace h1 := h1.on b
  replace h2 := h2.on b
  replace g := g.on b
  replace cc := cc.trans (b.mono cc.size)
  clear b
  go_wp2_with fail
  refine (rmul_N h0 h2 (by omega) (by omega)).mono ?_
  rintro e w10 ⟨A10, n10, c10, rfl, ma, b⟩
  replace h0 := h0.on b
  replace h1 := h1.on b
  replace h2 := h2.on b
  replace g := g.on b
  replace cc := cc.trans (b.mono cc.size)
  clear b
  go_wp2_with fail
  refine (rmul_N h1 h2 (by omega) (by omega)).mono ?_
  rintro e w11 ⟨A11, n11, c11, rfl, mb, b⟩
  replace h0 := h0.on b
  replace h1 := h1.on b
  replace h2 := h2.on b
  replace g := g.on b
  replace ma := ma.on b
  replace cc := cc.trans (b.mono cc.size)
  clear b
  go_wp2_with fail
  refine (dgcd_N ma mb (by omega) (by omega)).mono ?_
  rintro e w12 ⟨A12, n12, c12, rfl, mo, b⟩
  replace h0 := h0.on b
  replace h1 := h1.on b
  replace h2 := h2.on b
  replace g := g.on b
  replace ma := ma.on b
  replace mb := mb.on b
  replace cc := cc.trans (b.mono cc.size)
  clear b
  clear ma mb
  go_wp2_with fail
  refine (alive_any _).mono ?_
  rintro e w13 ⟨rfl, b⟩
  replace h0 := h0.on b
  replace h1 := h1.on b
  replace h2 := h2.on b
  replace g := g.on b
  replace mo := mo.on b
  replace cc := cc.trans (b.mono cc.size)
  clear b
  go_wp2_with fail
  refine (rmul_N g h2 (by omega) (by omega)).mono ?_
  rintro e w14 ⟨A14, n14, c14, rfl, mg, b⟩
  replace h0 := h0.on b
  replace h1 := h1.on b
  replace h2 := h2.on b
  replace g := g.on b
  replace mo := mo.on b
  replace cc := cc.trans (b.mono cc.size)
  clear b
  go_wp2_with fail
  refine (same_N mo mg (by omega) (by omega) (Nat.gcd_mul_right _ _ _)).mono ?_
  rintro e w15 ⟨rfl, b⟩
  replace h0 := h0.on b
  replace h1 := h1.on b
  replace h2 := h2.on b
  replace g := g.on b
  replace mo := mo.on b
  replace mg := mg.on b
  replace cc := cc.trans (b.mono cc.size)
  clear b
  go_wp2_with fail
  go_ret
  exact ⟨rfl, cc⟩

set_option maxRecDepth 100000 in
set_option maxHeartbeats 16000000 in
theorem DivGcd_case_mo {a0 a1 a2 : Option Addr} {len0 cap0 len1 cap1 len2 cap2 x y z : Nat} {w : World} (h0 : Num w a0 len0 cap0 x) (h1 : Num w a1 len1 cap1 y) (h2 : Num w a2 len2 cap2 z) (lx : (limbs x).length ≤ 20) (ly : (limbs y).length ≤ 20) (lz : (limbs z).length ≤ 20)
    (G : Hid (Calls Try.prog 10 #[.slice (some ⟨w.heap.size, 0, none⟩) 3 3] (w.alloc (.cells #[.slice a0 len0 cap0, .slice a1 len1 cap1, .slice a2 len2 cap2] 23)) (GotV (w.alloc (.cells #[.slice a0 len0 cap0, .slice a1 len1 cap1, .slice a2 len2 cap2] 23)) (.bool true))))
    (hc : len0 ≤ 8) (hd : len1 ≤ 8) (he : len2 ≤ 8)
    (hz : z ∣ x) (hv : ¬ z ∣ y)
    (hx : x = 0) (hy : y = 0) :
    Calls Try.prog 7 #[.slice a0 len0 cap0, .slice a1 len1 cap1, .slice a2 len2 cap2] w fun e w' => e = .returned (.bool true) ∧ Below w.heap.size w w' := by
  have m0 : (limbs x).length ≤ 8 := by rw [← h0.len]; exact hc
  have m1 : (limbs y).length ≤ 8 := by rw [← h1.len]; exact hd
  have m2 : (limbs z).length ≤ 8 := by rw [← h2.len]; exact he
  have u1 : (limbs (Nat.gcd x y)).length ≤ 8 := len_gcd m0 m1
  have u2 : (limbs (Nat.gcd y x)).length ≤ 8 := len_gcd m1 m0
  have u3 : (limbs (x * z)).length ≤ 8 + 8 := limbs_length_mul m0 m2
  have u4 : (limbs (y * z)).length ≤ 8 + 8 := limbs_length_mul m1 m2
  have u5 : (limbs (Nat.gcd (x * z) (y * z))).length ≤ 8 + 8 := len_gcd u3 u4
  have u6 : (limbs (Nat.gcd x y * z)).length ≤ 8 + 8 := limbs_length_mul u1 m2
  have G1 := Lib.hid (show decide (Nat.gcd x y ∣ x) = true from decide_eq_true (Nat.gcd_dvd_left x y))
  have G2 := Lib.hid (show decide (Nat.gcd x y ∣ y) = true from decide_eq_true (Nat.gcd_dvd_right x y))
  have D1 := Lib.hid (show decide (z ∣ x) = true from decide_eq_true hz)
  have D2 := Lib.hid (show decide (z ∣ y) = false from decide_eq_false hv)
  clear hz hv
  have p0 : len0 = 0 := by rw [hx] at h0; exact h0.nought
  have p1 : len1 = 0 := by rw [hy] at h1; exact h1.nought
  have hg := Lib.hid (show Nat.gcd x y = 0 by rw [hx, hy]; rfl)
  clear hx hy
  subst p0
  subst p1
  go_enter Try.func7, Try.ntmps7
  go_wp2_with fail
  refine G.out.mono ?_
  rintro e w1 ⟨rfl, b1⟩
  have cc : Below w.heap.size w w1 := ((Below.refl _ w).alloc (Nat.le_refl _) _).trans (b1.mono (by simp))
  clear b1 G
  replace h0 := h0.on cc
  replace h1 := h1.on cc
  replace h2 := h2.on cc
  go_wp2_with fail
  refine (dgcd_N h0 h1 (by omega) (by omega)).mono ?_
  rintro e w2 ⟨A2, n2, c2, rfl, g, b⟩
  replace h0 := h0.on b
  replace h1 := h1.on b
  replace h2 := h2.on b
  replace cc := cc.trans (b.mono cc.size)
  clear b
  obtain ⟨ng, hng⟩ : ∃ j, j = n2 := ⟨_, rfl⟩
  have pg : n2 = 0 := by have e := hg.out; unfold Num at g; rw [e] at g; exact Num.nought g
  subst pg
  clear hng ng
  go_wp2_with fail
  refine (rright_N g (by omega)).mono ?_
  rintro e w3 ⟨rfl, b⟩
  replace h0 := h0.on b
  replace h1 := h1.on b
  replace h2 := h2.on b
  replace g := g.on b
  replace cc := cc.trans (b.mono cc.size)
  clear b
  go_wp2_with fail
  refine (goes_N true g h0 (by omega) (by omega) G1.out).mono ?_
  rintro e w4 ⟨rfl, b⟩
  replace h0 := h0.on b
  replace h1 := h1.on b
  replace h2 := h2.on b
  replace g := g.on b
  replace cc := cc.trans (b.mono cc.size)
  clear b
  go_wp2_with fail
  refine (goes_N true g h1 (by omega) (by omega) G2.out).mono ?_
  rintro e w5 ⟨rfl, b⟩
  replace h0 := h0.on b
  replace h1 := h1.on b
  replace h2 := h2.on b
  replace g := g.on b
  replace cc := cc.trans (b.mono cc.size)
  clear b
  go_wp2_with fail
  refine (dgcd_N h1 h0 (by omega) (by omega)).mono ?_
  rintro e w6 ⟨A6, n6, c6, rfl, g2, b⟩
  replace h0 := h0.on b
  replace h1 := h1.on b
  replace h2 := h2.on b
  replace g := g.on b
  replace cc := cc.trans (b.mono cc.size)
  clear b
  go_wp2_with fail
  refine (same_N g g2 (by omega) (by omega) (Nat.gcd_comm _ _)).mono ?_
  rintro e w7 ⟨rfl, b⟩
  replace h0 := h0.on b
  replace h1 := h1.on b
  replace h2 := h2.on b
  replace g := g.on b
  replace g2 := g2.on b
  replace cc := cc.trans (b.mono cc.size)
  clear b
  clear g2
  go_wp2_with fail
  refine (goes_N true h2 h0 (by omega) (by omega) D1.out).mono ?_
  rintro e w8 ⟨rfl, b⟩
  replace h0 := h0.on b
  replace h1 := h1.on b
  replace h2 := h2.on b
  replace g := g.on b
  replace cc := cc.trans (b.mono cc.size)
  clear b
  go_wp2_with fail
  refine (goes_N false h2 h1 (by omega) (by omega) D2.out).mono ?_
  rintro e w9 ⟨rfl, b⟩
  replace h0 := h0.on b
  replace h1 := h1.on b
  replace h2 := h2.on b
  replace g := g.on b
  replace cc := cc.trans (b.mono cc.size)
  clear b
  go_wp2_with fail
  refine (rmul_N h0 h2 (by omega) (by omega)).mono ?_
  rintro e w10 ⟨A10, n10, c10, rfl, ma, b⟩
  replace h0 := h0.on b
  replace h1 := h1.on b
  replace h2 := h2.on b
  replace g := g.on b
  replace cc := cc.trans (b.mono cc.size)
  clear b
  go_wp2_with fail
  refine (rmul_N h1 h2 (by omega) (by omega)).mono ?_
  rintro e w11 ⟨A11, n11, c11, rfl, mb, b⟩
  replace h0 := h0.on b
  replace h1 := h1.on b
  replace h2 := h2.on b
  replace g := g.on b
  replace ma := ma.on b
  replace cc := cc.trans (b.mono cc.size)
  clear b
  go_wp2_with fail
  refine (dgcd_N ma mb (by omega) (by omega)).mono ?_
  rintro e w12 ⟨A12, n12, c12, rfl, mo, b⟩
  replace h0 := h0.on b
  replace h1 := h1.on b
  replace h2 := h2.on b
  replace g := g.on b
  replace ma := ma.on b
  replace mb := mb.on b
  replace cc := cc.trans (b.mono cc.size)
  clear b
  clear ma mb
  go_wp2_with fail
  refine (alive_any _).mono ?_
  rintro e w13 ⟨rfl, b⟩
  replace h0 := h0.on b
  replace h1 := h1.on b
  replace h2 := h2.on b
  replace g := g.on b
  replace mo := mo.on b
  replace cc := cc.trans (b.mono cc.size)
  clear b
  go_wp2_with fail
  refine (rmul_N g h2 (by omega) (by omega)).mono ?_
  rintro e w14 ⟨A14, n14, c14, rfl, mg, b⟩
  replace h0 := h0.on b
  replace h1 := h1.on b
  replace h2 := h2.on b
  replace g := g.on b
  replace mo := mo.on b
  replace cc := cc.trans (b.mono cc.size)
  clear b
  go_wp2_with fail
  refine (same_N mo mg (by omega) (by omega) (Nat.gcd_mul_right _ _ _)).mono ?_
  rintro e w15 ⟨rfl, b⟩
  replace h0 := h0.on b
  replace h1 := h1.on b
  replace h2 := h2.on b
  replace g := g.on b
  replace mo := mo.on b
  replace mg := mg.on b
  replace cc := cc.trans (b.mono cc.size)
  clear b
  go_wp2_with fail
  go_ret
  exact ⟨rfl, cc⟩

set_option maxRecDepth 100000 in
set_option maxHeartbeats 16000000 in
theorem DivGcd_case_px {a0 a1 a2 : Option Addr} {len0 cap0 len1 cap1 len2 cap2 x y z : Nat} {w : World} (h0 : Num w a0 len0 cap0 x) (h1 : Num w a1 len1 cap1 y) (h2 : Num w a2 len2 cap2 z) (lx : (limbs x).length ≤ 20) (ly : (limbs y).length ≤ 20) (lz : (limbs z).length ≤ 20)
    (G : Hid (Calls Try.prog 10 #[.slice (some ⟨w.heap.size, 0, none⟩) 3 3] (w.alloc (.cells #[.slice a0 len0 cap0, .slice a1 len1 cap1, .slice a2 len2 cap2] 23)) (GotV (w.alloc (.cells #[.slice a0 len0 cap0, .slice a1 len1 cap1, .slice a2 len2 cap2] 23)) (.bool true))))
    (hc : len0 ≤ 8) (hd : len1 ≤ 8) (he : len2 ≤ 8)
    (hz : z ∣ x) (hv : z ∣ y)
    (hx : x ≠ 0) :
    Calls Try.prog 7 #[.slice a0 len0 cap0, .slice a1 len1 cap1, .slice a2 len2 cap2] w fun e w' => e = .returned (.bool true) ∧ Below w.heap.size w w' := by
  have m0 : (limbs x).length ≤ 8 := by rw [← h0.len]; exact hc
  have m1 : (limbs y).length ≤ 8 := by rw [← h1.len]; exact hd
  have m2 : (limbs z).length ≤ 8 := by rw [← h2.len]; exact he
  have u1 : (limbs (Nat.gcd x y)).length ≤ 8 := len_gcd m0 m1
  have u2 : (limbs (Nat.gcd y x)).length ≤ 8 := len_gcd m1 m0
  have u3 : (limbs (x * z)).length ≤ 8 + 8 := limbs_length_mul m0 m2
  have u4 : (limbs (y * z)).length ≤ 8 + 8 := limbs_length_mul m1 m2
  have u5 : (limbs (Nat.gcd (x * z) (y * z))).length ≤ 8 + 8 := len_gcd u3 u4
  have u6 : (limbs (Nat.gcd x y * z)).length ≤ 8 + 8 := limbs_length_mul u1 m2
  have G1 := Lib.hid (show decide (Nat.gcd x y ∣ x) = true from decide_eq_true (Nat.gcd_dvd_left x y))
  have G2 := Lib.hid (show decide (Nat.gcd x y ∣ y) = true from decide_eq_true (Nat.gcd_dvd_right x y))
  have D1 := Lib.hid (show decide (z ∣ x) = true from decide_eq_true hz)
  have D2 := Lib.hid (show decide (z ∣ y) = true from decide_eq_true hv)
  have D3 := Lib.hid (show decide (z ∣ Nat.gcd x y) = true from decide_eq_true (Nat.dvd_gcd hz hv))
  clear hz hv
  have p0 : 0 < len0 := h0.some_len hx
  have pf0 : ((len0 : Int) == 0) = false := by simp; omega
  have hg := Lib.hid (show Nat.gcd x y ≠ 0 from fun h => hx (Nat.eq_zero_of_gcd_eq_zero_left h))
  clear hx
  go_enter Try.func7, Try.ntmps7
  go_wp2_with fail
  refine G.out.mono ?_
  rintro e w1 ⟨rfl, b1⟩
  have cc : Below w.heap.size w w1 := ((Below.refl _ w).alloc (Nat.le_refl _) _).trans (b1.mono (by simp))
  clear b1 G
  replace h0 := h0.on cc
  replace h1 := h1.on cc
  replace h2 := h2.on cc
  go_wp2_with fail
  refine (dgcd_N h0 h1 (by omega) (by omega)).mono ?_
  rintro e w2 ⟨A2, n2, c2, rfl, g, b⟩
  replace h0 := h0.on b
  replace h1 := h1.on b
  replace h2 := h2.on b
  replace cc := cc.trans (b.mono cc.size)
  clear b
  have pg : 0 < n2 := g.some_len hg.out
  have pf : ((n2 : Int) == 0) = false := by simp; omega
  go_wp2_with fail
  refine (rright_N g (by omega)).mono ?_
  rintro e w3 ⟨rfl, b⟩
  replace h0 := h0.on b
  replace h1 := h1.on b
  replace h2 := h2.on b
  replace g := g.on b
  replace cc := cc.trans (b.mono cc.size)
  clear b
  go_wp2_with fail
  refine (goes_N true g h0 (by omega) (by omega) G1.out).mono ?_
  rintro e w4 ⟨rfl, b⟩
  replace h0 := h0.on b
  replace h1 := h1.on b
  replace h2 := h2.on b
  replace g := g.on b
  replace cc := cc.trans (b.mono cc.size)
  clear b
  go_wp2_with fail
  refine (goes_N true g h1 (by omega) (by omega) G2.out).mono ?_
  rintro e w5 ⟨rfl, b⟩
  replace h0 := h0.on b
  replace h1 := h1.on b
  replace h2 := h2.on b
  replace g := g.on b
  replace cc := cc.trans (b.mono cc.size)
  clear b
  go_wp2_with fail
  refine (dgcd_N h1 h0 (by omega) (by omega)).mono ?_
  rintro e w6 ⟨A6, n6, c6, rfl, g2, b⟩
  replace h0 := h0.on b
  replace h1 := h1.on b
  replace h2 := h2.on b
  replace g := g.on b
  replace cc := cc.trans (b.mono cc.size)
  clear b
  go_wp2_with fail
  refine (same_N g g2 (by omega) (by omega) (Nat.gcd_comm _ _)).mono ?_
  rintro e w7 ⟨rfl, b⟩
  replace h0 := h0.on b
  replace h1 := h1.on b
  replace h2 := h2.on b
  replace g := g.on b
  replace g2 := g2.on b
  replace cc := cc.trans (b.mono cc.size)
  clear b
  clear g2
  go_wp2_with fail
  refine (goes_N true h2 h0 (by omega) (by omega) D1.out).mono ?_
  rintro e w8 ⟨rfl, b⟩
  replace h0 := h0.on b
  replace h1 := h1.on b
  replace h2 := h2.on b
  replace g := g.on b
  replace cc := cc.trans (b.mono cc.size)
  clear b
  go_wp2_with fail
  refine (goes_N true h2 h1 (by omega) (by omega) D2.out).mono ?_
  rintro e w9 ⟨rfl, b⟩
  replace h0 := h0.on b
  replace h1 := h1.on b
  replace h2 := h2.on b
  replace g := g.on b
  replace cc := cc.trans (b.mono cc.size)
  clear b
  go_wp2_with fail
  refine (goes_N true h2 g (by omega) (by omega) D3.out).mono ?_
  rintro e w10 ⟨rfl, b⟩
  replace h0 := h0.on b
  replace h1 := h1.on b
  replace h2 := h2.on b
  replace g := g.on b
  replace cc := cc.trans (b.mono cc.size)
  clear b
  go_wp2_with fail
  refine (rmul_N h0 h2 (by omega) (by omega)).mono ?_
  rintro e w11 ⟨A11, n11, c11, rfl, ma, b⟩
  replace h0 := h0.on b
  replace h1 := h1.on b
  replace h2 := h2.on b
  replace g := g.on b
  replace cc := cc.trans (b.mono cc.size)
  clear b
  go_wp2_with fail
  refine (rmul_N h1 h2 (by omega) (by omega)).mono ?_
  rintro e w12 ⟨A12, n12, c12, rfl, mb, b⟩
  replace h0 := h0.on b
  replace h1 := h1.on b
  replace h2 := h2.on b
  replace g := g.on b
  replace ma := ma.on b
  replace cc := cc.trans (b.mono cc.size)
  clear b
  go_wp2_with fail
  refine (dgcd_N ma mb (by omega) (by omega)).mono ?_
  rintro e w13 ⟨A13, n13, c13, rfl, mo, b⟩
  replace h0 := h0.on b
  replace h1 := h1.on b
  replace h2 := h2.on b
  replace g := g.on b
  replace ma := ma.on b
  replace mb := mb.on b
  replace cc := cc.trans (b.mono cc.size)
  clear b
  clear ma mb
  go_wp2_with fail
  refine (alive_any _).mono ?_
  rintro e w14 ⟨rfl, b⟩
  replace h0 := h0.on b
  replace h1 := h1.on b
  replace h2 := h2.on b
  replace g := g.on b
  replace mo := mo.on b
  replace cc := cc.trans (b.mono cc.size)
  clear b
  go_wp2_with fail
  refine (rmul_N g h2 (by omega) (by omega)).mono ?_
  rintro e w15 ⟨A15, n15, c15, rfl, mg, b⟩
  replace h0 := h0.on b
  replace h1 := h1.on b
  replace h2 := h2.on b
  replace g := g.on b
  replace mo := mo.on b
  replace cc := cc.trans (b.mono cc.size)
  clear b
  go_wp2_with fail
  refine (same_N mo mg (by omega) (by omega) (Nat.gcd_mul_right _ _ _)).mono ?_
  rintro e w16 ⟨rfl, b⟩
  replace h0 := h0.on b
  replace h1 := h1.on b
  replace h2 := h2.on b
  replace g := g.on b
  replace mo := mo.on b
  replace mg := mg.on b
  replace cc := cc.trans (b.mono cc.size)
  clear b
  go_wp2_with fail
  go_ret
  exact ⟨rfl, cc⟩

set_option maxRecDepth 100000 in
set_option maxHeartbeats 16000000 in
theorem DivGcd_case_py {a0 a1 a2 : Option Addr} {len0 cap0 len1 cap1 len2 cap2 x y z : Nat} {w : World} (h0 : Num w a0 len0 cap0 x) (h1 : Num w a1 len1 cap1 y) (h2 : Num w a2 len2 cap2 z) (lx : (limbs x).length ≤ 20) (ly : (limbs y).length ≤ 20) (lz : (limbs z).length ≤ 20)
    (G : Hid (Calls Try.prog 10 #[.slice (some ⟨w.heap.size, 0, none⟩) 3 3] (w.alloc (.cells #[.slice a0 len0 cap0, .slice a1 len1 cap1, .slice a2 len2 cap2] 23)) (GotV (w.alloc (.cells #[.slice a0 len0 cap0, .slice a1 len1 cap1, .slice a2 len2 cap2] 23)) (.bool true))))
    (hc : len0 ≤ 8) (hd : len1 ≤ 8) (he : len2 ≤ 8)
    (hz : z ∣ x) (hv : z ∣ y)
    (hx : x = 0) (hy : y ≠ 0) :
    Calls Try.prog 7 #[.slice a0 len0 cap0, .slice a1 len1 cap1, .slice a2 len2 cap2] w fun e w' => e = .returned (.bool true) ∧ Below w.heap.size w w' := by
  have m0 : (limbs x).length ≤ 8 := by rw [← h0.len]; exact hc
  have m1 : (limbs y).length ≤ 8 := by rw [← h1.len]; exact hd
  have m2 : (limbs z).length ≤ 8 := by rw [← h2.len]; exact he
  have u1 : (limbs (Nat.gcd x y)).length ≤ 8 := len_gcd m0 m1
  have u2 : (limbs (Nat.gcd y x)).length ≤ 8 := len_gcd m1 m0
  have u3 : (limbs (x * z)).length ≤ 8 + 8 := limbs_length_mul m0 m2
  have u4 : (limbs (y * z)).length ≤ 8 + 8 := limbs_length_mul m1 m2
  have u5 : (limbs (Nat.gcd (x * z) (y * z))).length ≤ 8 + 8 := len_gcd u3 u4
  have u6 : (limbs (Nat.gcd x y * z)).length ≤ 8 + 8 := limbs_length_mul u1 m2
  have G1 := Lib.hid (show decide (Nat.gcd x y ∣ x) = true from decide_eq_true (Nat.gcd_dvd_left x y))
  have G2 := Lib.hid (show decide (Nat.gcd x y ∣ y) = true from decide_eq_true (Nat.gcd_dvd_right x y))
  have D1 := Lib.hid (show decide (z ∣ x) = true from decide_eq_true hz)
  have D2 := Lib.hid (show decide (z ∣ y) = true from decide_eq_true hv)
  have D3 := Lib.hid (show decide (z ∣ Nat.gcd x y) = true from decide_eq_true (Nat.dvd_gcd hz hv))
  clear hz hv
  have p0 : len0 = 0 := by rw [hx] at h0; exact h0.nought
  have p1 : 0 < len1 := h1.some_len hy
  have pf1 : ((len1 : Int) == 0) = false := by simp; omega
  have hg := Lib.hid (show Nat.gcd x y ≠ 0 from fun h => hy (Nat.eq_zero_of_gcd_eq_zero_right h))
  clear hx hy
  subst p0
  go_enter Try.func7, Try.ntmps7
  go_wp2_with fail
  refine G.out.mono ?_
  rintro e w1 ⟨rfl, b1⟩
  have cc : Below w.heap.size w w1 := ((Below.refl _ w).alloc (Nat.le_refl _) _).trans (b1.mono (by simp))
  clear b1 G
  replace h0 := h0.on cc
  replace h1 := h1.on cc
  replace h2 := h2.on cc
  go_wp2_with fail
  refine (dgcd_N h0 h1 (by omega) (by omega)).mono ?_
  rintro e w2 ⟨A2, n2, c2, rfl, g, b⟩
  replace h0 := h0.on b
  replace h1 := h1.on b
  replace h2 := h2.on b
  replace cc := cc.trans (b.mono cc.size)
  clear b
  have pg : 0 < n2 := g.some_len hg.out
  have pf : ((n2 : Int) == 0) = false := by simp; omega
  go_wp2_with fail
  refine (rright_N g (by omega)).mono ?_
  rintro e w3 ⟨rfl, b⟩
  replace h0 := h0.on b
  replace h1 := h1.on b
  replace h2 := h2.on b
  replace g := g.on b
  replace cc := cc.trans (b.mono cc.size)
  clear b
  go_wp2_with fail
  refine (goes_N true g h0 (by omega) (by omega) G1.out).mono ?_
  rintro e w4 ⟨rfl, b⟩
  replace h0 := h0.on b
  replace h1 := h1.on b
  replace h2 := h2.on b
  replace g := g.on b
  replace cc := cc.trans (b.mono cc.size)
  clear b
  go_wp2_with fail
  refine (goes_N true g h1 (by omega) (by omega) G2.out).mono ?_
  rintro e w5 ⟨rfl, b⟩
  replace h0 := h0.on b
  replace h1 := h1.on b
  replace h2 := h2.on b
  replace g := g.on b
  replace cc := cc.trans (b.mono cc.size)
  clear b
  go_wp2_with fail
  refine (dgcd_N h1 h0 (by omega) (by omega)).mono ?_
  rintro e w6 ⟨A6, n6, c6, rfl, g2, b⟩
  replace h0 := h0.on b
  replace h1 := h1.on b
  replace h2 := h2.on b
  replace g := g.on b
  replace cc := cc.trans (b.mono cc.size)
  clear b
  go_wp2_with fail
  refine (same_N g g2 (by omega) (by omega) (Nat.gcd_comm _ _)).mono ?_
  rintro e w7 ⟨rfl, b⟩
  replace h0 := h0.on b
  replace h1 := h1.on b
  replace h2 := h2.on b
  replace g := g.on b
  replace g2 := g2.on b
  replace cc := cc.trans (b.mono cc.size)
  clear b
  clear g2
  go_wp2_with fail
  refine (goes_N true h2 h0 (by omega) (by omega) D1.out).mono ?_
  rintro e w8 ⟨rfl, b⟩
  replace h0 := h0.on b
  replace h1 := h1.on b
  replace h2 := h2.on b
  replace g := g.on b
  replace cc := cc.trans (b.mono cc.size)
  clear b
  go_wp2_with fail
  refine (goes_N true h2 h1 (by omega) (by omega) D2.out).mono ?_
  rintro e w9 ⟨rfl, b⟩
  replace h0 := h0.on b
  replace h1 := h1.on b
  replace h2 := h2.on b
  replace g := g.on b
  replace cc := cc.trans (b.mono cc.size)
  clear b
  go_wp2_with fail
  refine (goes_N true h2 g (by omega) (by omega) D3.out).mono ?_
  rintro e w10 ⟨rfl, b⟩
  replace h0 := h0.on b
  replace h1 := h1.on b
  replace h2 := h2.on b
  replace g := g.on b
  replace cc := cc.trans (b.mono cc.size)
  clear b
  go_wp2_with fail
  refine (rmul_N h0 h2 (by omega) (by omega)).mono ?_
  rintro e w11 ⟨A11, n11, c11, rfl, ma, b⟩
  replace h0 := h0.on b
  replace h1 := h1.on b
  replace h2 := h2.on b
  replace g := g.on b
  replace cc := cc.trans (b.mono cc.size)
  clear b
  go_wp2_with fail
  refine (rmul_N h1 h2 (by omega) (by omega)).mono ?_
  rintro e w12 ⟨A12, n12, c12, rfl, mb, b⟩
  replace h0 := h0.on b
  replace h1 := h1.on b
  replace h2 := h2.on b
  replace g := g.on b
  replace ma := ma.on b
  replace cc := cc.trans (b.mono cc.size)
  clear b
  go_wp2_with fail
  refine (dgcd_N ma mb (by omega) (by omega)).mono ?_
  rintro e w13 ⟨A13, n13, c13, rfl, mo, b⟩
  replace h0 := h0.on b
  replace h1 := h1.on b
  replace h2 := h2.on b
  replace g := g.on b
  replace ma := ma.on b
  replace mb := mb.on b
  replace cc := cc.trans (b.mono cc.size)
  clear b
  clear ma mb
  go_wp2_with fail
  refine (alive_any _).mono ?_
  rintro e w14 ⟨rfl, b⟩
  replace h0 := h0.on b
  replace h1 := h1.on b
  replace h2 := h2.on b
  replace g := g.on b
  replace mo := mo.on b
  replace cc := cc.trans (b.mono cc.size)
  clear b
  go_wp2_with fail
  refine (rmul_N g h2 (by omega) (by omega)).mono ?_
  rintro e w15 ⟨A15, n15, c15, rfl, mg, b⟩
  replace h0 := h0.on b
  replace h1 := h1.on b
  replace h2 := h2.on b
  replace g := g.on b
  replace mo := mo.on b
  replace cc := cc.trans (b.mono cc.size)
  clear b
  go_wp2_with fail
  refine (same_N mo mg (by omega) (by omega) (Nat.gcd_mul_right _ _ _)).mono ?_
  rintro e w16 ⟨rfl, b⟩
  replace h0 := h0.on b
  replace h1 := h1.on b
  replace h2 := h2.on b
  replace g := g.on b
  replace mo := mo.on b
  replace mg := mg.on b
  replace cc := cc.trans (b.mono cc.size)
  clear b
  go_wp2_with fail
  go_ret
  exact ⟨rfl, cc⟩

set_option maxRecDepth 100000 in
set_option maxHeartbeats 16000000 in
theorem DivGcd_case_po {a0 a1 a2 : Option Addr} {len0 cap0 len1 cap1 len2 cap2 x y z : Nat} {w : World} (h0 : Num w a0 len0 cap0 x) (h1 : Num w a1 len1 cap1 y) (h2 : Num w a2 len2 cap2 z) (lx : (limbs x).length ≤ 20) (ly : (limbs y).length ≤ 20) (lz : (limbs z).length ≤ 20)
    (G : Hid (Calls Try.prog 10 #[.slice (some ⟨w.heap.size, 0, none⟩) 3 3] (w.alloc (.cells #[.slice a0 len0 cap0, .slice a1 len1 cap1, .slice a2 len2 cap2] 23)) (GotV (w.alloc (.cells #[.slice a0 len0 cap0, .slice a1 len1 cap1, .slice a2 len2 cap2] 23)) (.bool true))))
    (hc : len0 ≤ 8) (hd : len1 ≤ 8) (he : len2 ≤ 8)
    (hz : z ∣ x) (hv : z ∣ y)
    (hx : x = 0) (hy : y = 0) :
    Calls Try.prog 7 #[.slice a0 len0 cap0, .slice a1 len1 cap1, .slice a2 len2 cap2] w fun e w' => e = .returned (.bool true) ∧ Below w.heap.size w w' := by
  have m0 : (limbs x).length ≤ 8 := by rw [← h0.len]; exact hc
  have m1 : (limbs y).length ≤ 8 := by rw [← h1.len]; exact hd
  have m2 : (limbs z).length ≤ 8 := by rw [← h2.len]; exact he
  have u1 : (limbs (Nat.gcd x y)).length ≤ 8 := len_gcd m0 m1
  have u2 : (limbs (Nat.gcd y x)).length ≤ 8 := len_gcd m1 m0
  have u3 : (limbs (x * z)).length ≤ 8 + 8 := limbs_length_mul m0 m2
  have u4 : (limbs (y * z)).length ≤ 8 + 8 := limbs_length_mul m1 m2
  have u5 : (limbs (Nat.gcd (x * z) (y * z))).length ≤ 8 + 8 := len_gcd u3 u4
  have u6 : (limbs (Nat.gcd x y * z)).length ≤ 8 + 8 := limbs_length_mul u1 m2
  have G1 := Lib.hid (show decide (Nat.gcd x y ∣ x) = true from decide_eq_true (Nat.gcd_dvd_left x y))
  have G2 := Lib.hid (show decide (Nat.gcd x y ∣ y) = true from decide_eq_true (Nat.gcd_dvd_right x y))
  have D1 := Lib.hid (show decide (z ∣ x) = true from decide_eq_true hz)
  have D2 := Lib.hid (show decide (z ∣ y) = true from decide_eq_true hv)
  have D3 := Lib.hid (show decide (z ∣ Nat.gcd x y) = true from decide_eq_true (Nat.dvd_gcd hz hv))
  clear hz hv
  have p0 : len0 = 0 := by rw [hx] at h0; exact h0.nought
  have p1 : len1 = 0 := by rw [hy] at h1; exact h1.nought
  have hg := Lib.hid (show Nat.gcd x y = 0 by rw [hx, hy]; rfl)
  clear hx hy
  subst p0
  subst p1
  go_enter Try.func7, Try.ntmps7
  go_wp2_with fail
  refine G.out.mono ?_
  rintro e w1 ⟨rfl, b1⟩
  have cc : Below w.heap.size w w1 := ((Below.refl _ w).alloc (Nat.le_refl _) _).trans (b1.mono (by simp))
  clear b1 G
  replace h0 := h0.on cc
  replace h1 := h1.on cc
  replace h2 := h2.on cc
  go_wp2_with fail
  refine (dgcd_N h0 h1 (by omega) (by omega)).mono ?_
  rintro e w2 ⟨A2, n2, c2, rfl, g, b⟩
  replace h0 := h0.on b
  replace h1 := h1.on b
  replace h2 := h2.on b
  replace cc := cc.trans (b.mono cc.size)
  clear b
  obtain ⟨ng, hng⟩ : ∃ j, j = n2 := ⟨_, rfl⟩
  have pg : n2 = 0 := by have e := hg.out; unfold Num at g; rw [e] at g; exact Num.nought g
  subst pg
  clear hng ng
  go_wp2_with fail
  refine (rright_N g (by omega)).mono ?_
  rintro e w3 ⟨rfl, b⟩
  replace h0 := h0.on b
  replace h1 := h1.on b
  replace h2 := h2.on b
  replace g := g.on b
  replace cc := cc.trans (b.mono cc.size)
  clear b
  go_wp2_with fail
  refine (goes_N true g h0 (by omega) (by omega) G1.out).mono ?_
  rintro e w4 ⟨rfl, b⟩
  replace h0 := h0.on b
  replace h1 := h1.on b
  replace h2 := h2.on b
  replace g := g.on b
  replace cc := cc.trans (b.mono cc.size)
  clear b
  go_wp2_with fail
  refine (goes_N true g h1 (by omega) (by omega) G2.out).mono ?_
  rintro e w5 ⟨rfl, b⟩
  replace h0 := h0.on b
  replace h1 := h1.on b
  replace h2 := h2.on b
  replace g := g.on b
  replace cc := cc.trans (b.mono cc.size)
  clear b
  go_wp2_with fail
  refine (dgcd_N h1 h0 (by omega) (by omega)).mono ?_
  rintro e w6 ⟨A6, n6, c6, rfl, g2, b⟩
  replace h0 := h0.on b
  replace h1 := h1.on b
  replace h2 := h2.on b
  replace g := g.on b
  replace cc := cc.trans (b.mono cc.size)
  clear b
  go_wp2_with fail
  refine (same_N g g2 (by omega) (by omega) (Nat.gcd_comm _ _)).mono ?_
  rintro e w7 ⟨rfl, b⟩
  replace h0 := h0.on b
  replace h1 := h1.on b
  replace h2 := h2.on b
  replace g := g.on b
  replace g2 := g2.on b
  replace cc := cc.trans (b.mono cc.size)
  clear b
  clear g2
  go_wp2_with fail
  refine (goes_N true h2 h0 (by omega) (by omega) D1.out).mono ?_
  rintro e w8 ⟨rfl, b⟩
  replace h0 := h0.on b
  replace h1 := h1.on b
  replace h2 := h2.on b
  replace g := g.on b
  replace cc := cc.trans (b.mono cc.size)
  clear b
  go_wp2_with fail
  refine (goes_N true h2 h1 (by omega) (by omega) D2.out).mono ?_
  rintro e w9 ⟨rfl, b⟩
  replace h0 := h0.on b
  replace h1 := h1.on b
  replace h2 := h2.on b
  replace g := g.on b
  replace cc := cc.trans (b.mono cc.size)
  clear b
  go_wp2_with fail
  refine (goes_N true h2 g (by omega) (by omega) D3.out).mono ?_
  rintro e w10 ⟨rfl, b⟩
  replace h0 := h0.on b
  replace h1 := h1.on b
  replace h2 := h2.on b
  replace g := g.on b
  replace cc := cc.trans (b.mono cc.size)
  clear b
  go_wp2_with fail
  refine (rmul_N h0 h2 (by omega) (by omega)).mono ?_
  rintro e w11 ⟨A11, n11, c11, rfl, ma, b⟩
  replace h0 := h0.on b
  replace h1 := h1.on b
  replace h2 := h2.on b
  replace g := g.on b
  replace cc := cc.trans (b.mono cc.size)
  clear b
  go_wp2_with fail
  refine (rmul_N h1 h2 (by omega) (by omega)).mono ?_
  rintro e w12 ⟨A12, n12, c12, rfl, mb, b⟩
  replace h0 := h0.on b
  replace h1 := h1.on b
  replace h2 := h2.on b
  replace g := g.on b
  replace ma := ma.on b
  replace cc := cc.trans (b.mono cc.size)
  clear b
  go_wp2_with fail
  refine (dgcd_N ma mb (by omega) (by omega)).mono ?_
  rintro e w13 ⟨A13, n13, c13, rfl, mo, b⟩
  replace h0 := h0.on b
  replace h1 := h1.on b
  replace h2 := h2.on b
  replace g := g.on b
  replace ma := ma.on b
  replace mb := mb.on b
  replace cc := cc.trans (b.mono cc.size)
  clear b
  clear ma mb
  go_wp2_with fail
  refine (alive_any _).mono ?_
  rintro e w14 ⟨rfl, b⟩
  replace h0 := h0.on b
  replace h1 := h1.on b
  replace h2 := h2.on b
  replace g := g.on b
  replace mo := mo.on b
  replace cc := cc.trans (b.mono cc.size)
  clear b
  go_wp2_with fail
  refine (rmul_N g h2 (by omega) (by omega)).mono ?_
  rintro e w15 ⟨A15, n15, c15, rfl, mg, b⟩
  replace h0 := h0.on b
  replace h1 := h1.on b
  replace h2 := h2.on b
  replace g := g.on b
  replace mo := mo.on b
  replace cc := cc.trans (b.mono cc.size)
  clear b
  go_wp2_with fail
  refine (same_N mo mg (by omega) (by omega) (Nat.gcd_mul_right _ _ _)).mono ?_
  rintro e w16 ⟨rfl, b⟩
  replace h0 := h0.on b
  replace h1 := h1.on b
  replace h2 := h2.on b
  replace g := g.on b
  replace mo := mo.on b
  replace mg := mg.on b
  replace cc := cc.trans (b.mono cc.size)
  clear b
  go_wp2_with fail
  go_ret
  exact ⟨rfl, cc⟩


set_option maxRecDepth 100000 in
set_option maxHeartbeats 8000000 in
theorem DivGcd_a {a0 a1 a2 : Option Addr} {len0 cap0 len1 cap1 len2 cap2 x y z : Nat} {w : World} (h0 : Num w a0 len0 cap0 x) (h1 : Num w a1 len1 cap1 y) (h2 : Num w a2 len2 cap2 z) (lx : (limbs x).length ≤ 20) (ly : (limbs y).length ≤ 20) (lz : (limbs z).length ≤ 20)
    (G : Hid (Calls Try.prog 10 #[.slice (some ⟨w.heap.size, 0, none⟩) 3 3] (w.alloc (.cells #[.slice a0 len0 cap0, .slice a1 len1 cap1, .slice a2 len2 cap2] 23)) (GotV (w.alloc (.cells #[.slice a0 len0 cap0, .slice a1 len1 cap1, .slice a2 len2 cap2] 23)) (.bool true))))
    (hc : 8 < len0) :
    Calls Try.prog 7 #[.slice a0 len0 cap0, .slice a1 len1 cap1, .slice a2 len2 cap2] w fun e w' => e = .returned (.bool true) ∧ Below w.heap.size w w' := by
  go_enter Try.func7, Try.ntmps7
  go_wp2_with fail
  refine G.out.mono ?_
  rintro e w1 ⟨rfl, b1⟩
  have cc : Below w.heap.size w w1 := ((Below.refl _ w).alloc (Nat.le_refl _) _).trans (b1.mono (by simp))
  clear b1 G
  replace h0 := h0.on cc
  replace h1 := h1.on cc
  replace h2 := h2.on cc
  go_wp2_with fail
  refine (alive_any _).mono ?_
  rintro e w2 ⟨rfl, b⟩
  replace h0 := h0.on b
  replace h1 := h1.on b
  replace h2 := h2.on b
  replace cc := cc.trans (b.mono cc.size)
  clear b
  go_wp2_with fail
  go_ret
  exact ⟨rfl, cc⟩

set_option maxRecDepth 100000 in
set_option maxHeartbeats 8000000 in
theorem DivGcd_b {a0 a1 a2 : Option Addr} {len0 cap0 len1 cap1 len2 cap2 x y z : Nat} {w : World} (h0 : Num w a0 len0 cap0 x) (h1 : Num w a1 len1 cap1 y) (h2 : Num w a2 len2 cap2 z) (lx : (limbs x).length ≤ 20) (ly : (limbs y).length ≤ 20) (lz : (limbs z).length ≤ 20)
    (G : Hid (Calls Try.prog 10 #[.slice (some ⟨w.heap.size, 0, none⟩) 3 3] (w.alloc (.cells #[.slice a0 len0 cap0, .slice a1 len1 cap1, .slice a2 len2 cap2] 23)) (GotV (w.alloc (.cells #[.slice a0 len0 cap0, .slice a1 len1 cap1, .slice a2 len2 cap2] 23)) (.bool true))))
    (hc : len0 ≤ 8) (hd : 8 < len1) :
    Calls Try.prog 7 #[.slice a0 len0 cap0, .slice a1 len1 cap1, .slice a2 len2 cap2] w fun e w' => e = .returned (.bool true) ∧ Below w.heap.size w w' := by
  go_enter Try.func7, Try.ntmps7
  go_wp2_with fail
  refine G.out.mono ?_
  rintro e w1 ⟨rfl, b1⟩
  have cc : Below w.heap.size w w1 := ((Below.refl _ w).alloc (Nat.le_refl _) _).trans (b1.mono (by simp))
  clear b1 G
  replace h0 := h0.on cc
  replace h1 := h1.on cc
  replace h2 := h2.on cc
  go_wp2_with fail
  refine (alive_any _).mono ?_
  rintro e w2 ⟨rfl, b⟩
  replace h0 := h0.on b
  replace h1 := h1.on b
  replace h2 := h2.on b
  replace cc := cc.trans (b.mono cc.size)
  clear b
  go_wp2_with fail
  go_ret
  exact ⟨rfl, cc⟩

set_option maxRecDepth 100000 in
set_option maxHeartbeats 8000000 in
theorem DivGcd_c {a0 a1 a2 : Option Addr} {len0 cap0 len1 cap1 len2 cap2 x y z : Nat} {w : World} (h0 : Num w a0 len0 cap0 x) (h1 : Num w a1 len1 cap1 y) (h2 : Num w a2 len2 cap2 z) (lx : (limbs x).length ≤ 20) (ly : (limbs y).length ≤ 20) (lz : (limbs z).length ≤ 20)
    (G : Hid (Calls Try.prog 10 #[.slice (some ⟨w.heap.size, 0, none⟩) 3 3] (w.alloc (.cells #[.slice a0 len0 cap0, .slice a1 len1 cap1, .slice a2 len2 cap2] 23)) (GotV (w.alloc (.cells #[.slice a0 len0 cap0, .slice a1 len1 cap1, .slice a2 len2 cap2] 23)) (.bool true))))
    (hc : len0 ≤ 8) (hd : len1 ≤ 8) (he : 8 < len2) :
    Calls Try.prog 7 #[.slice a0 len0 cap0, .slice a1 len1 cap1, .slice a2 len2 cap2] w fun e w' => e = .returned (.bool true) ∧ Below w.heap.size w w' := by
  go_enter Try.func7, Try.ntmps7
  go_wp2_with fail
  refine G.out.mono ?_
  rintro e w1 ⟨rfl, b1⟩
  have cc : Below w.heap.size w w1 := ((Below.refl _ w).alloc (Nat.le_refl _) _).trans (b1.mono (by simp))
  clear b1 G
  replace h0 := h0.on cc
  replace h1 := h1.on cc
  replace h2 := h2.on cc
  go_wp2_with fail
  refine (alive_any _).mono ?_
  rintro e w2 ⟨rfl, b⟩
  replace h0 := h0.on b
  replace h1 := h1.on b
  replace h2 := h2.on b
  replace cc := cc.trans (b.mono cc.size)
  clear b
  go_wp2_with fail
  go_ret
  exact ⟨rfl, cc⟩

theorem DivGcd_walk {a0 a1 a2 : Option Addr} {len0 cap0 len1 cap1 len2 cap2 : Nat} {l0 l1 l2 : List Nat} {w : World} (hl0 : Lim w.heap.size w a0 len0 cap0 l0) (hs0 : len0 ≤ 9223372036854775807) (hl1 : Lim w.heap.size w a1 len1 cap1 l1) (hs1 : len1 ≤ 9223372036854775807) (hl2 : Lim w.heap.size w a2 len2 cap2 l2) (hs2 : len2 ≤ 9223372036854775807) :
    Calls Try.prog 7 #[.slice a0 len0 cap0, .slice a1 len1 cap1, .slice a2 len2 cap2] w fun e w' => e = .returned (.bool true) ∧ Below w.heap.size w w' := by
  have hi0 : Arg.isIn ⟨a0, len0, cap0, l0⟩ w := ⟨hl0, hs0⟩
  have hi1 : Arg.isIn ⟨a1, len1, cap1, l1⟩ w := ⟨hl1, hs1⟩
  have hi2 : Arg.isIn ⟨a2, len2, cap2, l2⟩ w := ⟨hl2, hs2⟩
  cases hr : (Arg.ok ⟨a0, len0, cap0, l0⟩ && Arg.ok ⟨a1, len1, cap1, l1⟩ && Arg.ok ⟨a2, len2, cap2, l2⟩) with
  | false => exact DivGcd_no (Lib.hid (given_three ⟨a0, len0, cap0, l0⟩ ⟨a1, len1, cap1, l1⟩ ⟨a2, len2, cap2, l2⟩ false w hi0 hi1 hi2 hr))
  | true =>
    have G := Lib.hid (given_three ⟨a0, len0, cap0, l0⟩ ⟨a1, len1, cap1, l1⟩ ⟨a2, len2, cap2, l2⟩ true w hi0 hi1 hi2 hr)
    rw [Bool.and_eq_true, Bool.and_eq_true] at hr
    obtain ⟨⟨k0, k1⟩, k2⟩ := hr
    have h0 := hl0.num (ok_parts k0).2
    have lx : (limbs (val l0)).length ≤ 20 := by rw [← h0.len]; exact (ok_parts k0).1
    have h1 := hl1.num (ok_parts k1).2
    have ly : (limbs (val l1)).length ≤ 20 := by rw [← h1.len]; exact (ok_parts k1).1
    have h2 := hl2.num (ok_parts k2).2
    have lz : (limbs (val l2)).length ≤ 20 := by rw [← h2.len]; exact (ok_parts k2).1
    generalize val l0 = x at h0 lx
    generalize val l1 = y at h1 ly
    generalize val l2 = z at h2 lz
    by_cases hc : 8 < len0
    · exact DivGcd_a h0 h1 h2 lx ly lz G hc
    by_cases hd : 8 < len1
    · exact DivGcd_b h0 h1 h2 lx ly lz G (by omega) hd
    by_cases he : 8 < len2
    · exact DivGcd_c h0 h1 h2 lx ly lz G (by omega) (by omega) he
    have hc : len0 ≤ 8 := by omega
    have hd : len1 ≤ 8 := by omega
    have he : len2 ≤ 8 := by omega
    by_cases hz : z ∣ x
    · by_cases hv : z ∣ y
      · by_cases hx : x = 0
        · by_cases hy : y = 0
          · exact DivGcd_case_po h0 h1 h2 lx ly lz G hc hd he hz hv hx hy
          · exact DivGcd_case_py h0 h1 h2 lx ly lz G hc hd he hz hv hx hy
        · exact DivGcd_case_px h0 h1 h2 lx ly lz G hc hd he hz hv hx
      · by_cases hx : x = 0
        · by_cases hy : y = 0
          · exact DivGcd_case_mo h0 h1 h2 lx ly lz G hc hd he hz hv hx hy
          · exact DivGcd_case_my h0 h1 h2 lx ly lz G hc hd he hz hv hx hy
        · exact DivGcd_case_mx h0 h1 h2 lx ly lz G hc hd he hz hv hx
    · by_cases hx : x = 0
      · by_cases hy : y = 0
        · exact DivGcd_case_no h0 h1 h2 lx ly lz G hc hd he hz hx hy
        · exact DivGcd_case_ny h0 h1 h2 lx ly lz G hc hd he hz hx hy
      · exact DivGcd_case_nx h0 h1 h2 lx ly lz G hc hd he hz hx

end Go.Proofs.Ytogdckajgkncdaa
