/-
  The walk of RootBack.
-/
import Derived.Test.YthdlbngdmbkgcaaA5
namespace Go.Proofs.Ythdlbngdmbkgcaa
open Go.RowKit
set_option linter.unusedVariables false

theorem root_of {w : World} {A B : Option Addr} {n c m d x k : Nat} (h0 : Num w B m d x) (ha : Num w A n c (x ^ k)) (hx : (limbs (x ^ k)).length ≤ 100) (h1 : 1 ≤ k) (hk : k ≤ 16) : Calls Try.prog 11 #[.slice A n c, .int .i64 (k : Int)] w (GotP w x 0) := by
  have h := root_N ha hx h1 hk
  rwa [iroot_of_pow x (by omega)] at h
theorem up_of {w : World} {A B : Option Addr} {n c m d x k : Nat} (h0 : Num w B m d x) (ha : Num w A n c (x ^ k)) (hx : (limbs (x ^ k)).length ≤ 100) (h1 : 1 ≤ k) (hk : k ≤ 16) : Calls Try.prog 13 #[.slice A n c, .int .i64 (k : Int)] w (GotP w x 0) := by
  have h := up_N ha hx h1 hk
  rwa [uroot_of_pow x (by omega)] at h
theorem root_zero {w : World} {A : Option Addr} {n c k : Nat} (ha : Num w A n c 0) (h1 : 1 ≤ k) (hk : k ≤ 16) : Calls Try.prog 11 #[.slice A n c, .int .i64 (k : Int)] w (GotP w 0 0) := by
  have h := root_N ha (by have := len_nought; omega) h1 hk
  rwa [Nat.le_zero.1 (iroot_le 0 (by omega))] at h
theorem up_zero {w : World} {A : Option Addr} {n c k : Nat} (ha : Num w A n c 0) (h1 : 1 ≤ k) (hk : k ≤ 16) : Calls Try.prog 13 #[.slice A n c, .int .i64 (k : Int)] w (GotP w 0 0) := by
  have h := up_N ha (by have := len_nought; omega) h1 hk
  rwa [uroot_zero (by omega)] at h
theorem root_less {w : World} {A : Option Addr} {n c x k : Nat} (ha : Num w A n c (x ^ k - 1)) (hx : (limbs (x ^ k - 1)).length ≤ 100) (x2 : 2 ≤ x) (h1 : 2 ≤ k) (hk : k ≤ 16) : Calls Try.prog 11 #[.slice A n c, .int .i64 (k : Int)] w (GotP w (x - 1) 0) := by
  have h := root_N ha hx (by omega) hk
  rwa [iroot_pred (by omega) (by omega)] at h
theorem up_less {w : World} {A : Option Addr} {n c x k : Nat} (ha : Num w A n c (x ^ k - 1)) (hx : (limbs (x ^ k - 1)).length ≤ 100) (x2 : 2 ≤ x) (h1 : 2 ≤ k) (hk : k ≤ 16) : Calls Try.prog 13 #[.slice A n c, .int .i64 (k : Int)] w (GotP w x 0) := by
  have h := up_N ha hx (by omega) hk
  rwa [uroot_pred h1 x2] at h

set_option maxRecDepth 100000 in
set_option maxHeartbeats 8000000 in
theorem RootBack_no0 {a0 : Option Addr} {len0 cap0 : Nat} {w : World} (kk : Int) (G0 : Hid (Calls Try.prog 9 #[.slice a0 len0 cap0, .int .i64 2] w fun e w' => e = .returned (.bool false) ∧ w = w')) :
    Calls Try.prog 5 #[.slice a0 len0 cap0, .int .i64 kk] w fun e w' => e = .returned (.bool true) ∧ Below w.heap.size w w' := by
  go_enter Try.func5, Try.ntmps5
  go_wp2_with fail
  refine G0.out.mono ?_
  rintro e w' ⟨rfl, rfl⟩
  have cc := Below.refl w.heap.size w
  go_wp2_with fail
  refine (alive_any _).mono ?_
  rintro e w1 ⟨rfl, b⟩
  replace cc := cc.trans (b.mono cc.size)
  clear b
  go_wp2_with fail
  go_ret
  exact ⟨rfl, cc⟩

set_option maxRecDepth 100000 in
set_option maxHeartbeats 8000000 in
theorem RootBack_q1 {a0 : Option Addr} {len0 cap0 : Nat} {w : World} (kk : Int) (hn : kk < 2) (G0 : Hid (Calls Try.prog 9 #[.slice a0 len0 cap0, .int .i64 2] w fun e w' => e = .returned (.bool true) ∧ w = w')) :
    Calls Try.prog 5 #[.slice a0 len0 cap0, .int .i64 kk] w fun e w' => e = .returned (.bool true) ∧ Below w.heap.size w w' := by
  go_enter Try.func5, Try.ntmps5
  go_wp2_with fail
  refine G0.out.mono ?_
  rintro e w' ⟨rfl, rfl⟩
  have cc := Below.refl w.heap.size w
  go_wp2_with fail
  refine (alive_any _).mono ?_
  rintro e w1 ⟨rfl, b⟩
  replace cc := cc.trans (b.mono cc.size)
  clear b
  go_wp2_with fail
  go_ret
  exact ⟨rfl, cc⟩

set_option maxRecDepth 100000 in
set_option maxHeartbeats 8000000 in
theorem RootBack_q2 {a0 : Option Addr} {len0 cap0 : Nat} {w : World} (kk : Int) (a1 : ¬ kk < 2) (hn : 16 < kk) (G0 : Hid (Calls Try.prog 9 #[.slice a0 len0 cap0, .int .i64 2] w fun e w' => e = .returned (.bool true) ∧ w = w')) :
    Calls Try.prog 5 #[.slice a0 len0 cap0, .int .i64 kk] w fun e w' => e = .returned (.bool true) ∧ Below w.heap.size w w' := by
  go_enter Try.func5, Try.ntmps5
  go_wp2_with fail
  refine G0.out.mono ?_
  rintro e w' ⟨rfl, rfl⟩
  have cc := Below.refl w.heap.size w
  go_wp2_with fail
  refine (alive_any _).mono ?_
  rintro e w1 ⟨rfl, b⟩
  replace cc := cc.trans (b.mono cc.size)
  clear b
  go_wp2_with fail
  go_ret
  exact ⟨rfl, cc⟩

set_option maxRecDepth 100000 in
set_option maxHeartbeats 8000000 in
theorem RootBack_q3 {a0 : Option Addr} {len0 cap0 : Nat} {w : World} (kk : Int) (a1 : ¬ kk < 2) (a2 : ¬ 16 < kk) (hz : ((len0 : Int) == 0) = true) (G0 : Hid (Calls Try.prog 9 #[.slice a0 len0 cap0, .int .i64 2] w fun e w' => e = .returned (.bool true) ∧ w = w')) :
    Calls Try.prog 5 #[.slice a0 len0 cap0, .int .i64 kk] w fun e w' => e = .returned (.bool true) ∧ Below w.heap.size w w' := by
  go_enter Try.func5, Try.ntmps5
  go_wp2_with fail
  refine G0.out.mono ?_
  rintro e w' ⟨rfl, rfl⟩
  have cc := Below.refl w.heap.size w
  go_wp2_with fail
  refine (alive_any _).mono ?_
  rintro e w1 ⟨rfl, b⟩
  replace cc := cc.trans (b.mono cc.size)
  clear b
  go_wp2_with fail
  go_ret
  exact ⟨rfl, cc⟩

set_option maxRecDepth 100000 in
set_option maxHeartbeats 8000000 in
theorem RootBack_two {a0 : Option Addr} {len0 cap0 x : Nat} {w : World} (h0 : Num w a0 len0 cap0 x) (lx : (limbs x).length ≤ 2) (k : Nat) (k1 : 2 ≤ k) (k2 : k ≤ 16) (x2 : 2 ≤ x) (G0 : Hid (Calls Try.prog 9 #[.slice a0 len0 cap0, .int .i64 2] w fun e w' => e = .returned (.bool true) ∧ w = w')) :
    Calls Try.prog 5 #[.slice a0 len0 cap0, .int .i64 (k : Int)] w fun e w' => e = .returned (.bool true) ∧ Below w.heap.size w w' := by
  have q1 : (limbs (x ^ k)).length ≤ 33 := Nat.le_trans (limbs_length_pow lx k) (by omega)
  have q2 : (limbs (x ^ k - 1)).length ≤ 33 := Nat.le_trans (limbs_length_mono (Nat.sub_le _ _)) q1
  have q3 : (limbs (x - 1)).length ≤ 2 := Nat.le_trans (limbs_length_mono (Nat.sub_le _ _)) lx
  have q4 := len_one B64_gt
  have q5 := len_nought
  have px : x ^ k ≠ 0 := Nat.ne_of_gt (Nat.pow_pos (by omega))
  have pg : 1 ≤ x ^ k := by omega
  have hz0 : ((len0 : Int) == 0) = false := by have := h0.some_len (by omega); simp; omega
  go_enter Try.func5, Try.ntmps5
  go_wp2_with fail
  refine G0.out.mono ?_
  rintro e w' ⟨rfl, rfl⟩
  have cc := Below.refl w.heap.size w
  go_wp2_with fail
  refine (pow_N h0 (by omega) (by omega) k2).mono ?_
  rintro e w1 ⟨A1, n1, c1, rfl, p, b⟩
  replace h0 := h0.on b
  replace cc := cc.trans (b.mono cc.size)
  clear b
  have hp0 := p.some_len px
  have hpz : ((n1 : Int) == 0) = false := by simp; omega
  go_wp2_with fail
  refine (root_of h0 p (by omega) (by omega) k2).mono ?_
  rintro e w2 ⟨A2, n2, c2, rfl, r, b⟩
  replace h0 := h0.on b
  replace p := p.on b
  replace cc := cc.trans (b.mono cc.size)
  clear b
  go_wp2_with fail
  refine (up_of h0 p (by omega) (by omega) k2).mono ?_
  rintro e w3 ⟨A3, n3, c3, rfl, u, b⟩
  replace h0 := h0.on b
  replace p := p.on b
  replace r := r.on b
  replace cc := cc.trans (b.mono cc.size)
  clear b
  go_wp2_with fail
  refine (same_N r h0 (by omega) (by omega) rfl).mono ?_
  rintro e w4 ⟨rfl, b⟩
  replace h0 := h0.on b
  replace p := p.on b
  replace r := r.on b
  replace u := u.on b
  replace cc := cc.trans (b.mono cc.size)
  clear b
  go_wp2_with fail
  refine (same_N u h0 (by omega) (by omega) rfl).mono ?_
  rintro e w5 ⟨rfl, b⟩
  replace h0 := h0.on b
  replace p := p.on b
  replace r := r.on b
  replace u := u.on b
  replace cc := cc.trans (b.mono cc.size)
  clear b
  clear r u
  go_wp2_with fail
  refine (rof_N _ 1 B64_gt).mono ?_
  rintro e w6 ⟨A6, n6, c6, rfl, o1, b⟩
  replace h0 := h0.on b
  replace p := p.on b
  replace cc := cc.trans (b.mono cc.size)
  clear b
  go_wp2_with fail
  refine (rsub_N p o1 (by omega) (by omega) (by omega)).mono ?_
  rintro e w7 ⟨A7, n7, c7, rfl, les, b⟩
  replace h0 := h0.on b
  replace p := p.on b
  replace o1 := o1.on b
  replace cc := cc.trans (b.mono cc.size)
  clear b
  clear o1
  go_wp2_with fail
  refine (root_less les (by omega) (by omega) (by omega) k2).mono ?_
  rintro e w8 ⟨A8, n8, c8, rfl, y1, b⟩
  replace h0 := h0.on b
  replace p := p.on b
  replace les := les.on b
  replace cc := cc.trans (b.mono cc.size)
  clear b
  go_wp2_with fail
  refine (up_less les (by omega) (by omega) (by omega) k2).mono ?_
  rintro e w9 ⟨A9, n9, c9, rfl, v1, b⟩
  replace h0 := h0.on b
  replace p := p.on b
  replace les := les.on b
  replace y1 := y1.on b
  replace cc := cc.trans (b.mono cc.size)
  clear b
  go_wp2_with fail
  refine (rof_N _ 1 B64_gt).mono ?_
  rintro e w10 ⟨A10, n10, c10, rfl, o2, b⟩
  replace h0 := h0.on b
  replace p := p.on b
  replace les := les.on b
  replace y1 := y1.on b
  replace v1 := v1.on b
  replace cc := cc.trans (b.mono cc.size)
  clear b
  go_wp2_with fail
  refine (rsub_N h0 o2 (by omega) (by omega) (by omega)).mono ?_
  rintro e w11 ⟨A11, n11, c11, rfl, bef, b⟩
  replace h0 := h0.on b
  replace p := p.on b
  replace les := les.on b
  replace y1 := y1.on b
  replace v1 := v1.on b
  replace o2 := o2.on b
  replace cc := cc.trans (b.mono cc.size)
  clear b
  clear o2
  have hbz : ((n11 : Int) == 0) = false := by have := bef.some_len (by omega); simp; omega
  go_wp2_with fail
  refine (same_N v1 h0 (by omega) (by omega) rfl).mono ?_
  rintro e w12 ⟨rfl, b⟩
  replace h0 := h0.on b
  replace p := p.on b
  replace les := les.on b
  replace y1 := y1.on b
  replace v1 := v1.on b
  replace bef := bef.on b
  replace cc := cc.trans (b.mono cc.size)
  clear b
  go_wp2_with fail
  refine (alive_any _).mono ?_
  rintro e w13 ⟨rfl, b⟩
  replace h0 := h0.on b
  replace p := p.on b
  replace les := les.on b
  replace y1 := y1.on b
  replace v1 := v1.on b
  replace bef := bef.on b
  replace cc := cc.trans (b.mono cc.size)
  clear b
  go_wp2_with fail
  refine (same_N y1 bef (by omega) (by omega) rfl).mono ?_
  rintro e w14 ⟨rfl, b⟩
  replace h0 := h0.on b
  replace p := p.on b
  replace les := les.on b
  replace y1 := y1.on b
  replace v1 := v1.on b
  replace bef := bef.on b
  replace cc := cc.trans (b.mono cc.size)
  clear b
  go_wp2_with fail
  go_ret
  exact ⟨rfl, cc⟩

set_option maxRecDepth 100000 in
set_option maxHeartbeats 8000000 in
theorem RootBack_one {a0 : Option Addr} {len0 cap0 x : Nat} {w : World} (h0 : Num w a0 len0 cap0 x) (lx : (limbs x).length ≤ 2) (k : Nat) (k1 : 2 ≤ k) (k2 : k ≤ 16) (x1 : Hid (x = 1)) (G0 : Hid (Calls Try.prog 9 #[.slice a0 len0 cap0, .int .i64 2] w fun e w' => e = .returned (.bool true) ∧ w = w')) :
    Calls Try.prog 5 #[.slice a0 len0 cap0, .int .i64 (k : Int)] w fun e w' => e = .returned (.bool true) ∧ Below w.heap.size w w' := by
  have xp : 0 < x := by rw [x1.out]; omega
  have q1 : (limbs (x ^ k)).length ≤ 33 := Nat.le_trans (limbs_length_pow lx k) (by omega)
  have q2 : (limbs (x ^ k - 1)).length ≤ 33 := Nat.le_trans (limbs_length_mono (Nat.sub_le _ _)) q1
  have q3 : (limbs (x - 1)).length ≤ 2 := Nat.le_trans (limbs_length_mono (Nat.sub_le _ _)) lx
  have q4 := len_one B64_gt
  have q5 := len_nought
  have px : x ^ k ≠ 0 := Nat.ne_of_gt (Nat.pow_pos (by omega))
  have pg : 1 ≤ x ^ k := by omega
  have hz0 : ((len0 : Int) == 0) = false := by have := h0.some_len (by omega); simp; omega
  have l0 : x ^ k - 1 = 0 := by rw [x1.out, Nat.one_pow]
  have l1 : (x - 1) = 0 := by rw [x1.out]
  go_enter Try.func5, Try.ntmps5
  go_wp2_with fail
  refine G0.out.mono ?_
  rintro e w' ⟨rfl, rfl⟩
  have cc := Below.refl w.heap.size w
  go_wp2_with fail
  refine (pow_N h0 (by omega) (by omega) k2).mono ?_
  rintro e w1 ⟨A1, n1, c1, rfl, p, b⟩
  replace h0 := h0.on b
  replace cc := cc.trans (b.mono cc.size)
  clear b
  have hp0 := p.some_len px
  have hpz : ((n1 : Int) == 0) = false := by simp; omega
  go_wp2_with fail
  refine (root_of h0 p (by omega) (by omega) k2).mono ?_
  rintro e w2 ⟨A2, n2, c2, rfl, r, b⟩
  replace h0 := h0.on b
  replace p := p.on b
  replace cc := cc.trans (b.mono cc.size)
  clear b
  go_wp2_with fail
  refine (up_of h0 p (by omega) (by omega) k2).mono ?_
  rintro e w3 ⟨A3, n3, c3, rfl, u, b⟩
  replace h0 := h0.on b
  replace p := p.on b
  replace r := r.on b
  replace cc := cc.trans (b.mono cc.size)
  clear b
  go_wp2_with fail
  refine (same_N r h0 (by omega) (by omega) rfl).mono ?_
  rintro e w4 ⟨rfl, b⟩
  replace h0 := h0.on b
  replace p := p.on b
  replace r := r.on b
  replace u := u.on b
  replace cc := cc.trans (b.mono cc.size)
  clear b
  go_wp2_with fail
  refine (same_N u h0 (by omega) (by omega) rfl).mono ?_
  rintro e w5 ⟨rfl, b⟩
  replace h0 := h0.on b
  replace p := p.on b
  replace r := r.on b
  replace u := u.on b
  replace cc := cc.trans (b.mono cc.size)
  clear b
  clear r u
  go_wp2_with fail
  refine (rof_N _ 1 B64_gt).mono ?_
  rintro e w6 ⟨A6, n6, c6, rfl, o1, b⟩
  replace h0 := h0.on b
  replace p := p.on b
  replace cc := cc.trans (b.mono cc.size)
  clear b
  go_wp2_with fail
  refine (rsub_N p o1 (by omega) (by omega) (by omega)).mono ?_
  rintro e w7 ⟨A7, n7, c7, rfl, les, b⟩
  replace h0 := h0.on b
  replace p := p.on b
  replace o1 := o1.on b
  replace cc := cc.trans (b.mono cc.size)
  clear b
  clear o1
  rw [l0] at les
  go_wp2_with fail
  refine (root_zero les (by omega) k2).mono ?_
  rintro e w8 ⟨A8, n8, c8, rfl, y1, b⟩
  replace h0 := h0.on b
  replace p := p.on b
  replace les := les.on b
  replace cc := cc.trans (b.mono cc.size)
  clear b
  go_wp2_with fail
  refine (up_zero les (by omega) k2).mono ?_
  rintro e w9 ⟨A9, n9, c9, rfl, v1, b⟩
  replace h0 := h0.on b
  replace p := p.on b
  replace les := les.on b
  replace y1 := y1.on b
  replace cc := cc.trans (b.mono cc.size)
  clear b
  go_wp2_with fail
  refine (rof_N _ 1 B64_gt).mono ?_
  rintro e w10 ⟨A10, n10, c10, rfl, o2, b⟩
  replace h0 := h0.on b
  replace p := p.on b
  replace les := les.on b
  replace y1 := y1.on b
  replace v1 := v1.on b
  replace cc := cc.trans (b.mono cc.size)
  clear b
  go_wp2_with fail
  refine (rsub_N h0 o2 (by omega) (by omega) (by omega)).mono ?_
  rintro e w11 ⟨A11, n11, c11, rfl, bef, b⟩
  replace h0 := h0.on b
  replace p := p.on b
  replace les := les.on b
  replace y1 := y1.on b
  replace v1 := v1.on b
  replace o2 := o2.on b
  replace cc := cc.trans (b.mono cc.size)
  clear b
  clear o2
  rw [l1] at bef
  have hbz : n11 = 0 := bef.nought
  subst hbz
  go_wp2_with fail
  refine (same_N v1 bef (by omega) (by omega) rfl).mono ?_
  rintro e w12 ⟨rfl, b⟩
  replace h0 := h0.on b
  replace p := p.on b
  replace les := les.on b
  replace y1 := y1.on b
  replace v1 := v1.on b
  replace bef := bef.on b
  replace cc := cc.trans (b.mono cc.size)
  clear b
  go_wp2_with fail
  refine (alive_any _).mono ?_
  rintro e w13 ⟨rfl, b⟩
  replace h0 := h0.on b
  replace p := p.on b
  replace les := les.on b
  replace y1 := y1.on b
  replace v1 := v1.on b
  replace bef := bef.on b
  replace cc := cc.trans (b.mono cc.size)
  clear b
  go_wp2_with fail
  refine (same_N y1 bef (by omega) (by omega) rfl).mono ?_
  rintro e w14 ⟨rfl, b⟩
  replace h0 := h0.on b
  replace p := p.on b
  replace les := les.on b
  replace y1 := y1.on b
  replace v1 := v1.on b
  replace bef := bef.on b
  replace cc := cc.trans (b.mono cc.size)
  clear b
  go_wp2_with fail
  go_ret
  exact ⟨rfl, cc⟩

theorem RootBack_walk {a0 : Option Addr} {len0 cap0 : Nat} {l0 : List Nat} {w : World} (kk : Int) (hl0 : Lim w.heap.size w a0 len0 cap0 l0) (hs0 : len0 ≤ 9223372036854775807) :
    Calls Try.prog 5 #[.slice a0 len0 cap0, .int .i64 kk] w fun e w' => e = .returned (.bool true) ∧ Below w.heap.size w w' := by
  cases hr0 : (decide ((len0 : Int) ≤ 2) && canon l0) with
  | false => exact RootBack_no0 _ (Lib.hid (given_N 2 false hl0 hs0 hr0))
  | true =>
    have G0 := Lib.hid (given_N 2 true hl0 hs0 hr0)
    rw [Bool.and_eq_true] at hr0
    have h0 := hl0.num hr0.2
    have lx : (limbs (val l0)).length ≤ 2 := by rw [← h0.len]; have := of_decide_eq_true hr0.1; omega
    generalize val l0 = x at h0 lx
    by_cases a1 : kk < 2
    · exact RootBack_q1 _ a1 G0
    by_cases a2 : 16 < kk
    · exact RootBack_q2 _ a1 a2 G0
    by_cases a3 : x = 0
    · refine RootBack_q3 _ a1 a2 ?_ G0
      subst a3
      have := h0.nought
      simp; omega
    obtain ⟨k, rfl⟩ : ∃ k : Nat, kk = (k : Int) := ⟨kk.toNat, by omega⟩
    by_cases a4 : x = 1
    · exact RootBack_one h0 lx k (by omega) (by omega) (Lib.hid a4) G0
    · exact RootBack_two h0 lx k (by omega) (by omega) (by omega) G0

end Go.Proofs.Ythdlbngdmbkgcaa
