/-
  The walk of RootTimes.
-/
import Derived.Test.YthdlbngdmbkgcaaA5
namespace Go.Proofs.Ythdlbngdmbkgcaa
open Go.RowKit
set_option linter.unusedVariables false

set_option maxRecDepth 100000 in
set_option maxHeartbeats 8000000 in
theorem RootTimes_no0 {a0 a1 : Option Addr} {len0 cap0 len1 cap1 : Nat} {w : World} (kk : Int) (G0 : Hid (Calls Try.prog 9 #[.slice a0 len0 cap0, .int .i64 3] w fun e w' => e = .returned (.bool false) ∧ w = w')) :
    Calls Try.prog 8 #[.slice a0 len0 cap0, .slice a1 len1 cap1, .int .i64 kk] w fun e w' => e = .returned (.bool true) ∧ Below w.heap.size w w' := by
  go_enter Try.func8, Try.ntmps8
  go_wp2_with fail
  refine G0.out.mono ?_
  rintro e w' ⟨rfl, rfl⟩
  have cc := Below.refl w.heap.size w
  go_wp2_with fail
  refine (alive_any _).mono ?_
  rintro e w1 ⟨rfl, b⟩
  replace cc := cc.trans (b.mono cc.size)
  clear b
  go_wp2_with fail
  go_ret
  exact ⟨rfl, cc⟩

set_option maxRecDepth 100000 in
set_option maxHeartbeats 8000000 in
theorem RootTimes_no1 {a0 a1 : Option Addr} {len0 cap0 len1 cap1 : Nat} {w : World} (kk : Int) (G0 : Hid (Calls Try.prog 9 #[.slice a0 len0 cap0, .int .i64 3] w fun e w' => e = .returned (.bool true) ∧ w = w')) (G1 : Hid (Calls Try.prog 9 #[.slice a1 len1 cap1, .int .i64 3] w fun e w' => e = .returned (.bool false) ∧ w = w')) :
    Calls Try.prog 8 #[.slice a0 len0 cap0, .slice a1 len1 cap1, .int .i64 kk] w fun e w' => e = .returned (.bool true) ∧ Below w.heap.size w w' := by
  go_enter Try.func8, Try.ntmps8
  go_wp2_with fail
  refine G0.out.mono ?_
  rintro e w' ⟨rfl, rfl⟩
  go_wp2_with fail
  refine G1.out.mono ?_
  rintro e w' ⟨rfl, rfl⟩
  have cc := Below.refl w.heap.size w
  go_wp2_with fail
  refine (alive_any _).mono ?_
  rintro e w1 ⟨rfl, b⟩
  replace cc := cc.trans (b.mono cc.size)
  clear b
  go_wp2_with fail
  go_ret
  exact ⟨rfl, cc⟩

set_option maxRecDepth 100000 in
set_option maxHeartbeats 8000000 in
theorem RootTimes_q1 {a0 a1 : Option Addr} {len0 cap0 len1 cap1 : Nat} {w : World} (kk : Int) (hn : kk < 1) (G0 : Hid (Calls Try.prog 9 #[.slice a0 len0 cap0, .int .i64 3] w fun e w' => e = .returned (.bool true) ∧ w = w')) (G1 : Hid (Calls Try.prog 9 #[.slice a1 len1 cap1, .int .i64 3] w fun e w' => e = .returned (.bool true) ∧ w = w')) :
    Calls Try.prog 8 #[.slice a0 len0 cap0, .slice a1 len1 cap1, .int .i64 kk] w fun e w' => e = .returned (.bool true) ∧ Below w.heap.size w w' := by
  go_enter Try.func8, Try.ntmps8
  go_wp2_with fail
  refine G0.out.mono ?_
  rintro e w' ⟨rfl, rfl⟩
  go_wp2_with fail
  refine G1.out.mono ?_
  rintro e w' ⟨rfl, rfl⟩
  have cc := Below.refl w.heap.size w
  go_wp2_with fail
  refine (alive_any _).mono ?_
  rintro e w1 ⟨rfl, b⟩
  replace cc := cc.trans (b.mono cc.size)
  clear b
  go_wp2_with fail
  go_ret
  exact ⟨rfl, cc⟩

set_option maxRecDepth 100000 in
set_option maxHeartbeats 8000000 in
theorem RootTimes_q2 {a0 a1 : Option Addr} {len0 cap0 len1 cap1 : Nat} {w : World} (kk : Int) (d1 : ¬ kk < 1) (hn : 16 < kk) (G0 : Hid (Calls Try.prog 9 #[.slice a0 len0 cap0, .int .i64 3] w fun e w' => e = .returned (.bool true) ∧ w = w')) (G1 : Hid (Calls Try.prog 9 #[.slice a1 len1 cap1, .int .i64 3] w fun e w' => e = .returned (.bool true) ∧ w = w')) :
    Calls Try.prog 8 #[.slice a0 len0 cap0, .slice a1 len1 cap1, .int .i64 kk] w fun e w' => e = .returned (.bool true) ∧ Below w.heap.size w w' := by
  go_enter Try.func8, Try.ntmps8
  go_wp2_with fail
  refine G0.out.mono ?_
  rintro e w' ⟨rfl, rfl⟩
  go_wp2_with fail
  refine G1.out.mono ?_
  rintro e w' ⟨rfl, rfl⟩
  have cc := Below.refl w.heap.size w
  go_wp2_with fail
  refine (alive_any _).mono ?_
  rintro e w1 ⟨rfl, b⟩
  replace cc := cc.trans (b.mono cc.size)
  clear b
  go_wp2_with fail
  go_ret
  exact ⟨rfl, cc⟩

set_option maxRecDepth 100000 in
set_option maxHeartbeats 8000000 in
theorem RootTimes_short {a0 a1 : Option Addr} {len0 cap0 len1 cap1 x y : Nat} {w : World} (h0 : Num w a0 len0 cap0 x) (h1 : Num w a1 len1 cap1 y) (lx : (limbs x).length ≤ 3) (ly : (limbs y).length ≤ 3) (k : Nat) (k1 : 1 ≤ k) (k2 : k ≤ 16) (hs : (limbs (x * y)).length ≤ 3) (G0 : Hid (Calls Try.prog 9 #[.slice a0 len0 cap0, .int .i64 3] w fun e w' => e = .returned (.bool true) ∧ w = w')) (G1 : Hid (Calls Try.prog 9 #[.slice a1 len1 cap1, .int .i64 3] w fun e w' => e = .returned (.bool true) ∧ w = w')) :
    Calls Try.prog 8 #[.slice a0 len0 cap0, .slice a1 len1 cap1, .int .i64 (k : Int)] w fun e w' => e = .returned (.bool true) ∧ Below w.heap.size w w' := by
  have q0 : (limbs (x * y)).length ≤ 6 := limbs_length_mul lx ly
  have q1 := len_iroot k1 lx
  have q2 := len_iroot k1 ly
  have q3 := len_iroot k1 q0
  have q4 := len_uroot k1 lx
  have q5 := len_uroot k1 ly
  have q6 := len_uroot k1 q0
  have q7 : (limbs (iroot k x * iroot k y)).length ≤ 6 := limbs_length_mul q1 q2
  have q8 : (limbs (uroot k x * uroot k y)).length ≤ 6 := limbs_length_mul q4 q5
  have t1 : cmpN (iroot k x * iroot k y) (iroot k (x * y)) ≤ 0 := cmpN_le (iroot_mul x y (by omega))
  have t2 : cmpN (uroot k (x * y)) (uroot k x * uroot k y) ≤ 0 := cmpN_le (uroot_mul x y (by omega))
  have v1 : (limbs (x ^ k)).length ≤ 97 := Nat.le_trans (limbs_length_pow lx k) (by omega)
  have v2 : (limbs (y ^ k)).length ≤ 97 := Nat.le_trans (limbs_length_pow ly k) (by omega)
  have v3 : (limbs ((x * y) ^ k)).length ≤ 97 := Nat.le_trans (limbs_length_pow q0 k) (by omega)
  have v4 : (limbs (x ^ k * y ^ k)).length ≤ 194 := limbs_length_mul v1 v2
  go_enter Try.func8, Try.ntmps8
  go_wp2_with fail
  refine G0.out.mono ?_
  rintro e w' ⟨rfl, rfl⟩
  go_wp2_with fail
  refine G1.out.mono ?_
  rintro e w' ⟨rfl, rfl⟩
  have cc := Below.refl w.heap.size w
  go_wp2_with fail
  refine (rmul_N h0 h1 (by omega) (by omega)).mono ?_
  rintro e w1 ⟨A1, n1, c1, rfl, p, b⟩
  replace h0 := h0.on b
  replace h1 := h1.on b
  replace cc := cc.trans (b.mono cc.size)
  clear b
  have lp := Lib.hid p.len
  have tl : (n1 : Int) ≤ 3 := by have := lp.out; omega
  go_wp2_with fail
  refine (root_N h0 (by omega) k1 k2).mono ?_
  rintro e w2 ⟨A2, n2, c2, rfl, r1, b⟩
  replace h0 := h0.on b
  replace h1 := h1.on b
  replace p := p.on b
  replace cc := cc.trans (b.mono cc.size)
  clear b
  go_wp2_with fail
  refine (root_N h1 (by omega) k1 k2).mono ?_
  rintro e w3 ⟨A3, n3, c3, rfl, r2, b⟩
  replace h0 := h0.on b
  replace h1 := h1.on b
  replace p := p.on b
  replace r1 := r1.on b
  replace cc := cc.trans (b.mono cc.size)
  clear b
  go_wp2_with fail
  refine (root_N p (by omega) k1 k2).mono ?_
  rintro e w4 ⟨A4, n4, c4, rfl, r3, b⟩
  replace h0 := h0.on b
  replace h1 := h1.on b
  replace p := p.on b
  replace r1 := r1.on b
  replace r2 := r2.on b
  replace cc := cc.trans (b.mono cc.size)
  clear b
  go_wp2_with fail
  refine (up_N h0 (by omega) k1 k2).mono ?_
  rintro e w5 ⟨A5, n5, c5, rfl, u1, b⟩
  replace h0 := h0.on b
  replace h1 := h1.on b
  replace p := p.on b
  replace r1 := r1.on b
  replace r2 := r2.on b
  replace r3 := r3.on b
  replace cc := cc.trans (b.mono cc.size)
  clear b
  go_wp2_with fail
  refine (up_N h1 (by omega) k1 k2).mono ?_
  rintro e w6 ⟨A6, n6, c6, rfl, u2, b⟩
  replace h0 := h0.on b
  replace h1 := h1.on b
  replace p := p.on b
  replace r1 := r1.on b
  replace r2 := r2.on b
  replace r3 := r3.on b
  replace u1 := u1.on b
  replace cc := cc.trans (b.mono cc.size)
  clear b
  go_wp2_with fail
  refine (up_N p (by omega) k1 k2).mono ?_
  rintro e w7 ⟨A7, n7, c7, rfl, u3, b⟩
  replace h0 := h0.on b
  replace h1 := h1.on b
  replace p := p.on b
  replace r1 := r1.on b
  replace r2 := r2.on b
  replace r3 := r3.on b
  replace u1 := u1.on b
  replace u2 := u2.on b
  replace cc := cc.trans (b.mono cc.size)
  clear b
  go_wp2_with fail
  refine (pow_N h0 (by omega) k1 k2).mono ?_
  rintro e w8 ⟨A8, n8, c8, rfl, s1, b⟩
  replace h0 := h0.on b
  replace h1 := h1.on b
  replace p := p.on b
  replace r1 := r1.on b
  replace r2 := r2.on b
  replace r3 := r3.on b
  replace u1 := u1.on b
  replace u2 := u2.on b
  replace u3 := u3.on b
  replace cc := cc.trans (b.mono cc.size)
  clear b
  go_wp2_with fail
  refine (pow_N h1 (by omega) k1 k2).mono ?_
  rintro e w9 ⟨A9, n9, c9, rfl, s2, b⟩
  replace h0 := h0.on b
  replace h1 := h1.on b
  replace p := p.on b
  replace r1 := r1.on b
  replace r2 := r2.on b
  replace r3 := r3.on b
  replace u1 := u1.on b
  replace u2 := u2.on b
  replace u3 := u3.on b
  replace s1 := s1.on b
  replace cc := cc.trans (b.mono cc.size)
  clear b
  go_wp2_with fail
  refine (pow_N p (by omega) k1 k2).mono ?_
  rintro e w10 ⟨A10, n10, c10, rfl, s3, b⟩
  replace h0 := h0.on b
  replace h1 := h1.on b
  replace p := p.on b
  replace r1 := r1.on b
  replace r2 := r2.on b
  replace r3 := r3.on b
  replace u1 := u1.on b
  replace u2 := u2.on b
  replace u3 := u3.on b
  replace s1 := s1.on b
  replace s2 := s2.on b
  replace cc := cc.trans (b.mono cc.size)
  clear b
  go_wp2_with fail
  refine (rmul_N s1 s2 (by omega) (by omega)).mono ?_
  rintro e w11 ⟨A11, n11, c11, rfl, s4, b⟩
  replace h0 := h0.on b
  replace h1 := h1.on b
  replace p := p.on b
  replace r1 := r1.on b
  replace r2 := r2.on b
  replace r3 := r3.on b
  replace u1 := u1.on b
  replace u2 := u2.on b
  replace u3 := u3.on b
  replace s1 := s1.on b
  replace s2 := s2.on b
  replace s3 := s3.on b
  replace cc := cc.trans (b.mono cc.size)
  clear b
  go_wp2_with fail
  refine (same_N s3 s4 (by omega) (by omega) (Nat.mul_pow x y k)).mono ?_
  rintro e w12 ⟨rfl, b⟩
  replace h0 := h0.on b
  replace h1 := h1.on b
  replace p := p.on b
  replace r1 := r1.on b
  replace r2 := r2.on b
  replace r3 := r3.on b
  replace u1 := u1.on b
  replace u2 := u2.on b
  replace u3 := u3.on b
  replace s1 := s1.on b
  replace s2 := s2.on b
  replace s3 := s3.on b
  replace s4 := s4.on b
  replace cc := cc.trans (b.mono cc.size)
  clear b
  clear s1 s2 s3 s4
  go_wp2_with fail
  refine (rmul_N r1 r2 (by omega) (by omega)).mono ?_
  rintro e w13 ⟨A13, n13, c13, rfl, m1, b⟩
  replace h0 := h0.on b
  replace h1 := h1.on b
  replace p := p.on b
  replace r1 := r1.on b
  replace r2 := r2.on b
  replace r3 := r3.on b
  replace u1 := u1.on b
  replace u2 := u2.on b
  replace u3 := u3.on b
  replace cc := cc.trans (b.mono cc.size)
  clear b
  go_wp2_with fail
  refine (rcmp_N m1 r3 (by omega) (by omega)).mono ?_
  rintro e w14 ⟨rfl, b⟩
  replace h0 := h0.on b
  replace h1 := h1.on b
  replace p := p.on b
  replace r1 := r1.on b
  replace r2 := r2.on b
  replace r3 := r3.on b
  replace u1 := u1.on b
  replace u2 := u2.on b
  replace u3 := u3.on b
  replace m1 := m1.on b
  replace cc := cc.trans (b.mono cc.size)
  clear b
  clear m1
  go_wp2_with fail
  refine (rmul_N u1 u2 (by omega) (by omega)).mono ?_
  rintro e w15 ⟨A15, n15, c15, rfl, m2, b⟩
  replace h0 := h0.on b
  replace h1 := h1.on b
  replace p := p.on b
  replace r1 := r1.on b
  replace r2 := r2.on b
  replace r3 := r3.on b
  replace u1 := u1.on b
  replace u2 := u2.on b
  replace u3 := u3.on b
  replace cc := cc.trans (b.mono cc.size)
  clear b
  go_wp2_with fail
  refine (rcmp_N u3 m2 (by omega) (by omega)).mono ?_
  rintro e w16 ⟨rfl, b⟩
  replace h0 := h0.on b
  replace h1 := h1.on b
  replace p := p.on b
  replace r1 := r1.on b
  replace r2 := r2.on b
  replace r3 := r3.on b
  replace u1 := u1.on b
  replace u2 := u2.on b
  replace u3 := u3.on b
  replace m2 := m2.on b
  replace cc := cc.trans (b.mono cc.size)
  clear b
  clear m2
  go_wp2_with fail
  refine (alive_any _).mono ?_
  rintro e w17 ⟨rfl, b⟩
  replace h0 := h0.on b
  replace h1 := h1.on b
  replace p := p.on b
  replace r1 := r1.on b
  replace r2 := r2.on b
  replace r3 := r3.on b
  replace u1 := u1.on b
  replace u2 := u2.on b
  replace u3 := u3.on b
  replace cc := cc.trans (b.mono cc.size)
  clear b
  go_wp2_with fail
  go_ret
  exact ⟨rfl, cc⟩

set_option maxRecDepth 100000 in
set_option maxHeartbeats 8000000 in
theorem RootTimes_long {a0 a1 : Option Addr} {len0 cap0 len1 cap1 x y : Nat} {w : World} (h0 : Num w a0 len0 cap0 x) (h1 : Num w a1 len1 cap1 y) (lx : (limbs x).length ≤ 3) (ly : (limbs y).length ≤ 3) (k : Nat) (k1 : 1 ≤ k) (k2 : k ≤ 16) (hs : 3 < (limbs (x * y)).length) (G0 : Hid (Calls Try.prog 9 #[.slice a0 len0 cap0, .int .i64 3] w fun e w' => e = .returned (.bool true) ∧ w = w')) (G1 : Hid (Calls Try.prog 9 #[.slice a1 len1 cap1, .int .i64 3] w fun e w' => e = .returned (.bool true) ∧ w = w')) :
    Calls Try.prog 8 #[.slice a0 len0 cap0, .slice a1 len1 cap1, .int .i64 (k : Int)] w fun e w' => e = .returned (.bool true) ∧ Below w.heap.size w w' := by
  have q0 : (limbs (x * y)).length ≤ 6 := limbs_length_mul lx ly
  have q1 := len_iroot k1 lx
  have q2 := len_iroot k1 ly
  have q3 := len_iroot k1 q0
  have q4 := len_uroot k1 lx
  have q5 := len_uroot k1 ly
  have q6 := len_uroot k1 q0
  have q7 : (limbs (iroot k x * iroot k y)).length ≤ 6 := limbs_length_mul q1 q2
  have q8 : (limbs (uroot k x * uroot k y)).length ≤ 6 := limbs_length_mul q4 q5
  have t1 : cmpN (iroot k x * iroot k y) (iroot k (x * y)) ≤ 0 := cmpN_le (iroot_mul x y (by omega))
  have t2 : cmpN (uroot k (x * y)) (uroot k x * uroot k y) ≤ 0 := cmpN_le (uroot_mul x y (by omega))
  go_enter Try.func8, Try.ntmps8
  go_wp2_with fail
  refine G0.out.mono ?_
  rintro e w' ⟨rfl, rfl⟩
  go_wp2_with fail
  refine G1.out.mono ?_
  rintro e w' ⟨rfl, rfl⟩
  have cc := Below.refl w.heap.size w
  go_wp2_with fail
  refine (rmul_N h0 h1 (by omega) (by omega)).mono ?_
  rintro e w1 ⟨A1, n1, c1, rfl, p, b⟩
  replace h0 := h0.on b
  replace h1 := h1.on b
  replace cc := cc.trans (b.mono cc.size)
  clear b
  have lp := Lib.hid p.len
  have tl : ¬ (n1 : Int) ≤ 3 := by have := lp.out; omega
  go_wp2_with fail
  refine (root_N h0 (by omega) k1 k2).mono ?_
  rintro e w2 ⟨A2, n2, c2, rfl, r1, b⟩
  replace h0 := h0.on b
  replace h1 := h1.on b
  replace p := p.on b
  replace cc := cc.trans (b.mono cc.size)
  clear b
  go_wp2_with fail
  refine (root_N h1 (by omega) k1 k2).mono ?_
  rintro e w3 ⟨A3, n3, c3, rfl, r2, b⟩
  replace h0 := h0.on b
  replace h1 := h1.on b
  replace p := p.on b
  replace r1 := r1.on b
  replace cc := cc.trans (b.mono cc.size)
  clear b
  go_wp2_with fail
  refine (root_N p (by omega) k1 k2).mono ?_
  rintro e w4 ⟨A4, n4, c4, rfl, r3, b⟩
  replace h0 := h0.on b
  replace h1 := h1.on b
  replace p := p.on b
  replace r1 := r1.on b
  replace r2 := r2.on b
  replace cc := cc.trans (b.mono cc.size)
  clear b
  go_wp2_with fail
  refine (up_N h0 (by omega) k1 k2).mono ?_
  rintro e w5 ⟨A5, n5, c5, rfl, u1, b⟩
  replace h0 := h0.on b
  replace h1 := h1.on b
  replace p := p.on b
  replace r1 := r1.on b
  replace r2 := r2.on b
  replace r3 := r3.on b
  replace cc := cc.trans (b.mono cc.size)
  clear b
  go_wp2_with fail
  refine (up_N h1 (by omega) k1 k2).mono ?_
  rintro e w6 ⟨A6, n6, c6, rfl, u2, b⟩
  replace h0 := h0.on b
  replace h1 := h1.on b
  replace p := p.on b
  replace r1 := r1.on b
  replace r2 := r2.on b
  replace r3 := r3.on b
  replace u1 := u1.on b
  replace cc := cc.trans (b.mono cc.size)
  clear b
  go_wp2_with fail
  refine (up_N p (by omega) k1 k2).mono ?_
  rintro e w7 ⟨A7, n7, c7, rfl, u3, b⟩
  replace h0 := h0.on b
  replace h1 := h1.on b
  replace p := p.on b
  replace r1 := r1.on b
  replace r2 := r2.on b
  replace r3 := r3.on b
  replace u1 := u1.on b
  replace u2 := u2.on b
  replace cc := cc.trans (b.mono cc.size)
  clear b
  go_wp2_with fail
  refine (rmul_N r1 r2 (by omega) (by omega)).mono ?_
  rintro e w8 ⟨A8, n8, c8, rfl, m1, b⟩
  replace h0 := h0.on b
  replace h1 := h1.on b
  replace p := p.on b
  replace r1 := r1.on b
  replace r2 := r2.on b
  replace r3 := r3.on b
  replace u1 := u1.on b
  replace u2 := u2.on b
  replace u3 := u3.on b
  replace cc := cc.trans (b.mono cc.size)
  clear b
  go_wp2_with fail
  refine (rcmp_N m1 r3 (by omega) (by omega)).mono ?_
  rintro e w9 ⟨rfl, b⟩
  replace h0 := h0.on b
  replace h1 := h1.on b
  replace p := p.on b
  replace r1 := r1.on b
  replace r2 := r2.on b
  replace r3 := r3.on b
  replace u1 := u1.on b
  replace u2 := u2.on b
  replace u3 := u3.on b
  replace m1 := m1.on b
  replace cc := cc.trans (b.mono cc.size)
  clear b
  clear m1
  go_wp2_with fail
  refine (rmul_N u1 u2 (by omega) (by omega)).mono ?_
  rintro e w10 ⟨A10, n10, c10, rfl, m2, b⟩
  replace h0 := h0.on b
  replace h1 := h1.on b
  replace p := p.on b
  replace r1 := r1.on b
  replace r2 := r2.on b
  replace r3 := r3.on b
  replace u1 := u1.on b
  replace u2 := u2.on b
  replace u3 := u3.on b
  replace cc := cc.trans (b.mono cc.size)
  clear b
  go_wp2_with fail
  refine (rcmp_N u3 m2 (by omega) (by omega)).mono ?_
  rintro e w11 ⟨rfl, b⟩
  replace h0 := h0.on b
  replace h1 := h1.on b
  replace p := p.on b
  replace r1 := r1.on b
  replace r2 := r2.on b
  replace r3 := r3.on b
  replace u1 := u1.on b
  replace u2 := u2.on b
  replace u3 := u3.on b
  replace m2 := m2.on b
  replace cc := cc.trans (b.mono cc.size)
  clear b
  clear m2
  go_wp2_with fail
  refine (alive_any _).mono ?_
  rintro e w12 ⟨rfl, b⟩
  replace h0 := h0.on b
  replace h1 := h1.on b
  replace p := p.on b
  replace r1 := r1.on b
  replace r2 := r2.on b
  replace r3 := r3.on b
  replace u1 := u1.on b
  replace u2 := u2.on b
  replace u3 := u3.on b
  replace cc := cc.trans (b.mono cc.size)
  clear b
  go_wp2_with fail
  go_ret
  exact ⟨rfl, cc⟩

theorem RootTimes_walk {a0 a1 : Option Addr} {len0 cap0 len1 cap1 : Nat} {l0 l1 : List Nat} {w : World} (kk : Int) (hl0 : Lim w.heap.size w a0 len0 cap0 l0) (hs0 : len0 ≤ 9223372036854775807) (hl1 : Lim w.heap.size w a1 len1 cap1 l1) (hs1 : len1 ≤ 9223372036854775807) :
    Calls Try.prog 8 #[.slice a0 len0 cap0, .slice a1 len1 cap1, .int .i64 kk] w fun e w' => e = .returned (.bool true) ∧ Below w.heap.size w w' := by
  cases hr0 : (decide ((len0 : Int) ≤ 3) && canon l0) with
  | false => exact RootTimes_no0 _ (Lib.hid (given_N 3 false hl0 hs0 hr0))
  | true =>
    have G0 := Lib.hid (given_N 3 true hl0 hs0 hr0)
    rw [Bool.and_eq_true] at hr0
    have h0 := hl0.num hr0.2
    have lx : (limbs (val l0)).length ≤ 3 := by rw [← h0.len]; have := of_decide_eq_true hr0.1; omega
    cases hr1 : (decide ((len1 : Int) ≤ 3) && canon l1) with
    | false => exact RootTimes_no1 _ G0 (Lib.hid (given_N 3 false hl1 hs1 hr1))
    | true =>
      have G1 := Lib.hid (given_N 3 true hl1 hs1 hr1)
      rw [Bool.and_eq_true] at hr1
      have h1 := hl1.num hr1.2
      have ly : (limbs (val l1)).length ≤ 3 := by rw [← h1.len]; have := of_decide_eq_true hr1.1; omega
      generalize val l0 = x at h0 lx
      generalize val l1 = y at h1 ly
      by_cases d1 : kk < 1
      · exact RootTimes_q1 _ d1 G0 G1
      by_cases d2 : 16 < kk
      · exact RootTimes_q2 _ d1 d2 G0 G1
      obtain ⟨k, rfl⟩ : ∃ k : Nat, kk = (k : Int) := ⟨kk.toNat, by omega⟩
      rcases Nat.lt_or_ge 3 (limbs (x * y)).length with h | h
      · exact RootTimes_long h0 h1 lx ly k (by omega) (by omega) h G0 G1
      · exact RootTimes_short h0 h1 lx ly k (by omega) (by omega) h G0 G1

end Go.Proofs.Ythdlbngdmbkgcaa
