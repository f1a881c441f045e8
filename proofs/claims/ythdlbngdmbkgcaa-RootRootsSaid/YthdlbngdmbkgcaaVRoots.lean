/-
  The walk of RootRoots.
-/
import Derived.Test.YthdlbngdmbkgcaaA5
namespace Go.Proofs.Ythdlbngdmbkgcaa
open Go.RowKit
set_option linter.unusedVariables false

theorem root_both {w : World} {A : Option Addr} {m c x k n : Nat} (ha : Num w A m c x) (hx : (limbs x).length ≤ 100) (h1 : 1 ≤ k) (h2 : 1 ≤ n) (hk : k * n ≤ 16) : Calls Try.prog 11 #[.slice A m c, .int .i64 ((k : Int) * (n : Int))] w (GotP w (iroot (k * n) x) 0) := by
  have h := root_N (k := k * n) ha hx (Nat.mul_pos h1 h2) hk
  rwa [Int.natCast_mul] at h

set_option maxRecDepth 100000 in
set_option maxHeartbeats 8000000 in
theorem RootRoots_no0 {a0 : Option Addr} {len0 cap0 : Nat} {w : World} (kk nn : Int) (G0 : Hid (Calls Try.prog 9 #[.slice a0 len0 cap0, .int .i64 8] w fun e w' => e = .returned (.bool false) ∧ w = w')) :
    Calls Try.prog 7 #[.slice a0 len0 cap0, .int .i64 kk, .int .i64 nn] w fun e w' => e = .returned (.bool true) ∧ Below w.heap.size w w' := by
  go_enter Try.func7, Try.ntmps7
  go_wp2_with fail
  refine G0.out.mono ?_
  rintro e w' ⟨rfl, rfl⟩
  have cc := Below.refl w.heap.size w
  go_wp2_with fail
  refine (alive_any _).mono ?_
  rintro e w1 ⟨rfl, b⟩
  replace cc := cc.trans (b.mono cc.size)
  clear b
  go_wp2_with fail
  go_ret
  exact ⟨rfl, cc⟩

set_option maxRecDepth 100000 in
set_option maxHeartbeats 8000000 in
theorem RootRoots_q1 {a0 : Option Addr} {len0 cap0 : Nat} {w : World} (kk nn : Int) (hn : kk < 1) (G0 : Hid (Calls Try.prog 9 #[.slice a0 len0 cap0, .int .i64 8] w fun e w' => e = .returned (.bool true) ∧ w = w')) :
    Calls Try.prog 7 #[.slice a0 len0 cap0, .int .i64 kk, .int .i64 nn] w fun e w' => e = .returned (.bool true) ∧ Below w.heap.size w w' := by
  go_enter Try.func7, Try.ntmps7
  go_wp2_with fail
  refine G0.out.mono ?_
  rintro e w' ⟨rfl, rfl⟩
  have cc := Below.refl w.heap.size w
  go_wp2_with fail
  refine (alive_any _).mono ?_
  rintro e w1 ⟨rfl, b⟩
  replace cc := cc.trans (b.mono cc.size)
  clear b
  go_wp2_with fail
  go_ret
  exact ⟨rfl, cc⟩

set_option maxRecDepth 100000 in
set_option maxHeartbeats 8000000 in
theorem RootRoots_q2 {a0 : Option Addr} {len0 cap0 : Nat} {w : World} (kk nn : Int) (a1 : ¬ kk < 1) (hn : nn < 1) (G0 : Hid (Calls Try.prog 9 #[.slice a0 len0 cap0, .int .i64 8] w fun e w' => e = .returned (.bool true) ∧ w = w')) :
    Calls Try.prog 7 #[.slice a0 len0 cap0, .int .i64 kk, .int .i64 nn] w fun e w' => e = .returned (.bool true) ∧ Below w.heap.size w w' := by
  go_enter Try.func7, Try.ntmps7
  go_wp2_with fail
  refine G0.out.mono ?_
  rintro e w' ⟨rfl, rfl⟩
  have cc := Below.refl w.heap.size w
  go_wp2_with fail
  refine (alive_any _).mono ?_
  rintro e w1 ⟨rfl, b⟩
  replace cc := cc.trans (b.mono cc.size)
  clear b
  go_wp2_with fail
  go_ret
  exact ⟨rfl, cc⟩

set_option maxRecDepth 100000 in
set_option maxHeartbeats 8000000 in
theorem RootRoots_q3 {a0 : Option Addr} {len0 cap0 : Nat} {w : World} (kk nn : Int) (a1 : ¬ kk < 1) (a2 : ¬ nn < 1) (hn : 16 < kk) (G0 : Hid (Calls Try.prog 9 #[.slice a0 len0 cap0, .int .i64 8] w fun e w' => e = .returned (.bool true) ∧ w = w')) :
    Calls Try.prog 7 #[.slice a0 len0 cap0, .int .i64 kk, .int .i64 nn] w fun e w' => e = .returned (.bool true) ∧ Below w.heap.size w w' := by
  go_enter Try.func7, Try.ntmps7
  go_wp2_with fail
  refine G0.out.mono ?_
  rintro e w' ⟨rfl, rfl⟩
  have cc := Below.refl w.heap.size w
  go_wp2_with fail
  refine (alive_any _).mono ?_
  rintro e w1 ⟨rfl, b⟩
  replace cc := cc.trans (b.mono cc.size)
  clear b
  go_wp2_with fail
  go_ret
  exact ⟨rfl, cc⟩

set_option maxRecDepth 100000 in
set_option maxHeartbeats 8000000 in
theorem RootRoots_q4 {a0 : Option Addr} {len0 cap0 : Nat} {w : World} (kk nn : Int) (a1 : ¬ kk < 1) (a2 : ¬ nn < 1) (a3 : ¬ 16 < kk) (hn : 16 < nn) (G0 : Hid (Calls Try.prog 9 #[.slice a0 len0 cap0, .int .i64 8] w fun e w' => e = .returned (.bool true) ∧ w = w')) :
    Calls Try.prog 7 #[.slice a0 len0 cap0, .int .i64 kk, .int .i64 nn] w fun e w' => e = .returned (.bool true) ∧ Below w.heap.size w w' := by
  go_enter Try.func7, Try.ntmps7
  go_wp2_with fail
  refine G0.out.mono ?_
  rintro e w' ⟨rfl, rfl⟩
  have cc := Below.refl w.heap.size w
  go_wp2_with fail
  refine (alive_any _).mono ?_
  rintro e w1 ⟨rfl, b⟩
  replace cc := cc.trans (b.mono cc.size)
  clear b
  go_wp2_with fail
  go_ret
  exact ⟨rfl, cc⟩

set_option maxRecDepth 100000 in
set_option maxHeartbeats 8000000 in
theorem RootRoots_q5 {a0 : Option Addr} {len0 cap0 : Nat} {w : World} (kk nn : Int) (a1 : ¬ kk < 1) (a2 : ¬ nn < 1) (a3 : ¬ 16 < kk) (a4 : ¬ 16 < nn) (hn : 16 < kk * nn) (hw : IntKind.i64.wrap (kk * nn) = kk * nn) (G0 : Hid (Calls Try.prog 9 #[.slice a0 len0 cap0, .int .i64 8] w fun e w' => e = .returned (.bool true) ∧ w = w')) :
    Calls Try.prog 7 #[.slice a0 len0 cap0, .int .i64 kk, .int .i64 nn] w fun e w' => e = .returned (.bool true) ∧ Below w.heap.size w w' := by
  go_enter Try.func7, Try.ntmps7
  go_wp2_with fail
  refine G0.out.mono ?_
  rintro e w' ⟨rfl, rfl⟩
  have cc := Below.refl w.heap.size w
  go_wp2_with fail
  refine (alive_any _).mono ?_
  rintro e w1 ⟨rfl, b⟩
  replace cc := cc.trans (b.mono cc.size)
  clear b
  go_wp2_with fail
  go_ret
  exact ⟨rfl, cc⟩

set_option maxRecDepth 100000 in
set_option maxHeartbeats 8000000 in
theorem RootRoots_yes {a0 : Option Addr} {len0 cap0 x : Nat} {w : World} (h0 : Num w a0 len0 cap0 x) (lx : (limbs x).length ≤ 8) (k : Nat) (k1 : 1 ≤ k) (k2 : k ≤ 16) (n : Nat) (e1 : 1 ≤ n) (e2 : n ≤ 16) (kn : k * n ≤ 16) (G0 : Hid (Calls Try.prog 9 #[.slice a0 len0 cap0, .int .i64 8] w fun e w' => e = .returned (.bool true) ∧ w = w')) :
    Calls Try.prog 7 #[.slice a0 len0 cap0, .int .i64 (k : Int), .int .i64 (n : Int)] w fun e w' => e = .returned (.bool true) ∧ Below w.heap.size w w' := by
  have q1 := len_iroot k1 lx
  have q2 := len_iroot e1 q1
  have kn0 : 1 ≤ k * n := Nat.mul_pos k1 e1
  have q3 := len_iroot kn0 lx
  have kn2 : (k : Int) * (n : Int) ≤ 16 := by rw [← Int.natCast_mul]; omega
  have kn3 : 0 ≤ (k : Int) * (n : Int) := by rw [← Int.natCast_mul]; omega
  have kn4 : ¬ 16 < (k : Int) * (n : Int) := by omega
  have kn5 : IntKind.i64.wrap ((k : Int) * (n : Int)) = (k : Int) * (n : Int) := IntWalk.i64_in _ (by omega)
  go_enter Try.func7, Try.ntmps7
  go_wp2_with fail
  refine G0.out.mono ?_
  rintro e w' ⟨rfl, rfl⟩
  have cc := Below.refl w.heap.size w
  go_wp2_with fail
  refine (root_N h0 (by omega) k1 k2).mono ?_
  rintro e w1 ⟨A1, n1, c1, rfl, r1, b⟩
  replace h0 := h0.on b
  replace cc := cc.trans (b.mono cc.size)
  clear b
  go_wp2_with fail
  refine (root_N r1 (by omega) e1 e2).mono ?_
  rintro e w2 ⟨A2, n2, c2, rfl, r2, b⟩
  replace h0 := h0.on b
  replace r1 := r1.on b
  replace cc := cc.trans (b.mono cc.size)
  clear b
  go_wp2_with fail
  refine (root_both h0 (by omega) k1 e1 kn).mono ?_
  rintro e w3 ⟨A3, n3, c3, rfl, r3, b⟩
  replace h0 := h0.on b
  replace r1 := r1.on b
  replace r2 := r2.on b
  replace cc := cc.trans (b.mono cc.size)
  clear b
  go_wp2_with fail
  refine (alive_any _).mono ?_
  rintro e w4 ⟨rfl, b⟩
  replace h0 := h0.on b
  replace r1 := r1.on b
  replace r2 := r2.on b
  replace r3 := r3.on b
  replace cc := cc.trans (b.mono cc.size)
  clear b
  go_wp2_with fail
  refine (same_N r2 r3 (by omega) (by omega) (iroot_iroot x (by omega) (by omega))).mono ?_
  rintro e w5 ⟨rfl, b⟩
  replace h0 := h0.on b
  replace r1 := r1.on b
  replace r2 := r2.on b
  replace r3 := r3.on b
  replace cc := cc.trans (b.mono cc.size)
  clear b
  go_wp2_with fail
  go_ret
  exact ⟨rfl, cc⟩

theorem RootRoots_walk {a0 : Option Addr} {len0 cap0 : Nat} {l0 : List Nat} {w : World} (kk : Int) (nn : Int) (hl0 : Lim w.heap.size w a0 len0 cap0 l0) (hs0 : len0 ≤ 9223372036854775807) :
    Calls Try.prog 7 #[.slice a0 len0 cap0, .int .i64 kk, .int .i64 nn] w fun e w' => e = .returned (.bool true) ∧ Below w.heap.size w w' := by
  cases hr0 : (decide ((len0 : Int) ≤ 8) && canon l0) with
  | false => exact RootRoots_no0 _ _ (Lib.hid (given_N 8 false hl0 hs0 hr0))
  | true =>
    have G0 := Lib.hid (given_N 8 true hl0 hs0 hr0)
    rw [Bool.and_eq_true] at hr0
    have h0 := hl0.num hr0.2
    have lx : (limbs (val l0)).length ≤ 8 := by rw [← h0.len]; have := of_decide_eq_true hr0.1; omega
    generalize val l0 = x at h0 lx
    by_cases a1 : kk < 1
    · exact RootRoots_q1 _ _ a1 G0
    by_cases a2 : nn < 1
    · exact RootRoots_q2 _ _ a1 a2 G0
    by_cases a3 : 16 < kk
    · exact RootRoots_q3 _ _ a1 a2 a3 G0
    by_cases a4 : 16 < nn
    · exact RootRoots_q4 _ _ a1 a2 a3 a4 G0
    obtain ⟨k, rfl⟩ : ∃ k : Nat, kk = (k : Int) := ⟨kk.toNat, by omega⟩
    obtain ⟨n, rfl⟩ : ∃ n : Nat, nn = (n : Int) := ⟨nn.toNat, by omega⟩
    have hle : k * n ≤ 16 * 16 := Nat.mul_le_mul (by omega) (by omega)
    by_cases a5 : 16 < k * n
    · exact RootRoots_q5 _ _ a1 a2 a3 a4 (by rw [← Int.natCast_mul]; omega) (by rw [← Int.natCast_mul]; exact IntWalk.i64_in _ (by omega)) G0
    · exact RootRoots_yes h0 lx k (by omega) (by omega) n (by omega) (by omega) (by omega) G0

end Go.Proofs.Ythdlbngdmbkgcaa
