/-
  The walk of CodeBack.
-/
import Derived.Test.YtgglcgkgeilblaaA5
namespace Go.Proofs.Ytgglcgkgeilblaa
set_option maxRecDepth 100000
open Go.RowKit
set_option linter.unusedVariables false
set_option linter.unusedSimpArgs false

set_option maxRecDepth 100000 in
set_option maxHeartbeats 8000000 in
theorem CodeBack_lo {w : World} {k t : Int} {c : Nat} (hk : k < 0) (C0 : ∀ W : World, Calls Try.prog 10 #[.int .i64 k, .int .u8 (c : Int)] W (GotV W (.tuple #[.int .i64 0, .int .i64 1]))) :
    Calls Try.prog 6 #[.int .i64 k, .int .u8 (c : Int), .int .u16 t] w fun e w' => e = .returned (.bool true) ∧ Below w.heap.size w w' := by
  have t1 : decide (k < 0) = true := decide_eq_true (by omega)
  have cc := Below.refl w.heap.size w
  go_enter Try.func6, Try.ntmps6
  go_wp2_with fail
  refine (C0 _).mono ?_
  rintro e w1 ⟨rfl, b⟩
  replace cc := cc.trans (b.mono cc.size)
  clear b
  go_wp2_with fail
  refine (alive10_any _).mono ?_
  rintro e w2 ⟨rfl, b⟩
  replace cc := cc.trans (b.mono cc.size)
  clear b
  go_wp2_with fail
  go_ret
  exact ⟨rfl, cc⟩

set_option maxRecDepth 100000 in
set_option maxHeartbeats 8000000 in
theorem CodeBack_hi {w : World} {k t : Int} {c : Nat} (hk : 3 < k) (C0 : ∀ W : World, Calls Try.prog 10 #[.int .i64 k, .int .u8 (c : Int)] W (GotV W (.tuple #[.int .i64 0, .int .i64 1]))) :
    Calls Try.prog 6 #[.int .i64 k, .int .u8 (c : Int), .int .u16 t] w fun e w' => e = .returned (.bool true) ∧ Below w.heap.size w w' := by
  have t1 : decide (k < 0) = false := decide_eq_false (by omega)
  have t2 : decide (3 < k) = true := decide_eq_true (by omega)
  have cc := Below.refl w.heap.size w
  go_enter Try.func6, Try.ntmps6
  go_wp2_with fail
  refine (C0 _).mono ?_
  rintro e w1 ⟨rfl, b⟩
  replace cc := cc.trans (b.mono cc.size)
  clear b
  go_wp2_with fail
  refine (alive10_any _).mono ?_
  rintro e w2 ⟨rfl, b⟩
  replace cc := cc.trans (b.mono cc.size)
  clear b
  go_wp2_with fail
  go_ret
  exact ⟨rfl, cc⟩

set_option maxRecDepth 100000 in
set_option maxHeartbeats 8000000 in
theorem CodeBack_0 {w : World} {k t u n d m N M : Int} {c : Nat} (hk0 : 0 ≤ k) (hk3 : k ≤ 3) (ht0 : 0 ≤ t) (ht1 : t < 65536) (hu : u = t + 1) (eN : N = n * u) (eM : M = d * u) (hN : I64 N) (hM : I64 M) (hc : c = 0) (C0 : ∀ W : World, Calls Try.prog 10 #[.int .i64 k, .int .u8 (c : Int)] W (GotV W (.tuple #[.int .i64 n, .int .i64 0]))) (C1 : ∀ W : World, Calls Try.prog 20 #[.int .i64 k] W (GotV W (.int .i64 d))) (C2 : ∀ W : World, Calls Try.prog 8 #[.int .i64 k, .int .i64 N, .int .i64 M] W (GotV W (.tuple #[.int .u8 (c : Int), .int .i64 0]))) (C3 : ∀ W : World, Calls Try.prog 10 #[.int .i64 k, .int .u8 255] W (GotV W (.tuple #[.int .i64 m, .int .i64 0]))) :
    Calls Try.prog 6 #[.int .i64 k, .int .u8 (c : Int), .int .u16 t] w fun e w' => e = .returned (.bool true) ∧ Below w.heap.size w w' := by
  have t1 : decide (k < 0) = false := decide_eq_false (by omega)
  have t2 : decide (3 < k) = false := decide_eq_false (by omega)
  have k1 : IntKind.i64.wrap t = t := IntWalk.i64_in _ (by omega)
  have k2 : IntKind.i64.wrap (t + 1) = u := by rw [IntWalk.i64_in _ (by omega)]; omega
  have k3 : IntKind.i64.wrap (n * u) = N := by rw [IntWalk.i64_in _ (by unfold I64 at hN; omega)]; omega
  have k4 : IntKind.i64.wrap (d * u) = M := by rw [IntWalk.i64_in _ (by unfold I64 at hM; omega)]; omega
  subst hc
  have k5 : IntKind.u8.wrap ((0 : Int) - 1) = 255 := by decide
  clear hN hM eN eM hu hk0 hk3
  have cc := Below.refl w.heap.size w
  go_enter Try.func6, Try.ntmps6
  go_wp2_with fail
  refine (C0 _).mono ?_
  rintro e w1 ⟨rfl, b⟩
  replace cc := cc.trans (b.mono cc.size)
  clear b
  go_wp2_with fail
  refine (C1 _).mono ?_
  rintro e w2 ⟨rfl, b⟩
  replace cc := cc.trans (b.mono cc.size)
  clear b
  go_wp2_with fail
  refine (C2 _).mono ?_
  rintro e w3 ⟨rfl, b⟩
  replace cc := cc.trans (b.mono cc.size)
  clear b
  go_wp2_with fail
  refine (C3 _).mono ?_
  rintro e w4 ⟨rfl, b⟩
  replace cc := cc.trans (b.mono cc.size)
  clear b
  go_wp2_with fail
  refine (alive10_any _).mono ?_
  rintro e w5 ⟨rfl, b⟩
  replace cc := cc.trans (b.mono cc.size)
  clear b
  go_wp2_with fail
  go_ret
  exact ⟨rfl, cc⟩

set_option maxRecDepth 100000 in
set_option maxHeartbeats 8000000 in
theorem CodeBack_up {w : World} {k t u n d m N M : Int} {c p : Nat} (hk0 : 0 ≤ k) (hk3 : k ≤ 3) (ht0 : 0 ≤ t) (ht1 : t < 65536) (hu : u = t + 1) (eN : N = n * u) (eM : M = d * u) (hN : I64 N) (hM : I64 M) (hc : c = p + 1) (h6 : c < 256) (hmn : m < n) (C0 : ∀ W : World, Calls Try.prog 10 #[.int .i64 k, .int .u8 (c : Int)] W (GotV W (.tuple #[.int .i64 n, .int .i64 0]))) (C1 : ∀ W : World, Calls Try.prog 20 #[.int .i64 k] W (GotV W (.int .i64 d))) (C2 : ∀ W : World, Calls Try.prog 8 #[.int .i64 k, .int .i64 N, .int .i64 M] W (GotV W (.tuple #[.int .u8 (c : Int), .int .i64 0]))) (C3 : ∀ W : World, Calls Try.prog 10 #[.int .i64 k, .int .u8 (p : Int)] W (GotV W (.tuple #[.int .i64 m, .int .i64 0]))) :
    Calls Try.prog 6 #[.int .i64 k, .int .u8 (c : Int), .int .u16 t] w fun e w' => e = .returned (.bool true) ∧ Below w.heap.size w w' := by
  have t1 : decide (k < 0) = false := decide_eq_false (by omega)
  have t2 : decide (3 < k) = false := decide_eq_false (by omega)
  have k1 : IntKind.i64.wrap t = t := IntWalk.i64_in _ (by omega)
  have k2 : IntKind.i64.wrap (t + 1) = u := by rw [IntWalk.i64_in _ (by omega)]; omega
  have k3 : IntKind.i64.wrap (n * u) = N := by rw [IntWalk.i64_in _ (by unfold I64 at hN; omega)]; omega
  have k4 : IntKind.i64.wrap (d * u) = M := by rw [IntWalk.i64_in _ (by unfold I64 at hM; omega)]; omega
  have k5 : IntKind.u8.wrap ((c : Int) - 1) = (p : Int) := by rw [IntKind.wrap_u8]; omega
  have t3 : ((c : Int) == 0) = false := beq_eq_false_iff_ne.2 (by omega)
  have t4 : (c == 0) = false := beq_eq_false_iff_ne.2 (by omega)
  have t5 : decide (m < n) = true := decide_eq_true hmn
  have c6 : (c : Int) < 256 := by omega
  have p6 : (p : Int) < 256 := by omega
  clear hN hM eN eM hu hk0 hk3 hc hmn
  have cc := Below.refl w.heap.size w
  go_enter Try.func6, Try.ntmps6
  go_wp2_with fail
  refine (C0 _).mono ?_
  rintro e w1 ⟨rfl, b⟩
  replace cc := cc.trans (b.mono cc.size)
  clear b
  go_wp2_with fail
  refine (C1 _).mono ?_
  rintro e w2 ⟨rfl, b⟩
  replace cc := cc.trans (b.mono cc.size)
  clear b
  go_wp2_with fail
  refine (C2 _).mono ?_
  rintro e w3 ⟨rfl, b⟩
  replace cc := cc.trans (b.mono cc.size)
  clear b
  go_wp2_with fail
  refine (C3 _).mono ?_
  rintro e w4 ⟨rfl, b⟩
  replace cc := cc.trans (b.mono cc.size)
  clear b
  go_wp2_with fail
  refine (alive10_any _).mono ?_
  rintro e w5 ⟨rfl, b⟩
  replace cc := cc.trans (b.mono cc.size)
  clear b
  go_wp2_with fail
  go_ret
  exact ⟨rfl, cc⟩

theorem CodeBack_walk {w : World} (k : Int) (wk : (Lit.int .i64 k).wf = true) (c : Int) (wc : (Lit.int .u8 c).wf = true) (t : Int) (wt : (Lit.int .u16 t).wf = true) :
    Calls Try.prog 6 #[.int .i64 k, .int .u8 c, .int .u16 t] w fun e w' => e = .returned (.bool true) ∧ Below w.heap.size w w' := by
  obtain ⟨c, rfl, hc⟩ := u8_nat wc
  obtain ⟨t0, t1⟩ := u16_nat wt
  by_cases h : Kind9 k
  · have hk : 0 ≤ k ∧ k ≤ 3 := by unfold Kind9 at h; omega
    have bn := num10_bd k c
    have bd := den9_bd k
    have p1 := Int.mul_le_mul_of_nonneg_right bn.1 (show 0 ≤ t + 1 by omega)
    have p2 := Int.mul_le_mul_of_nonneg_right bn.2 (show 0 ≤ t + 1 by omega)
    have p3 := Int.mul_le_mul_of_nonneg_right bd.1 (show 0 ≤ t + 1 by omega)
    have p4 := Int.mul_le_mul_of_nonneg_right bd.2 (show 0 ≤ t + 1 by omega)
    have hN : I64 (num10 k c * (t + 1)) := by unfold I64; omega
    have hM : I64 (den9 k * (t + 1)) := by unfold I64; omega
    have C2 : ∀ W : World, Calls Try.prog 8 #[.int .i64 k, .int .i64 (num10 k c * (t + 1)), .int .i64 (den9 k * (t + 1))] W (GotV W (.tuple #[.int .u8 (c : Int), .int .i64 0])) := fun W => by
      have e := cNear_yes W hN hM (shr_own h (show 0 < t + 1 by omega) (by omega))
      rw [near10_num h (by omega) (by omega)] at e
      exact e
    rcases Nat.eq_zero_or_pos c with e | e
    · exact CodeBack_0 hk.1 hk.2 t0 t1 rfl rfl rfl hN hM e (fun W => cNum_yes W h hc) (fun W => rden9_N W k) C2 (fun W => cNum_yes W h (c := 255) (by omega))
    · obtain ⟨p, rfl⟩ : ∃ p, c = p + 1 := ⟨c - 1, by omega⟩
      exact CodeBack_up hk.1 hk.2 t0 t1 rfl rfl rfl hN hM rfl hc (num10_step h (by omega)).1 (fun W => cNum_yes W h hc) (fun W => rden9_N W k) C2 (fun W => cNum_yes W h (by omega))
  · have hk : k < 0 ∨ 3 < k := by unfold Kind9 at h; omega
    rcases hk with hk | hk
    · exact CodeBack_lo hk (fun W => cNum_no W h hc)
    · exact CodeBack_hi hk (fun W => cNum_no W h hc)

end Go.Proofs.Ytgglcgkgeilblaa
