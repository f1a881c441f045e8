/-
  What puts the ways of FixSides together.
-/
import Derived.Test.YtccigpnebejbiaaWSid8
namespace Go.Proofs.Ytccigpnebejbiaa
set_option maxRecDepth 100000
open Go.RowKit
set_option linter.unusedVariables false
set_option linter.unusedSimpArgs false

theorem pw_abs (j : Int) : ((2 ^ j.toNat : Nat) : Int).natAbs = 2 ^ j.toNat := Int.natAbs_natCast _
theorem pw_sign (j : Int) : ((2 ^ j.toNat : Nat) : Int).sign = 1 := by rw [Int.sign_natCast_of_ne_zero (pow_ne _)]
theorem pw_i64 {j : Int} (j1 : j ≤ 40) : I64 ((2 ^ j.toNat : Nat) : Int) := by
  have h1 : 2 ^ j.toNat ≤ 1099511627776 := Nat.le_trans (Nat.pow_le_pow_right (by omega) (show j.toNat ≤ 40 by omega)) (by decide)
  generalize 2 ^ j.toNat = q at h1 ⊢
  unfold I64; omega
theorem turn_le {x y : Int} (h : y = -x) : nE x ≠ 0 ∧ (nE x == 0) = false ∨ (nE x = 0 ∧ nE y ≠ 0 ∧ (nE y == 0) = false) ∨ (nE x = 0 ∧ nE y = 0 ∧ IntKind.i64.wrap (-nI y) = nI x) := by
  by_cases hx : I64 x
  · by_cases hy : I64 y
    · rw [(nI_yes hx).1, (nI_yes hx).2, (nI_yes hy).1, (nI_yes hy).2]
      refine Or.inr (Or.inr ⟨rfl, rfl, ?_⟩)
      rw [show -y = x by omega]
      exact IntWalk.i64_in _ (by unfold I64 at hx; omega)
    · rw [(nI_yes hx).2, (nI_no hy).2]; exact Or.inr (Or.inl ⟨rfl, by decide, by decide⟩)
  · rw [(nI_no hx).2]; exact Or.inl ⟨by decide, by decide⟩
theorem self8 {a : Int} (ha : I64 a) (j : Int) : nI (rn (a * ((2 ^ j.toNat : Nat) : Int)) (2 ^ j.toNat)) = a ∧ nE (rn (a * ((2 ^ j.toNat : Nat) : Int)) (2 ^ j.toNat)) = 0 := by
  rw [rn_self a (pow_ne _)]; exact nI_yes ha

set_option maxRecDepth 100000 in
set_option maxHeartbeats 8000000 in
theorem FixSides_walk {w : World} (a : Int) (wa : (Lit.int .i64 a).wf = true) (b : Int) (wb : (Lit.int .i64 b).wf = true) (j : Int) (wj : (Lit.int .i64 j).wf = true) :
    Calls Try.prog 6 #[.int .i64 a, .int .i64 b, .int .i64 j] w (fun e w' => e = .returned (.bool true) ∧ Below w.heap.size w w') := by
  have ha := i64_wf wa
  have hb := i64_wf wb
  by_cases k0 : j < 0
  · exact FixSides_0 k0
  by_cases k1 : 40 < j
  · exact FixSides_1 k0 k1
  by_cases k2 : a = -9223372036854775808
  · exact FixSides_2 k0 k1 k2
  by_cases k3 : b = -9223372036854775808
  · exact FixSides_3 k0 k1 k2 k3
  have j0 : 0 ≤ j := by omega
  have j1 : j ≤ 40 := by omega
  have hn : I64 (-a) := by unfold I64 at *; omega
  have ho := pw_i64 j1
  obtain ⟨s1, s2⟩ := self8 ha j
  have A2 := fun W : World => fmul_N (w := W) hb ha j0 j1
  rw [Int.mul_comm b a] at A2
  have A5 := fun W : World => fmul_N (w := W) ha ho j0 j1
  rw [s1, s2] at A5
  have A6 := fun W : World => fdiv_N (w := W) ha ho (by exact Int.natCast_ne_zero.2 (pow_ne _)) j0 j1
  rw [pw_sign, pw_abs, Int.one_mul, s1, s2] at A6
  have A7 := fun W : World => fsub_N (w := W) ha hb
  have hx : I64 (nI (a - b)) := by by_cases h : I64 (a - b); (rw [(nI_yes h).1]; exact h); (rw [(nI_no h).1]; unfold I64; omega)
  have A8 := fun W : World => fadd_N (w := W) hx hb
  have K3 : nE (a - b) ≠ 0 ∧ (nE (a - b) == 0) = false ∨ (nE (a - b) = 0 ∧ nE (nI (a - b) + b) = 0 ∧ nI (nI (a - b) + b) = a) := by
    by_cases h : I64 (a - b)
    · have h1 : I64 (a - b + b) := by rw [Int.sub_add_cancel]; exact ha
      rw [(nI_yes h).1, (nI_yes h).2, (nI_yes h1).1, (nI_yes h1).2, Int.sub_add_cancel]; exact Or.inr ⟨rfl, rfl, rfl⟩
    · rw [(nI_no h).2]; exact Or.inl ⟨by decide, by decide⟩
  have K1 := turn_le (x := rn (a * b) (2 ^ j.toNat)) (y := rn (-a * b) (2 ^ j.toNat)) (by rw [Int.neg_mul, rn_neg _ (pow_ne _)])
  have A0 := fun W : World => fmul_N (w := W) ha hb j0 j1
  have A1 := fun W : World => fmul_N (w := W) hn hb j0 j1
  by_cases h0 : b = 0
  · have B0 := fun W : World => fdiv_zero (w := W) ha j0 j1
    have B1 := fun W : World => fdiv_zero (w := W) hn j0 j1
    rw [← h0] at B0 B1
    exact FixSides_by ha k0 k1 k2 k3 rfl A0 A1 A2 B0 B1 A5 A6 A7 A8 (Lib.hid K1) (Lib.hid (Or.inl ⟨by decide, by decide⟩)) (Lib.hid K3)
  · have K2 := turn_le (x := rn (b.sign * (a * ((2 ^ j.toNat : Nat) : Int))) b.natAbs) (y := rn (b.sign * (-a * ((2 ^ j.toNat : Nat) : Int))) b.natAbs) (by rw [Int.neg_mul, Int.mul_neg, rn_neg _ (by omega)])
    exact FixSides_by ha k0 k1 k2 k3 rfl A0 A1 A2 (fun W => fdiv_N ha hb h0 j0 j1) (fun W => fdiv_N hn hb h0 j0 j1) A5 A6 A7 A8 (Lib.hid K1) (Lib.hid K2) (Lib.hid K3)

end Go.Proofs.Ytccigpnebejbiaa
