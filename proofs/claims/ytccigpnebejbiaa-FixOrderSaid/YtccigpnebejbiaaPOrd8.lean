/-
  What puts the ways of FixOrder together.
-/
import Derived.Test.YtccigpnebejbiaaWOrd8
namespace Go.Proofs.Ytccigpnebejbiaa
set_option maxRecDepth 100000
open Go.RowKit
set_option linter.unusedVariables false
set_option linter.unusedSimpArgs false

theorem root_mono {a b : Nat} (h : a ≤ b) : iroot 2 a ≤ iroot 2 b := (le_iroot (by omega)).2 (Nat.le_trans (iroot_pow a (by omega)) h)

set_option maxRecDepth 100000 in
set_option maxHeartbeats 8000000 in
theorem FixOrder_walk {w : World} (a : Int) (wa : (Lit.int .i64 a).wf = true) (b : Int) (wb : (Lit.int .i64 b).wf = true) (c d : Int) (wc : (Lit.int .i64 c).wf = true) (wd : (Lit.int .i64 d).wf = true) :
    Calls Try.prog 5 #[.int .i64 a, .int .i64 b, .agg #[.int .i64 c, .int .i64 d]] w (fun e w' => e = .returned (.bool true) ∧ Below w.heap.size w w') := by
  have ha := i64_wf wa
  have hb := i64_wf wb
  have hc := i64_wf wc
  by_cases h0 : b < a
  · exact FixOrder_gt h0
  by_cases h1 : c ≤ 0
  · exact FixOrder_low h0 h1
  obtain ⟨j0, j1⟩ := and31 d
  have j2 : bits .and .i64 d 31 ≤ 40 := by omega
  have hn : c ≠ 0 := by omega
  have hs : c.sign = 1 := Int.sign_eq_one_of_pos (by omega)
  have K1 := rel_le (rn_mono (pow_ne (bits .and .i64 d 31).toNat) (Int.mul_le_mul_of_nonneg_right (show a ≤ b by omega) (show 0 ≤ c by omega)))
  have K2 := rel_le (rn_mono (d := c.natAbs) (n := c.sign * (a * ((2 ^ (bits .and .i64 d 31).toNat : Nat) : Int))) (m := c.sign * (b * ((2 ^ (bits .and .i64 d 31).toNat : Nat) : Int))) (by omega) (by rw [hs, Int.one_mul, Int.one_mul]; exact Int.mul_le_mul_of_nonneg_right (by omega) (Int.natCast_nonneg _)))
  have K3 := rel_add (a := a) (b := b) (c := c) (by omega)
  have A := fun W : World => fsqrt_N (w := W) (a := b) hb (j := bits .and .i64 d 31)
  by_cases h2 : a < 0
  · by_cases h3 : b < 0
    · exact FixOrder_by h0 h1 (fun W => fmul_N ha hc j0 j2) (fun W => fmul_N hb hc j0 j2) (fun W => fdiv_N ha hc hn j0 j2) (fun W => fdiv_N hb hc hn j0 j2) (fun W => fadd_N ha hc) (fun W => fadd_N hb hc) (fun W => fsqrt_neg ha h2 j0 j2) (fun W => fsqrt_neg hb h3 j0 j2) (Lib.hid K1) (Lib.hid K2) (Lib.hid K3) (Lib.hid (Or.inl ⟨decide_eq_true h2, rfl⟩))
    · exact FixOrder_by h0 h1 (fun W => fmul_N ha hc j0 j2) (fun W => fmul_N hb hc j0 j2) (fun W => fdiv_N ha hc hn j0 j2) (fun W => fdiv_N hb hc hn j0 j2) (fun W => fadd_N ha hc) (fun W => fadd_N hb hc) (fun W => fsqrt_neg ha h2 j0 j2) (fun W => A W (by omega) j0 j2) (Lib.hid K1) (Lib.hid K2) (Lib.hid K3) (Lib.hid (Or.inl ⟨decide_eq_true h2, rfl⟩))
  · exact FixOrder_by h0 h1 (fun W => fmul_N ha hc j0 j2) (fun W => fmul_N hb hc j0 j2) (fun W => fdiv_N ha hc hn j0 j2) (fun W => fdiv_N hb hc hn j0 j2) (fun W => fadd_N ha hc) (fun W => fadd_N hb hc) (fun W => fsqrt_N ha (by omega) j0 j2) (fun W => A W (by omega) j0 j2) (Lib.hid K1) (Lib.hid K2) (Lib.hid K3) (Lib.hid (Or.inr ⟨decide_eq_false h2, rfl, rfl, decide_eq_true (Int.ofNat_le.2 (root_mono (Nat.mul_le_mul_right _ (by omega))))⟩))

end Go.Proofs.Ytccigpnebejbiaa
