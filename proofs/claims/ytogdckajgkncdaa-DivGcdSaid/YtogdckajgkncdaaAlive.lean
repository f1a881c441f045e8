/-
  The contract of the law's 'alive': it answers true.
-/
import Derived.Test.YtogdckajgkncdaaN
namespace Go.Proofs.Ytogdckajgkncdaa
open Go.RowKit

theorem seven_lt : (7 : Nat) < B64 := by unfold B64; omega
theorem top_digit (w : World) : Num (w.alloc (.cells #[.int .u64 18446744073709551615] 38)) (some ⟨w.heap.size, 0, none⟩) 1 1 (B64 - 1) := by
  obtain ⟨A, n, c, e, hl⟩ := isN_new (x := B64 - 1) (by have := B64_gt; omega) (by have := B64_gt; omega) w 38
  injection e with e1 e2 e3
  subst e1; subst e2; subst e3
  exact hl
theorem len_small {x k : Nat} (h : x < B64 ^ k) (hk : k ≤ 2147483648) : (limbs x).length ≤ 2147483648 := Nat.le_trans (limbs_length_le h) hk
theorem cmp_seven {w : World} {A B : Option Addr} {n c m d : Nat} (ha : Num w A n c B64) (hb : Num w B m d 7) : Calls Try.prog 37 #[.slice A n c, .slice B m d] w (GotV w (.int .i64 1)) := by
  have h := cmp_N ha hb (by rw [limbs_B64]; simp) (len_small (k := 1) (by unfold B64; omega) (by omega))
  rwa [cmpN_gt (by unfold B64; omega)] at h
end Go.Proofs.Ytogdckajgkncdaa
