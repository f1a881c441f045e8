/-
  The contract of math/bits.Len64: how many binary figures a digit has.
-/
import Derived.Lib.Strings
import Derived.Lib.Slices
import Derived.Lib.Small
import Derived.Lib.Walk
import Derived.Lib.BitFns
import Derived.Lib.ItoaNum
import Derived.Test.YtogdckajgkncdaaLimb
namespace Go.Proofs.Ytogdckajgkncdaa
open Go.RowKit

/-- How many binary figures. -/
def blen (x : Nat) : Nat := if x = 0 then 0 else Nat.log2 x + 1
theorem blen_zero : blen 0 = 0 := rfl
theorem blen_le {x k : Nat} (h : x < 2 ^ k) : blen x ≤ k := by
  unfold blen
  split
  · omega
  · have := (Nat.log2_lt (by omega)).2 h; omega
theorem lt_blen (x : Nat) : x < 2 ^ blen x := by
  unfold blen
  split
  · omega
  · exact (Nat.log2_lt (by omega)).1 (Nat.lt_succ_self _)
theorem blen_ge {x : Nat} (h : x ≠ 0) : 2 ^ (blen x - 1) ≤ x := by
  unfold blen
  rw [if_neg h, Nat.add_sub_cancel]
  exact Nat.log2_self_le h
theorem blen_pos {x : Nat} (h : x ≠ 0) : 0 < blen x := by unfold blen; rw [if_neg h]; omega
/-- The two bounds tell it. -/
theorem blen_eq {x k : Nat} (h1 : 2 ^ k ≤ x) (h2 : x < 2 ^ (k + 1)) : blen x = k + 1 := by
  have h3 := blen_le h2
  have h4 := lt_blen x
  have h5 : 2 ^ k < 2 ^ blen x := by omega
  have := (Nat.pow_lt_pow_iff_right (a := 2) (by omega)).1 h5
  omega

theorem bitLen_blen (x : Nat) (hx : x < 18446744073709551616) : Lib.bitLen x = blen x := by
  by_cases h : x = 0
  · subst h; rfl
  · obtain ⟨h1, h2, h3⟩ := Lib.bitLenAux_bounds 64 x (by simpa using hx) h
    obtain ⟨k, hk⟩ : ∃ k, Lib.bitLen x = k + 1 := ⟨Lib.bitLenAux 64 x - 1, by unfold Lib.bitLen; omega⟩
    have h2' : 2 ^ k ≤ x := by have := h2; rw [show Lib.bitLenAux 64 x = k + 1 from hk] at this; simpa using this
    have h3' : x < 2 ^ (k + 1) := by have := h3; rw [show Lib.bitLenAux 64 x = k + 1 from hk] at this; exact this
    rw [hk, blen_eq h2' h3']

/-- One way through the table: k figures are cut off. -/
theorem len_way (x q : Int) (k D : Nat) (hx : x ≤ 18446744073709551615) (hD : D = 2 ^ k) (hq : q.toNat = x.toNat / D) (hk : k = 0 ∨ D ≤ x.toNat) (h : q.toNat < 256) (hk2 : k ≤ 56) (hlt : q.toNat < Lib.len8tab.size) :
    wrap64 ((k : Int) + wrap64 ((Lib.len8tab[q.toNat]'hlt).toNat : Int)) = (blen x.toNat : Int) := by
  have e1 : ((Lib.len8tab[q.toNat]'hlt).toNat : Int) = Lib.len8 (q.toNat : Int) := by
    unfold Lib.len8
    rw [Int.toNat_natCast, getElem?_pos Lib.len8tab q.toNat hlt]
    rfl
  have hb := Lib.bitLen_le8' (q.toNat : Int) (by omega) (by omega)
  rw [e1, Lib.len8_of _ (by omega) (by omega)]
  rw [Int.toNat_natCast] at hb ⊢
  have e2 : k + Lib.bitLen q.toNat = blen x.toNat := by
    rw [← bitLen_blen x.toNat (by omega)]
    rcases hk with rfl | hk
    · subst hD; rw [hq]; simp
    · rw [Lib.bitLen_shift k x.toNat (by rw [← hD]; exact hk) (by simp; omega), hq, hD]
  rw [← e2, IntWalk.wrap64_in ((Lib.bitLen q.toNat : Nat) : Int) ⟨by omega, by omega⟩, IntWalk.wrap64_in _ ⟨by omega, by omega⟩]
  omega

set_option maxHeartbeats 4000000 in
set_option maxRecDepth 100000 in
theorem len64_int (x : Int) (w : World) (h0 : 0 ≤ x) (h1 : x ≤ 18446744073709551615) :
    Calls Try.prog 49 #[.int .u64 x] w fun e w' => e = .returned (.int .i64 (blen x.toNat : Int)) ∧ w = w' := by
  have hs := Lib.len8tab_size
  go_enter Try.func49, Try.ntmps49
  go_wp2
  all_goals (go_ret; refine ⟨congrArg Ending.returned (congrArg (Value.int IntKind.i64) ?_), rfl⟩)
  all_goals first
    | exact len_way x _ 56 72057594037927936 h1 rfl (by omega) (.inr (by omega)) (by omega) (by omega) _
    | exact len_way x _ 48 281474976710656 h1 rfl (by omega) (.inr (by omega)) (by omega) (by omega) _
    | exact len_way x _ 40 1099511627776 h1 rfl (by omega) (.inr (by omega)) (by omega) (by omega) _
    | exact len_way x _ 32 4294967296 h1 rfl (by omega) (.inr (by omega)) (by omega) (by omega) _
    | exact len_way x _ 24 16777216 h1 rfl (by omega) (.inr (by omega)) (by omega) (by omega) _
    | exact len_way x _ 16 65536 h1 rfl (by omega) (.inr (by omega)) (by omega) (by omega) _
    | exact len_way x _ 8 256 h1 rfl (by omega) (.inr (by omega)) (by omega) (by omega) _
    | (have e := len_way x x 0 1 h1 rfl (by omega) (.inl rfl) (by omega) (by omega) (by omega)
       simpa using e)

theorem len64_any (x : Nat) (w : World) (hx : x < B64) :
    Calls Try.prog 49 #[.int .u64 (x : Int)] w fun e w' => e = .returned (.int .i64 (blen x : Int)) ∧ w = w' :=
  len64_int x w (by omega) (by unfold B64 at hx; omega)

end Go.Proofs.Ytogdckajgkncdaa
