/-
  The contract of math/bits.Mul64.
-/
import Derived.Test.YtogdckajgkncdaaLimb
import Derived.Test.YtogdckajgkncdaaMathB
namespace Go.Proofs.Ytogdckajgkncdaa
open Go.RowKit

theorem mul_split (M a b c d : Nat) : (M * a + b) * (M * c + d) = M * M * (a * c) + M * (a * d) + M * (b * c) + b * d := by
  rw [Nat.add_mul, Nat.mul_add, Nat.mul_add]
  have e1 : M * a * (M * c) = M * M * (a * c) := by ac_rfl
  have e2 : M * a * d = M * (a * d) := by ac_rfl
  have e3 : b * (M * c) = M * (b * c) := by ac_rfl
  rw [e1, e2, e3]
  omega

theorem u64_and32 (n : Int) : bits .and .u64 n 4294967295 = n % 4294967296 := by
  have h1 : (BitVec.ofInt 64 4294967295).toNat = 2 ^ 32 - 1 := by decide
  have key : (BitVec.ofInt 64 n &&& BitVec.ofInt 64 4294967295).toNat = (n % ((2 ^ 64 : Nat) : Int)).toNat % 2 ^ 32 := by
    rw [BitVec.toNat_and, BitVec.toNat_ofInt, h1, Nat.and_two_pow_sub_one_eq_mod]
  show IntKind.u64.wrap ((BitVec.ofInt 64 n &&& BitVec.ofInt 64 4294967295).toNat : Nat) = n % 4294967296
  rw [key, IntKind.wrap_u64]
  omega

theorem part_le {a b : Nat} (ha : a < 4294967296) (hb : b < 4294967296) : a * b ≤ 18446744065119617025 := by
  have : a * b ≤ 4294967295 * 4294967295 := Nat.mul_le_mul (by omega) (by omega)
  omega

/-- The upper half of a product, out of four products of halves. -/
theorem mul_hi (p q r s : Nat) (hp : p ≤ 18446744065119617025) (hq : q ≤ 18446744065119617025) (hr : r ≤ 18446744065119617025) (hs : s ≤ 18446744065119617025) :
    (((p : Int) % 18446744073709551616 + ((q : Int) % 18446744073709551616 + (s : Int) % 18446744073709551616 / 4294967296) % 18446744073709551616 / 4294967296) % 18446744073709551616 +
      (((q : Int) % 18446744073709551616 + (s : Int) % 18446744073709551616 / 4294967296) % 18446744073709551616 % 4294967296 + (r : Int) % 18446744073709551616) % 18446744073709551616 / 4294967296) % 18446744073709551616 =
    ((18446744073709551616 * p + 4294967296 * q + 4294967296 * r + s) / 18446744073709551616 : Nat) := by
  omega

theorem ret_two {a b a' b' : Int} (h : a = a') (k : b = b') : Ending.returned (.tuple #[.int .u64 a, .int .u64 b]) = .returned (.tuple #[.int .u64 a', .int .u64 b']) := by rw [h, k]

theorem mul64_hi (x y : Nat) (hx : x < B64) (hy : y < B64) :
    IntKind.u64.wrap (IntKind.u64.wrap (IntKind.u64.wrap ((x : Int) / 4294967296 * ((y : Int) / 4294967296)) + IntKind.u64.wrap (IntKind.u64.wrap ((x : Int) / 4294967296 * bits .and .u64 (y : Int) 4294967295) + IntKind.u64.wrap (bits .and .u64 (x : Int) 4294967295 * bits .and .u64 (y : Int) 4294967295) / 4294967296) / 4294967296) +
      IntKind.u64.wrap (bits .and .u64 (IntKind.u64.wrap (IntKind.u64.wrap ((x : Int) / 4294967296 * bits .and .u64 (y : Int) 4294967295) + IntKind.u64.wrap (bits .and .u64 (x : Int) 4294967295 * bits .and .u64 (y : Int) 4294967295) / 4294967296)) 4294967295 + IntKind.u64.wrap (bits .and .u64 (x : Int) 4294967295 * ((y : Int) / 4294967296))) / 4294967296) =
    ((x * y / B64 : Nat) : Int) := by
  simp only [u64_and32, IntKind.wrap_u64]
  have hx1 : x / 4294967296 < 4294967296 := by unfold B64 at hx; omega
  have hy1 : y / 4294967296 < 4294967296 := by unfold B64 at hy; omega
  have hx0 : x % 4294967296 < 4294967296 := Nat.mod_lt _ (by omega)
  have hy0 : y % 4294967296 < 4294967296 := Nat.mod_lt _ (by omega)
  have hm := mul_split 4294967296 (x / 4294967296) (x % 4294967296) (y / 4294967296) (y % 4294967296)
  rw [Nat.div_add_mod, Nat.div_add_mod] at hm
  have h := mul_hi _ _ _ _ (part_le hx1 hy1) (part_le hx1 hy0) (part_le hx0 hy1) (part_le hx0 hy0)
  have e1 : ((x : Int) / 4294967296 * ((y : Int) / 4294967296)) = ((x / 4294967296 * (y / 4294967296) : Nat) : Int) := by simp
  have e2 : ((x : Int) / 4294967296 * ((y : Int) % 4294967296)) = ((x / 4294967296 * (y % 4294967296) : Nat) : Int) := by simp
  have e3 : ((x : Int) % 4294967296 * ((y : Int) / 4294967296)) = ((x % 4294967296 * (y / 4294967296) : Nat) : Int) := by simp
  have e4 : ((x : Int) % 4294967296 * ((y : Int) % 4294967296)) = ((x % 4294967296 * (y % 4294967296) : Nat) : Int) := by simp
  rw [e1, e2, e3, e4, h, hm]
  rfl

theorem mul64_lo (x y : Nat) : IntKind.u64.wrap ((x : Int) * (y : Int)) = ((x * y % B64 : Nat) : Int) := by
  rw [IntKind.wrap_u64, show (18446744073709551616 : Int) = (B64 : Int) from rfl]
  simp

set_option maxHeartbeats 1000000 in
theorem mul64_any (x y : Nat) (w : World) (hx : x < B64) (hy : y < B64) :
    Calls Try.prog 57 #[.int .u64 (x : Int), .int .u64 (y : Int)] w fun e w' => e = .returned (.tuple #[.int .u64 (mulHi x y : Int), .int .u64 (mulLo x y : Int)]) ∧ w = w' := by
  go_enter Try.func57, Try.ntmps57
  go_wp2
  go_ret2
  exact ⟨ret_two (mul64_hi x y hx hy) (mul64_lo x y), rfl⟩

end Go.Proofs.Ytogdckajgkncdaa
