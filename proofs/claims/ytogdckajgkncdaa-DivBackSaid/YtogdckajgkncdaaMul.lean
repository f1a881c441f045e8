/-
  The contract of nat.Mul.
-/
import Derived.Test.YtogdckajgkncdaaTimes
namespace Go.Proofs.Ytogdckajgkncdaa
open Go.RowKit

theorem made_zero (n : Nat) : (madeCells (Value.int .u64 0).cells (n * 1)).toList = (List.replicate n 0).map encD := by
  rw [Nat.mul_one, show (Value.int .u64 0).cells = #[Value.int .u64 0] from rfl, toList_madeCells_one, List.map_replicate]
  rfl

theorem val_zeros (n : Nat) : val (List.replicate n 0) = 0 := by
  induction n with
  | zero => rfl
  | succ n ih => rw [List.replicate_succ, val_cons, ih]; simp
theorem dig_zeros (n : Nat) : Dig (List.replicate n 0) := fun x hx => by rw [(List.mem_replicate.1 hx).2]; exact B64_pos
theorem get_zeros (n j : Nat) : (List.replicate n 0)[j]?.getD 0 = 0 := by
  by_cases h : j < n <;> simp [h]

end Go.Proofs.Ytogdckajgkncdaa
