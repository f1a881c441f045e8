/-
  What the library's Add64 and Sub64 answer, as equations for a walk.
-/
import Derived.Test.YtogdckajgkncdaaWords
import Derived.Test.YtogdckajgkncdaaRows
import Derived.Laws.Externs
import Derived.WalkKit
namespace Go.Proofs.Ytogdckajgkncdaa
open Go.RowKit

def tup64 (a b : Nat) : Value := .tuple #[.int .u64 (a : Int), .int .u64 (b : Int)]

theorem B64_m64 : Extern.MathBitsCarry.m64 = B64 := by unfold Extern.MathBitsCarry.m64 B64; omega

theorem add64_run (x y c : Nat) (hc : c ≤ 1) (w : World) :
    (callFunc 58 #[.int .u64 (x : Int), .int .u64 (y : Int), .int .u64 (c : Int)]).run Try.prog w = .ok (.value (.tuple #[.int .u64 (sumLo x y c : Int), .int .u64 (sumHi x y c : Int)])) w := by
  rw [run_callFunc_extern (e := add64Entry) Try.func58 (by kernel_rfl) (by kernel_rfl) (by kernel_rfl) (by kernel_rfl)]
  have key : ∀ k : Nat, k ≤ 1 → (add64Entry #[.int .u64 (x : Int), .int .u64 (y : Int), .int .u64 (k : Int)]).run Try.prog w =
      .ok (Extern.MathBitsCarry.pair ((x + y + k) % Extern.MathBitsCarry.m64) ((x + y + k) / Extern.MathBitsCarry.m64)) w := by
    intro k hk
    have : k = 0 ∨ k = 1 := by omega
    rcases this with rfl | rfl <;> rfl
  rw [key c hc, B64_m64]
  rfl

def sub64Entry : Array Value → Sem Value := fun args => do
  let (x, y, b) ← Extern.MathBitsCarry.three "Sub64" args
  pure (Extern.MathBitsCarry.pair ((x + Extern.MathBitsCarry.m64 - y - b) % Extern.MathBitsCarry.m64) (if x < y + b then 1 else 0))

theorem sub64_run (x y c : Nat) (hc : c ≤ 1) (w : World) :
    (callFunc 59 #[.int .u64 (x : Int), .int .u64 (y : Int), .int .u64 (c : Int)]).run Try.prog w = .ok (.value (.tuple #[.int .u64 (subLo x y c : Int), .int .u64 (subHi x y c : Int)])) w := by
  rw [run_callFunc_extern (e := sub64Entry) Try.func59 (by kernel_rfl) (by kernel_rfl) (by kernel_rfl) (by kernel_rfl)]
  have key : ∀ k : Nat, k ≤ 1 → (sub64Entry #[.int .u64 (x : Int), .int .u64 (y : Int), .int .u64 (k : Int)]).run Try.prog w =
      .ok (Extern.MathBitsCarry.pair ((x + Extern.MathBitsCarry.m64 - y - k) % Extern.MathBitsCarry.m64) (if x < y + k then 1 else 0)) w := by
    intro k hk
    have : k = 0 ∨ k = 1 := by omega
    rcases this with rfl | rfl <;> rfl
  rw [key c hc, B64_m64]
  rfl

end Go.Proofs.Ytogdckajgkncdaa
