/-
  The contracts of nat.pairs and of the iterator that it hands back.
-/
import Derived.RangeFuncNested
import Derived.RangeFuncBox
import Derived.RangeFuncBound
import Derived.RangeFuncCalls
import Derived.RangeFuncLeaves
import Derived.Shelf.Abstract
import Derived.Shelf.RegionOpen
import Derived.WalkKit
import Derived.WalkSpells
import Derived.OwnWalkIn
import Derived.TacticsInMore
import Derived.LoopNIn
import Derived.LoopIn
import Derived.Maps.AppendAt
import Derived.Lib.Hide
import Derived.Test.YtogdckajgkncdaaLimb
namespace Go.Proofs.Ytogdckajgkncdaa
open Go.RowKit Go.Shelf

attribute [local go_sem] Oper.semAt_some

/-- nat.pairs: both slices are boxed; the function value captures the boxes. -/
theorem pairs_any (a b : Value) (A B : Option Addr) (n c m d : Nat) (ha : a = .slice A n c) (hb : b = .slice B m d) (w : World) :
    Calls Try.prog 47 #[a, b] w fun e w' => e = .returned (.func (.func 53) #[] #[.pointer (some ⟨w.heap.size, 0, none⟩), .pointer (some ⟨w.heap.size + 1, 0, none⟩)]) ∧ w' = (w.alloc (.cells #[a] 23)).alloc (.cells #[b] 23) := by
  subst ha hb
  go_enter Try.func47, Try.ntmps47
  go_wp2
  go_ret
  exact ⟨rfl, rfl⟩

/-- A pair of digits. -/
abbrev Pair := { x : Nat × Nat // x.1 < B64 ∧ x.2 < B64 }
/-- The pair at place j; noughts behind the end. -/
def pairAt {la lb : List Nat} (ha : Dig la) (hb : Dig lb) (j : Nat) : Pair := ⟨(la[j]?.getD 0, lb[j]?.getD 0), ha.get j, hb.get j⟩
/-- What has come when k rounds are over. -/
def upto {la lb : List Nat} (ha : Dig la) (hb : Dig lb) (k : Nat) : List Pair := (List.range k).map (pairAt ha hb)
section
variable {la lb : List Nat} (ha : Dig la) (hb : Dig lb)
theorem upto_zero : upto ha hb 0 = [] := rfl
theorem upto_succ (k : Nat) : upto ha hb (k + 1) = upto ha hb k ++ [pairAt ha hb k] := by simp [upto, List.range_succ]
theorem upto_length (k : Nat) : (upto ha hb k).length = k := by simp [upto]
end

/-- What a round keeps: all that lies below n, and the two boxes of the iterator. -/
def Keep (n₀ Ba Bb : Nat) (W W' : World) : Prop := Below n₀ W W' ∧ W'.heap[Ba]? = W.heap[Ba]? ∧ W'.heap[Bb]? = W.heap[Bb]?
theorem Keep.refl (n₀ Ba Bb : Nat) (W : World) : Keep n₀ Ba Bb W W := ⟨Below.refl _ _, rfl, rfl⟩
theorem Keep.trans {n₀ Ba Bb : Nat} {W W' W'' : World} (h : Keep n₀ Ba Bb W W') (k : Keep n₀ Ba Bb W' W'') : Keep n₀ Ba Bb W W'' := ⟨h.1.trans k.1, k.2.1.trans h.2.1, k.2.2.trans h.2.2⟩

/-- What is known behind a call of yield that has answered bv. -/
def PostY (J Jx : List Pair → World → Prop) (pre : List Pair) (n₀ Ba Bb : Nat) (W : World) (bv : Bool) (W' : World) : Prop :=
  (bv = true ∧ J pre W' ∧ Keep n₀ Ba Bb W W') ∨ (bv = false ∧ Jx pre W')

set_option maxRecDepth 100000 in
set_option maxHeartbeats 2000000 in
theorem pairs1_in (l Ba Bb n₀ : Nat) (A B : Option Addr) (n c m d : Nat) (la lb : List Nat) (dga : Dig la) (dgb : Dig lb) (J Jx : List Pair → World → Prop)
    (hn : n ≤ 4294967296) (hm : m ≤ 4294967296)
    (hY : ∀ pre x W, J pre W → pre.length < max n m → YieldAt Fence.wide 8 Try.prog l #[.int .u64 (x.1.1 : Int), .int .u64 (x.1.2 : Int)] W fun e W' =>
      (e = .returned (.bool true) ∧ J (pre ++ [x]) W' ∧ Keep n₀ Ba Bb W W') ∨ (e = .returned (.bool false) ∧ Jx (pre ++ [x]) W'))
    (hJ : ∀ pre W, J pre W → J pre W.drew)
    (W : World)
    (hca : Boxed W Ba 23 (.slice A n c)) (hcb : Boxed W Bb 23 (.slice B m d))
    (ha : Lim n₀ W A n c la) (hb : Lim n₀ W B m d lb) (h0 : J [] W) :
    CallsIn Fence.wide 9 Try.prog 53 #[.func (.yield l) #[] #[], .pointer (some ⟨Ba, 0, none⟩), .pointer (some ⟨Bb, 0, none⟩)] W fun e W' => (∃ v, e = .returned v) ∧
      ((∃ ys, ys = upto dga dgb (max n m) ∧ J ys W') ∨ (∃ pre, (∃ k, k ≤ max n m ∧ pre = upto dga dgb k) ∧ Jx pre W')) := by
  have hmo : Try.prog.follows .mixedOrders = true := by kernel_rfl
  have hca' := hca.cell
  have hcb' := hcb.cell
  refine callsIn_of_wp Try.func53 rfl trivial ?_ rfl
  simp only [Try.ntmps53, List.size_toArray, List.length_cons, List.length_nil, Nat.reduceAdd, Nat.reduceSub, Array.replicate_succ, Array.replicate_zero, List.push_toArray, List.append_toArray, List.nil_append, List.cons_append]
  gi_wp2
  clear hca' hcb'
  all_goals
    gi_loopw [10] (fun i wr => ∃ k : Nat, k ≤ max n m ∧ i = .int .i64 k ∧ J (upto dga dgb k) wr ∧ Keep n₀ Ba Bb W wr)
      (fun i _ => max n m - (intOf i).toNat)
    case atStart => exact ⟨0, Nat.zero_le _, rfl, h0, Keep.refl _ _ _ _⟩
    case round =>
      obtain ⟨k, hk, rfl, hJs, hkp⟩ := hrel
      by_cases hlt : k < max n m
      · have hc1 : wr.cell? ⟨Ba, 0, none⟩ = some (.slice A n c) := Boxed.cell (hkp.2.1.trans hca)
        have hc2 : wr.cell? ⟨Bb, 0, none⟩ = some (.slice B m d) := Boxed.cell (hkp.2.2.trans hcb)
        have hla : Lim n₀ wr.drew A n c la := (ha.below hkp.1).drew
        have hlb : Lim n₀ wr.drew B m d lb := (hb.below hkp.1).drew
        obtain ⟨fn, tmps, assign, body, hy, hR⟩ := hY _ (pairAt dga dgb k) wr.drew (hJ _ _ hJs) (by rw [upto_length]; exact hlt)
        dsimp only [pairAt] at hy
        have hR' : RoundIn Fence.wide 8 Try.prog l fn tmps assign body wr.drew fun e W' => ∃ bv : Bool, e = .returned (.bool bv) ∧ PostY J Jx (upto dga dgb (k + 1)) n₀ Ba Bb wr bv W' := hR.mono fun e W' h => by
          rw [upto_succ]
          rcases h with ⟨rfl, h1, h2⟩ | ⟨rfl, h1⟩
          · exact ⟨true, rfl, .inl ⟨rfl, h1, ⟨(Below.refl n₀ wr).drew.trans h2.1, h2.2.1, h2.2.2⟩⟩⟩
          · exact ⟨false, rfl, .inr ⟨rfl, h1⟩⟩
        clear hR
        gi_wp2
        gi_region_with_o (first
          | (refine ⟨trivial, ?_⟩; gi_at_call 54; refine (callsIn_wide.2 (limb_any n₀ _ _ _ _ _ _ (by assumption) (by omega) (by omega))).mono ?_; rintro e w' ⟨rfl, rfl⟩)
          | (refine hR'.mono ?_; rintro e W3 ⟨bv, rfl, hpost⟩))
        all_goals
          rcases hpost with ⟨rfl, hJ3, hk3⟩ | ⟨rfl, hJx3⟩
          · gi_wp2
            go_roundw
            case rel => exact ⟨k + 1, by omega, by go_num, hJ3, hkp.trans hk3⟩
            case measure => simp [intOf]; omega
          · gi_wp2
            refine bodyPost_ret (results_none rfl _ _ _) rfl ?_
            exact ⟨⟨_, rfl⟩, .inr ⟨_, ⟨k + 1, by omega, rfl⟩, hJx3⟩⟩
      · obtain rfl : k = max n m := by omega
        gi_wp2
        go_end0
        exact ⟨⟨_, rfl⟩, .inl ⟨_, rfl, hJs⟩⟩

/-- The iterator's contract, as a loop over it wants it. -/
theorem pairs_stops (Ba Bb n₀ : Nat) (A B : Option Addr) (n c m d : Nat) (la lb : List Nat) (dga : Dig la) (dgb : Dig lb)
    (hn : n ≤ 4294967296) (hm : m ≤ 4294967296) (w : World) (hBn : n₀ ≤ w.heap.size)
    (hca : Boxed w Ba 23 (.slice A n c)) (hcb : Boxed w Bb 23 (.slice B m d)) (ha : Lim n₀ w A n c la) (hb : Lim n₀ w B m d lb) :
    SeqStopsK Fence.wide 9 Try.prog 53 #[.pointer (some ⟨Ba, 0, none⟩), .pointer (some ⟨Bb, 0, none⟩)] (fun x : Pair => #[Value.int .u64 (x.1.1 : Int), Value.int .u64 (x.1.2 : Int)])
      (Keep n₀ Ba Bb) (fun ys => ys = upto dga dgb (max n m)) (fun pre => ∃ k, k ≤ max n m ∧ pre = upto dga dgb k) (max n m) w := fun l J Jx W hW hJa _ hY h0 =>
  pairs1_in l Ba Bb n₀ A B n c m d la lb dga dgb J Jx hn hm hY (fun pre W' hj => hJa pre W' W'.drew none hj ⟨rfl, rfl, rfl, Nat.le_refl _, fun _ _ _ => rfl⟩ (fun _ h => by cases h)) W
    ((hW.block Ba hca.lt).trans hca) ((hW.block Bb hcb.lt).trans hcb) (ha.below (hW.mono hBn)) (hb.below (hW.mono hBn)) h0

theorem keep_b {w : World} {n₀ Ba Bb : Nat} (hn : n₀ ≤ w.heap.size) (ha : Ba < w.heap.size) (hb : Bb < w.heap.size) (W : World) (l : Nat) (o o' : Obj) (hl : w.heap.size ≤ l) (ho : W.heap[l]? = some o) (hc : o.isCells = false) (hw : o.isWalk = false) :
    Keep n₀ Ba Bb W (W.putObj l o') :=
  ⟨belowK_b hn W l o o' hl ho hc hw, World.putObj_heap_other (by omega), World.putObj_heap_other (by omega)⟩

end Go.Proofs.Ytogdckajgkncdaa
