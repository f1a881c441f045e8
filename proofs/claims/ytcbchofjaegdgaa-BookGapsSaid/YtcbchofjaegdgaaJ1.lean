/-
  The landed book: what its iterator tells (middles, and the function value that it answers).
-/
import Derived.RangeFuncNested
import Derived.RangeFuncBox
import Derived.RangeFuncBound
import Derived.RangeFuncCalls
import Derived.RangeFuncLeaves
import Derived.Shelf.Abstract
import Derived.Shelf.RegionOpen
import Derived.WalkKit
import Derived.WalkSpells
import Derived.OwnWalkIn
import Derived.TacticsInMore
import Derived.LoopNIn
import Derived.LoopIn
import Derived.Maps.AppendAt
import Derived.Lib.Hide
import Derived.Test.YtcbchofjaegdgaaB5
namespace Go.Proofs.Ytcbchofjaegdgaa
set_option maxRecDepth 100000
open Go.RowKit Go.Shelf
set_option linter.unusedVariables false
set_option linter.unusedSimpArgs false

attribute [local go_sem] Oper.semAt_some

/-- A number that the iterator tells. -/
abbrev Mid := { x : Nat // x ≤ 400000000000 }
def mkM (x : Nat) : Mid := ⟨min x 400000000000, Nat.min_le_right _ _⟩
theorem mkM_val {x : Nat} (h : x ≤ 400000000000) : (mkM x).1 = x := Nat.min_eq_left h
/-- The first m numbers of decade i; the first i decades. -/
def toldk (n i m : Nat) : List Mid := (List.range m).map fun j => mkM (p9 n i j)
def told (s : Bool) (i : Nat) : List Mid := (List.range i).flatMap fun r => toldk (many9 s r) r (many9 s r)
theorem toldk_succ (n i m : Nat) : toldk n i (m + 1) = toldk n i m ++ [mkM (p9 n i m)] := by unfold toldk; rw [List.range_succ, List.map_append]; rfl
theorem toldk_zero (n i : Nat) : toldk n i 0 = [] := rfl
theorem toldk_len (n i m : Nat) : (toldk n i m).length = m := by unfold toldk; simp
theorem told_succ (s : Bool) (k : Nat) : told s (k + 1) = told s k ++ toldk (many9 s k) k (many9 s k) := by unfold told; rw [List.range_succ, List.flatMap_append]; simp
theorem told_zero (s : Bool) : told s 0 = [] := rfl
/-- How many it tells. -/
def N9 (s : Bool) : Nat := if s then 127 else 254
theorem told_room (s : Bool) {i : Nat} (hi : i ≤ 6) : (told s i).length + many9 s i ≤ N9 s := by
  have h : ∀ s : Bool, ∀ i : Fin 7, (told s i.1).length + many9 s i.1 ≤ N9 s := by decide +kernel
  exact h s ⟨i, by omega⟩
theorem many9_succ (s : Bool) (i : Nat) : many9 s i * 2 = many9 s (i + 1) := by unfold many9; cases s <;> simp [Nat.pow_succ]

/-- middles: its parameter lies in a box; the function value captures the box. -/
theorem middles_any (p : Int) (w : World) :
    Calls Try.prog 19 #[.int .i64 p] w fun e w' => e = .returned (.func (.func 22) #[] #[.pointer (some ⟨w.heap.size, 0, none⟩)]) ∧ w' = w.alloc (.cells #[.int .i64 p] 2) := by
  go_enter Try.func19, Try.ntmps19
  go_wp2
  go_ret
  exact ⟨rfl, rfl⟩

set_option maxRecDepth 100000 in
set_option maxHeartbeats 2000000 in
theorem mids_in (l Bq : Nat) (s : Bool) (J Jx : List Mid → World → Prop)
    (hY : ∀ pre x W, J pre W → pre.length < N9 s → YieldAt Fence.wide 8 Try.prog l #[.int .i64 (x.1 : Int)] W fun e W' =>
      (e = .returned (.bool true) ∧ J (pre ++ [x]) W' ∧ True) ∨ (e = .returned (.bool false) ∧ Jx (pre ++ [x]) W'))
    (W : World) (hq : Boxed W Bq 2 (.int .i64 ((many9 s 0 : Nat) : Int))) (h0 : J [] W) :
    CallsIn Fence.wide 9 Try.prog 22 #[.func (.yield l) #[] #[], .pointer (some ⟨Bq, 0, none⟩)] W fun e W' => (∃ v, e = .returned v) ∧
      ((∃ ys, ys = told s 7 ∧ J ys W') ∨ (∃ pre, True ∧ Jx pre W')) := by
  have hmo : Try.prog.follows .mixedOrders = true := by kernel_rfl
  have hq' := hq.cell
  obtain ⟨n0, en0⟩ : ∃ n0, many9 s 0 = n0 := ⟨_, rfl⟩
  rw [en0] at hq'
  have EN := Lib.hid en0
  clear en0 hq
  refine callsIn_of_wp Try.func22 rfl trivial ?_ rfl
  simp only [Try.ntmps22, List.size_toArray, List.length_cons, List.length_nil, Nat.reduceAdd, Nat.reduceSub, Array.replicate_succ, Array.replicate_zero, List.push_toArray, List.append_toArray, List.nil_append, List.cons_append]
  gi_wp2
  clear hq'
  gi_loopw [3, 4, 7] (fun nv tv iv wr => ∃ i : Nat, i ≤ 7 ∧ iv = .int .i64 (i : Int) ∧ nv = .int .i64 ((many9 s i : Nat) : Int) ∧ tv = .int .i64 ((10 ^ i : Nat) : Int) ∧ J (told s i) wr) (fun _ _ iv _ => 7 - (intOf iv).toNat)
  case atStart => exact ⟨0, by omega, rfl, by rw [EN.out], rfl, h0⟩
  case round =>
    clear h0
    obtain ⟨i, hi7, rfl, rfl, rfl, hJ0⟩ := hrel
    by_cases hlt : i < 7
    · have i6 : i ≤ 6 := by omega
      have hd7 : decide ((i : Int) < 7) = true := decide_eq_true (by omega)
      obtain ⟨n1, n128⟩ := many9_le s i6
      have hroom := told_room s i6
      have hsn := many9_succ s i
      have hts := told_succ s i
      have t6 : 10 ^ i ≤ 10 ^ 6 := Nat.pow_le_pow_right (by omega) i6
      have htn : 10 ^ i * 10 = 10 ^ (i + 1) := (Nat.pow_succ 10 i).symm
      have hp : ∀ j, j < many9 s i → (2 * many9 s i + 9 * (2 * j + 1)) * (128 / many9 s i) ≤ 400000 ∧ p9 (many9 s i) i j ≤ 400000000000 ∧ p9 (many9 s i) i j = (2 * many9 s i + 9 * (2 * j + 1)) * (128 / many9 s i) * 10 ^ i := fun j hj => ⟨(p9_le n1 n128 i6 hj).1, (p9_le n1 n128 i6 hj).2.2, rfl⟩
      obtain ⟨n, en⟩ : ∃ n, many9 s i = n := ⟨_, rfl⟩
      obtain ⟨ten, et⟩ : ∃ ten, 10 ^ i = ten := ⟨_, rfl⟩
      have hn2 : IntKind.i64.wrap ((n : Int) * 2) = ((n * 2 : Nat) : Int) := by rw [IntWalk.i64_in _ (by omega)]; omega
      have ht2 : IntKind.i64.wrap ((ten : Int) * 10) = ((ten * 10 : Nat) : Int) := by rw [IntWalk.i64_in _ (by omega)]; omega
      obtain ⟨n', en'⟩ : ∃ n', n * 2 = n' := ⟨_, rfl⟩
      obtain ⟨ten', et'⟩ : ∃ ten', ten * 10 = ten' := ⟨_, rfl⟩
      rw [en] at hroom hsn hts hp n1 n128 ⊢
      rw [et] at t6 htn hp ⊢
      rw [en'] at hn2 hsn
      rw [et'] at ht2 htn
      have q1 : 128 / n ≤ 128 := Nat.div_le_self _ _
      have hqv : ((128 : Int)).tdiv (n : Int) = ((128 / n : Nat) : Int) := by rw [Int.tdiv_eq_ediv_of_nonneg (by omega)]; simp
      have hqv' : ((128 : Int)) / (n : Int) = ((128 / n : Nat) : Int) := by simp
      obtain ⟨q, eq⟩ : ∃ q, 128 / n = q := ⟨_, rfl⟩
      rw [eq] at hp q1 hqv hqv'
      have nn : ¬ n = 0 := by omega
      have nb : ((n : Int) == 0) = false := by simp; omega
      have kq : IntKind.i64.wrap (q : Int) = (q : Int) := IntWalk.i64_in _ (by omega)
      obtain ⟨a, ea⟩ : ∃ a, 2 * n = a := ⟨_, rfl⟩
      have k1 : IntKind.i64.wrap ((2 : Int) * (n : Int)) = (a : Int) := by rw [IntWalk.i64_in _ (by omega)]; omega
      have EA := Lib.hid ea
      have HT6 := Lib.hid t6
      have HSN := Lib.hid hsn
      have HTS := Lib.hid hts
      have HTN := Lib.hid htn
      have HP := Lib.hid hp
      have HR := Lib.hid hroom
      clear en et en' et' eq hsn hts htn hp hroom ea t6
      gi_wp2
      gi_loopw [5, 10] (fun _ jv wr => ∃ j : Nat, j ≤ n ∧ jv = .int .i64 (j : Int) ∧ J (told s i ++ toldk n i j) wr) (fun _ jv _ => n - (intOf jv).toNat)
      case atStart => exact ⟨0, by omega, rfl, by rw [toldk_zero, List.append_nil]; exact hJ0⟩
      case round =>
        clear hJ0
        obtain ⟨j, hjn, rfl, hJj⟩ := hrel
        by_cases hj : j < n
        · obtain ⟨b1, b3, ep⟩ := HP.out j hj
          have hM := mkM_val b3
          obtain ⟨c, ec⟩ : ∃ c, 2 * j = c := ⟨_, rfl⟩
          obtain ⟨d, ed⟩ : ∃ d, c + 1 = d := ⟨_, rfl⟩
          obtain ⟨o, eo⟩ : ∃ o, 9 * d = o := ⟨_, rfl⟩
          have ea := EA.out
          rw [ea, ec, ed, eo] at b1 ep
          obtain ⟨u, eu⟩ : ∃ u, a + o = u := ⟨_, rfl⟩
          have ul : u ≤ 2570 := by omega
          rw [eu] at b1 ep
          obtain ⟨v, ev⟩ : ∃ v, u * q = v := ⟨_, rfl⟩
          rw [ev] at b1 ep
          obtain ⟨x, ex⟩ : ∃ x, p9 n i j = x := ⟨_, rfl⟩
          have hks := toldk_succ n i j
          rw [ex] at b3 ep hM hks
          have k2 : IntKind.i64.wrap ((2 : Int) * (j : Int)) = (c : Int) := by rw [IntWalk.i64_in _ (by omega)]; omega
          have k3 : IntKind.i64.wrap ((c : Int) + 1) = (d : Int) := by rw [IntWalk.i64_in _ (by omega)]; omega
          have k4 : IntKind.i64.wrap ((9 : Int) * (d : Int)) = (o : Int) := by rw [IntWalk.i64_in _ (by omega)]; omega
          have k5 : IntKind.i64.wrap ((a : Int) + (o : Int)) = (u : Int) := by rw [IntWalk.i64_in _ (by omega)]; omega
          have KV : IntKind.i64.wrap ((u : Int) * (q : Int)) = (v : Int) := by rw [← Int.natCast_mul, ev]; exact IntWalk.i64_in _ (by omega)
          have KX : IntKind.i64.wrap ((v : Int) * (ten : Int)) = (x : Int) := by rw [← Int.natCast_mul, ← ep]; exact IntWalk.i64_in _ (by omega)
          obtain ⟨M, eM⟩ : ∃ M, mkM x = M := ⟨_, rfl⟩
          rw [eM] at hM hks
          have hlen : (told s i ++ toldk n i j).length < N9 s := by rw [List.length_append, toldk_len]; have := HR.out; omega
          obtain ⟨fn, tmps, assign, body, hy, hR⟩ := hY _ M wr hJj hlen
          rw [hM] at hy
          have hR' : RoundIn Fence.wide 8 Try.prog l fn tmps assign body wr fun e W' => ∃ bv : Bool, e = .returned (.bool bv) ∧ Hid ((bv = true ∧ J (told s i ++ toldk n i (j + 1)) W') ∨ (bv = false ∧ ∃ pre, Jx pre W')) := hR.mono fun e W' h => by
            rw [hks, ← List.append_assoc]
            rcases h with ⟨rfl, h1, _⟩ | ⟨rfl, h1⟩
            · exact ⟨true, rfl, .inl ⟨rfl, h1⟩⟩
            · exact ⟨false, rfl, .inr ⟨rfl, _, h1⟩⟩
          clear hR hks eM hM ec ed eo ea eu ev ex b1 b3 ep hlen
          gi_wp2_with (refine hR'.mono ?_; rintro e W3 ⟨bv, rfl, hpost⟩)
          · have hb : bv = false := by cases bv with | false => rfl | true => exact absurd ‹(!true) = true› (by decide)
            subst hb
            rcases hpost.out with ⟨h, _⟩ | ⟨_, pre3, hJx3⟩
            · cases h
            · refine bodyPost_ret (results_none rfl _ _ _) rfl ?_
              exact ⟨⟨_, rfl⟩, .inr ⟨_, trivial, hJx3⟩⟩
          · have hb : bv = true := by cases bv with | true => rfl | false => exact absurd ‹(!false) = false› (by decide)
            subst hb
            rcases hpost.out with ⟨_, hJ3⟩ | ⟨h, _⟩
            · go_roundw
              case rel => exact ⟨j + 1, by omega, by go_num, hJ3⟩
              case measure => simp [intOf]; omega
            · cases h
        · obtain rfl : j = n := by omega
          gi_wp2
          go_roundw
          case rel => exact ⟨i + 1, by omega, by go_num, by rw [← HSN.out], by rw [← HTN.out], by rw [HTS.out]; exact hJj⟩
          case measure => simp [intOf]; omega
    · obtain rfl : i = 7 := by omega
      gi_wp2
      go_end0
      exact ⟨⟨_, rfl⟩, .inl ⟨_, rfl, hJ0⟩⟩
/-- The iterator's contract, as a loop over it wants it. -/
theorem mids_stops (Bq : Nat) (s : Bool) (w : World) (hq : Boxed w Bq 2 (.int .i64 ((many9 s 0 : Nat) : Int))) :
    SeqStopsK Fence.wide 9 Try.prog 22 #[.pointer (some ⟨Bq, 0, none⟩)] (fun x : Mid => #[Value.int .i64 (x.1 : Int)])
      (fun _ _ => True) (fun ys => ys = told s 7) (fun _ => True) (N9 s) w := fun l J Jx W hW hJa _ hY h0 =>
  mids_in l Bq s J Jx hY W ((hW.block Bq hq.lt).trans hq) h0
end Go.Proofs.Ytcbchofjaegdgaa
