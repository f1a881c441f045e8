/-
  The walk of DivShifts.
-/
import Derived.Test.YtogdckajgkncdaaLM
import Derived.Test.YtogdckajgkncdaaL
namespace Go.Proofs.Ytogdckajgkncdaa
open Go.RowKit
set_option linter.unusedVariables false

set_option maxHeartbeats 2000000 in
theorem DivShifts_no {a0 : Option Addr} {len0 cap0 : Nat} {w : World} (n : Int) (G : Hid (Calls Try.prog 10 #[.slice (some ⟨w.heap.size, 0, none⟩) 1 1] (w.alloc (.cells #[.slice a0 len0 cap0] 23)) (GotV (w.alloc (.cells #[.slice a0 len0 cap0] 23)) (.bool false)))) :
    Calls Try.prog 3 #[.slice a0 len0 cap0, .int .i64 n] w fun e w' => e = .returned (.bool true) ∧ Below w.heap.size w w' := by
  go_enter Try.func3, Try.ntmps3
  go_wp2_with fail
  refine G.out.mono ?_
  rintro e w1 ⟨rfl, b1⟩
  go_wp2_with fail
  refine (alive_any _).mono ?_
  rintro e w2 ⟨rfl, b2⟩
  go_wp2_with fail
  go_ret
  exact ⟨rfl, ((Below.refl _ w).alloc (Nat.le_refl _) _).trans ((b1.trans (b2.mono b1.size)).mono (by simp))⟩

set_option maxRecDepth 100000 in
set_option maxHeartbeats 8000000 in
theorem DivShifts_yes {a0 : Option Addr} {len0 cap0 x : Nat} {w : World} (h0 : Num w a0 len0 cap0 x) (lx : (limbs x).length ≤ 20)
    (G : Hid (Calls Try.prog 10 #[.slice (some ⟨w.heap.size, 0, none⟩) 1 1] (w.alloc (.cells #[.slice a0 len0 cap0] 23)) (GotV (w.alloc (.cells #[.slice a0 len0 cap0] 23)) (.bool true))))
    (k : Nat) (hk : k ≤ 20000) :
    Calls Try.prog 3 #[.slice a0 len0 cap0, .int .i64 (k : Int)] w fun e w' => e = .returned (.bool true) ∧ Below w.heap.size w w' := by
  have q0 : (limbs (x * 2 ^ k)).length ≤ 20 + (313 + 1) := len_up lx (by omega)
  have q1 : (limbs (x / 2 ^ k)).length ≤ 20 := len_quot _ lx
  go_enter Try.func3, Try.ntmps3
  go_wp2_with fail
  refine G.out.mono ?_
  rintro e w1 ⟨rfl, b1⟩
  have cc : Below w.heap.size w w1 := ((Below.refl _ w).alloc (Nat.le_refl _) _).trans (b1.mono (by simp))
  clear b1 G
  replace h0 := h0.on cc
  go_wp2_with fail
  refine (dshl_N h0 (by omega) hk).mono ?_
  rintro e w2 ⟨A2, n2, c2, rfl, s1, b⟩
  replace h0 := h0.on b
  replace cc := cc.trans (b.mono cc.size)
  clear b
  go_wp2_with fail
  refine (rshl_N h0 (by omega) hk).mono ?_
  rintro e w3 ⟨A3, n3, c3, rfl, s2, b⟩
  replace h0 := h0.on b
  replace s1 := s1.on b
  replace cc := cc.trans (b.mono cc.size)
  clear b
  go_wp2_with fail
  refine (dshr_N h0 (by omega) hk).mono ?_
  rintro e w4 ⟨A4, n4, c4, rfl, t1, b⟩
  replace h0 := h0.on b
  replace s1 := s1.on b
  replace s2 := s2.on b
  replace cc := cc.trans (b.mono cc.size)
  clear b
  go_wp2_with fail
  refine (rshr_N h0 (by omega) hk).mono ?_
  rintro e w5 ⟨A5, n5, c5, rfl, t2, b⟩
  replace h0 := h0.on b
  replace s1 := s1.on b
  replace s2 := s2.on b
  replace t1 := t1.on b
  replace cc := cc.trans (b.mono cc.size)
  clear b
  go_wp2_with fail
  refine (alive_any _).mono ?_
  rintro e w6 ⟨rfl, b⟩
  replace h0 := h0.on b
  replace s1 := s1.on b
  replace s2 := s2.on b
  replace t1 := t1.on b
  replace t2 := t2.on b
  replace cc := cc.trans (b.mono cc.size)
  clear b
  go_wp2_with fail
  refine (same_N s1 s2 (by omega) (by omega) rfl).mono ?_
  rintro e w7 ⟨rfl, b⟩
  replace h0 := h0.on b
  replace s1 := s1.on b
  replace s2 := s2.on b
  replace t1 := t1.on b
  replace t2 := t2.on b
  replace cc := cc.trans (b.mono cc.size)
  clear b
  go_wp2_with fail
  refine (same_N t1 t2 (by omega) (by omega) rfl).mono ?_
  rintro e w8 ⟨rfl, b⟩
  replace h0 := h0.on b
  replace s1 := s1.on b
  replace s2 := s2.on b
  replace t1 := t1.on b
  replace t2 := t2.on b
  replace cc := cc.trans (b.mono cc.size)
  clear b
  go_wp2_with fail
  go_ret
  exact ⟨rfl, cc⟩

set_option maxRecDepth 100000 in
set_option maxHeartbeats 8000000 in
theorem DivShifts_out {a0 : Option Addr} {len0 cap0 x : Nat} {w : World} (h0 : Num w a0 len0 cap0 x) (lx : (limbs x).length ≤ 20)
    (G : Hid (Calls Try.prog 10 #[.slice (some ⟨w.heap.size, 0, none⟩) 1 1] (w.alloc (.cells #[.slice a0 len0 cap0] 23)) (GotV (w.alloc (.cells #[.slice a0 len0 cap0] 23)) (.bool true))))
    (n : Int) (hn : Hid (n < 0 ∨ 20000 < n)) :
    Calls Try.prog 3 #[.slice a0 len0 cap0, .int .i64 n] w fun e w' => e = .returned (.bool true) ∧ Below w.heap.size w w' := by
  have q0 := len_nought
  go_enter Try.func3, Try.ntmps3
  go_wp2_with fail
  refine G.out.mono ?_
  rintro e w1 ⟨rfl, b1⟩
  have cc : Below w.heap.size w w1 := ((Below.refl _ w).alloc (Nat.le_refl _) _).trans (b1.mono (by simp))
  clear b1 G
  replace h0 := h0.on cc
  go_wp2_with fail
  refine (dshl_no _ _ _ _ _ hn.out).mono ?_
  rintro e w2 ⟨rfl, b⟩
  replace h0 := h0.on b
  replace cc := cc.trans (b.mono cc.size)
  clear b
  go_wp2_with fail
  refine (rshl_no _ _ _ _ _ hn.out).mono ?_
  rintro e w3 ⟨rfl, b⟩
  replace h0 := h0.on b
  replace cc := cc.trans (b.mono cc.size)
  clear b
  go_wp2_with fail
  refine (dshr_no _ _ _ _ _ hn.out).mono ?_
  rintro e w4 ⟨rfl, b⟩
  replace h0 := h0.on b
  replace cc := cc.trans (b.mono cc.size)
  clear b
  go_wp2_with fail
  refine (rshr_no _ _ _ _ _ hn.out).mono ?_
  rintro e w5 ⟨rfl, b⟩
  replace h0 := h0.on b
  replace cc := cc.trans (b.mono cc.size)
  clear b
  go_wp2_with fail
  refine (alive_any _).mono ?_
  rintro e w6 ⟨rfl, b⟩
  replace h0 := h0.on b
  replace cc := cc.trans (b.mono cc.size)
  clear b
  go_wp2_with fail
  refine (same_N (num_zero _) (num_zero _) (by omega) (by omega) rfl).mono ?_
  rintro e w7 ⟨rfl, b⟩
  replace h0 := h0.on b
  replace cc := cc.trans (b.mono cc.size)
  clear b
  go_wp2_with fail
  refine (same_N (num_zero _) (num_zero _) (by omega) (by omega) rfl).mono ?_
  rintro e w8 ⟨rfl, b⟩
  replace h0 := h0.on b
  replace cc := cc.trans (b.mono cc.size)
  clear b
  go_wp2_with fail
  go_ret
  exact ⟨rfl, cc⟩

theorem DivShifts_walk {a0 : Option Addr} {len0 cap0 : Nat} {l0 : List Nat} {w : World} (n : Int) (hl0 : Lim w.heap.size w a0 len0 cap0 l0) (hs0 : len0 ≤ 9223372036854775807) :
    Calls Try.prog 3 #[.slice a0 len0 cap0, .int .i64 n] w fun e w' => e = .returned (.bool true) ∧ Below w.heap.size w w' := by
  have hi0 : Arg.isIn ⟨a0, len0, cap0, l0⟩ w := ⟨hl0, hs0⟩
  cases hr : (Arg.ok ⟨a0, len0, cap0, l0⟩) with
  | false => exact DivShifts_no _ (Lib.hid (given_one ⟨a0, len0, cap0, l0⟩ false w hi0 hr))
  | true =>
    have G := Lib.hid (given_one ⟨a0, len0, cap0, l0⟩ true w hi0 hr)
    have k0 := hr
    have h0 := hl0.num (ok_parts k0).2
    have lx : (limbs (val l0)).length ≤ 20 := by rw [← h0.len]; exact (ok_parts k0).1
    generalize val l0 = x at h0 lx
    by_cases hn : n < 0 ∨ 20000 < n
    · exact DivShifts_out h0 lx G n (Lib.hid hn)
    · obtain ⟨k, rfl⟩ : ∃ k : Nat, n = (k : Int) := ⟨n.toNat, by omega⟩
      exact DivShifts_yes h0 lx G k (by omega)

end Go.Proofs.Ytogdckajgkncdaa
