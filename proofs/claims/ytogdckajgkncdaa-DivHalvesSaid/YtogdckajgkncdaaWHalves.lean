/-
  The walk of DivHalves.
-/
import Derived.Test.YtogdckajgkncdaaLM
import Derived.Test.YtogdckajgkncdaaL
namespace Go.Proofs.Ytogdckajgkncdaa
open Go.RowKit
set_option linter.unusedVariables false

theorem rof_one (w : World) : Calls Try.prog 26 #[.int .u64 1] w (GotN w 1) := rof_N w 1 B64_gt

set_option maxHeartbeats 2000000 in
theorem DivHalves_no {a0 : Option Addr} {len0 cap0 : Nat} {w : World} (n : Int) (G : Hid (Calls Try.prog 10 #[.slice (some ⟨w.heap.size, 0, none⟩) 1 1] (w.alloc (.cells #[.slice a0 len0 cap0] 23)) (GotV (w.alloc (.cells #[.slice a0 len0 cap0] 23)) (.bool false)))) :
    Calls Try.prog 9 #[.slice a0 len0 cap0, .int .i64 n] w fun e w' => e = .returned (.bool true) ∧ Below w.heap.size w w' := by
  go_enter Try.func9, Try.ntmps9
  go_wp2_with fail
  refine G.out.mono ?_
  rintro e w1 ⟨rfl, b1⟩
  go_wp2_with fail
  refine (alive_any _).mono ?_
  rintro e w2 ⟨rfl, b2⟩
  go_wp2_with fail
  go_ret
  exact ⟨rfl, ((Below.refl _ w).alloc (Nat.le_refl _) _).trans ((b1.trans (b2.mono b1.size)).mono (by simp))⟩

set_option maxRecDepth 100000 in
set_option maxHeartbeats 8000000 in
theorem DivHalves_yes {a0 : Option Addr} {len0 cap0 x : Nat} {w : World} (h0 : Num w a0 len0 cap0 x) (lx : (limbs x).length ≤ 20)
    (G : Hid (Calls Try.prog 10 #[.slice (some ⟨w.heap.size, 0, none⟩) 1 1] (w.alloc (.cells #[.slice a0 len0 cap0] 23)) (GotV (w.alloc (.cells #[.slice a0 len0 cap0] 23)) (.bool true))))
    (k : Nat) (hc : len0 ≤ 10) (hk : k ≤ 600) :
    Calls Try.prog 9 #[.slice a0 len0 cap0, .int .i64 (k : Int)] w fun e w' => e = .returned (.bool true) ∧ Below w.heap.size w w' := by
  have v0 : (limbs 1).length ≤ 1 := len_one B64_gt
  have v1 : (limbs (1 * 2 ^ k)).length ≤ 1 + (10 + 1) := len_up v0 (by omega)
  have hp : 1 * 2 ^ k ≠ 0 := by have : 0 < 2 ^ k := Nat.pow_pos (by omega); omega
  have v2 : (limbs (x / (1 * 2 ^ k))).length ≤ 20 := len_quot _ lx
  have v3 : (limbs (x % (1 * 2 ^ k))).length ≤ 12 := len_rest hp v1
  have v4 : (limbs (x / 2 ^ k)).length ≤ 20 := len_quot _ lx
  have v5 : (limbs (x * 2 ^ k)).length ≤ 20 + (10 + 1) := len_up lx (by omega)
  have v6 : (limbs (x * (1 * 2 ^ k))).length ≤ 32 := limbs_length_mul lx v1
  have he : x / (1 * 2 ^ k) = x / 2 ^ k := by rw [Nat.one_mul]
  have hm : x * 2 ^ k = x * (1 * 2 ^ k) := by rw [Nat.one_mul]
  have hb : blen (x % (1 * 2 ^ k)) ≤ k := by rw [Nat.one_mul]; exact blen_le (Nat.mod_lt _ (Nat.pow_pos (by omega)))
  obtain ⟨j, hj⟩ : ∃ j, blen (x % (1 * 2 ^ k)) = j := ⟨_, rfl⟩
  rw [hj] at hb
  have HP := Lib.hid hp
  have HE := Lib.hid he
  have HM := Lib.hid hm
  have HB := Lib.hid hj
  clear hp he hm hj
  go_enter Try.func9, Try.ntmps9
  go_wp2_with fail
  refine G.out.mono ?_
  rintro e w1 ⟨rfl, b1⟩
  have cc : Below w.heap.size w w1 := ((Below.refl _ w).alloc (Nat.le_refl _) _).trans (b1.mono (by simp))
  clear b1 G
  replace h0 := h0.on cc
  go_wp2_with fail
  refine (rof_one _).mono ?_
  rintro e w2 ⟨A2, n2, c2, rfl, o, b⟩
  replace h0 := h0.on b
  replace cc := cc.trans (b.mono cc.size)
  clear b
  go_wp2_with fail
  refine (dshl_N o (by omega) (by omega)).mono ?_
  rintro e w3 ⟨A3, n3, c3, rfl, p, b⟩
  replace h0 := h0.on b
  replace o := o.on b
  replace cc := cc.trans (b.mono cc.size)
  clear b
  clear o
  go_wp2_with fail
  refine (ddiv_N h0 p (by omega) (by omega) HP.out).mono ?_
  rintro e w4 ⟨A4, n4, c4, B4, m4, d4, rfl, q1, r1, b⟩
  replace h0 := h0.on b
  replace p := p.on b
  replace cc := cc.trans (b.mono cc.size)
  clear b
  go_wp2_with fail
  refine (dshr_N h0 (by omega) (by omega)).mono ?_
  rintro e w5 ⟨A5, n5, c5, rfl, d1, b⟩
  replace h0 := h0.on b
  replace p := p.on b
  replace q1 := q1.on b
  replace r1 := r1.on b
  replace cc := cc.trans (b.mono cc.size)
  clear b
  go_wp2_with fail
  refine (dshl_N h0 (by omega) (by omega)).mono ?_
  rintro e w6 ⟨A6, n6, c6, rfl, u1, b⟩
  replace h0 := h0.on b
  replace p := p.on b
  replace q1 := q1.on b
  replace r1 := r1.on b
  replace d1 := d1.on b
  replace cc := cc.trans (b.mono cc.size)
  clear b
  go_wp2_with fail
  refine (alive_any _).mono ?_
  rintro e w7 ⟨rfl, b⟩
  replace h0 := h0.on b
  replace p := p.on b
  replace q1 := q1.on b
  replace r1 := r1.on b
  replace d1 := d1.on b
  replace u1 := u1.on b
  replace cc := cc.trans (b.mono cc.size)
  clear b
  go_wp2_with fail
  refine (same_N q1 d1 (by omega) (by omega) HE.out).mono ?_
  rintro e w8 ⟨rfl, b⟩
  replace h0 := h0.on b
  replace p := p.on b
  replace q1 := q1.on b
  replace r1 := r1.on b
  replace d1 := d1.on b
  replace u1 := u1.on b
  replace cc := cc.trans (b.mono cc.size)
  clear b
  go_wp2_with fail
  refine (rbits_eq r1 (by omega) HB.out).mono ?_
  rintro e w9 ⟨rfl, b⟩
  replace h0 := h0.on b
  replace p := p.on b
  replace q1 := q1.on b
  replace r1 := r1.on b
  replace d1 := d1.on b
  replace u1 := u1.on b
  replace cc := cc.trans (b.mono cc.size)
  clear b
  go_wp2_with fail
  refine (rmul_N h0 p (by omega) (by omega)).mono ?_
  rintro e w10 ⟨A10, n10, c10, rfl, m1, b⟩
  replace h0 := h0.on b
  replace p := p.on b
  replace q1 := q1.on b
  replace r1 := r1.on b
  replace d1 := d1.on b
  replace u1 := u1.on b
  replace cc := cc.trans (b.mono cc.size)
  clear b
  go_wp2_with fail
  refine (same_N u1 m1 (by omega) (by omega) HM.out).mono ?_
  rintro e w11 ⟨rfl, b⟩
  replace h0 := h0.on b
  replace p := p.on b
  replace q1 := q1.on b
  replace r1 := r1.on b
  replace d1 := d1.on b
  replace u1 := u1.on b
  replace m1 := m1.on b
  replace cc := cc.trans (b.mono cc.size)
  clear b
  go_wp2_with fail
  go_ret
  exact ⟨rfl, cc⟩

set_option maxRecDepth 100000 in
set_option maxHeartbeats 8000000 in
theorem DivHalves_long {a0 : Option Addr} {len0 cap0 x : Nat} {w : World} (h0 : Num w a0 len0 cap0 x) (lx : (limbs x).length ≤ 20)
    (G : Hid (Calls Try.prog 10 #[.slice (some ⟨w.heap.size, 0, none⟩) 1 1] (w.alloc (.cells #[.slice a0 len0 cap0] 23)) (GotV (w.alloc (.cells #[.slice a0 len0 cap0] 23)) (.bool true))))
    (n : Int) (hc : 10 < len0) :
    Calls Try.prog 9 #[.slice a0 len0 cap0, .int .i64 n] w fun e w' => e = .returned (.bool true) ∧ Below w.heap.size w w' := by
  go_enter Try.func9, Try.ntmps9
  go_wp2_with fail
  refine G.out.mono ?_
  rintro e w1 ⟨rfl, b1⟩
  have cc : Below w.heap.size w w1 := ((Below.refl _ w).alloc (Nat.le_refl _) _).trans (b1.mono (by simp))
  clear b1 G
  replace h0 := h0.on cc
  go_wp2_with fail
  refine (alive_any _).mono ?_
  rintro e w2 ⟨rfl, b⟩
  replace h0 := h0.on b
  replace cc := cc.trans (b.mono cc.size)
  clear b
  go_wp2_with fail
  go_ret
  exact ⟨rfl, cc⟩

set_option maxRecDepth 100000 in
set_option maxHeartbeats 8000000 in
theorem DivHalves_neg {a0 : Option Addr} {len0 cap0 x : Nat} {w : World} (h0 : Num w a0 len0 cap0 x) (lx : (limbs x).length ≤ 20)
    (G : Hid (Calls Try.prog 10 #[.slice (some ⟨w.heap.size, 0, none⟩) 1 1] (w.alloc (.cells #[.slice a0 len0 cap0] 23)) (GotV (w.alloc (.cells #[.slice a0 len0 cap0] 23)) (.bool true))))
    (n : Int) (hc : len0 ≤ 10) (hn : n < 0) :
    Calls Try.prog 9 #[.slice a0 len0 cap0, .int .i64 n] w fun e w' => e = .returned (.bool true) ∧ Below w.heap.size w w' := by
  go_enter Try.func9, Try.ntmps9
  go_wp2_with fail
  refine G.out.mono ?_
  rintro e w1 ⟨rfl, b1⟩
  have cc : Below w.heap.size w w1 := ((Below.refl _ w).alloc (Nat.le_refl _) _).trans (b1.mono (by simp))
  clear b1 G
  replace h0 := h0.on cc
  go_wp2_with fail
  refine (alive_any _).mono ?_
  rintro e w2 ⟨rfl, b⟩
  replace h0 := h0.on b
  replace cc := cc.trans (b.mono cc.size)
  clear b
  go_wp2_with fail
  go_ret
  exact ⟨rfl, cc⟩

set_option maxRecDepth 100000 in
set_option maxHeartbeats 8000000 in
theorem DivHalves_many {a0 : Option Addr} {len0 cap0 x : Nat} {w : World} (h0 : Num w a0 len0 cap0 x) (lx : (limbs x).length ≤ 20)
    (G : Hid (Calls Try.prog 10 #[.slice (some ⟨w.heap.size, 0, none⟩) 1 1] (w.alloc (.cells #[.slice a0 len0 cap0] 23)) (GotV (w.alloc (.cells #[.slice a0 len0 cap0] 23)) (.bool true))))
    (n : Int) (hc : len0 ≤ 10) (hn : 600 < n) :
    Calls Try.prog 9 #[.slice a0 len0 cap0, .int .i64 n] w fun e w' => e = .returned (.bool true) ∧ Below w.heap.size w w' := by
  have hn0 : 0 ≤ n := by omega
  go_enter Try.func9, Try.ntmps9
  go_wp2_with fail
  refine G.out.mono ?_
  rintro e w1 ⟨rfl, b1⟩
  have cc : Below w.heap.size w w1 := ((Below.refl _ w).alloc (Nat.le_refl _) _).trans (b1.mono (by simp))
  clear b1 G
  replace h0 := h0.on cc
  go_wp2_with fail
  refine (alive_any _).mono ?_
  rintro e w2 ⟨rfl, b⟩
  replace h0 := h0.on b
  replace cc := cc.trans (b.mono cc.size)
  clear b
  go_wp2_with fail
  go_ret
  exact ⟨rfl, cc⟩

theorem DivHalves_walk {a0 : Option Addr} {len0 cap0 : Nat} {l0 : List Nat} {w : World} (n : Int) (hl0 : Lim w.heap.size w a0 len0 cap0 l0) (hs0 : len0 ≤ 9223372036854775807) :
    Calls Try.prog 9 #[.slice a0 len0 cap0, .int .i64 n] w fun e w' => e = .returned (.bool true) ∧ Below w.heap.size w w' := by
  have hi0 : Arg.isIn ⟨a0, len0, cap0, l0⟩ w := ⟨hl0, hs0⟩
  cases hr : (Arg.ok ⟨a0, len0, cap0, l0⟩) with
  | false => exact DivHalves_no _ (Lib.hid (given_one ⟨a0, len0, cap0, l0⟩ false w hi0 hr))
  | true =>
    have G := Lib.hid (given_one ⟨a0, len0, cap0, l0⟩ true w hi0 hr)
    have k0 := hr
    have h0 := hl0.num (ok_parts k0).2
    have lx : (limbs (val l0)).length ≤ 20 := by rw [← h0.len]; exact (ok_parts k0).1
    generalize val l0 = x at h0 lx
    by_cases hc : 10 < len0
    · exact DivHalves_long h0 lx G n hc
    · rcases Int.lt_or_le n 0 with h | h
      · exact DivHalves_neg h0 lx G n (by omega) h
      · by_cases h6 : 600 < n
        · exact DivHalves_many h0 lx G n (by omega) h6
        · obtain ⟨k, rfl⟩ : ∃ k : Nat, n = (k : Int) := ⟨n.toNat, by omega⟩
          exact DivHalves_yes h0 lx G k (by omega) (by omega)

end Go.Proofs.Ytogdckajgkncdaa
