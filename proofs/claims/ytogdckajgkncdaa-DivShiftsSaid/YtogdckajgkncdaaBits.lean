/-
  The contracts of both Bits: how many binary figures a number has.
-/
import Derived.Test.YtogdckajgkncdaaTells
namespace Go.Proofs.Ytogdckajgkncdaa
open Go.RowKit

theorem B64_pow (j : Nat) : B64 ^ j = 2 ^ (64 * j) := by
  rw [show B64 = 2 ^ 64 from rfl, Nat.pow_mul]

theorem top_ne {x j : Nat} (h : (limbs x).length = j + 1) : (limbs x)[j]?.getD 0 ≠ 0 := by
  have := limbs_canon x
  rw [canon_at h] at this
  simpa using this

theorem top_split {x j : Nat} (h : (limbs x).length = j + 1) : ∃ r, r < B64 ^ j ∧ x = r + B64 ^ j * (limbs x)[j]?.getD 0 := by
  refine ⟨val ((limbs x).take j), ?_, ?_⟩
  · exact Nat.lt_of_lt_of_le (val_lt ((limbs_dig x).take j)) (Nat.pow_le_pow_right B64_pos (List.length_take_le _ _))
  · have := val_take_succ (limbs x) j
    rw [List.take_of_length_le (by omega), val_limbs] at this
    exact this

theorem blen_limbs {x j : Nat} (h : (limbs x).length = j + 1) : blen x = 64 * j + blen ((limbs x)[j]?.getD 0) := by
  obtain ⟨r, hr, hx⟩ := top_split h
  have hd := top_ne h
  generalize (limbs x)[j]?.getD 0 = d at *
  have h1 := blen_ge hd
  have h2 := lt_blen d
  obtain ⟨k, hk⟩ : ∃ k, blen d = k + 1 := ⟨blen d - 1, by have := blen_pos hd; omega⟩
  rw [hk] at h1 h2 ⊢
  rw [Nat.add_sub_cancel] at h1
  rw [B64_pow] at hr hx
  have e : 64 * j + (k + 1) = (64 * j + k) + 1 := by omega
  rw [e]
  refine blen_eq ?_ ?_
  · rw [Nat.pow_add]
    have : 2 ^ (64 * j) * 2 ^ k ≤ 2 ^ (64 * j) * d := Nat.mul_le_mul_left _ h1
    omega
  · rw [Nat.add_assoc, Nat.pow_add]
    have : 2 ^ (64 * j) * (d + 1) ≤ 2 ^ (64 * j) * 2 ^ (k + 1) := Nat.mul_le_mul_left _ h2
    rw [Nat.mul_add, Nat.mul_one] at this
    omega

theorem blen_digit {d : Nat} (h : d < B64) : blen d ≤ 64 := blen_le (by rw [show (2 : Nat) ^ 64 = B64 from rfl]; exact h)

theorem blen_half {t : Nat} (h : t ≠ 0) : blen t = blen (t / 2) + 1 := by
  by_cases h1 : t / 2 = 0
  · have : t = 1 := by omega
    subst this; rfl
  · obtain ⟨k, hk⟩ : ∃ k, blen (t / 2) = k + 1 := ⟨blen (t / 2) - 1, by have := blen_pos h1; omega⟩
    have h2 := blen_ge h1
    have h3 := lt_blen (t / 2)
    rw [hk] at h2 h3 ⊢
    rw [Nat.add_sub_cancel] at h2
    refine blen_eq ?_ ?_
    · rw [Nat.pow_succ]; omega
    · rw [Nat.pow_succ]; omega

theorem wrap_half {t : Nat} (h : t < B64) : IntKind.u64.wrap ((t : Int) / 2) = ((t / 2 : Nat) : Int) := by
  rw [IntKind.wrap_u64]
  unfold B64 at h
  omega

set_option maxHeartbeats 1000000 in
theorem rbits_any (A : Option Addr) (n c x : Nat) (w : World) (h : Lim w.heap.size w A n c (limbs x)) (hn : n ≤ 4294967296) :
    Calls Try.prog 28 #[.slice A n c] w fun e w' => e = .returned (.int .i64 (blen x : Int)) ∧ w = w' := by
  have hl := h.1
  by_cases h0 : n = 0
  · subst h0
    have e : x = 0 := by
      have := List.eq_nil_of_length_eq_zero hl.symm
      have h2 := val_limbs x
      rw [this] at h2; exact h2.symm
    subst e
    clear hl
    go_enter Try.func28, Try.ntmps28
    go_wp2
    go_ret
    exact ⟨rfl, rfl⟩
  · obtain ⟨j, rfl⟩ : ∃ j, n = j + 1 := ⟨n - 1, by omega⟩
    obtain ⟨b, off, rfl, hb, hcell⟩ := h.2.2.2 (by omega)
    have h1 := hcell j (by omega)
    have hd : (limbs x)[j]?.getD 0 < B64 := (limbs_dig x).get j
    have hbl := blen_limbs hl.symm
    have h64 := blen_digit hd
    have HB := Lib.hid hbl
    clear hcell hl hbl h h0
    generalize (limbs x)[j]?.getD 0 = d at *
    go_enter Try.func28, Try.ntmps28
    go_wp2
    go_loop [3, 4] (fun nv tv => ∃ (k t : Nat), nv = .int .i64 (k : Int) ∧ tv = .int .u64 (t : Int) ∧ k ≤ 64 * j + 64 ∧ t < B64 ∧ Hid (k + blen t = blen x)) (fun _ tv => (intOf tv).toNat)
    case atStart => exact ⟨64 * j, d, by go_num, rfl, by omega, hd, Lib.hid HB.out.symm⟩
    case round =>
      obtain ⟨k, t, rfl, rfl, hk, htB, hv⟩ := hrel
      by_cases ht : t = 0
      · subst ht
        go_wp2
        go_ret
        exact ⟨ret_i64 (by have := hv.out; rw [blen_zero] at this; omega), rfl⟩
      · have htp : 0 < t := by omega
        have hh := blen_half ht
        have hv' := hv.out
        have hkx : k + 1 ≤ 64 * j + 64 := by have := HB.out; omega
        have HH := Lib.hid hh
        have HV := Lib.hid hv'
        clear hh hv' ht
        go_wp2
        go_round
        case rel => exact ⟨k + 1, t / 2, by go_num, congrArg (Value.int .u64) (wrap_half htB), hkx, by omega, Lib.hid (by have := HH.out; have := HV.out; omega)⟩
        case measure => simp only [intOf, wrap_half htB]; omega

end Go.Proofs.Ytogdckajgkncdaa
