/-
  The contract of the law's 'given': are all numbers right, and of few limbs?
-/
import Derived.Test.YtogdckajgkncdaaTells
namespace Go.Proofs.Ytogdckajgkncdaa
open Go.RowKit

/-- A slice that came in: its address, length, capacity and digits. -/
structure Arg where
  ad : Option Addr
  n : Nat
  c : Nat
  l : List Nat
def Arg.v (a : Arg) : Value := .slice a.ad a.n a.c
def Arg.isIn (a : Arg) (w : World) : Prop := Lim w.heap.size w a.ad a.n a.c a.l ∧ a.n ≤ 9223372036854775807
/-- It is right, and of few limbs. -/
def Arg.ok (a : Arg) : Bool := decide (a.n ≤ 20) && canon a.l

set_option maxHeartbeats 1000000 in
theorem given_any (g k : Nat) (f : Nat → Arg) (r : Bool) (w : World) (hk : k ≤ 8) (hf : ∀ j, j < k → w.cell? ⟨g, j, none⟩ = some (f j).v ∧ (f j).isIn w) (hr : r = true ↔ ∀ j, j < k → (f j).ok = true) :
    Calls Try.prog 10 #[.slice (some ⟨g, 0, none⟩) k k] w fun e w' => e = .returned (.bool r) ∧ w = w' := by
  go_enter Try.func10, Try.ntmps10
  go_wp2
  go_loop [3] (fun iv => ∃ i : Nat, i ≤ k ∧ iv = .int .i64 (i : Int) ∧ ∀ j, j < i → Hid ((f j).ok = true)) (fun iv => k - (intOf iv).toNat)
  case atStart => exact ⟨0, Nat.zero_le _, rfl, fun j hj => absurd hj (by omega)⟩
  case round =>
    obtain ⟨i, hi, rfl, hok⟩ := hrel
    by_cases hlt : i < k
    · obtain ⟨hc, hin, hsz⟩ := hf i hlt
      have hnx : r = true → (f i).ok = true := fun h => hr.1 h i hlt
      have HX := Lib.hid hnx
      have hstep : (f i).ok = true → ∀ j, j < i + 1 → Hid ((f j).ok = true) := fun h j hj => by
        rcases Nat.lt_succ_iff_lt_or_eq.1 hj with h1 | h1
        · exact hok j h1
        · subst h1; exact Lib.hid h
      have HST := Lib.hid hstep
      clear hnx hstep hok hf hr
      generalize f i = a at *
      unfold Arg.v at hc
      unfold Arg.ok at HX HST
      by_cases h20 : a.n ≤ 20
      · have d20 : decide (a.n ≤ 20) = true := by simp [h20]
        cases hcan : canon a.l with
        | true =>
          go_wp2_with (first
            | (go_at_call 29; refine (few_any _ _ _ _ (by omega)).mono ?_; rintro e w' ⟨rfl, rfl⟩)
            | (go_at_call 21; refine (rright_any _ _ _ _ _ true _ hin (by omega) hcan).mono ?_; rintro e w' ⟨rfl, rfl⟩))
          exact ⟨⟨i + 1, by omega, by go_num, HST.out (by rw [d20, hcan]; rfl)⟩, by simp [intOf]; omega⟩
        | false =>
          have hrf : r = false := by
            cases r with
            | false => rfl
            | true => have := HX.out rfl; rw [hcan] at this; simp at this
          have HR := Lib.hid hrf
          clear hrf
          go_wp2_with (first
            | (go_at_call 29; refine (few_any _ _ _ _ (by omega)).mono ?_; rintro e w' ⟨rfl, rfl⟩)
            | (go_at_call 21; refine (rright_any _ _ _ _ _ false _ hin (by omega) hcan).mono ?_; rintro e w' ⟨rfl, rfl⟩))
          go_ret
          exact ⟨by rw [HR.out]; rfl, rfl⟩
      · have d20 : decide (a.n ≤ 20) = false := by simp [h20]
        have hrf : r = false := by
          cases r with
          | false => rfl
          | true => have := HX.out rfl; rw [d20] at this; simp at this
        have HR := Lib.hid hrf
        clear hrf
        go_wp2_with (go_at_call 29; refine (few_any _ _ _ _ (by omega)).mono ?_; rintro e w' ⟨rfl, rfl⟩)
        go_ret
        exact ⟨by rw [HR.out]; rfl, rfl⟩
    · have hrt : r = true := hr.2 fun j hj => (hok j (by omega)).out
      have HR := Lib.hid hrt
      clear hrt hr
      go_wp2
      go_ret
      exact ⟨by rw [HR.out]; rfl, rfl⟩

end Go.Proofs.Ytogdckajgkncdaa
