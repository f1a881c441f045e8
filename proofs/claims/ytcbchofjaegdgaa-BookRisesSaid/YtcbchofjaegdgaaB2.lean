/-
  The contracts of the ninth reference: Signed, Den, power, part, many.
-/
import Derived.Test.YtcbchofjaegdgaaB1
namespace Go.Proofs.Ytcbchofjaegdgaa
set_option maxRecDepth 100000
open Go.RowKit
set_option linter.unusedVariables false
set_option linter.unusedSimpArgs false

set_option maxHeartbeats 1000000 in
theorem rpow9 (n k : Nat) (w : World) (h1 : 1 ≤ n) (hn : n ≤ 1000) (hk : k ≤ 20) (hp : n ^ k ≤ 4611686018427387904) :
    Calls Try.prog 25 #[.int .i64 (n : Int), .int .i64 (k : Int)] w fun e w' => e = .returned (.int .i64 ((n ^ k : Nat) : Int)) ∧ w = w' := by
  have key : ∀ j, j < k → n ^ j * n ≤ 4611686018427387904 := fun j hj => by rw [← Nat.pow_succ]; exact Nat.le_trans (Nat.pow_le_pow_right h1 hj) hp
  go_enter Try.func25, Try.ntmps25
  go_wp2_with fail
  go_loop [5, 6] (fun ov iv => ∃ (j : Nat), j ≤ k ∧ iv = .int .i64 (j : Int) ∧ ov = .int .i64 ((n ^ j : Nat) : Int)) (fun _ iv => k - (intOf iv).toNat)
  case atStart => exact ⟨0, Nat.zero_le _, rfl, rfl⟩
  case round =>
    obtain ⟨j, hj, rfl, rfl⟩ := hrel
    by_cases hlt : j < k
    · obtain ⟨m, hm⟩ : ∃ m, n ^ j = m := ⟨_, rfl⟩
      have k1 := key j hlt
      obtain ⟨q, hq⟩ : ∃ q, m * n = q := ⟨_, rfl⟩
      have hnext : n ^ (j + 1) = q := by rw [Nat.pow_succ, hm, hq]
      rw [hm] at k1 ⊢
      rw [hq] at k1
      have k2 : IntKind.i64.wrap ((m : Int) * (n : Int)) = (q : Int) := by rw [← Int.natCast_mul, hq]; exact IntWalk.i64_in _ (by omega)
      have HN := Lib.hid hnext
      clear key hp hm hq hnext
      go_wp2_with fail
      go_round
      case rel => exact ⟨j + 1, by omega, by go_num, by rw [HN.out]⟩
      case measure => simp [intOf]; omega
    · obtain rfl : j = k := by omega
      go_wp2_with fail
      go_ret
      exact ⟨rfl, rfl⟩

/-- A tree's number of a decade. -/
def p9 (n i j : Nat) : Nat := (2 * n + 9 * (2 * j + 1)) * (128 / n) * 10 ^ i
theorem p9_le {n i j : Nat} (h1 : 1 ≤ n) (hn : n ≤ 128) (hi : i ≤ 6) (hj : j < n) : (2 * n + 9 * (2 * j + 1)) * (128 / n) ≤ 400000 ∧ 10 ^ i ≤ 1000000 ∧ p9 n i j ≤ 400000000000 := by
  have a1 : 128 / n ≤ 128 := Nat.div_le_self _ _
  have a2 : (2 * n + 9 * (2 * j + 1)) * (128 / n) ≤ 2570 * 128 := Nat.mul_le_mul (by omega) a1
  have a3 : 10 ^ i ≤ 10 ^ 6 := Nat.pow_le_pow_right (by omega) hi
  have a4 : p9 n i j ≤ 2570 * 128 * 10 ^ 6 := Nat.mul_le_mul a2 a3
  refine ⟨Nat.le_trans a2 (by decide), Nat.le_trans a3 (by decide), Nat.le_trans a4 (by decide)⟩
set_option maxHeartbeats 1000000 in
theorem rpart9 (n i j : Nat) (w : World) (h1 : 1 ≤ n) (hn : n ≤ 128) (hi : i ≤ 6) (hj : j < n) :
    Calls Try.prog 24 #[.int .i64 (n : Int), .int .i64 (i : Int), .int .i64 (j : Int)] w fun e w' => e = .returned (.int .i64 ((p9 n i j : Nat) : Int)) ∧ Below w.heap.size w w' := by
  obtain ⟨b1, b2, b3⟩ := p9_le h1 hn hi hj
  have CP : ∀ W : World, Calls Try.prog 25 #[.int .i64 10, .int .i64 (i : Int)] W fun e w' => e = .returned (.int .i64 ((10 ^ i : Nat) : Int)) ∧ W = w' := fun W => rpow9 10 i W (by omega) (by omega) (by omega) (by omega)
  have hq : ((128 : Int)).tdiv (n : Int) = ((128 / n : Nat) : Int) := by rw [Int.tdiv_eq_ediv_of_nonneg (by omega)]; simp
  have hq' : ((128 : Int)) / (n : Int) = ((128 / n : Nat) : Int) := by simp
  have q1 : 128 / n ≤ 128 := Nat.div_le_self _ _
  unfold p9 at b3 ⊢
  obtain ⟨q, eq⟩ : ∃ q, 128 / n = q := ⟨_, rfl⟩
  obtain ⟨t, et⟩ : ∃ t, 10 ^ i = t := ⟨_, rfl⟩
  rw [eq] at b1 b3 hq hq' q1 ⊢
  rw [et] at b2 b3 CP ⊢
  obtain ⟨u, eu⟩ : ∃ u, 2 * n + 9 * (2 * j + 1) = u := ⟨_, rfl⟩
  have ul : u ≤ 2570 := by omega
  rw [eu] at b1 b3 ⊢
  obtain ⟨v, ev⟩ : ∃ v, u * q = v := ⟨_, rfl⟩
  rw [ev] at b1 b3 ⊢
  obtain ⟨x, ex⟩ : ∃ x, v * t = x := ⟨_, rfl⟩
  rw [ex] at b3 ⊢
  have n1 : ¬ n = 0 := by omega
  have n0 : ((n : Int) == 0) = false := by simp; omega
  obtain ⟨a, ea⟩ : ∃ a, 2 * n = a := ⟨_, rfl⟩
  obtain ⟨c, ec⟩ : ∃ c, 2 * j = c := ⟨_, rfl⟩
  obtain ⟨d, ed⟩ : ∃ d, c + 1 = d := ⟨_, rfl⟩
  obtain ⟨o, eo⟩ : ∃ o, 9 * d = o := ⟨_, rfl⟩
  have k1 : IntKind.i64.wrap ((2 : Int) * (n : Int)) = (a : Int) := by rw [IntWalk.i64_in _ (by omega)]; omega
  have k2 : IntKind.i64.wrap ((2 : Int) * (j : Int)) = (c : Int) := by rw [IntWalk.i64_in _ (by omega)]; omega
  have k3 : IntKind.i64.wrap ((c : Int) + 1) = (d : Int) := by rw [IntWalk.i64_in _ (by omega)]; omega
  have k4 : IntKind.i64.wrap ((9 : Int) * (d : Int)) = (o : Int) := by rw [IntWalk.i64_in _ (by omega)]; omega
  have k5 : IntKind.i64.wrap ((a : Int) + (o : Int)) = (u : Int) := by rw [IntWalk.i64_in _ (by omega)]; omega
  have kq : IntKind.i64.wrap (q : Int) = (q : Int) := IntWalk.i64_in _ (by omega)
  have KV : IntKind.i64.wrap ((u : Int) * (q : Int)) = (v : Int) := by rw [← Int.natCast_mul, ev]; exact IntWalk.i64_in _ (by omega)
  have KX : IntKind.i64.wrap ((v : Int) * (t : Int)) = (x : Int) := by rw [← Int.natCast_mul, ex]; exact IntWalk.i64_in _ (by omega)
  have cc := Below.refl w.heap.size w
  clear et ev ex ea ec ed eo eu eq
  go_enter Try.func24, Try.ntmps24
  go_wp2_with fail
  go_region_held3 (fun w' => True) (trivial) (first | (go_at_call 25; refine (CP _).mono ?_; rintro e w' ⟨rfl, rfl⟩))
  go_wp2_with fail
  go_ret
  exact ⟨rfl, below_drewN cc 1⟩

/-- How many numbers a decade has, on a side. -/
def many9 (s : Bool) (i : Nat) : Nat := if s then 2 ^ i else 2 ^ (i + 1)
theorem many9_le (s : Bool) {i : Nat} (hi : i ≤ 6) : 1 ≤ many9 s i ∧ many9 s i ≤ 128 := by
  have a : 1 ≤ 2 ^ i := Nat.pow_pos (by omega)
  have b : 2 ^ i ≤ 2 ^ 6 := Nat.pow_le_pow_right (by omega) hi
  unfold many9
  cases s
  · rw [if_neg (by decide), Nat.pow_succ]; omega
  · rw [if_pos rfl]; omega
set_option maxHeartbeats 1000000 in
theorem rmany9 (s : Bool) (i : Nat) (w : World) (hi : i ≤ 6) :
    Calls Try.prog 23 #[.bool s, .int .i64 (i : Int)] w fun e w' => e = .returned (.int .i64 ((many9 s i : Nat) : Int)) ∧ w = w' := by
  have b1 : 2 ^ i ≤ 2 ^ 6 := Nat.pow_le_pow_right (by omega) hi
  have b2 : 2 ^ (i + 1) ≤ 2 ^ 7 := Nat.pow_le_pow_right (by omega) (by omega)
  have C1 : ∀ W : World, Calls Try.prog 25 #[.int .i64 2, .int .i64 (i : Int)] W fun e w' => e = .returned (.int .i64 ((2 ^ i : Nat) : Int)) ∧ W = w' := fun W => rpow9 2 i W (by omega) (by omega) (by omega) (by omega)
  have C2 : ∀ W : World, Calls Try.prog 25 #[.int .i64 2, .int .i64 ((i : Int) + 1)] W fun e w' => e = .returned (.int .i64 ((2 ^ (i + 1) : Nat) : Int)) ∧ W = w' := fun W => rpow9 2 (i + 1) W (by omega) (by omega) (by omega) (by omega)
  obtain ⟨x, ex⟩ : ∃ x, 2 ^ i = x := ⟨_, rfl⟩
  obtain ⟨y, ey⟩ : ∃ y, 2 ^ (i + 1) = y := ⟨_, rfl⟩
  unfold many9
  rw [ex] at C1 ⊢
  rw [ey] at C2 ⊢
  clear ex ey b1 b2
  cases s
  · go_enter Try.func23, Try.ntmps23
    go_wp2_with fail
    refine (C2 _).mono ?_
    rintro e w' ⟨rfl, rfl⟩
    go_wp2_with fail
    go_ret
    exact ⟨rfl, rfl⟩
  · go_enter Try.func23, Try.ntmps23
    go_wp2_with fail
    refine (C1 _).mono ?_
    rintro e w' ⟨rfl, rfl⟩
    go_wp2_with fail
    go_ret
    exact ⟨rfl, rfl⟩

/-- The denominator of a kind; of none 0. -/
def den9 (k : Int) : Int := if k = 0 ∨ k = 1 then 2560000000 else if k = 2 ∨ k = 3 then 255 else 0
end Go.Proofs.Ytcbchofjaegdgaa
