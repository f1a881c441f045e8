/-
  Several texts in one: V3, V4, V5, V6, JSc, KR, DU, DT, JF.
-/
import Derived.Test.YtmaolhajeoigpaaGreatA10
import Derived.Test.YtmaolhajeoigpaaGreatA3
import Derived.Test.YtmaolhajeoigpaaGreatA9
import Derived.Test.YtmaolhajeoigpaaGreatA2
import Derived.Test.YtmaolhajeoigpaaGreatA4
import Derived.Test.YtmaolhajeoigpaaGreatA6
import Derived.Test.YtmaolhajeoigpaaGreatA7
import Derived.Test.YtmaolhajeoigpaaGreatA5

/-
  The contract of the landed fix: nearest.
-/
namespace Go.Proofs.YtmaolhajeoigpaaGreat
set_option maxRecDepth 100000
set_option maxHeartbeats 8000000
open Go.RowKit
set_option linter.unusedVariables false
set_option linter.unusedSimpArgs false

theorem near_parts {X d : Nat} (hd : 0 < d) : ∃ T r k, X / d = T ∧ X % d = r ∧ T * d + r = X ∧ r < d ∧ (X + d / 2) / d = T + k ∧ ((r + d / 2 < d ∧ k = 0) ∨ (d ≤ r + d / 2 ∧ k = 1)) := by
  have h1 := Nat.div_add_mod X d
  have h2 := Nat.mod_lt X hd
  have h3 : (X + d / 2) / d = X / d + (X % d + d / 2) / d := by
    have : X + d / 2 = d * (X / d) + (X % d + d / 2) := by omega
    rw [this, Nat.mul_add_div hd]
  refine ⟨X / d, X % d, (X % d + d / 2) / d, rfl, rfl, by rw [Nat.mul_comm]; exact h1, h2, h3, ?_⟩
  rcases Nat.lt_or_ge (X % d + d / 2) d with h | h
  · exact .inl ⟨h, Nat.div_eq_of_lt h⟩
  · exact .inr ⟨h, Nat.div_eq_of_lt_le (by omega) (by omega)⟩
theorem near_odd {X d : Nat} (hd : 0 < d) (p : d % 2 = 1) : (((X + d / 2) / d : Nat) : Int) = rn (X : Int) d := by
  obtain ⟨T, r, k, e1, e2, e3, h2, e4, h5⟩ := near_parts (X := X) hd
  rw [rn_nat X d (by omega), e4, e1]
  unfold fars
  rw [e1, e2]
  rcases h5 with ⟨h5, rfl⟩ | ⟨h5, rfl⟩
  · have f1 : ¬ d < r + r := by omega
    have f2 : ¬ r + r = d := by omega
    simp [f1, f2]
  · have f1 : d < r + r := by omega
    simp [f1]
theorem near_ne {X d : Nat} (hd : 0 < d) (p : d % 2 = 0) (hne : (X + d / 2) / d * d ≠ X + d / 2) : (((X + d / 2) / d : Nat) : Int) = rn (X : Int) d := by
  obtain ⟨T, r, k, e1, e2, e3, h2, e4, h5⟩ := near_parts (X := X) hd
  rw [rn_nat X d (by omega), e4, e1]
  rw [e4, Nat.add_mul] at hne
  unfold fars
  rw [e1, e2]
  rcases h5 with ⟨h5, rfl⟩ | ⟨h5, rfl⟩
  · have f1 : ¬ d < r + r := by omega
    have f2 : ¬ r + r = d := by omega
    simp [f1, f2]
  · have f1 : d < r + r := by omega
    simp [f1]
theorem near_eq {X d : Nat} (hd : 0 < d) (p : d % 2 = 0) (he : (X + d / 2) / d * d = X + d / 2) : (((X + d / 2) / d - (X + d / 2) / d % 2 : Nat) : Int) = rn (X : Int) d := by
  obtain ⟨T, r, k, e1, e2, e3, h2, e4, h5⟩ := near_parts (X := X) hd
  rw [rn_nat X d (by omega), e4, e1]
  rw [e4, Nat.add_mul] at he
  unfold fars
  rw [e1, e2]
  rcases h5 with ⟨h5, rfl⟩ | ⟨h5, rfl⟩
  · omega
  · have f1 : ¬ d < r + r := by omega
    have f2 : r + r = d := by omega
    by_cases hT : T % 2 = 1
    · simp [f1, f2, hT]; omega
    · simp [f1, f2, hT]; omega
theorem near_least {X d : Nat} (hd : 0 < d) : (((X + d / 2) / d : Nat) : Int) - 1 ≤ rn (X : Int) d := by
  by_cases p : d % 2 = 1
  · rw [near_odd hd p]; omega
  · by_cases he : (X + d / 2) / d * d = X + d / 2
    · rw [← near_eq hd (by omega) he]; omega
    · rw [near_ne hd (by omega) he]; omega
theorem rn_sgn (b : Bool) (X : Nat) {d : Nat} (hd : d ≠ 0) : rn (sgn b X) d = if b then -rn (X : Int) d else rn (X : Int) d := by
  cases b
  · rfl
  · exact rn_neg (X : Int) hd
theorem near_far {b : Bool} {X d : Nat} (hd : 0 < d) (h : d * B64 ≤ X + d / 2) : ¬ I64 (rn (sgn b X) d) := by
  have h1 : B64 ≤ (X + d / 2) / d := (Nat.le_div_iff_mul_le hd).2 (by rw [Nat.mul_comm]; exact h)
  have h2 := near_least (X := X) hd
  have h3 : (18446744073709551616 : Int) ≤ (((X + d / 2) / d : Nat) : Int) := by unfold B64 at h1; omega
  rw [rn_sgn b X (by omega)]
  unfold I64
  cases b <;> simp <;> omega
theorem plus_val {l h m : Nat} : (h + sumHi l m 0) * B64 + sumLo l m 0 = l + B64 * h + m := by
  unfold sumHi sumLo
  have h1 := Nat.div_add_mod (l + m + 0) B64
  rw [Nat.add_mul, Nat.mul_comm h, Nat.mul_comm ((l + m + 0) / B64)]
  omega
theorem limbs_eq {t d lo hi : Nat} (hlo : lo < B64) : (mulLo t d = lo ∧ mulHi t d = hi) ↔ t * d = hi * B64 + lo := by
  unfold mulLo mulHi
  have h1 := Nat.div_add_mod (t * d) B64
  constructor
  · rintro ⟨a, b⟩
    rw [a, b, Nat.mul_comm] at h1
    exact h1.symm
  · intro h
    rw [h]
    refine ⟨?_, ?_⟩
    · rw [Nat.add_comm, Nat.add_mul_mod_self_right, Nat.mod_eq_of_lt hlo]
    · rw [Nat.add_comm, Nat.add_mul_div_right _ _ B64_pos, Nat.div_eq_of_lt hlo, Nat.zero_add]
theorem zn_less {w : World} {A : Option Addr} {n c q : Nat} (h : Num w A n c q) (hq : 0 < q) : Zn w true A n c (-(q : Int)) := ⟨by rw [Int.natAbs_neg, Int.natAbs_natCast]; exact h, by simp; omega⟩
theorem got_drewn {w : World} {v : Value} {e : Ending} {w' : World} (h : e = .returned v ∧ ∃ n, w' = w.drewN n) : GotV w v e w' := by
  obtain ⟨rfl, n, rfl⟩ := h
  exact ⟨rfl, below_drewN (Below.refl _ _) n⟩

theorem arr_eq (a b c d : Int) (w : World) : (Op.equalIn 10000 43 (.agg #[.int .u64 a, .int .u64 b]) (.agg #[.int .u64 c, .int .u64 d])).run Tryz.prog w = .ok (a == c && b == d) w := by
  have u3 := Tryz.underlying41
  have a3 := Tryz.isAgg41
  have z3 := Tryz.sizeOf41
  rw [show (10000 : Nat) = 9999 + 1 from rfl, Op.equalIn]
  simp only [Sem.run_bind, run_underlying Tryz.underlying43, Result.andThen_ok]
  simp only [Std.Legacy.Range.forIn_eq_forIn_range', Std.Legacy.Range.size, Nat.sub_zero, Nat.add_sub_cancel, Nat.div_one, List.range'_succ, List.range'_zero, List.forIn_cons, List.forIn_nil]
  go_simp
  by_cases h1 : a = c <;> by_cases h2 : b = d <;> simp [h1, h2]

attribute [local go_sem] arr_eq

theorem nearest_far {w : World} {b : Bool} {l h d m lo hi : Nat} (CP : ∀ W : World, Calls Tryz.prog 37 #[.agg #[.int .u64 (l : Int), .int .u64 (h : Int)], .int .u64 (m : Int)] W (GotV W (.agg #[.int .u64 (lo : Int), .int .u64 (hi : Int)]))) (k1 : IntKind.u64.wrap ((d : Int) / 2) = (m : Int)) (t1 : d ≤ hi) :
    Calls Tryz.prog 18 #[.bool b, .agg #[.int .u64 (l : Int), .int .u64 (h : Int)], .int .u64 (d : Int)] w (GotV w (.tuple #[.int .i64 (0), .int .i64 (2)])) := by
  have q1 : (d : Int) ≤ (hi : Int) := by omega
  have cc := Below.refl w.heap.size w
  go_enter Tryz.func18, Tryz.ntmps18
  go_wp2_with fail
  generalize hv_ : w.alloc (.cells #[.int .u64 (l : Int), .int .u64 (h : Int)] 43) = v1
  have bA : Below w.heap.size w v1 := by rw [← hv_]; exact ((Below.refl _ w).alloc (by simp) _)
  replace cc := bK cc bA
  clear bA
  obtain ⟨ka0, ka1⟩ : Cs2 v1 w.heap.size (.int .u64 (l : Int)) (.int .u64 (h : Int)) := by simp [Cs2, ← hv_, go_sem]
  have kal : w.heap.size < v1.heap.size := by simp [← hv_] <;> omega
  clear hv_
  refine (CP _).mono ?_
  rintro e w2 ⟨rfl, b⟩
  rewrite [cR b kal] at ka0 ka1
  replace kal := lK b kal
  replace cc := bK cc b
  clear b
  go_wp2_with fail
  generalize hv_ : w2.alloc (.cells #[.int .u64 (lo : Int), .int .u64 (hi : Int)] 43) = v3
  have bA : Below w2.heap.size w2 v3 := by rw [← hv_]; exact below_one _ _
  rewrite [cR bA kal] at ka0 ka1
  replace kal := lK bA kal
  replace cc := bK cc bA
  clear bA
  obtain ⟨kr0, kr1⟩ : Cs2 v3 w2.heap.size (.int .u64 (lo : Int)) (.int .u64 (hi : Int)) := by simp [Cs2, ← hv_, go_sem]
  have krl : w2.heap.size < v3.heap.size := by simp [← hv_]
  clear hv_
  go_wp2_with fail
  go_ret2
  exact ⟨rfl, cc⟩

theorem nearest_odd {w : World} {b : Bool} {l h d m lo hi t r : Nat} {z : Int} (CP : ∀ W : World, Calls Tryz.prog 37 #[.agg #[.int .u64 (l : Int), .int .u64 (h : Int)], .int .u64 (m : Int)] W (GotV W (.agg #[.int .u64 (lo : Int), .int .u64 (hi : Int)]))) (CD : ∀ W : World, Calls Tryz.prog 38 #[.int .u64 (hi : Int), .int .u64 (lo : Int), .int .u64 (d : Int)] W (GotV W (.tuple #[.int .u64 (t : Int), .int .u64 (r : Int)]))) (k1 : IntKind.u64.wrap ((d : Int) / 2) = (m : Int)) (t1 : hi < d) (p : d % 2 = 1) (hz : sgn b t = z) (hu : t < B64) :
    Calls Tryz.prog 18 #[.bool b, .agg #[.int .u64 (l : Int), .int .u64 (h : Int)], .int .u64 (d : Int)] w (GotV w (.tuple #[.int .i64 (nI (z)), .int .i64 (nE (z))])) := by
  have q1 : ¬ (d : Int) ≤ (hi : Int) := by omega
  have q2 : (d : Int) % 2 = 1 := by omega
  have q3 : (d : Int).tmod 2 = 1 := by rw [Int.tmod_eq_emod_of_nonneg (by omega)]; omega
  have cc := Below.refl w.heap.size w
  go_enter Tryz.func18, Tryz.ntmps18
  go_wp2_with fail
  generalize hv_ : w.alloc (.cells #[.int .u64 (l : Int), .int .u64 (h : Int)] 43) = v1
  have bA : Below w.heap.size w v1 := by rw [← hv_]; exact ((Below.refl _ w).alloc (by simp) _)
  replace cc := bK cc bA
  clear bA
  obtain ⟨ka0, ka1⟩ : Cs2 v1 w.heap.size (.int .u64 (l : Int)) (.int .u64 (h : Int)) := by simp [Cs2, ← hv_, go_sem]
  have kal : w.heap.size < v1.heap.size := by simp [← hv_] <;> omega
  clear hv_
  refine (CP _).mono ?_
  rintro e w2 ⟨rfl, b⟩
  rewrite [cR b kal] at ka0 ka1
  replace kal := lK b kal
  replace cc := bK cc b
  clear b
  go_wp2_with fail
  generalize hv_ : w2.alloc (.cells #[.int .u64 (lo : Int), .int .u64 (hi : Int)] 43) = v3
  have bA : Below w2.heap.size w2 v3 := by rw [← hv_]; exact below_one _ _
  rewrite [cR bA kal] at ka0 ka1
  replace kal := lK bA kal
  replace cc := bK cc bA
  clear bA
  obtain ⟨kr0, kr1⟩ : Cs2 v3 w2.heap.size (.int .u64 (lo : Int)) (.int .u64 (hi : Int)) := by simp [Cs2, ← hv_, go_sem]
  have krl : w2.heap.size < v3.heap.size := by simp [← hv_]
  clear hv_
  refine (CD _).mono ?_
  rintro e w4 ⟨rfl, b⟩
  rewrite [cR b kal] at ka0 ka1
  replace kal := lK b kal
  rewrite [cR b krl] at kr0 kr1
  replace krl := lK b krl
  replace cc := bK cc b
  clear b
  go_wp2_with fail
  have bD : Below w4.heap.size w4 w4.drew := below_drewN (Below.refl _ w4) 1
  rewrite [cR bD kal] at ka0 ka1
  replace kal := lK bD kal
  rewrite [cR bD krl] at kr0 kr1
  replace krl := lK bD krl
  replace cc := bK cc bD
  clear bD
  refine wp_region_held_drew (S := fun w' => w'.cell? ⟨w.heap.size, 0, none⟩ = some (.int .u64 (l : Int)) ∧ w'.cell? ⟨w.heap.size, 1, none⟩ = some (.int .u64 (h : Int)) ∧ w'.cell? ⟨w2.heap.size, 0, none⟩ = some (.int .u64 (lo : Int)) ∧ w'.cell? ⟨w2.heap.size, 1, none⟩ = some (.int .u64 (hi : Int))) (by kernel_rfl) ?_ (fun hHeld => ?_)
  · exact ⟨ka0, ka1, kr0, kr1⟩
  refine tY (i := 0) (v := ?_) rfl ?_ hHeld ?_
  rotate_left
  · (intro w hSw; (try dsimp only at hSw); go_simp; (try with_reducible rfl))
  try simp only [Act.put, pT]
  refine tY (i := 1) (v := ?_) rfl ?_ hHeld ?_
  rotate_left
  · (intro w hSw; (try dsimp only at hSw); go_simp; (try with_reducible rfl))
  try simp only [Act.put, pT]
  refine tY (i := 2) (v := ?_) rfl ?_ hHeld ?_
  rotate_left
  · (intro w hSw; (try dsimp only at hSw); go_simp; (try with_reducible rfl))
  try simp only [Act.put, pT]
  refine tY (i := 3) (v := ?_) rfl ?_ hHeld ?_
  rotate_left
  · (intro w hSw; (try dsimp only at hSw); go_simp; (try with_reducible rfl))
  try simp only [Act.put, pT]
  refine tU (i := 4) rfl hHeld ?_
  try simp only [Act.put, pT]
  refine tU (i := 5) rfl hHeld ?_
  try simp only [Act.put, pT]
  refine tU (i := 6) rfl hHeld ?_
  try simp only [Act.put, pT]
  refine tU (i := 7) rfl hHeld ?_
  try simp only [Act.put, pT]
  refine tU (i := 8) rfl hHeld ?_
  try simp only [Act.put, pT]
  refine tY (i := 9) (v := ?_) rfl ?_ hHeld ?_
  rotate_left
  · (intro w hSw; (try dsimp only at hSw); go_simp; (try with_reducible rfl))
  try simp only [Act.put, pT]
  refine wpAnyH_done (by kernel_rfl) ?_ _
  clear hHeld
  have hb : (b = false) ∨ (b = true ∧ decide (0 < t) = false) ∨ (b = true ∧ decide (0 < t) = true) := by cases b <;> simp <;> omega
  rcases hb with rfl | ⟨rfl, ub⟩ | ⟨rfl, ub⟩
  · skip
    obtain rfl : (t : Int) = z := hz
    have HU := Lib.hid hu
    clear hu
    try clear hz
    go_wp2_with fail
    refine (of_N _ t HU.out).mono ?_
    rintro e w5 ⟨Av, nv, cv, rfl, v, b⟩
    rewrite [cR b kal] at ka0 ka1
    replace kal := lK b kal
    rewrite [cR b krl] at kr0 kr1
    replace krl := lK b krl
    replace cc := bK cc b
    clear b
    have zu := zn_nat v
    go_wp2_with fail
    refine (mant_N zu (by rw [Int.natAbs_natCast]; exact Nat.le_trans (len_one HU.out) (by omega))).mono ?_
    rintro e w6 ⟨rfl, b⟩
    replace v := v.on b
    replace zu := zu.on b
    rewrite [cR b kal] at ka0 ka1
    replace kal := lK b kal
    rewrite [cR b krl] at kr0 kr1
    replace krl := lK b krl
    replace cc := bK cc b
    clear b
    go_wp2_with fail
    go_ret2
    exact ⟨rfl, cc⟩
  · skip
    have u0 : t = 0 := by simpa using ub
    obtain rfl : (t : Int) = z := by rw [← hz]; unfold sgn; simp; omega
    have ui : decide (0 < (t : Int)) = false := by simp; omega
    clear u0
    have HU := Lib.hid hu
    clear hu
    try clear hz
    go_wp2_with fail
    refine (of_N _ t HU.out).mono ?_
    rintro e w5 ⟨Av, nv, cv, rfl, v, b⟩
    rewrite [cR b kal] at ka0 ka1
    replace kal := lK b kal
    rewrite [cR b krl] at kr0 kr1
    replace krl := lK b krl
    replace cc := bK cc b
    clear b
    have zu := zn_nat v
    go_wp2_with fail
    refine (mant_N zu (by rw [Int.natAbs_natCast]; exact Nat.le_trans (len_one HU.out) (by omega))).mono ?_
    rintro e w6 ⟨rfl, b⟩
    replace v := v.on b
    replace zu := zu.on b
    rewrite [cR b kal] at ka0 ka1
    replace kal := lK b kal
    rewrite [cR b krl] at kr0 kr1
    replace krl := lK b krl
    replace cc := bK cc b
    clear b
    go_wp2_with fail
    go_ret2
    exact ⟨rfl, cc⟩
  · skip
    have u0 : 0 < t := of_decide_eq_true ub
    obtain rfl : -(t : Int) = z := hz
    have ui : decide (0 < (t : Int)) = true := by simp; omega
    have HU := Lib.hid hu
    clear hu
    try clear hz
    have HU0 := Lib.hid u0
    clear u0
    go_wp2_with fail
    refine (of_N _ t HU.out).mono ?_
    rintro e w5 ⟨Av, nv, cv, rfl, v, b⟩
    rewrite [cR b kal] at ka0 ka1
    replace kal := lK b kal
    rewrite [cR b krl] at kr0 kr1
    replace krl := lK b krl
    replace cc := bK cc b
    clear b
    have zu := zn_less v HU0.out
    go_wp2_with fail
    refine (mant_N zu (by rw [Int.natAbs_neg, Int.natAbs_natCast]; exact Nat.le_trans (len_one HU.out) (by omega))).mono ?_
    rintro e w6 ⟨rfl, b⟩
    replace v := v.on b
    replace zu := zu.on b
    rewrite [cR b kal] at ka0 ka1
    replace kal := lK b kal
    rewrite [cR b krl] at kr0 kr1
    replace krl := lK b krl
    replace cc := bK cc b
    clear b
    go_wp2_with fail
    go_ret2
    exact ⟨rfl, cc⟩

theorem nearest_ne {w : World} {b : Bool} {l h d m lo hi t r x y : Nat} {z : Int} (CP : ∀ W : World, Calls Tryz.prog 37 #[.agg #[.int .u64 (l : Int), .int .u64 (h : Int)], .int .u64 (m : Int)] W (GotV W (.agg #[.int .u64 (lo : Int), .int .u64 (hi : Int)]))) (CD : ∀ W : World, Calls Tryz.prog 38 #[.int .u64 (hi : Int), .int .u64 (lo : Int), .int .u64 (d : Int)] W (GotV W (.tuple #[.int .u64 (t : Int), .int .u64 (r : Int)]))) (k1 : IntKind.u64.wrap ((d : Int) / 2) = (m : Int)) (t1 : hi < d) (CQ : ∀ W : World, Calls Tryz.prog 19 #[.int .u64 (t : Int), .int .u64 (d : Int)] W (GotV W (.agg #[.int .u64 (x : Int), .int .u64 (y : Int)]))) (p : d % 2 = 0) (he : ((lo : Int) == (x : Int) && (hi : Int) == (y : Int)) = false) (hz : sgn b t = z) (hu : t < B64) :
    Calls Tryz.prog 18 #[.bool b, .agg #[.int .u64 (l : Int), .int .u64 (h : Int)], .int .u64 (d : Int)] w (GotV w (.tuple #[.int .i64 (nI (z)), .int .i64 (nE (z))])) := by
  have q1 : ¬ (d : Int) ≤ (hi : Int) := by omega
  have q2 : (d : Int) % 2 = 0 := by omega
  have q3 : (d : Int).tmod 2 = 0 := by rw [Int.tmod_eq_emod_of_nonneg (by omega)]; omega
  have q4 : ((lo : Int) == (x : Int) && (hi : Int) == (y : Int)) = false := he
  have cc := Below.refl w.heap.size w
  go_enter Tryz.func18, Tryz.ntmps18
  go_wp2_with fail
  generalize hv_ : w.alloc (.cells #[.int .u64 (l : Int), .int .u64 (h : Int)] 43) = v1
  have bA : Below w.heap.size w v1 := by rw [← hv_]; exact ((Below.refl _ w).alloc (by simp) _)
  replace cc := bK cc bA
  clear bA
  obtain ⟨ka0, ka1⟩ : Cs2 v1 w.heap.size (.int .u64 (l : Int)) (.int .u64 (h : Int)) := by simp [Cs2, ← hv_, go_sem]
  have kal : w.heap.size < v1.heap.size := by simp [← hv_] <;> omega
  clear hv_
  refine (CP _).mono ?_
  rintro e w2 ⟨rfl, b⟩
  rewrite [cR b kal] at ka0 ka1
  replace kal := lK b kal
  replace cc := bK cc b
  clear b
  go_wp2_with fail
  generalize hv_ : w2.alloc (.cells #[.int .u64 (lo : Int), .int .u64 (hi : Int)] 43) = v3
  have bA : Below w2.heap.size w2 v3 := by rw [← hv_]; exact below_one _ _
  rewrite [cR bA kal] at ka0 ka1
  replace kal := lK bA kal
  replace cc := bK cc bA
  clear bA
  obtain ⟨kr0, kr1⟩ : Cs2 v3 w2.heap.size (.int .u64 (lo : Int)) (.int .u64 (hi : Int)) := by simp [Cs2, ← hv_, go_sem]
  have krl : w2.heap.size < v3.heap.size := by simp [← hv_]
  clear hv_
  refine (CD _).mono ?_
  rintro e w4 ⟨rfl, b⟩
  rewrite [cR b kal] at ka0 ka1
  replace kal := lK b kal
  rewrite [cR b krl] at kr0 kr1
  replace krl := lK b krl
  replace cc := bK cc b
  clear b
  go_wp2_with fail
  have bD : Below w4.heap.size w4 w4.drew := below_drewN (Below.refl _ w4) 1
  rewrite [cR bD kal] at ka0 ka1
  replace kal := lK bD kal
  rewrite [cR bD krl] at kr0 kr1
  replace krl := lK bD krl
  replace cc := bK cc bD
  clear bD
  refine wp_region_held_drew (S := fun w' => w'.cell? ⟨w.heap.size, 0, none⟩ = some (.int .u64 (l : Int)) ∧ w'.cell? ⟨w.heap.size, 1, none⟩ = some (.int .u64 (h : Int)) ∧ w'.cell? ⟨w2.heap.size, 0, none⟩ = some (.int .u64 (lo : Int)) ∧ w'.cell? ⟨w2.heap.size, 1, none⟩ = some (.int .u64 (hi : Int))) (by kernel_rfl) ?_ (fun hHeld => ?_)
  · exact ⟨ka0, ka1, kr0, kr1⟩
  refine tY (i := 0) (v := ?_) rfl ?_ hHeld ?_
  rotate_left
  · (intro w hSw; (try dsimp only at hSw); go_simp; (try with_reducible rfl))
  try simp only [Act.put, pT]
  refine tY (i := 1) (v := ?_) rfl ?_ hHeld ?_
  rotate_left
  · (intro w hSw; (try dsimp only at hSw); go_simp; (try with_reducible rfl))
  try simp only [Act.put, pT]
  refine tY (i := 2) (v := ?_) rfl ?_ hHeld ?_
  rotate_left
  · (intro w hSw; (try dsimp only at hSw); go_simp; (try with_reducible rfl))
  try simp only [Act.put, pT]
  refine tY (i := 3) (v := ?_) rfl ?_ hHeld ?_
  rotate_left
  · (intro w hSw; (try dsimp only at hSw); go_simp; (try with_reducible rfl))
  try simp only [Act.put, pT]
  refine tY (i := 4) (v := ?_) rfl ?_ hHeld ?_
  rotate_left
  · (intro w hSw; (try dsimp only at hSw); go_simp; (try with_reducible rfl))
  try simp only [Act.put, pT]
  refine tY (i := 5) (v := ?_) rfl ?_ hHeld ?_
  rotate_left
  · (intro w hSw; (try dsimp only at hSw); go_simp; (try with_reducible rfl))
  try simp only [Act.put, pT]
  refine tY (i := 6) (v := ?_) rfl ?_ hHeld ?_
  rotate_left
  · (intro w hSw; (try dsimp only at hSw); go_simp; (try with_reducible rfl))
  try simp only [Act.put, pT]
  refine wpAnyH_ready (rs := [7]) (by kernel_rfl) (by simp) ?_
  refine AllReadyH.cons rfl (fun K hK => ?_) AllReadyH.nil
  (try simp only [pT])
  rw [if_pos (by rfl)]
  go_simp
  go_at_call 19
  refine (CQ _).mono ?_
  rintro e w5 ⟨rfl, b⟩
  rewrite [cR b kal] at ka0 ka1
  replace kal := lK b kal
  rewrite [cR b krl] at kr0 kr1
  replace krl := lK b krl
  replace cc := bK cc b
  clear b
  refine hK.out _ _ ?_ (fun hHeld => ?_)
  · exact ⟨ka0, ka1, kr0, kr1⟩
  clear hK K
  try simp only [Act.put, pT]
  refine tY (i := 8) (v := ?_) rfl ?_ hHeld ?_
  rotate_left
  · (intro w hSw; (try dsimp only at hSw); go_simp; (try with_reducible rfl))
  try simp only [Act.put, pT]
  refine tY (i := 9) (v := ?_) rfl ?_ hHeld ?_
  rotate_left
  · (intro w hSw; (try dsimp only at hSw); go_simp; (try with_reducible rfl))
  try simp only [Act.put, pT]
  refine wpAnyH_done (by kernel_rfl) ?_ _
  clear hHeld
  have hb : (b = false) ∨ (b = true ∧ decide (0 < t) = false) ∨ (b = true ∧ decide (0 < t) = true) := by cases b <;> simp <;> omega
  rcases hb with rfl | ⟨rfl, ub⟩ | ⟨rfl, ub⟩
  · skip
    obtain rfl : (t : Int) = z := hz
    have HU := Lib.hid hu
    clear hu
    try clear hz
    go_wp2_with fail
    refine (of_N _ t HU.out).mono ?_
    rintro e w6 ⟨Av, nv, cv, rfl, v, b⟩
    rewrite [cR b kal] at ka0 ka1
    replace kal := lK b kal
    rewrite [cR b krl] at kr0 kr1
    replace krl := lK b krl
    replace cc := bK cc b
    clear b
    have zu := zn_nat v
    go_wp2_with fail
    refine (mant_N zu (by rw [Int.natAbs_natCast]; exact Nat.le_trans (len_one HU.out) (by omega))).mono ?_
    rintro e w7 ⟨rfl, b⟩
    replace v := v.on b
    replace zu := zu.on b
    rewrite [cR b kal] at ka0 ka1
    replace kal := lK b kal
    rewrite [cR b krl] at kr0 kr1
    replace krl := lK b krl
    replace cc := bK cc b
    clear b
    go_wp2_with fail
    go_ret2
    exact ⟨rfl, cc⟩
  · skip
    have u0 : t = 0 := by simpa using ub
    obtain rfl : (t : Int) = z := by rw [← hz]; unfold sgn; simp; omega
    have ui : decide (0 < (t : Int)) = false := by simp; omega
    clear u0
    have HU := Lib.hid hu
    clear hu
    try clear hz
    go_wp2_with fail
    refine (of_N _ t HU.out).mono ?_
    rintro e w6 ⟨Av, nv, cv, rfl, v, b⟩
    rewrite [cR b kal] at ka0 ka1
    replace kal := lK b kal
    rewrite [cR b krl] at kr0 kr1
    replace krl := lK b krl
    replace cc := bK cc b
    clear b
    have zu := zn_nat v
    go_wp2_with fail
    refine (mant_N zu (by rw [Int.natAbs_natCast]; exact Nat.le_trans (len_one HU.out) (by omega))).mono ?_
    rintro e w7 ⟨rfl, b⟩
    replace v := v.on b
    replace zu := zu.on b
    rewrite [cR b kal] at ka0 ka1
    replace kal := lK b kal
    rewrite [cR b krl] at kr0 kr1
    replace krl := lK b krl
    replace cc := bK cc b
    clear b
    go_wp2_with fail
    go_ret2
    exact ⟨rfl, cc⟩
  · skip
    have u0 : 0 < t := of_decide_eq_true ub
    obtain rfl : -(t : Int) = z := hz
    have ui : decide (0 < (t : Int)) = true := by simp; omega
    have HU := Lib.hid hu
    clear hu
    try clear hz
    have HU0 := Lib.hid u0
    clear u0
    go_wp2_with fail
    refine (of_N _ t HU.out).mono ?_
    rintro e w6 ⟨Av, nv, cv, rfl, v, b⟩
    rewrite [cR b kal] at ka0 ka1
    replace kal := lK b kal
    rewrite [cR b krl] at kr0 kr1
    replace krl := lK b krl
    replace cc := bK cc b
    clear b
    have zu := zn_less v HU0.out
    go_wp2_with fail
    refine (mant_N zu (by rw [Int.natAbs_neg, Int.natAbs_natCast]; exact Nat.le_trans (len_one HU.out) (by omega))).mono ?_
    rintro e w7 ⟨rfl, b⟩
    replace v := v.on b
    replace zu := zu.on b
    rewrite [cR b kal] at ka0 ka1
    replace kal := lK b kal
    rewrite [cR b krl] at kr0 kr1
    replace krl := lK b krl
    replace cc := bK cc b
    clear b
    go_wp2_with fail
    go_ret2
    exact ⟨rfl, cc⟩

theorem nearest_eq {w : World} {b : Bool} {l h d m lo hi t r u : Nat} {z : Int} (CP : ∀ W : World, Calls Tryz.prog 37 #[.agg #[.int .u64 (l : Int), .int .u64 (h : Int)], .int .u64 (m : Int)] W (GotV W (.agg #[.int .u64 (lo : Int), .int .u64 (hi : Int)]))) (CD : ∀ W : World, Calls Tryz.prog 38 #[.int .u64 (hi : Int), .int .u64 (lo : Int), .int .u64 (d : Int)] W (GotV W (.tuple #[.int .u64 (t : Int), .int .u64 (r : Int)]))) (k1 : IntKind.u64.wrap ((d : Int) / 2) = (m : Int)) (t1 : hi < d) (CQ : ∀ W : World, Calls Tryz.prog 19 #[.int .u64 (t : Int), .int .u64 (d : Int)] W (GotV W (.agg #[.int .u64 (lo : Int), .int .u64 (hi : Int)]))) (p : d % 2 = 0) (k2 : IntKind.u64.wrap ((t : Int) - (t : Int) % 2) = (u : Int)) (k3 : (t : Int).tmod 2 = (t : Int) % 2) (hz : sgn b u = z) (hu : u < B64) :
    Calls Tryz.prog 18 #[.bool b, .agg #[.int .u64 (l : Int), .int .u64 (h : Int)], .int .u64 (d : Int)] w (GotV w (.tuple #[.int .i64 (nI (z)), .int .i64 (nE (z))])) := by
  have q1 : ¬ (d : Int) ≤ (hi : Int) := by omega
  have q2 : (d : Int) % 2 = 0 := by omega
  have q3 : (d : Int).tmod 2 = 0 := by rw [Int.tmod_eq_emod_of_nonneg (by omega)]; omega
  have cc := Below.refl w.heap.size w
  go_enter Tryz.func18, Tryz.ntmps18
  go_wp2_with fail
  generalize hv_ : w.alloc (.cells #[.int .u64 (l : Int), .int .u64 (h : Int)] 43) = v1
  have bA : Below w.heap.size w v1 := by rw [← hv_]; exact ((Below.refl _ w).alloc (by simp) _)
  replace cc := bK cc bA
  clear bA
  obtain ⟨ka0, ka1⟩ : Cs2 v1 w.heap.size (.int .u64 (l : Int)) (.int .u64 (h : Int)) := by simp [Cs2, ← hv_, go_sem]
  have kal : w.heap.size < v1.heap.size := by simp [← hv_] <;> omega
  clear hv_
  refine (CP _).mono ?_
  rintro e w2 ⟨rfl, b⟩
  rewrite [cR b kal] at ka0 ka1
  replace kal := lK b kal
  replace cc := bK cc b
  clear b
  go_wp2_with fail
  generalize hv_ : w2.alloc (.cells #[.int .u64 (lo : Int), .int .u64 (hi : Int)] 43) = v3
  have bA : Below w2.heap.size w2 v3 := by rw [← hv_]; exact below_one _ _
  rewrite [cR bA kal] at ka0 ka1
  replace kal := lK bA kal
  replace cc := bK cc bA
  clear bA
  obtain ⟨kr0, kr1⟩ : Cs2 v3 w2.heap.size (.int .u64 (lo : Int)) (.int .u64 (hi : Int)) := by simp [Cs2, ← hv_, go_sem]
  have krl : w2.heap.size < v3.heap.size := by simp [← hv_]
  clear hv_
  refine (CD _).mono ?_
  rintro e w4 ⟨rfl, b⟩
  rewrite [cR b kal] at ka0 ka1
  replace kal := lK b kal
  rewrite [cR b krl] at kr0 kr1
  replace krl := lK b krl
  replace cc := bK cc b
  clear b
  go_wp2_with fail
  have bD : Below w4.heap.size w4 w4.drew := below_drewN (Below.refl _ w4) 1
  rewrite [cR bD kal] at ka0 ka1
  replace kal := lK bD kal
  rewrite [cR bD krl] at kr0 kr1
  replace krl := lK bD krl
  replace cc := bK cc bD
  clear bD
  refine wp_region_held_drew (S := fun w' => w'.cell? ⟨w.heap.size, 0, none⟩ = some (.int .u64 (l : Int)) ∧ w'.cell? ⟨w.heap.size, 1, none⟩ = some (.int .u64 (h : Int)) ∧ w'.cell? ⟨w2.heap.size, 0, none⟩ = some (.int .u64 (lo : Int)) ∧ w'.cell? ⟨w2.heap.size, 1, none⟩ = some (.int .u64 (hi : Int))) (by kernel_rfl) ?_ (fun hHeld => ?_)
  · exact ⟨ka0, ka1, kr0, kr1⟩
  refine tY (i := 0) (v := ?_) rfl ?_ hHeld ?_
  rotate_left
  · (intro w hSw; (try dsimp only at hSw); go_simp; (try with_reducible rfl))
  try simp only [Act.put, pT]
  refine tY (i := 1) (v := ?_) rfl ?_ hHeld ?_
  rotate_left
  · (intro w hSw; (try dsimp only at hSw); go_simp; (try with_reducible rfl))
  try simp only [Act.put, pT]
  refine tY (i := 2) (v := ?_) rfl ?_ hHeld ?_
  rotate_left
  · (intro w hSw; (try dsimp only at hSw); go_simp; (try with_reducible rfl))
  try simp only [Act.put, pT]
  refine tY (i := 3) (v := ?_) rfl ?_ hHeld ?_
  rotate_left
  · (intro w hSw; (try dsimp only at hSw); go_simp; (try with_reducible rfl))
  try simp only [Act.put, pT]
  refine tY (i := 4) (v := ?_) rfl ?_ hHeld ?_
  rotate_left
  · (intro w hSw; (try dsimp only at hSw); go_simp; (try with_reducible rfl))
  try simp only [Act.put, pT]
  refine tY (i := 5) (v := ?_) rfl ?_ hHeld ?_
  rotate_left
  · (intro w hSw; (try dsimp only at hSw); go_simp; (try with_reducible rfl))
  try simp only [Act.put, pT]
  refine tY (i := 6) (v := ?_) rfl ?_ hHeld ?_
  rotate_left
  · (intro w hSw; (try dsimp only at hSw); go_simp; (try with_reducible rfl))
  try simp only [Act.put, pT]
  refine wpAnyH_ready (rs := [7]) (by kernel_rfl) (by simp) ?_
  refine AllReadyH.cons rfl (fun K hK => ?_) AllReadyH.nil
  (try simp only [pT])
  rw [if_pos (by rfl)]
  go_simp
  go_at_call 19
  refine (CQ _).mono ?_
  rintro e w5 ⟨rfl, b⟩
  rewrite [cR b kal] at ka0 ka1
  replace kal := lK b kal
  rewrite [cR b krl] at kr0 kr1
  replace krl := lK b krl
  replace cc := bK cc b
  clear b
  refine hK.out _ _ ?_ (fun hHeld => ?_)
  · exact ⟨ka0, ka1, kr0, kr1⟩
  clear hK K
  try simp only [Act.put, pT]
  refine tY (i := 8) (v := ?_) rfl ?_ hHeld ?_
  rotate_left
  · (intro w hSw; (try dsimp only at hSw); go_simp; (try with_reducible rfl))
  try simp only [Act.put, pT]
  refine tY (i := 9) (v := ?_) rfl ?_ hHeld ?_
  rotate_left
  · (intro w hSw; (try dsimp only at hSw); go_simp; (try with_reducible rfl))
  try simp only [Act.put, pT]
  refine wpAnyH_done (by kernel_rfl) ?_ _
  clear hHeld
  have hb : (b = false) ∨ (b = true ∧ decide (0 < u) = false) ∨ (b = true ∧ decide (0 < u) = true) := by cases b <;> simp <;> omega
  rcases hb with rfl | ⟨rfl, ub⟩ | ⟨rfl, ub⟩
  · skip
    obtain rfl : (u : Int) = z := hz
    have HU := Lib.hid hu
    clear hu
    try clear hz
    go_wp2_with fail
    refine (of_N _ u HU.out).mono ?_
    rintro e w6 ⟨Av, nv, cv, rfl, v, b⟩
    rewrite [cR b kal] at ka0 ka1
    replace kal := lK b kal
    rewrite [cR b krl] at kr0 kr1
    replace krl := lK b krl
    replace cc := bK cc b
    clear b
    have zu := zn_nat v
    go_wp2_with fail
    refine (mant_N zu (by rw [Int.natAbs_natCast]; exact Nat.le_trans (len_one HU.out) (by omega))).mono ?_
    rintro e w7 ⟨rfl, b⟩
    replace v := v.on b
    replace zu := zu.on b
    rewrite [cR b kal] at ka0 ka1
    replace kal := lK b kal
    rewrite [cR b krl] at kr0 kr1
    replace krl := lK b krl
    replace cc := bK cc b
    clear b
    go_wp2_with fail
    go_ret2
    exact ⟨rfl, cc⟩
  · skip
    have u0 : u = 0 := by simpa using ub
    obtain rfl : (u : Int) = z := by rw [← hz]; unfold sgn; simp; omega
    have ui : decide (0 < (u : Int)) = false := by simp; omega
    clear u0
    have HU := Lib.hid hu
    clear hu
    try clear hz
    go_wp2_with fail
    refine (of_N _ u HU.out).mono ?_
    rintro e w6 ⟨Av, nv, cv, rfl, v, b⟩
    rewrite [cR b kal] at ka0 ka1
    replace kal := lK b kal
    rewrite [cR b krl] at kr0 kr1
    replace krl := lK b krl
    replace cc := bK cc b
    clear b
    have zu := zn_nat v
    go_wp2_with fail
    refine (mant_N zu (by rw [Int.natAbs_natCast]; exact Nat.le_trans (len_one HU.out) (by omega))).mono ?_
    rintro e w7 ⟨rfl, b⟩
    replace v := v.on b
    replace zu := zu.on b
    rewrite [cR b kal] at ka0 ka1
    replace kal := lK b kal
    rewrite [cR b krl] at kr0 kr1
    replace krl := lK b krl
    replace cc := bK cc b
    clear b
    go_wp2_with fail
    go_ret2
    exact ⟨rfl, cc⟩
  · skip
    have u0 : 0 < u := of_decide_eq_true ub
    obtain rfl : -(u : Int) = z := hz
    have ui : decide (0 < (u : Int)) = true := by simp; omega
    have HU := Lib.hid hu
    clear hu
    try clear hz
    have HU0 := Lib.hid u0
    clear u0
    go_wp2_with fail
    refine (of_N _ u HU.out).mono ?_
    rintro e w6 ⟨Av, nv, cv, rfl, v, b⟩
    rewrite [cR b kal] at ka0 ka1
    replace kal := lK b kal
    rewrite [cR b krl] at kr0 kr1
    replace krl := lK b krl
    replace cc := bK cc b
    clear b
    have zu := zn_less v HU0.out
    go_wp2_with fail
    refine (mant_N zu (by rw [Int.natAbs_neg, Int.natAbs_natCast]; exact Nat.le_trans (len_one HU.out) (by omega))).mono ?_
    rintro e w7 ⟨rfl, b⟩
    replace v := v.on b
    replace zu := zu.on b
    rewrite [cR b kal] at ka0 ka1
    replace kal := lK b kal
    rewrite [cR b krl] at kr0 kr1
    replace krl := lK b krl
    replace cc := bK cc b
    clear b
    go_wp2_with fail
    go_ret2
    exact ⟨rfl, cc⟩

end Go.Proofs.YtmaolhajeoigpaaGreat

/-
  The contract of the landed fix: nearest, whole.
-/
namespace Go.Proofs.YtmaolhajeoigpaaGreat
set_option maxRecDepth 100000
open Go.RowKit
set_option linter.unusedVariables false
set_option linter.unusedSimpArgs false

theorem wrap_half8 {d : Nat} (hd : d < B64) : IntKind.u64.wrap ((d : Int) / 2) = ((d / 2 : Nat) : Int) := by
  rw [IntKind.wrap_u64]; unfold B64 at hd; omega
theorem mul_limbs (x y : Nat) : mulLo x y + B64 * mulHi x y = x * y := by
  unfold mulLo mulHi
  rw [Nat.add_comm]
  exact Nat.div_add_mod _ _
theorem hi_small {x y : Nat} (hx : x ≤ 9223372036854775808) (hy : y ≤ 9223372036854775808) : mulHi x y + 1 < B64 := by
  have h1 : x * y ≤ 9223372036854775808 * 9223372036854775808 := Nat.mul_le_mul hx hy
  have h2 : mulHi x y ≤ 9223372036854775808 * 9223372036854775808 / B64 := Nat.div_le_div_right h1
  have h3 : (9223372036854775808 * 9223372036854775808 : Nat) / B64 ≤ 4611686018427387904 := by unfold B64; decide
  have h4 : B64 = 18446744073709551616 := rfl
  omega
theorem i64_size {a : Int} (h : I64 a) : a.natAbs ≤ 9223372036854775808 := by unfold I64 at h; omega
theorem pow_size {k : Nat} (h : k ≤ 40) : 2 ^ k ≤ 1099511627776 := Nat.le_trans (Nat.pow_le_pow_right (by omega) h) (by decide)

set_option maxHeartbeats 8000000 in
theorem nearest_N {w : World} {b : Bool} {l h d : Nat} (hl : l < B64) (hh : h + 1 < B64) (hd0 : 0 < d) (hd : d < B64) :
    Calls Tryz.prog 18 #[.bool b, .agg #[.int .u64 (l : Int), .int .u64 (h : Int)], .int .u64 (d : Int)] w (GotV w (.tuple #[.int .i64 (nI (rn (sgn b (l + B64 * h)) d)), .int .i64 (nE (rn (sgn b (l + B64 * h)) d))])) := by
  have hm : d / 2 < B64 := by omega
  have s1 : sumHi l (d / 2) 0 ≤ 1 := sumHi_le hl hm (by omega)
  have hv := plus_val (l := l) (h := h) (m := d / 2)
  have hlo : sumLo l (d / 2) 0 < B64 := sumLo_lt _ _ _
  have CP : ∀ W : World, Calls Tryz.prog 37 #[.agg #[.int .u64 (l : Int), .int .u64 (h : Int)], .int .u64 ((d / 2 : Nat) : Int)] W (GotV W (.agg #[.int .u64 (sumLo l (d / 2) 0 : Int), .int .u64 ((h + sumHi l (d / 2) 0 : Nat) : Int)])) := fun W => plus_N hl hm (by omega)
  have k1 := wrap_half8 hd
  obtain ⟨lo, elo⟩ : ∃ q, sumLo l (d / 2) 0 = q := ⟨_, rfl⟩
  obtain ⟨hi, ehi⟩ : ∃ q, h + sumHi l (d / 2) 0 = q := ⟨_, rfl⟩
  obtain ⟨Y, eY⟩ : ∃ q, l + B64 * h = q := ⟨_, rfl⟩
  rw [elo] at hv hlo CP
  rw [ehi] at hv CP
  rw [eY] at hv
  rw [eY]
  clear elo ehi eY s1
  by_cases t1 : d ≤ hi
  · have hf := near_far (b := b) (X := Y) hd0 (by rw [← hv]; have := Nat.mul_le_mul_right B64 t1; omega)
    rw [(nI_no hf).1, (nI_no hf).2]
    exact nearest_far CP k1 t1
  · have CD : ∀ W : World, Calls Tryz.prog 38 #[.int .u64 (hi : Int), .int .u64 (lo : Int), .int .u64 (d : Int)] W (GotV W (.tuple #[.int .u64 (((hi * B64 + lo) / d : Nat) : Int), .int .u64 (((hi * B64 + lo) % d : Nat) : Int)])) :=
      fun W => (div64_N hi lo d W (by omega) hlo hd).mono fun e w' h => got_drewn h
    rw [hv] at CD
    have ht : (Y + d / 2) / d < B64 := by
      rw [Nat.div_lt_iff_lt_mul hd0, ← hv]
      have := Nat.mul_le_mul_right B64 (show hi + 1 ≤ d by omega)
      rw [Nat.add_mul, Nat.mul_comm d] at this
      omega
    obtain ⟨t, et⟩ : ∃ q, (Y + d / 2) / d = q := ⟨_, rfl⟩
    by_cases p : d % 2 = 1
    · have hz : sgn b t = rn (sgn b Y) d := by rw [rn_sgn b Y (by omega), ← near_odd hd0 p, et]; cases b <;> rfl
      rw [et] at CD ht
      exact nearest_odd CP CD k1 (by omega) p hz ht
    · have CQ : ∀ W : World, Calls Tryz.prog 19 #[.int .u64 (t : Int), .int .u64 (d : Int)] W (GotV W (.agg #[.int .u64 (mulLo t d : Int), .int .u64 (mulHi t d : Int)])) := fun W => product_N (by omega) hd
      by_cases he : t * d = Y + d / 2
      · have hz : sgn b (t - t % 2) = rn (sgn b Y) d := by rw [rn_sgn b Y (by omega), ← near_eq hd0 (by omega) (by rw [et]; exact he), et]; cases b <;> rfl
        have hl2 := (limbs_eq (t := t) (d := d) (lo := lo) (hi := hi) hlo).2 (by rw [hv]; exact he)
        rw [hl2.1, hl2.2] at CQ
        rw [et] at CD ht
        obtain ⟨u, eu⟩ : ∃ q, t - t % 2 = q := ⟨_, rfl⟩
        rw [eu] at hz
        exact nearest_eq CP CD k1 (by omega) CQ (by omega) (by rw [IntKind.wrap_u64]; unfold B64 at ht; omega) (by rw [Int.tmod_eq_emod_of_nonneg (by omega)]) hz (by omega)
      · have hz : sgn b t = rn (sgn b Y) d := by rw [rn_sgn b Y (by omega), ← near_ne hd0 (by omega) (by rw [et]; exact he), et]; cases b <;> rfl
        have hl2 := limbs_eq (t := t) (d := d) (lo := lo) (hi := hi) hlo
        rw [hv] at hl2
        rw [et] at CD ht
        refine nearest_ne CP CD k1 (by omega) CQ (by omega) ?_ hz ht
        have hne : ¬ (mulLo t d = lo ∧ mulHi t d = hi) := fun k => he (hl2.1 k)
        by_cases h1 : lo = mulLo t d
        · have h2 : ¬ hi = mulHi t d := fun k => hne ⟨h1.symm, k.symm⟩
          simp
          intro _
          omega
        · simp
          intro _
          omega

end Go.Proofs.YtmaolhajeoigpaaGreat

/-
  The contracts of the landed fix: Add, Sub.
-/
namespace Go.Proofs.YtmaolhajeoigpaaGreat
open Go.RowKit
set_option linter.unusedVariables false
set_option linter.unusedSimpArgs false







end Go.Proofs.YtmaolhajeoigpaaGreat

/-
  The contracts of the landed fix: Mul, Div, Scale.
-/
namespace Go.Proofs.YtmaolhajeoigpaaGreat
set_option maxRecDepth 100000
set_option maxHeartbeats 8000000
open Go.RowKit
set_option linter.unusedVariables false
set_option linter.unusedSimpArgs false

theorem sgn_prod {a b : Int} {n : Bool} (hn : (decide (a < 0) != decide (b < 0)) = n) : sgn n (a.natAbs * b.natAbs) = a * b := by rw [← hn]; exact sgn_mul rfl rfl
theorem sgn_quot {a b : Int} {n : Bool} (k : Nat) (hn : (decide (a < 0) != decide (b < 0)) = n) (hb : b ≠ 0) : sgn n (a.natAbs * 2 ^ k) = b.sign * (a * ((2 ^ k : Nat) : Int)) := by
  have h1 : b.sign * (a * ((2 ^ k : Nat) : Int)) = (a * b.sign) * ((2 ^ k : Nat) : Int) := by rw [← Int.mul_assoc, Int.mul_comm b.sign]
  rw [h1, ← hn]
  obtain ⟨o, eo⟩ : ∃ o : Nat, 2 ^ k = o := ⟨_, rfl⟩
  rw [eo]
  rcases Int.lt_trichotomy b 0 with h | h | h
  · rw [Int.sign_eq_neg_one_of_neg h]
    by_cases ha : a < 0
    · have e : a * -1 = (a.natAbs : Int) := by omega
      rw [e]; unfold sgn; simp [ha, h]
    · have e : a * -1 = -(a.natAbs : Int) := by omega
      rw [e, Int.neg_mul]; unfold sgn; simp [ha, h]
  · exact absurd h hb
  · rw [Int.sign_eq_one_of_pos h, Int.mul_one]
    have h' : ¬ b < 0 := by omega
    by_cases ha : a < 0
    · have e : a = -(a.natAbs : Int) := by omega
      have e2 : a * (o : Int) = -((a.natAbs * o : Nat) : Int) := by rw [Int.natCast_mul, ← Int.neg_mul, ← e]
      rw [e2]; unfold sgn; simp [ha, h']
    · have e : a = (a.natAbs : Int) := by omega
      have e2 : a * (o : Int) = ((a.natAbs * o : Nat) : Int) := by rw [Int.natCast_mul, ← e]
      rw [e2]; unfold sgn; simp [ha, h']

theorem fmul_N {w : World} {a b j : Int} (ha : I64 a) (hb : I64 b) (j0 : 0 ≤ j) (j1 : j ≤ 40) :
    Calls Tryz.prog 46 #[.int .i64 a, .int .i64 b, .int .i64 j] w (GotV w (.tuple #[.int .i64 (nI (rn (a * b) (2 ^ j.toNat))), .int .i64 (nE (rn (a * b) (2 ^ j.toNat)))])) := by
  have je := to_nat j0
  obtain ⟨k, hk⟩ : ∃ k, j.toNat = k := ⟨_, rfl⟩
  rw [hk] at je ⊢
  have k40 : k ≤ 40 := by omega
  have km : min k 64 = k := by omega
  have pk := pow_size k40
  have p0 : 0 < 2 ^ k := Nat.pow_pos (by omega)
  have kw : ((2 : Int) ^ k) = ((2 ^ k : Nat) : Int) := by simp
  obtain ⟨o, eo⟩ : ∃ o, 2 ^ k = o := ⟨_, rfl⟩
  rw [eo] at pk p0 kw ⊢
  have ob : o < B64 := by unfold B64; omega
  have k1 : IntKind.u64.wrap ((2 : Int) ^ k) = (o : Int) := by rw [kw, IntKind.wrap_u64]; unfold B64 at ob; omega
  have k2 : IntKind.u64.wrap ((2 : Int) ^ j.toNat) = (o : Int) := by rw [hk]; exact k1
  clear kw k1
  obtain ⟨x, ex⟩ : ∃ x, a.natAbs = x := ⟨_, rfl⟩
  obtain ⟨y, ey⟩ : ∃ y, b.natAbs = y := ⟨_, rfl⟩
  have sa := i64_size ha
  have sb := i64_size hb
  have b64 : B64 = 18446744073709551616 := rfl
  obtain ⟨p, hp⟩ : ∃ p, decide (a < 0) = p := ⟨_, rfl⟩
  obtain ⟨q, hq⟩ : ∃ q, decide (b < 0) = q := ⟨_, rfl⟩
  obtain ⟨n, hn⟩ : ∃ n, (p != q) = n := ⟨_, rfl⟩
  have hn' : (!(p == q)) = n := hn
  have hs : sgn n (x * y) = a * b := by rw [← ex, ← ey]; exact sgn_prod (by rw [hp, hq]; exact hn)
  rw [ex] at sa
  rw [ey] at sb
  obtain ⟨l, el⟩ : ∃ l, mulLo x y = l := ⟨_, rfl⟩
  obtain ⟨h, eh⟩ : ∃ h, mulHi x y = h := ⟨_, rfl⟩
  have hl : l < B64 := by rw [← el]; exact mulLo_lt _ _
  have hh : h + 1 < B64 := by rw [← eh]; exact hi_small (by omega) (by omega)
  have hx : l + B64 * h = x * y := by rw [← el, ← eh]; exact mul_limbs _ _
  obtain ⟨z, ez⟩ : ∃ z, rn (a * b) o = z := ⟨_, rfl⟩
  rw [ez]
  have CZ : ∀ (W : World), Calls Tryz.prog 20 #[.int .i64 a] W (GotV W (.int .u64 (x : Int))) := fun W => by rw [← ex]; exact size_N W ha
  have CY : ∀ (W : World), Calls Tryz.prog 20 #[.int .i64 b] W (GotV W (.int .u64 (y : Int))) := fun W => by rw [← ey]; exact size_N W hb
  have CP : ∀ (W : World), Calls Tryz.prog 19 #[.int .u64 (x : Int), .int .u64 (y : Int)] W (GotV W (.agg #[.int .u64 (l : Int), .int .u64 (h : Int)])) := fun W => by rw [← el, ← eh]; exact product_N (by omega) (by omega)
  have CN : ∀ (W : World), Calls Tryz.prog 18 #[.bool n, .agg #[.int .u64 (l : Int), .int .u64 (h : Int)], .int .u64 (o : Int)] W (GotV W (.tuple #[.int .i64 (nI z), .int .i64 (nE z)])) := fun W => by rw [← ez]; exact by have h := nearest_N (w := W) (b := n) hl hh p0 ob; rw [hx, hs] at h; exact h
  clear hk eo pk p0 ex ey sa sb hs hx ez el eh hl hh ob hn b64
  have cc := Below.refl w.heap.size w
  go_enter Tryz.func46, Tryz.ntmps46
  go_wp2_with fail
  refine (isf_2 _ j0 j1).mono ?_
  rintro e w1 ⟨rfl, b⟩
  replace cc := bK cc b
  clear b
  go_wp2_with fail
  have bD : Below w1.heap.size w1 w1.drew := below_drewN (Below.refl _ w1) 1
  replace cc := bK cc bD
  clear bD
  refine wp_region_held_drew (S := fun w' => True) (by kernel_rfl) ?_ (fun hHeld => ?_)
  · exact ⟨⟩
  refine tY (i := 0) (v := ?_) rfl ?_ hHeld ?_
  rotate_left
  · (intro w hSw; (try dsimp only at hSw); go_simp; (try with_reducible rfl))
  try simp only [Act.put, pT]
  refine tY (i := 1) (v := ?_) rfl ?_ hHeld ?_
  rotate_left
  · (intro w hSw; (try dsimp only at hSw); go_simp; (try with_reducible rfl))
  try simp only [Act.put, pT]
  refine tY (i := 2) (v := ?_) rfl ?_ hHeld ?_
  rotate_left
  · (intro w hSw; (try dsimp only at hSw); go_simp; (try with_reducible rfl))
  try simp only [Act.put, pT]
  refine tY (i := 3) (v := ?_) rfl ?_ hHeld ?_
  rotate_left
  · (intro w hSw; (try dsimp only at hSw); go_simp; (try with_reducible rfl))
  try simp only [Act.put, pT]
  refine tY (i := 4) (v := ?_) rfl ?_ hHeld ?_
  rotate_left
  · (intro w hSw; (try dsimp only at hSw); go_simp; (try with_reducible rfl))
  try simp only [Act.put, pT]
  refine tY (i := 5) (v := ?_) rfl ?_ hHeld ?_
  rotate_left
  · (intro w hSw; (try dsimp only at hSw); go_simp; (try with_reducible rfl))
  try simp only [Act.put, pT]
  refine tY (i := 7) (v := ?_) rfl ?_ hHeld ?_
  rotate_left
  · (intro w hSw; (try dsimp only at hSw); go_simp; (try with_reducible rfl))
  try simp only [Act.put, pT]
  refine tY (i := 10) (v := ?_) rfl ?_ hHeld ?_
  rotate_left
  · (intro w hSw; (try dsimp only at hSw); go_simp; (try with_reducible rfl))
  try simp only [Act.put, pT]
  refine tY (i := 11) (v := ?_) rfl ?_ hHeld ?_
  rotate_left
  · (intro w hSw; (try dsimp only at hSw); go_simp; (try with_reducible rfl))
  try simp only [Act.put, pT]
  refine wpAnyH_ready (rs := [6]) (by kernel_rfl) (by simp) ?_
  refine AllReadyH.cons rfl (fun K hK => ?_) AllReadyH.nil
  (try simp only [pT])
  rw [if_pos (by rfl)]
  go_simp
  go_at_call 20
  refine (CZ _).mono ?_
  rintro e w2 ⟨rfl, b⟩
  replace cc := bK cc b
  clear b
  refine hK.out _ _ ?_ (fun hHeld => ?_)
  · exact ⟨⟩
  clear hK K
  try simp only [Act.put, pT]
  refine wpAnyH_ready (rs := [8]) (by kernel_rfl) (by simp) ?_
  refine AllReadyH.cons rfl (fun K hK => ?_) AllReadyH.nil
  (try simp only [pT])
  rw [if_pos (by rfl)]
  go_simp
  go_at_call 20
  refine (CY _).mono ?_
  rintro e w3 ⟨rfl, b⟩
  replace cc := bK cc b
  clear b
  refine hK.out _ _ ?_ (fun hHeld => ?_)
  · exact ⟨⟩
  clear hK K
  try simp only [Act.put, pT]
  refine wpAnyH_ready (rs := [9]) (by kernel_rfl) (by simp) ?_
  refine AllReadyH.cons rfl (fun K hK => ?_) AllReadyH.nil
  (try simp only [pT])
  rw [if_pos (by rfl)]
  go_simp
  go_at_call 19
  refine (CP _).mono ?_
  rintro e w4 ⟨rfl, b⟩
  replace cc := bK cc b
  clear b
  refine hK.out _ _ ?_ (fun hHeld => ?_)
  · exact ⟨⟩
  clear hK K
  try simp only [Act.put, pT]
  refine wpAnyH_ready (rs := [12]) (by kernel_rfl) (by simp) ?_
  refine AllReadyH.cons rfl (fun K hK => ?_) AllReadyH.nil
  (try simp only [pT])
  rw [if_pos (by rfl)]
  go_simp
  go_at_call 18
  refine (CN _).mono ?_
  rintro e w5 ⟨rfl, b⟩
  replace cc := bK cc b
  clear b
  refine hK.out _ _ ?_ (fun hHeld => ?_)
  · exact ⟨⟩
  clear hK K
  try simp only [Act.put, pT]
  refine tY (i := 13) (v := ?_) rfl ?_ hHeld ?_
  rotate_left
  · (intro w hSw; (try dsimp only at hSw); go_simp; (try with_reducible rfl))
  try simp only [Act.put, pT]
  refine tY (i := 14) (v := ?_) rfl ?_ hHeld ?_
  rotate_left
  · (intro w hSw; (try dsimp only at hSw); go_simp; (try with_reducible rfl))
  try simp only [Act.put, pT]
  refine tY (i := 15) (v := ?_) rfl ?_ hHeld ?_
  rotate_left
  · (intro w hSw; (try dsimp only at hSw); go_simp; (try with_reducible rfl))
  try simp only [Act.put, pT]
  refine tY (i := 16) (v := ?_) rfl ?_ hHeld ?_
  rotate_left
  · (intro w hSw; (try dsimp only at hSw); go_simp; (try with_reducible rfl))
  try simp only [Act.put, pT]
  refine wpAnyH_done (by kernel_rfl) ?_ _
  clear hHeld
  go_wp2_with fail
  go_ret2
  exact ⟨rfl, cc⟩

theorem fmul_no {w : World} {a b j : Int} (ha : I64 a) (hb : I64 b) (h : j < 0 ∨ 40 < j) :
    Calls Tryz.prog 46 #[.int .i64 a, .int .i64 b, .int .i64 j] w (GotV w (.tuple #[.int .i64 (0), .int .i64 (1)])) := by
  have cc := Below.refl w.heap.size w
  go_enter Tryz.func46, Tryz.ntmps46
  go_wp2_with fail
  refine (isf_no _ h).mono ?_
  rintro e w1 ⟨rfl, b⟩
  replace cc := bK cc b
  clear b
  go_wp2_with fail
  go_ret2
  exact ⟨rfl, cc⟩




theorem fscale_N {w : World} {a b d : Int} (ha : I64 a) (hb : I64 b) (hd : I64 d) (h1 : 1 ≤ d) :
    Calls Tryz.prog 10 #[.int .i64 a, .int .i64 b, .int .i64 d] w (GotV w (.tuple #[.int .i64 (nI (rn (a * b) d.natAbs)), .int .i64 (nE (rn (a * b) d.natAbs))])) := by
  have t1_ : decide (d < 1) = false := decide_eq_false (by omega)
  obtain ⟨x, ex⟩ : ∃ x, a.natAbs = x := ⟨_, rfl⟩
  obtain ⟨y, ey⟩ : ∃ y, b.natAbs = y := ⟨_, rfl⟩
  have sa := i64_size ha
  have sb := i64_size hb
  have b64 : B64 = 18446744073709551616 := rfl
  obtain ⟨v, ev⟩ : ∃ v, d.natAbs = v := ⟨_, rfl⟩
  have sd := i64_size hd
  obtain ⟨p, hp⟩ : ∃ p, decide (a < 0) = p := ⟨_, rfl⟩
  obtain ⟨q, hq⟩ : ∃ q, decide (b < 0) = q := ⟨_, rfl⟩
  obtain ⟨n, hn⟩ : ∃ n, (p != q) = n := ⟨_, rfl⟩
  have hn' : (!(p == q)) = n := hn
  have hs : sgn n (x * y) = a * b := by rw [← ex, ← ey]; exact sgn_prod (by rw [hp, hq]; exact hn)
  rw [ex] at sa
  rw [ey] at sb
  have v0 : 0 < v := by omega
  rw [ev] at sd ⊢
  have vb : v < B64 := by omega
  obtain ⟨l, el⟩ : ∃ l, mulLo x y = l := ⟨_, rfl⟩
  obtain ⟨h, eh⟩ : ∃ h, mulHi x y = h := ⟨_, rfl⟩
  have hl : l < B64 := by rw [← el]; exact mulLo_lt _ _
  have hh : h + 1 < B64 := by rw [← eh]; exact hi_small (by omega) (by omega)
  have hx : l + B64 * h = x * y := by rw [← el, ← eh]; exact mul_limbs _ _
  obtain ⟨z, ez⟩ : ∃ z, rn (a * b) v = z := ⟨_, rfl⟩
  rw [ez]
  have CZ : ∀ (W : World), Calls Tryz.prog 20 #[.int .i64 a] W (GotV W (.int .u64 (x : Int))) := fun W => by rw [← ex]; exact size_N W ha
  have CY : ∀ (W : World), Calls Tryz.prog 20 #[.int .i64 b] W (GotV W (.int .u64 (y : Int))) := fun W => by rw [← ey]; exact size_N W hb
  have CV : ∀ (W : World), Calls Tryz.prog 20 #[.int .i64 d] W (GotV W (.int .u64 (v : Int))) := fun W => by rw [← ev]; exact size_N W hd
  have CP : ∀ (W : World), Calls Tryz.prog 19 #[.int .u64 (x : Int), .int .u64 (y : Int)] W (GotV W (.agg #[.int .u64 (l : Int), .int .u64 (h : Int)])) := fun W => by rw [← el, ← eh]; exact product_N (by omega) (by omega)
  have CN : ∀ (W : World), Calls Tryz.prog 18 #[.bool n, .agg #[.int .u64 (l : Int), .int .u64 (h : Int)], .int .u64 (v : Int)] W (GotV W (.tuple #[.int .i64 (nI z), .int .i64 (nE z)])) := fun W => by rw [← ez]; exact by have h := nearest_N (w := W) (b := n) hl hh v0 vb; rw [hx, hs] at h; exact h
  clear ex ey ev sa sb sd hs hx ez el eh hl hh vb v0 hn b64 h1
  have cc := Below.refl w.heap.size w
  go_enter Tryz.func10, Tryz.ntmps10
  go_wp2_with fail
  refine (CZ _).mono ?_
  rintro e w1 ⟨rfl, b⟩
  replace cc := bK cc b
  clear b
  go_wp2_with fail
  refine (CY _).mono ?_
  rintro e w2 ⟨rfl, b⟩
  replace cc := bK cc b
  clear b
  go_wp2_with fail
  refine (CP _).mono ?_
  rintro e w3 ⟨rfl, b⟩
  replace cc := bK cc b
  clear b
  go_wp2_with fail
  refine (CV _).mono ?_
  rintro e w4 ⟨rfl, b⟩
  replace cc := bK cc b
  clear b
  go_wp2_with fail
  refine (CN _).mono ?_
  rintro e w5 ⟨rfl, b⟩
  replace cc := bK cc b
  clear b
  go_wp2_with fail
  go_ret2
  exact ⟨rfl, cc⟩

theorem fscale_no {w : World} {a b d : Int} (ha : I64 a) (hb : I64 b) (hd : I64 d) (h : d < 1) :
    Calls Tryz.prog 10 #[.int .i64 a, .int .i64 b, .int .i64 d] w (GotV w (.tuple #[.int .i64 (0), .int .i64 (1)])) := by
  have t1_ : decide (d < 1) = true := decide_eq_true h
  have cc := Below.refl w.heap.size w
  go_enter Tryz.func10, Tryz.ntmps10
  go_wp2_with fail
  go_wp2_with fail
  go_ret2
  exact ⟨rfl, cc⟩

end Go.Proofs.YtmaolhajeoigpaaGreat

/-
  The contracts of the landed sched: byDrops.
-/
namespace Go.Proofs.YtmaolhajeoigpaaGreat
set_option maxRecDepth 100000
open Go.RowKit
set_option linter.unusedVariables false
set_option linter.unusedSimpArgs false

attribute [local go_sem ↓] mn15_run

set_option maxHeartbeats 8000000 in
theorem sDrops_N {w : World} {kd ba ra en wa ev la po t f : Int} (hR : OkR f kd ba ra en wa ev la po) (hT : 1 ≤ t ∧ t ≤ 1000000) (hI : I64 kd ∧ I64 ba ∧ I64 ra ∧ I64 en ∧ I64 wa ∧ I64 ev ∧ I64 la ∧ I64 po ∧ I64 t ∧ I64 f) (hw : ¬ t ≤ wa) (hk : kd = 2) :
    Calls Tryz.prog 23 #[.agg #[.int .i64 kd, .int .i64 ba, .int .i64 ra, .int .i64 en, .int .i64 wa, .int .i64 ev, .int .i64 la, .int .i64 po], .int .i64 t, .int .i64 f] w (GotV w (.int .i64 (dropR ba ra (2 ^ f.toNat) (min ((t - wa) / ev) 200).toNat))) := by
  obtain ⟨f0, f1, b0, w0, d0, p0⟩ := id hR
  obtain ⟨i_kd, i_ba, i_ra, i_en, i_wa, i_ev, i_la, i_po, i_t, i_f⟩ := id hI
  obtain ⟨d1, d2, d3⟩ := d0 hk
  have hd : 2 ^ f.toNat ≠ 0 := Nat.ne_of_gt (Nat.pow_pos (by omega))
  have hin := drop_in hd b0 d2 d3
  obtain ⟨X, eX⟩ : ∃ X : Nat → Int, dropR ba ra (2 ^ f.toNat) = X := ⟨_, rfl⟩
  have HX : Hid (∀ i, rn (X i * ra) (2 ^ f.toNat) = X (i + 1)) := Lib.hid (fun i => by rw [← eX]; rfl)
  have HX0 : Hid (X 0 = ba) := Lib.hid (by rw [← eX]; rfl)
  rw [eX] at hin ⊢
  have HXI : Hid (∀ i, I64 (X i)) := Lib.hid (fun i => by have := hin i; unfold I64 at i_ba ⊢; omega)
  have CMu : ∀ (W : World) (i : Nat), Calls Tryz.prog 46 #[.int .i64 (X i), .int .i64 ra, .int .i64 f] W (GotV W (.tuple #[.int .i64 (X (i + 1)), .int .i64 0])) := fun W i => by
    have h := fmul_N (w := W) (HXI.out i) i_ra f0.1 f0.2
    rw [HX.out i, (nI_yes (HXI.out (i + 1))).1, (nI_yes (HXI.out (i + 1))).2] at h
    exact h
  obtain ⟨q, eq⟩ : ∃ q, (t - wa) / ev = q := ⟨_, rfl⟩
  have q0 : 0 ≤ q ∧ q ≤ 1000000 := by rw [← eq]; exact ⟨Int.ediv_nonneg (by omega) (by omega), Int.le_trans (Int.ediv_le_self _ (by omega)) (by omega)⟩
  obtain ⟨N, eN⟩ : ∃ N : Nat, mn15 q = (N : Int) := ⟨(mn15 q).toNat, by unfold mn15; omega⟩
  have hN : N ≤ 200 := by unfold mn15 at eN; omega
  have eM : (min q 200).toNat = N := by unfold mn15 at eN; omega
  rw [eq, eM]
  obtain ⟨a, ea⟩ : ∃ a, t - wa = a := ⟨_, rfl⟩
  have k1 : IntKind.i64.wrap (t - wa) = a := by rw [ea]; exact IntWalk.i64_in _ (by omega)
  rw [ea] at eq
  have k5 : (ev == 0) = false := beq_eq_false_iff_ne.2 (by omega)
  have k7 : ¬ ev = 0 := by omega
  have k3q : Int.tdiv a ev = q := by rw [Int.tdiv_eq_ediv_of_nonneg (by omega)]; exact eq
  have k4q : IntKind.i64.wrap q = q := IntWalk.i64_in _ (by omega)
  have k6q : IntKind.i64.wrap (a / ev) = q := by rw [eq]; exact k4q
  have HN := Lib.hid hN
  clear f0 f1 b0 w0 d0 p0 i_kd i_ba i_ra i_en i_wa i_ev i_la i_po i_t i_f hR hT hI hw hk d1 d2 d3 hd hin eX eq q0 hN eM ea
  have cc := Below.refl w.heap.size w
  go_enter Tryz.func23, Tryz.ntmps23
  go_wp2_with fail
  generalize hv_ : w.alloc (.cells #[.int .i64 kd, .int .i64 ba, .int .i64 ra, .int .i64 en, .int .i64 wa, .int .i64 ev, .int .i64 la, .int .i64 po] 23) = v1
  have bA : Below w.heap.size w v1 := by rw [← hv_]; exact ((Below.refl _ w).alloc (by simp) _)
  replace cc := bK cc bA
  clear bA
  have sc0 : v1.cell? ⟨w.heap.size, 0, none⟩ = some (.int .i64 kd) := by simp [← hv_, go_sem]
  have sc1 : v1.cell? ⟨w.heap.size, 1, none⟩ = some (.int .i64 ba) := by simp [← hv_, go_sem]
  have sc2 : v1.cell? ⟨w.heap.size, 2, none⟩ = some (.int .i64 ra) := by simp [← hv_, go_sem]
  have sc3 : v1.cell? ⟨w.heap.size, 3, none⟩ = some (.int .i64 en) := by simp [← hv_, go_sem]
  have sc4 : v1.cell? ⟨w.heap.size, 4, none⟩ = some (.int .i64 wa) := by simp [← hv_, go_sem]
  have sc5 : v1.cell? ⟨w.heap.size, 5, none⟩ = some (.int .i64 ev) := by simp [← hv_, go_sem]
  have sc6 : v1.cell? ⟨w.heap.size, 6, none⟩ = some (.int .i64 la) := by simp [← hv_, go_sem]
  have sc7 : v1.cell? ⟨w.heap.size, 7, none⟩ = some (.int .i64 po) := by simp [← hv_, go_sem]
  have scl : w.heap.size < v1.heap.size := by simp [← hv_] <;> omega
  clear hv_
  have H0 := Lib.hid sc0
  have H1 := Lib.hid sc1
  have H2 := Lib.hid sc2
  have H3 := Lib.hid sc3
  have H4 := Lib.hid sc4
  have H5 := Lib.hid sc5
  have H6 := Lib.hid sc6
  have H7 := Lib.hid sc7
  have HL := Lib.hid scl
  have HC := Lib.hid cc
  go_wp2_with fail
  clear sc0 sc1 sc2 sc3 sc4 sc5 sc6 sc7 scl cc
  go_loopw [7, 18] (fun ov iv wr => ∃ i : Nat, i ≤ N ∧ iv = .int .i64 (i : Int) ∧ ov = .int .i64 (X i) ∧ Below v1.heap.size v1 wr) (fun _ iv _ => N - (intOf iv).toNat)
  case atStart => exact ⟨0, by omega, rfl, by rw [HX0.out], Below.refl _ _⟩
  case round =>
    obtain ⟨i, hi, rfl, rfl, hbl⟩ := hrel
    have sc0 := (hbl.cell (p := ⟨w.heap.size, 0, none⟩) HL.out).trans H0.out
    have sc1 := (hbl.cell (p := ⟨w.heap.size, 1, none⟩) HL.out).trans H1.out
    have sc2 := (hbl.cell (p := ⟨w.heap.size, 2, none⟩) HL.out).trans H2.out
    have sc3 := (hbl.cell (p := ⟨w.heap.size, 3, none⟩) HL.out).trans H3.out
    have sc4 := (hbl.cell (p := ⟨w.heap.size, 4, none⟩) HL.out).trans H4.out
    have sc5 := (hbl.cell (p := ⟨w.heap.size, 5, none⟩) HL.out).trans H5.out
    have sc6 := (hbl.cell (p := ⟨w.heap.size, 6, none⟩) HL.out).trans H6.out
    have sc7 := (hbl.cell (p := ⟨w.heap.size, 7, none⟩) HL.out).trans H7.out
    have scl := Nat.lt_of_lt_of_le HL.out hbl.size
    have cc := HC.out.trans (hbl.mono HC.out.size)
    have hN := HN.out
    by_cases hlt : i < N
    · have CMi := fun W : World => CMu W i
      have k8 : IntKind.i64.wrap ((i : Int) + 1) = ((i + 1 : Nat) : Int) := by rw [IntWalk.i64_in _ (by omega)]; omega
      have jl : (i : Int) < (N : Int) := by omega
      obtain ⟨x, ex⟩ : ∃ x, X i = x := ⟨_, rfl⟩
      obtain ⟨y, ey⟩ : ∃ y, X (i + 1) = y := ⟨_, rfl⟩
      rw [ex, ey] at CMi
      rw [ex]
      have HY := Lib.hid ey
      clear ex ey CMu
      go_wp2_with fail
      refine (CMi _).mono ?_
      rintro e wz ⟨rfl, b⟩
      replace hbl := bK hbl b
      clear b
      go_wp2_with fail
      go_roundw
      case rel => exact ⟨i + 1, by omega, by go_num, by rw [HY.out], hbl⟩
      case measure => simp [intOf] <;> omega
    · obtain rfl : i = N := by omega
      generalize X i = x at *
      go_wp2_with fail
      go_ret
      exact ⟨rfl, cc⟩

end Go.Proofs.YtmaolhajeoigpaaGreat

/-
  The contract of the eighth reference: Sqrt.
-/
namespace Go.Proofs.YtmaolhajeoigpaaGreat
open Go.RowKit
set_option linter.unusedVariables false
set_option linter.unusedSimpArgs false

attribute [local go_sem] field_N
theorem root8_fits {a : Int} (ha : I64 a) {k : Nat} (hk : k ≤ 40) : I64 ((iroot 2 (a.natAbs * 2 ^ k) : Nat) : Int) := by
  have h1 : a.natAbs < 9223372036854775808 + 1 := by unfold I64 at ha; omega
  have h2 : 2 ^ k ≤ 1099511627776 := Nat.le_trans (Nat.pow_le_pow_right (by omega) hk) (by decide)
  have h3 : a.natAbs * 2 ^ k ≤ 9223372036854775808 * 1099511627776 := Nat.mul_le_mul (by omega) h2
  have h4 : iroot 2 (a.natAbs * 2 ^ k) ≤ 9223372036854775807 := by
    refine Nat.le_of_not_lt fun h => ?_
    have h5 := iroot_pow (k := 2) (a.natAbs * 2 ^ k) (by omega)
    have h6 : 9223372036854775808 ^ 2 ≤ iroot 2 (a.natAbs * 2 ^ k) ^ 2 := Nat.pow_le_pow_left h 2
    omega
  unfold I64; omega




end Go.Proofs.YtmaolhajeoigpaaGreat

/-
  The contracts of dyad: rounded.
-/
namespace Go.Proofs.YtmaolhajeoigpaaGreat
set_option maxRecDepth 100000
set_option maxHeartbeats 8000000
open Go.RowKit
set_option linter.unusedVariables false
set_option linter.unusedSimpArgs false

theorem rdnea_ff {w : World} {b0 : Bool} {A0 B0 : Option Addr} {n0 c0 m0 d0 : Nat} {g : Nat} {x0 : Rat} (hx : Rt w b0 A0 n0 c0 B0 m0 d0 x0) (s0 : Sz x0 20) {j : Int} (h0 : 0 ≤ j) (h1 : j ≤ 500) (hg : BoxR w g b0 A0 n0 c0 B0 m0 d0) (hs : ¬ x0.num < 0) (ht : fars (x0.num.natAbs * 2 ^ j.toNat) x0.den = false) :
    Calls Tryz.prog 114 #[.agg #[.bool b0, .slice A0 n0 c0, .slice B0 m0 d0], .int .i64 j, .func (.func 115) #[] #[.pointer (some ⟨g, 0, none⟩)]] w (GotZp w (nea x0 j.toNat) 0) := by
  have je := to_nat h0
  have jl : j.toNat ≤ 500 := by omega
  have hj2 : j ≤ 2000 := by omega
  obtain ⟨k, hk⟩ : ∃ k, j.toNat = k := ⟨_, rfl⟩
  rw [hk] at je jl ht ⊢
  have lk := len_pow2 jl
  have p0 := hx.1.1
  have q0 := hx.2
  have hb0 : b0 = false := by rw [hx.1.2]; exact decide_eq_false hs
  subst hb0
  have lp := s0.1
  have lq := s0.2
  have hq0 := x0.den_nz
  have lu : (limbs (x0.num.natAbs * 2 ^ k)).length ≤ 28 := limbs_length_mul lp lk
  have ld : (limbs (x0.num.natAbs * 2 ^ k / x0.den)).length ≤ 28 := Nat.le_trans (limbs_length_mono (Nat.div_le_self _ _)) lu
  have hlt := Nat.mod_lt (x0.num.natAbs * 2 ^ k) (Nat.pos_of_ne_zero hq0)
  have lr : (limbs (x0.num.natAbs * 2 ^ k % x0.den)).length ≤ 20 := Nat.le_trans (limbs_length_mono (Nat.le_of_lt hlt)) lq
  clear hlt
  have HF : nea x0 k = (((x0.num.natAbs * 2 ^ k / x0.den : Nat) : Nat) : Int) := by rw [nea_pos x0 k hs, if_neg (by rw [ht]; decide), Nat.add_zero]
  have CK : ∀ {W : World} {A B : Option Addr} {n c m d : Nat}, W.cell? ⟨g, 0, none⟩ = some (.bool false) → W.cell? ⟨g, 1, none⟩ = some (.slice A0 n0 c0) → W.cell? ⟨g, 2, none⟩ = some (.slice B0 m0 d0) → Num W A n c (x0.num.natAbs * 2 ^ k / x0.den) → Num W B m d (x0.num.natAbs * 2 ^ k % x0.den) → Num W B0 m0 d0 x0.den → Calls Tryz.prog 115 #[.slice A n c, .slice B m d, .pointer (some ⟨g, 0, none⟩)] W (GotV W (.bool false)) := fun r0 r1 r2 ha hb hq => by rw [← ht]; exact knear_N r0 r1 r2 ha hb hq (by omega) (by omega)
  obtain ⟨u, hU⟩ : ∃ u, x0.num.natAbs * 2 ^ k = u := ⟨_, rfl⟩
  obtain ⟨t, hT⟩ : ∃ t, x0.num.natAbs * 2 ^ k / x0.den = t := ⟨_, rfl⟩
  obtain ⟨l, hL⟩ : ∃ l, x0.num.natAbs * 2 ^ k % x0.den = l := ⟨_, rfl⟩
  rw [hT, hL] at CK
  rw [hT] at HF ld
  rw [hL] at lr
  rw [hU] at lu hT hL
  have CU : ∀ {W : World} {A : Option Addr} {m c : Nat}, Num W A m c x0.num.natAbs → Calls Tryz.prog 128 #[.slice A m c, .int .i64 j] W (GotP W u 0) := fun ha => by rw [← je, ← hU]; exact dshl_N ha (by omega) (by omega)
  have CD : ∀ {W : World} {A B : Option Addr} {n c m d : Nat}, Num W A n c u → Num W B m d x0.den → Calls Tryz.prog 43 #[.slice A n c, .slice B m d] W (GotD W t l) := fun ha hb => by rw [← hT, ← hL]; exact ddiv_N ha hb (by omega) (by omega) hq0
  have HV := Lib.hid HF
  clear HF hU hT hL hs ht lu
  obtain ⟨r0, r1, r2⟩ := hg
  have rl := cell_lt r0
  simp only at rl
  have cc := Below.refl w.heap.size w
  go_enter Tryz.func114, Tryz.ntmps114
  go_wp2_with fail
  generalize hv_ : (w.alloc (.cells #[.bool false, .slice A0 n0 c0, .slice B0 m0 d0] 51)).alloc (.cells #[.bool false, .slice none 0 0] 49) = v1
  obtain ⟨f0, f1⟩ : Fz2 v1 (w.heap.size + 1) := by simp [Fz2, ← hv_, go_sem]
  have bA : Below w.heap.size w v1 := by rw [← hv_]; exact (((Below.refl _ w).alloc (by simp) _).alloc (by simp) _)
  replace p0 := p0.on bA
  replace q0 := q0.on bA
  rewrite [cR bA rl] at r0 r1 r2
  replace rl := lK bA rl
  replace cc := bK cc bA
  clear bA
  obtain ⟨k0, k1, k2⟩ : Cs3 v1 w.heap.size (.bool false) (.slice A0 n0 c0) (.slice B0 m0 d0) := by simp [Cs3, ← hv_, go_sem]
  have kl : w.heap.size < v1.heap.size := by simp [← hv_] <;> omega
  obtain ⟨g0, g1⟩ : Cs2 v1 (w.heap.size + 1) (.bool false) (.slice none 0 0) := by simp [Cs2, ← hv_, go_sem]
  have gl : w.heap.size + 1 < v1.heap.size := by simp [← hv_] <;> omega
  clear hv_
  refine (isgrid_2 _ h0 hj2).mono ?_
  rintro e w2 ⟨rfl, b⟩
  rewrite [fR b gl] at f0 f1
  replace p0 := p0.on b
  replace q0 := q0.on b
  rewrite [cR b rl] at r0 r1 r2
  replace rl := lK b rl
  rewrite [cR b kl] at k0 k1 k2
  replace kl := lK b kl
  rewrite [cR b gl] at g0 g1
  replace gl := lK b gl
  replace cc := bK cc b
  clear b
  go_wp2_with fail
  refine (CU p0).mono ?_
  rintro e w3 ⟨Av, nv, cv, rfl, v, b⟩
  rewrite [fR b gl] at f0 f1
  replace p0 := p0.on b
  replace q0 := q0.on b
  rewrite [cR b rl] at r0 r1 r2
  replace rl := lK b rl
  rewrite [cR b kl] at k0 k1 k2
  replace kl := lK b kl
  rewrite [cR b gl] at g0 g1
  replace gl := lK b gl
  replace cc := bK cc b
  clear b
  go_wp2_with fail
  refine (CD v q0).mono ?_
  rintro e w4 ⟨Aq, nq, cq, Ar, nr_, cr, rfl, dq, dr, b⟩
  rewrite [fR b gl] at f0 f1
  replace p0 := p0.on b
  replace q0 := q0.on b
  replace v := v.on b
  rewrite [cR b rl] at r0 r1 r2
  replace rl := lK b rl
  rewrite [cR b kl] at k0 k1 k2
  replace kl := lK b kl
  rewrite [cR b gl] at g0 g1
  replace gl := lK b gl
  replace cc := bK cc b
  clear b
  go_wp2_with fail
  refine (CK r0 r1 r2 dq dr q0).mono ?_
  rintro e w5 ⟨rfl, b⟩
  rewrite [fR b gl] at f0 f1
  replace p0 := p0.on b
  replace q0 := q0.on b
  replace v := v.on b
  replace dq := dq.on b
  replace dr := dr.on b
  rewrite [cR b rl] at r0 r1 r2
  replace rl := lK b rl
  rewrite [cR b kl] at k0 k1 k2
  replace kl := lK b kl
  rewrite [cR b gl] at g0 g1
  replace gl := lK b gl
  replace cc := bK cc b
  clear b
  have hn : Zn w5 false Aq nq cq (nea x0 k) := by rw [HV.out]; exact zn_nat dq
  have eb : Box w5 (w.heap.size + 1) false none 0 0 := ⟨g0, g1⟩
  have HZ : Hid (Zn ((w5.setCell ⟨w.heap.size + 1, 0, none⟩ (.bool false)).setCell ⟨w.heap.size + 1, 1, none⟩ (.slice Aq nq cq)) false Aq nq cq (nea x0 k)) := Lib.hid (hn.put eb _ _)
  clear hn
  go_wp2_with fail
  refine bodyPost_ret (v := .tuple #[.agg #[.bool false, .slice Aq nq cq], .int .i64 0]) (by simp [results, Tryz.results114, go_sem, g0, g1]) rfl ⟨_, _, _, _, rfl, HZ.out, below_put cc (by omega) _ _⟩

theorem rdnea_ft {w : World} {b0 : Bool} {A0 B0 : Option Addr} {n0 c0 m0 d0 : Nat} {g : Nat} {x0 : Rat} (hx : Rt w b0 A0 n0 c0 B0 m0 d0 x0) (s0 : Sz x0 20) {j : Int} (h0 : 0 ≤ j) (h1 : j ≤ 500) (hg : BoxR w g b0 A0 n0 c0 B0 m0 d0) (hs : ¬ x0.num < 0) (ht : fars (x0.num.natAbs * 2 ^ j.toNat) x0.den = true) :
    Calls Tryz.prog 114 #[.agg #[.bool b0, .slice A0 n0 c0, .slice B0 m0 d0], .int .i64 j, .func (.func 115) #[] #[.pointer (some ⟨g, 0, none⟩)]] w (GotZp w (nea x0 j.toNat) 0) := by
  have je := to_nat h0
  have jl : j.toNat ≤ 500 := by omega
  have hj2 : j ≤ 2000 := by omega
  obtain ⟨k, hk⟩ : ∃ k, j.toNat = k := ⟨_, rfl⟩
  rw [hk] at je jl ht ⊢
  have lk := len_pow2 jl
  have p0 := hx.1.1
  have q0 := hx.2
  have hb0 : b0 = false := by rw [hx.1.2]; exact decide_eq_false hs
  subst hb0
  have lp := s0.1
  have lq := s0.2
  have hq0 := x0.den_nz
  have lu : (limbs (x0.num.natAbs * 2 ^ k)).length ≤ 28 := limbs_length_mul lp lk
  have ld : (limbs (x0.num.natAbs * 2 ^ k / x0.den)).length ≤ 28 := Nat.le_trans (limbs_length_mono (Nat.div_le_self _ _)) lu
  have hlt := Nat.mod_lt (x0.num.natAbs * 2 ^ k) (Nat.pos_of_ne_zero hq0)
  have lr : (limbs (x0.num.natAbs * 2 ^ k % x0.den)).length ≤ 20 := Nat.le_trans (limbs_length_mono (Nat.le_of_lt hlt)) lq
  clear hlt
  have HF : nea x0 k = (((x0.num.natAbs * 2 ^ k / x0.den + 1 : Nat) : Nat) : Int) := by rw [nea_pos x0 k hs, if_pos ht]
  have CK : ∀ {W : World} {A B : Option Addr} {n c m d : Nat}, W.cell? ⟨g, 0, none⟩ = some (.bool false) → W.cell? ⟨g, 1, none⟩ = some (.slice A0 n0 c0) → W.cell? ⟨g, 2, none⟩ = some (.slice B0 m0 d0) → Num W A n c (x0.num.natAbs * 2 ^ k / x0.den) → Num W B m d (x0.num.natAbs * 2 ^ k % x0.den) → Num W B0 m0 d0 x0.den → Calls Tryz.prog 115 #[.slice A n c, .slice B m d, .pointer (some ⟨g, 0, none⟩)] W (GotV W (.bool true)) := fun r0 r1 r2 ha hb hq => by rw [← ht]; exact knear_N r0 r1 r2 ha hb hq (by omega) (by omega)
  obtain ⟨u, hU⟩ : ∃ u, x0.num.natAbs * 2 ^ k = u := ⟨_, rfl⟩
  obtain ⟨t, hT⟩ : ∃ t, x0.num.natAbs * 2 ^ k / x0.den = t := ⟨_, rfl⟩
  obtain ⟨l, hL⟩ : ∃ l, x0.num.natAbs * 2 ^ k % x0.den = l := ⟨_, rfl⟩
  rw [hT, hL] at CK
  rw [hT] at HF ld
  rw [hL] at lr
  rw [hU] at lu hT hL
  have CU : ∀ {W : World} {A : Option Addr} {m c : Nat}, Num W A m c x0.num.natAbs → Calls Tryz.prog 128 #[.slice A m c, .int .i64 j] W (GotP W u 0) := fun ha => by rw [← je, ← hU]; exact dshl_N ha (by omega) (by omega)
  have CD : ∀ {W : World} {A B : Option Addr} {n c m d : Nat}, Num W A n c u → Num W B m d x0.den → Calls Tryz.prog 43 #[.slice A n c, .slice B m d] W (GotD W t l) := fun ha hb => by rw [← hT, ← hL]; exact ddiv_N ha hb (by omega) (by omega) hq0
  have HV := Lib.hid HF
  clear HF hU hT hL hs ht lu
  have la : (limbs (t + 1)).length ≤ 29 := limbs_length_add ld (Nat.le_trans (len_one (by decide)) (by omega))
  have l1 : (limbs 1).length ≤ 1000 := Nat.le_trans (len_one (by decide)) (by omega)
  obtain ⟨r0, r1, r2⟩ := hg
  have rl := cell_lt r0
  simp only at rl
  have cc := Below.refl w.heap.size w
  go_enter Tryz.func114, Tryz.ntmps114
  go_wp2_with fail
  generalize hv_ : (w.alloc (.cells #[.bool false, .slice A0 n0 c0, .slice B0 m0 d0] 51)).alloc (.cells #[.bool false, .slice none 0 0] 49) = v1
  obtain ⟨f0, f1⟩ : Fz2 v1 (w.heap.size + 1) := by simp [Fz2, ← hv_, go_sem]
  have bA : Below w.heap.size w v1 := by rw [← hv_]; exact (((Below.refl _ w).alloc (by simp) _).alloc (by simp) _)
  replace p0 := p0.on bA
  replace q0 := q0.on bA
  rewrite [cR bA rl] at r0 r1 r2
  replace rl := lK bA rl
  replace cc := bK cc bA
  clear bA
  obtain ⟨k0, k1, k2⟩ : Cs3 v1 w.heap.size (.bool false) (.slice A0 n0 c0) (.slice B0 m0 d0) := by simp [Cs3, ← hv_, go_sem]
  have kl : w.heap.size < v1.heap.size := by simp [← hv_] <;> omega
  obtain ⟨g0, g1⟩ : Cs2 v1 (w.heap.size + 1) (.bool false) (.slice none 0 0) := by simp [Cs2, ← hv_, go_sem]
  have gl : w.heap.size + 1 < v1.heap.size := by simp [← hv_] <;> omega
  clear hv_
  refine (isgrid_2 _ h0 hj2).mono ?_
  rintro e w2 ⟨rfl, b⟩
  rewrite [fR b gl] at f0 f1
  replace p0 := p0.on b
  replace q0 := q0.on b
  rewrite [cR b rl] at r0 r1 r2
  replace rl := lK b rl
  rewrite [cR b kl] at k0 k1 k2
  replace kl := lK b kl
  rewrite [cR b gl] at g0 g1
  replace gl := lK b gl
  replace cc := bK cc b
  clear b
  go_wp2_with fail
  refine (CU p0).mono ?_
  rintro e w3 ⟨Av, nv, cv, rfl, v, b⟩
  rewrite [fR b gl] at f0 f1
  replace p0 := p0.on b
  replace q0 := q0.on b
  rewrite [cR b rl] at r0 r1 r2
  replace rl := lK b rl
  rewrite [cR b kl] at k0 k1 k2
  replace kl := lK b kl
  rewrite [cR b gl] at g0 g1
  replace gl := lK b gl
  replace cc := bK cc b
  clear b
  go_wp2_with fail
  refine (CD v q0).mono ?_
  rintro e w4 ⟨Aq, nq, cq, Ar, nr_, cr, rfl, dq, dr, b⟩
  rewrite [fR b gl] at f0 f1
  replace p0 := p0.on b
  replace q0 := q0.on b
  replace v := v.on b
  rewrite [cR b rl] at r0 r1 r2
  replace rl := lK b rl
  rewrite [cR b kl] at k0 k1 k2
  replace kl := lK b kl
  rewrite [cR b gl] at g0 g1
  replace gl := lK b gl
  replace cc := bK cc b
  clear b
  go_wp2_with fail
  refine (CK r0 r1 r2 dq dr q0).mono ?_
  rintro e w5 ⟨rfl, b⟩
  rewrite [fR b gl] at f0 f1
  replace p0 := p0.on b
  replace q0 := q0.on b
  replace v := v.on b
  replace dq := dq.on b
  replace dr := dr.on b
  rewrite [cR b rl] at r0 r1 r2
  replace rl := lK b rl
  rewrite [cR b kl] at k0 k1 k2
  replace kl := lK b kl
  rewrite [cR b gl] at g0 g1
  replace gl := lK b gl
  replace cc := bK cc b
  clear b
  go_wp2_with fail
  refine (of_N _ 1 (by decide)).mono ?_
  rintro e w6 ⟨Ao, no, co, rfl, o, b⟩
  rewrite [fR b gl] at f0 f1
  replace p0 := p0.on b
  replace q0 := q0.on b
  replace v := v.on b
  replace dq := dq.on b
  replace dr := dr.on b
  rewrite [cR b rl] at r0 r1 r2
  replace rl := lK b rl
  rewrite [cR b kl] at k0 k1 k2
  replace kl := lK b kl
  rewrite [cR b gl] at g0 g1
  replace gl := lK b gl
  replace cc := bK cc b
  clear b
  go_wp2_with fail
  refine (add_N dq o (by omega) (by omega)).mono ?_
  rintro e w7 ⟨Aa, na, ca, rfl, a, b⟩
  rewrite [fR b gl] at f0 f1
  replace p0 := p0.on b
  replace q0 := q0.on b
  replace v := v.on b
  replace dq := dq.on b
  replace dr := dr.on b
  replace o := o.on b
  rewrite [cR b rl] at r0 r1 r2
  replace rl := lK b rl
  rewrite [cR b kl] at k0 k1 k2
  replace kl := lK b kl
  rewrite [cR b gl] at g0 g1
  replace gl := lK b gl
  replace cc := bK cc b
  clear b
  have hn : Zn w7 false Aa na ca (nea x0 k) := by rw [HV.out]; exact zn_nat a
  have eb : Box w7 (w.heap.size + 1) false none 0 0 := ⟨g0, g1⟩
  have HZ : Hid (Zn ((w7.setCell ⟨w.heap.size + 1, 0, none⟩ (.bool false)).setCell ⟨w.heap.size + 1, 1, none⟩ (.slice Aa na ca)) false Aa na ca (nea x0 k)) := Lib.hid (hn.put eb _ _)
  clear hn
  go_wp2_with fail
  refine bodyPost_ret (v := .tuple #[.agg #[.bool false, .slice Aa na ca], .int .i64 0]) (by simp [results, Tryz.results114, go_sem, g0, g1]) rfl ⟨_, _, _, _, rfl, HZ.out, below_put cc (by omega) _ _⟩

theorem rdnea_tf0 {w : World} {b0 : Bool} {A0 B0 : Option Addr} {n0 c0 m0 d0 : Nat} {g : Nat} {x0 : Rat} (hx : Rt w b0 A0 n0 c0 B0 m0 d0 x0) (s0 : Sz x0 20) {j : Int} (h0 : 0 ≤ j) (h1 : j ≤ 500) (hg : BoxR w g b0 A0 n0 c0 B0 m0 d0) (hs : x0.num < 0) (ht : fars (x0.num.natAbs * 2 ^ j.toNat) x0.den = false) (hz : x0.num.natAbs * 2 ^ j.toNat / x0.den = 0) :
    Calls Tryz.prog 114 #[.agg #[.bool b0, .slice A0 n0 c0, .slice B0 m0 d0], .int .i64 j, .func (.func 115) #[] #[.pointer (some ⟨g, 0, none⟩)]] w (GotZp w (nea x0 j.toNat) 0) := by
  have je := to_nat h0
  have jl : j.toNat ≤ 500 := by omega
  have hj2 : j ≤ 2000 := by omega
  obtain ⟨k, hk⟩ : ∃ k, j.toNat = k := ⟨_, rfl⟩
  rw [hk] at je jl ht hz ⊢
  have lk := len_pow2 jl
  have p0 := hx.1.1
  have q0 := hx.2
  have hb0 : b0 = true := by rw [hx.1.2]; exact decide_eq_true hs
  subst hb0
  have lp := s0.1
  have lq := s0.2
  have hq0 := x0.den_nz
  have lu : (limbs (x0.num.natAbs * 2 ^ k)).length ≤ 28 := limbs_length_mul lp lk
  have ld : (limbs (x0.num.natAbs * 2 ^ k / x0.den)).length ≤ 28 := Nat.le_trans (limbs_length_mono (Nat.div_le_self _ _)) lu
  have hlt := Nat.mod_lt (x0.num.natAbs * 2 ^ k) (Nat.pos_of_ne_zero hq0)
  have lr : (limbs (x0.num.natAbs * 2 ^ k % x0.den)).length ≤ 20 := Nat.le_trans (limbs_length_mono (Nat.le_of_lt hlt)) lq
  clear hlt
  have HF : nea x0 k = -(((x0.num.natAbs * 2 ^ k / x0.den : Nat) : Nat) : Int) := by rw [nea_less x0 k hs, if_neg (by rw [ht]; decide), Nat.add_zero]
  have CK : ∀ {W : World} {A B : Option Addr} {n c m d : Nat}, W.cell? ⟨g, 0, none⟩ = some (.bool true) → W.cell? ⟨g, 1, none⟩ = some (.slice A0 n0 c0) → W.cell? ⟨g, 2, none⟩ = some (.slice B0 m0 d0) → Num W A n c (x0.num.natAbs * 2 ^ k / x0.den) → Num W B m d (x0.num.natAbs * 2 ^ k % x0.den) → Num W B0 m0 d0 x0.den → Calls Tryz.prog 115 #[.slice A n c, .slice B m d, .pointer (some ⟨g, 0, none⟩)] W (GotV W (.bool false)) := fun r0 r1 r2 ha hb hq => by rw [← ht]; exact knear_N r0 r1 r2 ha hb hq (by omega) (by omega)
  obtain ⟨u, hU⟩ : ∃ u, x0.num.natAbs * 2 ^ k = u := ⟨_, rfl⟩
  obtain ⟨t, hT⟩ : ∃ t, x0.num.natAbs * 2 ^ k / x0.den = t := ⟨_, rfl⟩
  obtain ⟨l, hL⟩ : ∃ l, x0.num.natAbs * 2 ^ k % x0.den = l := ⟨_, rfl⟩
  rw [hT, hL] at CK
  rw [hT] at HF ld hz
  rw [hL] at lr
  rw [hU] at lu hT hL
  have CU : ∀ {W : World} {A : Option Addr} {m c : Nat}, Num W A m c x0.num.natAbs → Calls Tryz.prog 128 #[.slice A m c, .int .i64 j] W (GotP W u 0) := fun ha => by rw [← je, ← hU]; exact dshl_N ha (by omega) (by omega)
  have CD : ∀ {W : World} {A B : Option Addr} {n c m d : Nat}, Num W A n c u → Num W B m d x0.den → Calls Tryz.prog 43 #[.slice A n c, .slice B m d] W (GotD W t l) := fun ha hb => by rw [← hT, ← hL]; exact ddiv_N ha hb (by omega) (by omega) hq0
  subst hz
  have HV := Lib.hid HF
  clear HF hU hT hL hs ht lu
  obtain ⟨r0, r1, r2⟩ := hg
  have rl := cell_lt r0
  simp only at rl
  have cc := Below.refl w.heap.size w
  go_enter Tryz.func114, Tryz.ntmps114
  go_wp2_with fail
  generalize hv_ : (w.alloc (.cells #[.bool true, .slice A0 n0 c0, .slice B0 m0 d0] 51)).alloc (.cells #[.bool false, .slice none 0 0] 49) = v1
  obtain ⟨f0, f1⟩ : Fz2 v1 (w.heap.size + 1) := by simp [Fz2, ← hv_, go_sem]
  have bA : Below w.heap.size w v1 := by rw [← hv_]; exact (((Below.refl _ w).alloc (by simp) _).alloc (by simp) _)
  replace p0 := p0.on bA
  replace q0 := q0.on bA
  rewrite [cR bA rl] at r0 r1 r2
  replace rl := lK bA rl
  replace cc := bK cc bA
  clear bA
  obtain ⟨k0, k1, k2⟩ : Cs3 v1 w.heap.size (.bool true) (.slice A0 n0 c0) (.slice B0 m0 d0) := by simp [Cs3, ← hv_, go_sem]
  have kl : w.heap.size < v1.heap.size := by simp [← hv_] <;> omega
  obtain ⟨g0, g1⟩ : Cs2 v1 (w.heap.size + 1) (.bool false) (.slice none 0 0) := by simp [Cs2, ← hv_, go_sem]
  have gl : w.heap.size + 1 < v1.heap.size := by simp [← hv_] <;> omega
  clear hv_
  refine (isgrid_2 _ h0 hj2).mono ?_
  rintro e w2 ⟨rfl, b⟩
  rewrite [fR b gl] at f0 f1
  replace p0 := p0.on b
  replace q0 := q0.on b
  rewrite [cR b rl] at r0 r1 r2
  replace rl := lK b rl
  rewrite [cR b kl] at k0 k1 k2
  replace kl := lK b kl
  rewrite [cR b gl] at g0 g1
  replace gl := lK b gl
  replace cc := bK cc b
  clear b
  go_wp2_with fail
  refine (CU p0).mono ?_
  rintro e w3 ⟨Av, nv, cv, rfl, v, b⟩
  rewrite [fR b gl] at f0 f1
  replace p0 := p0.on b
  replace q0 := q0.on b
  rewrite [cR b rl] at r0 r1 r2
  replace rl := lK b rl
  rewrite [cR b kl] at k0 k1 k2
  replace kl := lK b kl
  rewrite [cR b gl] at g0 g1
  replace gl := lK b gl
  replace cc := bK cc b
  clear b
  go_wp2_with fail
  refine (CD v q0).mono ?_
  rintro e w4 ⟨Aq, nq, cq, Ar, nr_, cr, rfl, dq, dr, b⟩
  rewrite [fR b gl] at f0 f1
  replace p0 := p0.on b
  replace q0 := q0.on b
  replace v := v.on b
  rewrite [cR b rl] at r0 r1 r2
  replace rl := lK b rl
  rewrite [cR b kl] at k0 k1 k2
  replace kl := lK b kl
  rewrite [cR b gl] at g0 g1
  replace gl := lK b gl
  replace cc := bK cc b
  clear b
  go_wp2_with fail
  refine (CK r0 r1 r2 dq dr q0).mono ?_
  rintro e w5 ⟨rfl, b⟩
  rewrite [fR b gl] at f0 f1
  replace p0 := p0.on b
  replace q0 := q0.on b
  replace v := v.on b
  replace dq := dq.on b
  replace dr := dr.on b
  rewrite [cR b rl] at r0 r1 r2
  replace rl := lK b rl
  rewrite [cR b kl] at k0 k1 k2
  replace kl := lK b kl
  rewrite [cR b gl] at g0 g1
  replace gl := lK b gl
  replace cc := bK cc b
  clear b
  have hn0 := num_void dq rfl
  subst hn0
  have hn : Zn w5 false Aq 0 cq (nea x0 k) := by rw [HV.out]; exact zn_nat dq
  have eb : Box w5 (w.heap.size + 1) false none 0 0 := ⟨g0, g1⟩
  have HZ : Hid (Zn ((w5.setCell ⟨w.heap.size + 1, 0, none⟩ (.bool false)).setCell ⟨w.heap.size + 1, 1, none⟩ (.slice Aq 0 cq)) false Aq 0 cq (nea x0 k)) := Lib.hid (hn.put eb _ _)
  clear hn
  go_wp2_with fail
  refine bodyPost_ret (v := .tuple #[.agg #[.bool false, .slice Aq 0 cq], .int .i64 0]) (by simp [results, Tryz.results114, go_sem, g0, g1]) rfl ⟨_, _, _, _, rfl, HZ.out, below_put cc (by omega) _ _⟩

theorem rdnea_tf1 {w : World} {b0 : Bool} {A0 B0 : Option Addr} {n0 c0 m0 d0 : Nat} {g : Nat} {x0 : Rat} (hx : Rt w b0 A0 n0 c0 B0 m0 d0 x0) (s0 : Sz x0 20) {j : Int} (h0 : 0 ≤ j) (h1 : j ≤ 500) (hg : BoxR w g b0 A0 n0 c0 B0 m0 d0) (hs : x0.num < 0) (ht : fars (x0.num.natAbs * 2 ^ j.toNat) x0.den = false) (hz : x0.num.natAbs * 2 ^ j.toNat / x0.den ≠ 0) :
    Calls Tryz.prog 114 #[.agg #[.bool b0, .slice A0 n0 c0, .slice B0 m0 d0], .int .i64 j, .func (.func 115) #[] #[.pointer (some ⟨g, 0, none⟩)]] w (GotZp w (nea x0 j.toNat) 0) := by
  have je := to_nat h0
  have jl : j.toNat ≤ 500 := by omega
  have hj2 : j ≤ 2000 := by omega
  obtain ⟨k, hk⟩ : ∃ k, j.toNat = k := ⟨_, rfl⟩
  rw [hk] at je jl ht hz ⊢
  have lk := len_pow2 jl
  have p0 := hx.1.1
  have q0 := hx.2
  have hb0 : b0 = true := by rw [hx.1.2]; exact decide_eq_true hs
  subst hb0
  have lp := s0.1
  have lq := s0.2
  have hq0 := x0.den_nz
  have lu : (limbs (x0.num.natAbs * 2 ^ k)).length ≤ 28 := limbs_length_mul lp lk
  have ld : (limbs (x0.num.natAbs * 2 ^ k / x0.den)).length ≤ 28 := Nat.le_trans (limbs_length_mono (Nat.div_le_self _ _)) lu
  have hlt := Nat.mod_lt (x0.num.natAbs * 2 ^ k) (Nat.pos_of_ne_zero hq0)
  have lr : (limbs (x0.num.natAbs * 2 ^ k % x0.den)).length ≤ 20 := Nat.le_trans (limbs_length_mono (Nat.le_of_lt hlt)) lq
  clear hlt
  have HF : nea x0 k = -(((x0.num.natAbs * 2 ^ k / x0.den : Nat) : Nat) : Int) := by rw [nea_less x0 k hs, if_neg (by rw [ht]; decide), Nat.add_zero]
  have CK : ∀ {W : World} {A B : Option Addr} {n c m d : Nat}, W.cell? ⟨g, 0, none⟩ = some (.bool true) → W.cell? ⟨g, 1, none⟩ = some (.slice A0 n0 c0) → W.cell? ⟨g, 2, none⟩ = some (.slice B0 m0 d0) → Num W A n c (x0.num.natAbs * 2 ^ k / x0.den) → Num W B m d (x0.num.natAbs * 2 ^ k % x0.den) → Num W B0 m0 d0 x0.den → Calls Tryz.prog 115 #[.slice A n c, .slice B m d, .pointer (some ⟨g, 0, none⟩)] W (GotV W (.bool false)) := fun r0 r1 r2 ha hb hq => by rw [← ht]; exact knear_N r0 r1 r2 ha hb hq (by omega) (by omega)
  obtain ⟨u, hU⟩ : ∃ u, x0.num.natAbs * 2 ^ k = u := ⟨_, rfl⟩
  obtain ⟨t, hT⟩ : ∃ t, x0.num.natAbs * 2 ^ k / x0.den = t := ⟨_, rfl⟩
  obtain ⟨l, hL⟩ : ∃ l, x0.num.natAbs * 2 ^ k % x0.den = l := ⟨_, rfl⟩
  rw [hT, hL] at CK
  rw [hT] at HF ld hz
  rw [hL] at lr
  rw [hU] at lu hT hL
  have CU : ∀ {W : World} {A : Option Addr} {m c : Nat}, Num W A m c x0.num.natAbs → Calls Tryz.prog 128 #[.slice A m c, .int .i64 j] W (GotP W u 0) := fun ha => by rw [← je, ← hU]; exact dshl_N ha (by omega) (by omega)
  have CD : ∀ {W : World} {A B : Option Addr} {n c m d : Nat}, Num W A n c u → Num W B m d x0.den → Calls Tryz.prog 43 #[.slice A n c, .slice B m d] W (GotD W t l) := fun ha hb => by rw [← hT, ← hL]; exact ddiv_N ha hb (by omega) (by omega) hq0
  have HV := Lib.hid HF
  clear HF hU hT hL hs ht lu
  have HT0 := Lib.hid hz
  clear hz
  obtain ⟨r0, r1, r2⟩ := hg
  have rl := cell_lt r0
  simp only at rl
  have cc := Below.refl w.heap.size w
  go_enter Tryz.func114, Tryz.ntmps114
  go_wp2_with fail
  generalize hv_ : (w.alloc (.cells #[.bool true, .slice A0 n0 c0, .slice B0 m0 d0] 51)).alloc (.cells #[.bool false, .slice none 0 0] 49) = v1
  obtain ⟨f0, f1⟩ : Fz2 v1 (w.heap.size + 1) := by simp [Fz2, ← hv_, go_sem]
  have bA : Below w.heap.size w v1 := by rw [← hv_]; exact (((Below.refl _ w).alloc (by simp) _).alloc (by simp) _)
  replace p0 := p0.on bA
  replace q0 := q0.on bA
  rewrite [cR bA rl] at r0 r1 r2
  replace rl := lK bA rl
  replace cc := bK cc bA
  clear bA
  obtain ⟨k0, k1, k2⟩ : Cs3 v1 w.heap.size (.bool true) (.slice A0 n0 c0) (.slice B0 m0 d0) := by simp [Cs3, ← hv_, go_sem]
  have kl : w.heap.size < v1.heap.size := by simp [← hv_] <;> omega
  obtain ⟨g0, g1⟩ : Cs2 v1 (w.heap.size + 1) (.bool false) (.slice none 0 0) := by simp [Cs2, ← hv_, go_sem]
  have gl : w.heap.size + 1 < v1.heap.size := by simp [← hv_] <;> omega
  clear hv_
  refine (isgrid_2 _ h0 hj2).mono ?_
  rintro e w2 ⟨rfl, b⟩
  rewrite [fR b gl] at f0 f1
  replace p0 := p0.on b
  replace q0 := q0.on b
  rewrite [cR b rl] at r0 r1 r2
  replace rl := lK b rl
  rewrite [cR b kl] at k0 k1 k2
  replace kl := lK b kl
  rewrite [cR b gl] at g0 g1
  replace gl := lK b gl
  replace cc := bK cc b
  clear b
  go_wp2_with fail
  refine (CU p0).mono ?_
  rintro e w3 ⟨Av, nv, cv, rfl, v, b⟩
  rewrite [fR b gl] at f0 f1
  replace p0 := p0.on b
  replace q0 := q0.on b
  rewrite [cR b rl] at r0 r1 r2
  replace rl := lK b rl
  rewrite [cR b kl] at k0 k1 k2
  replace kl := lK b kl
  rewrite [cR b gl] at g0 g1
  replace gl := lK b gl
  replace cc := bK cc b
  clear b
  go_wp2_with fail
  refine (CD v q0).mono ?_
  rintro e w4 ⟨Aq, nq, cq, Ar, nr_, cr, rfl, dq, dr, b⟩
  rewrite [fR b gl] at f0 f1
  replace p0 := p0.on b
  replace q0 := q0.on b
  replace v := v.on b
  rewrite [cR b rl] at r0 r1 r2
  replace rl := lK b rl
  rewrite [cR b kl] at k0 k1 k2
  replace kl := lK b kl
  rewrite [cR b gl] at g0 g1
  replace gl := lK b gl
  replace cc := bK cc b
  clear b
  go_wp2_with fail
  refine (CK r0 r1 r2 dq dr q0).mono ?_
  rintro e w5 ⟨rfl, b⟩
  rewrite [fR b gl] at f0 f1
  replace p0 := p0.on b
  replace q0 := q0.on b
  replace v := v.on b
  replace dq := dq.on b
  replace dr := dr.on b
  rewrite [cR b rl] at r0 r1 r2
  replace rl := lK b rl
  rewrite [cR b kl] at k0 k1 k2
  replace kl := lK b kl
  rewrite [cR b gl] at g0 g1
  replace gl := lK b gl
  replace cc := bK cc b
  clear b
  have hn0 : 0 < nq := dq.some_len HT0.out
  have hn1 : decide ((0 : Int) < (nq : Int)) = true := decide_eq_true (by omega)
  have hn2 : decide (0 < nq) = true := decide_eq_true hn0
  have hn : Zn w5 true Aq nq cq (nea x0 k) := by rw [HV.out]; exact zn_minus dq (HT0.out)
  have eb : Box w5 (w.heap.size + 1) false none 0 0 := ⟨g0, g1⟩
  have HZ : Hid (Zn ((w5.setCell ⟨w.heap.size + 1, 0, none⟩ (.bool true)).setCell ⟨w.heap.size + 1, 1, none⟩ (.slice Aq nq cq)) true Aq nq cq (nea x0 k)) := Lib.hid (hn.put eb _ _)
  clear hn
  go_wp2_with fail
  refine bodyPost_ret (v := .tuple #[.agg #[.bool true, .slice Aq nq cq], .int .i64 0]) (by simp [results, Tryz.results114, go_sem, g0, g1]) rfl ⟨_, _, _, _, rfl, HZ.out, below_put cc (by omega) _ _⟩

theorem rdnea_tt {w : World} {b0 : Bool} {A0 B0 : Option Addr} {n0 c0 m0 d0 : Nat} {g : Nat} {x0 : Rat} (hx : Rt w b0 A0 n0 c0 B0 m0 d0 x0) (s0 : Sz x0 20) {j : Int} (h0 : 0 ≤ j) (h1 : j ≤ 500) (hg : BoxR w g b0 A0 n0 c0 B0 m0 d0) (hs : x0.num < 0) (ht : fars (x0.num.natAbs * 2 ^ j.toNat) x0.den = true) :
    Calls Tryz.prog 114 #[.agg #[.bool b0, .slice A0 n0 c0, .slice B0 m0 d0], .int .i64 j, .func (.func 115) #[] #[.pointer (some ⟨g, 0, none⟩)]] w (GotZp w (nea x0 j.toNat) 0) := by
  have je := to_nat h0
  have jl : j.toNat ≤ 500 := by omega
  have hj2 : j ≤ 2000 := by omega
  obtain ⟨k, hk⟩ : ∃ k, j.toNat = k := ⟨_, rfl⟩
  rw [hk] at je jl ht ⊢
  have lk := len_pow2 jl
  have p0 := hx.1.1
  have q0 := hx.2
  have hb0 : b0 = true := by rw [hx.1.2]; exact decide_eq_true hs
  subst hb0
  have lp := s0.1
  have lq := s0.2
  have hq0 := x0.den_nz
  have lu : (limbs (x0.num.natAbs * 2 ^ k)).length ≤ 28 := limbs_length_mul lp lk
  have ld : (limbs (x0.num.natAbs * 2 ^ k / x0.den)).length ≤ 28 := Nat.le_trans (limbs_length_mono (Nat.div_le_self _ _)) lu
  have hlt := Nat.mod_lt (x0.num.natAbs * 2 ^ k) (Nat.pos_of_ne_zero hq0)
  have lr : (limbs (x0.num.natAbs * 2 ^ k % x0.den)).length ≤ 20 := Nat.le_trans (limbs_length_mono (Nat.le_of_lt hlt)) lq
  clear hlt
  have HF : nea x0 k = -(((x0.num.natAbs * 2 ^ k / x0.den + 1 : Nat) : Nat) : Int) := by rw [nea_less x0 k hs, if_pos ht]
  have CK : ∀ {W : World} {A B : Option Addr} {n c m d : Nat}, W.cell? ⟨g, 0, none⟩ = some (.bool true) → W.cell? ⟨g, 1, none⟩ = some (.slice A0 n0 c0) → W.cell? ⟨g, 2, none⟩ = some (.slice B0 m0 d0) → Num W A n c (x0.num.natAbs * 2 ^ k / x0.den) → Num W B m d (x0.num.natAbs * 2 ^ k % x0.den) → Num W B0 m0 d0 x0.den → Calls Tryz.prog 115 #[.slice A n c, .slice B m d, .pointer (some ⟨g, 0, none⟩)] W (GotV W (.bool true)) := fun r0 r1 r2 ha hb hq => by rw [← ht]; exact knear_N r0 r1 r2 ha hb hq (by omega) (by omega)
  obtain ⟨u, hU⟩ : ∃ u, x0.num.natAbs * 2 ^ k = u := ⟨_, rfl⟩
  obtain ⟨t, hT⟩ : ∃ t, x0.num.natAbs * 2 ^ k / x0.den = t := ⟨_, rfl⟩
  obtain ⟨l, hL⟩ : ∃ l, x0.num.natAbs * 2 ^ k % x0.den = l := ⟨_, rfl⟩
  rw [hT, hL] at CK
  rw [hT] at HF ld
  rw [hL] at lr
  rw [hU] at lu hT hL
  have CU : ∀ {W : World} {A : Option Addr} {m c : Nat}, Num W A m c x0.num.natAbs → Calls Tryz.prog 128 #[.slice A m c, .int .i64 j] W (GotP W u 0) := fun ha => by rw [← je, ← hU]; exact dshl_N ha (by omega) (by omega)
  have CD : ∀ {W : World} {A B : Option Addr} {n c m d : Nat}, Num W A n c u → Num W B m d x0.den → Calls Tryz.prog 43 #[.slice A n c, .slice B m d] W (GotD W t l) := fun ha hb => by rw [← hT, ← hL]; exact ddiv_N ha hb (by omega) (by omega) hq0
  have HV := Lib.hid HF
  clear HF hU hT hL hs ht lu
  have la : (limbs (t + 1)).length ≤ 29 := limbs_length_add ld (Nat.le_trans (len_one (by decide)) (by omega))
  have l1 : (limbs 1).length ≤ 1000 := Nat.le_trans (len_one (by decide)) (by omega)
  obtain ⟨r0, r1, r2⟩ := hg
  have rl := cell_lt r0
  simp only at rl
  have cc := Below.refl w.heap.size w
  go_enter Tryz.func114, Tryz.ntmps114
  go_wp2_with fail
  generalize hv_ : (w.alloc (.cells #[.bool true, .slice A0 n0 c0, .slice B0 m0 d0] 51)).alloc (.cells #[.bool false, .slice none 0 0] 49) = v1
  obtain ⟨f0, f1⟩ : Fz2 v1 (w.heap.size + 1) := by simp [Fz2, ← hv_, go_sem]
  have bA : Below w.heap.size w v1 := by rw [← hv_]; exact (((Below.refl _ w).alloc (by simp) _).alloc (by simp) _)
  replace p0 := p0.on bA
  replace q0 := q0.on bA
  rewrite [cR bA rl] at r0 r1 r2
  replace rl := lK bA rl
  replace cc := bK cc bA
  clear bA
  obtain ⟨k0, k1, k2⟩ : Cs3 v1 w.heap.size (.bool true) (.slice A0 n0 c0) (.slice B0 m0 d0) := by simp [Cs3, ← hv_, go_sem]
  have kl : w.heap.size < v1.heap.size := by simp [← hv_] <;> omega
  obtain ⟨g0, g1⟩ : Cs2 v1 (w.heap.size + 1) (.bool false) (.slice none 0 0) := by simp [Cs2, ← hv_, go_sem]
  have gl : w.heap.size + 1 < v1.heap.size := by simp [← hv_] <;> omega
  clear hv_
  refine (isgrid_2 _ h0 hj2).mono ?_
  rintro e w2 ⟨rfl, b⟩
  rewrite [fR b gl] at f0 f1
  replace p0 := p0.on b
  replace q0 := q0.on b
  rewrite [cR b rl] at r0 r1 r2
  replace rl := lK b rl
  rewrite [cR b kl] at k0 k1 k2
  replace kl := lK b kl
  rewrite [cR b gl] at g0 g1
  replace gl := lK b gl
  replace cc := bK cc b
  clear b
  go_wp2_with fail
  refine (CU p0).mono ?_
  rintro e w3 ⟨Av, nv, cv, rfl, v, b⟩
  rewrite [fR b gl] at f0 f1
  replace p0 := p0.on b
  replace q0 := q0.on b
  rewrite [cR b rl] at r0 r1 r2
  replace rl := lK b rl
  rewrite [cR b kl] at k0 k1 k2
  replace kl := lK b kl
  rewrite [cR b gl] at g0 g1
  replace gl := lK b gl
  replace cc := bK cc b
  clear b
  go_wp2_with fail
  refine (CD v q0).mono ?_
  rintro e w4 ⟨Aq, nq, cq, Ar, nr_, cr, rfl, dq, dr, b⟩
  rewrite [fR b gl] at f0 f1
  replace p0 := p0.on b
  replace q0 := q0.on b
  replace v := v.on b
  rewrite [cR b rl] at r0 r1 r2
  replace rl := lK b rl
  rewrite [cR b kl] at k0 k1 k2
  replace kl := lK b kl
  rewrite [cR b gl] at g0 g1
  replace gl := lK b gl
  replace cc := bK cc b
  clear b
  go_wp2_with fail
  refine (CK r0 r1 r2 dq dr q0).mono ?_
  rintro e w5 ⟨rfl, b⟩
  rewrite [fR b gl] at f0 f1
  replace p0 := p0.on b
  replace q0 := q0.on b
  replace v := v.on b
  replace dq := dq.on b
  replace dr := dr.on b
  rewrite [cR b rl] at r0 r1 r2
  replace rl := lK b rl
  rewrite [cR b kl] at k0 k1 k2
  replace kl := lK b kl
  rewrite [cR b gl] at g0 g1
  replace gl := lK b gl
  replace cc := bK cc b
  clear b
  go_wp2_with fail
  refine (of_N _ 1 (by decide)).mono ?_
  rintro e w6 ⟨Ao, no, co, rfl, o, b⟩
  rewrite [fR b gl] at f0 f1
  replace p0 := p0.on b
  replace q0 := q0.on b
  replace v := v.on b
  replace dq := dq.on b
  replace dr := dr.on b
  rewrite [cR b rl] at r0 r1 r2
  replace rl := lK b rl
  rewrite [cR b kl] at k0 k1 k2
  replace kl := lK b kl
  rewrite [cR b gl] at g0 g1
  replace gl := lK b gl
  replace cc := bK cc b
  clear b
  go_wp2_with fail
  refine (add_N dq o (by omega) (by omega)).mono ?_
  rintro e w7 ⟨Aa, na, ca, rfl, a, b⟩
  rewrite [fR b gl] at f0 f1
  replace p0 := p0.on b
  replace q0 := q0.on b
  replace v := v.on b
  replace dq := dq.on b
  replace dr := dr.on b
  replace o := o.on b
  rewrite [cR b rl] at r0 r1 r2
  replace rl := lK b rl
  rewrite [cR b kl] at k0 k1 k2
  replace kl := lK b kl
  rewrite [cR b gl] at g0 g1
  replace gl := lK b gl
  replace cc := bK cc b
  clear b
  have hn0 : 0 < na := a.some_len (by omega)
  have hn1 : decide ((0 : Int) < (na : Int)) = true := decide_eq_true (by omega)
  have hn2 : decide (0 < na) = true := decide_eq_true hn0
  have hn : Zn w7 true Aa na ca (nea x0 k) := by rw [HV.out]; exact zn_minus a (by omega)
  have eb : Box w7 (w.heap.size + 1) false none 0 0 := ⟨g0, g1⟩
  have HZ : Hid (Zn ((w7.setCell ⟨w.heap.size + 1, 0, none⟩ (.bool true)).setCell ⟨w.heap.size + 1, 1, none⟩ (.slice Aa na ca)) true Aa na ca (nea x0 k)) := Lib.hid (hn.put eb _ _)
  clear hn
  go_wp2_with fail
  refine bodyPost_ret (v := .tuple #[.agg #[.bool true, .slice Aa na ca], .int .i64 0]) (by simp [results, Tryz.results114, go_sem, g0, g1]) rfl ⟨_, _, _, _, rfl, HZ.out, below_put cc (by omega) _ _⟩

theorem rdnea_N {w : World} {b0 : Bool} {A0 B0 : Option Addr} {n0 c0 m0 d0 : Nat} {g : Nat} {x0 : Rat} (hx : Rt w b0 A0 n0 c0 B0 m0 d0 x0) (s0 : Sz x0 20) {j : Int} (h0 : 0 ≤ j) (h1 : j ≤ 500) (hg : BoxR w g b0 A0 n0 c0 B0 m0 d0) :
    Calls Tryz.prog 114 #[.agg #[.bool b0, .slice A0 n0 c0, .slice B0 m0 d0], .int .i64 j, .func (.func 115) #[] #[.pointer (some ⟨g, 0, none⟩)]] w (GotZp w (nea x0 j.toNat) 0) := by
  by_cases hs : x0.num < 0
  · cases ht : fars (x0.num.natAbs * 2 ^ j.toNat) x0.den
    · by_cases hz : x0.num.natAbs * 2 ^ j.toNat / x0.den = 0
      · exact rdnea_tf0 hx s0 h0 h1 hg hs ht hz
      · exact rdnea_tf1 hx s0 h0 h1 hg hs ht hz
    · exact rdnea_tt hx s0 h0 h1 hg hs ht
  · cases ht : fars (x0.num.natAbs * 2 ^ j.toNat) x0.den
    · exact rdnea_ff hx s0 h0 h1 hg hs ht
    · exact rdnea_ft hx s0 h0 h1 hg hs ht

theorem rd_no {w : World} {b0 : Bool} {A0 B0 : Option Addr} {n0 c0 m0 d0 : Nat} {fv : Value} {j : Int} (h : j < 0 ∨ 2000 < j) :
    Calls Tryz.prog 114 #[.agg #[.bool b0, .slice A0 n0 c0, .slice B0 m0 d0], .int .i64 j, fv] w (GotZp w 0 1) := by
  have cc := Below.refl w.heap.size w
  go_enter Tryz.func114, Tryz.ntmps114
  go_wp2_with fail
  generalize hv_ : (w.alloc (.cells #[.bool b0, .slice A0 n0 c0, .slice B0 m0 d0] 51)).alloc (.cells #[.bool false, .slice none 0 0] 49) = v1
  obtain ⟨f0, f1⟩ : Fz2 v1 (w.heap.size + 1) := by simp [Fz2, ← hv_, go_sem]
  have bA : Below w.heap.size w v1 := by rw [← hv_]; exact (((Below.refl _ w).alloc (by simp) _).alloc (by simp) _)
  replace cc := bK cc bA
  clear bA
  obtain ⟨k0, k1, k2⟩ : Cs3 v1 w.heap.size (.bool b0) (.slice A0 n0 c0) (.slice B0 m0 d0) := by simp [Cs3, ← hv_, go_sem]
  have kl : w.heap.size < v1.heap.size := by simp [← hv_] <;> omega
  obtain ⟨g0, g1⟩ : Cs2 v1 (w.heap.size + 1) (.bool false) (.slice none 0 0) := by simp [Cs2, ← hv_, go_sem]
  have gl : w.heap.size + 1 < v1.heap.size := by simp [← hv_] <;> omega
  clear hv_
  refine (isgrid_no _ h).mono ?_
  rintro e w2 ⟨rfl, b⟩
  rewrite [fR b gl] at f0 f1
  rewrite [cR b kl] at k0 k1 k2
  replace kl := lK b kl
  rewrite [cR b gl] at g0 g1
  replace gl := lK b gl
  replace cc := bK cc b
  clear b
  have eb : Box w2 (w.heap.size + 1) false none 0 0 := ⟨g0, g1⟩
  have HZ := Lib.hid (Zn.put (zn_none w2) eb (.bool false) (.slice none 0 0))
  go_wp2_with fail
  exact bodyPost_ret (v := .tuple #[.agg #[.bool false, .slice none 0 0], .int .i64 1]) (by simp [results, Tryz.results114, go_sem, g0, g1]) rfl ⟨_, _, _, _, rfl, HZ.out, below_put cc (by omega) _ _⟩

end Go.Proofs.YtmaolhajeoigpaaGreat

/-
  The contracts of dyad: Floor, Ceil, Near, Back.
-/
namespace Go.Proofs.YtmaolhajeoigpaaGreat
set_option maxRecDepth 100000
set_option maxHeartbeats 8000000
open Go.RowKit
set_option linter.unusedVariables false
set_option linter.unusedSimpArgs false





theorem dnear_N {w : World} {b0 : Bool} {A0 B0 : Option Addr} {n0 c0 m0 d0 : Nat} {x0 : Rat} (hx : Rt w b0 A0 n0 c0 B0 m0 d0 x0) (s0 : Sz x0 15) {j : Int} (h0 : 0 ≤ j) (h1 : j ≤ 500) :
    Calls Tryz.prog 88 #[.agg #[.bool b0, .slice A0 n0 c0, .slice B0 m0 d0], .int .i64 j] w (GotZp w (nea x0 j.toNat) 0) := by
  have cc := Below.refl w.heap.size w
  go_enter Tryz.func88, Tryz.ntmps88
  go_wp2_with fail
  generalize hv_ : (w.alloc (.cells #[.bool b0, .slice A0 n0 c0, .slice B0 m0 d0] 51)).alloc (.cells #[.bool false, .slice none 0 0] 49) = v1
  obtain ⟨f0, f1⟩ : Fz2 v1 (w.heap.size + 1) := by simp [Fz2, ← hv_, go_sem]
  have bA : Below w.heap.size w v1 := by rw [← hv_]; exact (((Below.refl _ w).alloc (by simp) _).alloc (by simp) _)
  replace hx := hx.on bA
  replace cc := bK cc bA
  clear bA
  obtain ⟨k0, k1, k2⟩ : Cs3 v1 w.heap.size (.bool b0) (.slice A0 n0 c0) (.slice B0 m0 d0) := by simp [Cs3, ← hv_, go_sem]
  have kl : w.heap.size < v1.heap.size := by simp [← hv_] <;> omega
  obtain ⟨g0, g1⟩ : Cs2 v1 (w.heap.size + 1) (.bool false) (.slice none 0 0) := by simp [Cs2, ← hv_, go_sem]
  have gl : w.heap.size + 1 < v1.heap.size := by simp [← hv_] <;> omega
  clear hv_
  refine (rdnea_N hx (s0.le (by omega)) h0 h1 ⟨k0, k1, k2⟩).mono ?_
  rintro e w2 ⟨bm, Am, nm, cm, rfl, hm, b⟩
  rewrite [fR b gl] at f0 f1
  replace hx := hx.on b
  rewrite [cR b kl] at k0 k1 k2
  replace kl := lK b kl
  rewrite [cR b gl] at g0 g1
  replace gl := lK b gl
  replace cc := bK cc b
  clear b
  have hn : Zn w2 bm Am nm cm (nea x0 j.toNat) := hm
  have eb : Box w2 (w.heap.size + 1) false none 0 0 := ⟨g0, g1⟩
  have HZ : Hid (Zn ((w2.setCell ⟨w.heap.size + 1, 0, none⟩ (.bool bm)).setCell ⟨w.heap.size + 1, 1, none⟩ (.slice Am nm cm)) bm Am nm cm (nea x0 j.toNat)) := Lib.hid (hn.put eb _ _)
  clear hn
  go_wp2_with fail
  refine bodyPost_ret (v := .tuple #[.agg #[.bool bm, .slice Am nm cm], .int .i64 0]) (by simp [results, Tryz.results88, go_sem, g0, g1]) rfl ⟨_, _, _, _, rfl, HZ.out, below_put cc (by omega) _ _⟩

theorem dnear_no {w : World} {b0 : Bool} {A0 B0 : Option Addr} {n0 c0 m0 d0 : Nat} {x0 : Rat} (hx : Rt w b0 A0 n0 c0 B0 m0 d0 x0) (s0 : Sz x0 15) {j : Int} (h : j < 0 ∨ 2000 < j) :
    Calls Tryz.prog 88 #[.agg #[.bool b0, .slice A0 n0 c0, .slice B0 m0 d0], .int .i64 j] w (GotZp w 0 1) := by
  have cc := Below.refl w.heap.size w
  go_enter Tryz.func88, Tryz.ntmps88
  go_wp2_with fail
  generalize hv_ : (w.alloc (.cells #[.bool b0, .slice A0 n0 c0, .slice B0 m0 d0] 51)).alloc (.cells #[.bool false, .slice none 0 0] 49) = v1
  obtain ⟨f0, f1⟩ : Fz2 v1 (w.heap.size + 1) := by simp [Fz2, ← hv_, go_sem]
  have bA : Below w.heap.size w v1 := by rw [← hv_]; exact (((Below.refl _ w).alloc (by simp) _).alloc (by simp) _)
  replace hx := hx.on bA
  replace cc := bK cc bA
  clear bA
  obtain ⟨k0, k1, k2⟩ : Cs3 v1 w.heap.size (.bool b0) (.slice A0 n0 c0) (.slice B0 m0 d0) := by simp [Cs3, ← hv_, go_sem]
  have kl : w.heap.size < v1.heap.size := by simp [← hv_] <;> omega
  obtain ⟨g0, g1⟩ : Cs2 v1 (w.heap.size + 1) (.bool false) (.slice none 0 0) := by simp [Cs2, ← hv_, go_sem]
  have gl : w.heap.size + 1 < v1.heap.size := by simp [← hv_] <;> omega
  clear hv_
  refine (rd_no h).mono ?_
  rintro e w2 ⟨bm, Am, nm, cm, rfl, hm, b⟩
  rewrite [fR b gl] at f0 f1
  replace hx := hx.on b
  rewrite [cR b kl] at k0 k1 k2
  replace kl := lK b kl
  rewrite [cR b gl] at g0 g1
  replace gl := lK b gl
  replace cc := bK cc b
  clear b
  have hn : Zn w2 bm Am nm cm (0) := hm
  have eb : Box w2 (w.heap.size + 1) false none 0 0 := ⟨g0, g1⟩
  have HZ : Hid (Zn ((w2.setCell ⟨w.heap.size + 1, 0, none⟩ (.bool bm)).setCell ⟨w.heap.size + 1, 1, none⟩ (.slice Am nm cm)) bm Am nm cm (0)) := Lib.hid (hn.put eb _ _)
  clear hn
  go_wp2_with fail
  refine bodyPost_ret (v := .tuple #[.agg #[.bool bm, .slice Am nm cm], .int .i64 1]) (by simp [results, Tryz.results88, go_sem, g0, g1]) rfl ⟨_, _, _, _, rfl, HZ.out, below_put cc (by omega) _ _⟩



end Go.Proofs.YtmaolhajeoigpaaGreat

/-
  The contracts of the landed fix: Sqrt, Of, Rat.
-/
namespace Go.Proofs.YtmaolhajeoigpaaGreat
set_option maxRecDepth 100000
set_option maxHeartbeats 8000000
open Go.RowKit
set_option linter.unusedVariables false
set_option linter.unusedSimpArgs false




theorem fof_N {w : World} {b0 : Bool} {A0 B0 : Option Addr} {n0 c0 m0 d0 : Nat} {x0 : Rat} (h0 : Rt w b0 A0 n0 c0 B0 m0 d0 x0) (s0 : Sz x0 15) {j : Int} (j0 : 0 ≤ j) (j1 : j ≤ 40) :
    Calls Tryz.prog 51 #[.agg #[.bool b0, .slice A0 n0 c0, .slice B0 m0 d0], .int .i64 j] w (GotV w (.tuple #[.int .i64 (nI (nea x0 j.toNat)), .int .i64 (nE (nea x0 j.toNat))])) := by
  have lz_ := nea_len s0 (show j.toNat ≤ 500 by omega)
  have cc := Below.refl w.heap.size w
  go_enter Tryz.func51, Tryz.ntmps51
  go_wp2_with fail
  generalize hv_ : w.alloc (.cells #[.bool b0, .slice A0 n0 c0, .slice B0 m0 d0] 51) = v1
  have bA : Below w.heap.size w v1 := by rw [← hv_]; exact ((Below.refl _ w).alloc (by simp) _)
  replace h0 := h0.on bA
  replace cc := bK cc bA
  clear bA
  obtain ⟨ka0, ka1, ka2⟩ : Cs3 v1 w.heap.size (.bool b0) (.slice A0 n0 c0) (.slice B0 m0 d0) := by simp [Cs3, ← hv_, go_sem]
  have kal : w.heap.size < v1.heap.size := by simp [← hv_] <;> omega
  clear hv_
  refine (isf_2 _ j0 j1).mono ?_
  rintro e w2 ⟨rfl, b⟩
  replace h0 := h0.on b
  rewrite [cR b kal] at ka0 ka1 ka2
  replace kal := lK b kal
  replace cc := bK cc b
  clear b
  go_wp2_with fail
  refine (dnear_N h0 s0 j0 (by omega)).mono ?_
  rintro e w3 ⟨bz, Az, nz, cz, rfl, hz, b⟩
  replace h0 := h0.on b
  rewrite [cR b kal] at ka0 ka1 ka2
  replace kal := lK b kal
  replace cc := bK cc b
  clear b
  go_wp2_with fail
  generalize hv_ : w3.alloc (.cells #[.bool bz, .slice Az nz cz] 49) = v4
  have bA : Below w3.heap.size w3 v4 := by rw [← hv_]; exact below_one _ _
  replace h0 := h0.on bA
  replace hz := hz.on bA
  rewrite [cR bA kal] at ka0 ka1 ka2
  replace kal := lK bA kal
  replace cc := bK cc bA
  clear bA
  obtain ⟨zb0, zb1⟩ : Cs2 v4 w3.heap.size (.bool bz) (.slice Az nz cz) := by simp [Cs2, ← hv_, go_sem]
  have zbl : w3.heap.size < v4.heap.size := by simp [← hv_]
  clear hv_
  refine (mant_N hz (Nat.le_trans lz_ (by omega))).mono ?_
  rintro e w5 ⟨rfl, b⟩
  replace h0 := h0.on b
  replace hz := hz.on b
  rewrite [cR b kal] at ka0 ka1 ka2
  replace kal := lK b kal
  rewrite [cR b zbl] at zb0 zb1
  replace zbl := lK b zbl
  replace cc := bK cc b
  clear b
  go_wp2_with fail
  go_ret2
  exact ⟨rfl, cc⟩

theorem fof_no {w : World} {b0 : Bool} {A0 B0 : Option Addr} {n0 c0 m0 d0 : Nat} {x0 : Rat} (h0 : Rt w b0 A0 n0 c0 B0 m0 d0 x0) (s0 : Sz x0 15) {j : Int} (h : j < 0 ∨ 40 < j) :
    Calls Tryz.prog 51 #[.agg #[.bool b0, .slice A0 n0 c0, .slice B0 m0 d0], .int .i64 j] w (GotV w (.tuple #[.int .i64 (0), .int .i64 (1)])) := by
  have cc := Below.refl w.heap.size w
  go_enter Tryz.func51, Tryz.ntmps51
  go_wp2_with fail
  generalize hv_ : w.alloc (.cells #[.bool b0, .slice A0 n0 c0, .slice B0 m0 d0] 51) = v1
  have bA : Below w.heap.size w v1 := by rw [← hv_]; exact ((Below.refl _ w).alloc (by simp) _)
  replace cc := bK cc bA
  clear bA
  obtain ⟨ka0, ka1, ka2⟩ : Cs3 v1 w.heap.size (.bool b0) (.slice A0 n0 c0) (.slice B0 m0 d0) := by simp [Cs3, ← hv_, go_sem]
  have kal : w.heap.size < v1.heap.size := by simp [← hv_] <;> omega
  clear hv_
  refine (isf_no _ h).mono ?_
  rintro e w2 ⟨rfl, b⟩
  rewrite [cR b kal] at ka0 ka1 ka2
  replace kal := lK b kal
  replace cc := bK cc b
  clear b
  go_wp2_with fail
  go_ret2
  exact ⟨rfl, cc⟩



end Go.Proofs.YtmaolhajeoigpaaGreat
