/-
  Several texts in one: V3, V4, V5, V6, PK, J11e, J11f, C12.
-/
import Derived.Test.YtpidpebgeblenaaGreatA10
import Derived.Test.YtpidpebgeblenaaGreatA3
import Derived.Test.YtpidpebgeblenaaGreatA4
import Derived.Test.YtpidpebgeblenaaGreatA7
import Derived.Test.YtpidpebgeblenaaGreatA9

/-
  The contract of the landed fix: nearest.
-/
namespace Go.Proofs.YtpidpebgeblenaaGreat
set_option maxRecDepth 100000
set_option maxHeartbeats 8000000
open Go.RowKit
set_option linter.unusedVariables false
set_option linter.unusedSimpArgs false

theorem near_parts {X d : Nat} (hd : 0 < d) : ∃ T r k, X / d = T ∧ X % d = r ∧ T * d + r = X ∧ r < d ∧ (X + d / 2) / d = T + k ∧ ((r + d / 2 < d ∧ k = 0) ∨ (d ≤ r + d / 2 ∧ k = 1)) := by
  have h1 := Nat.div_add_mod X d
  have h2 := Nat.mod_lt X hd
  have h3 : (X + d / 2) / d = X / d + (X % d + d / 2) / d := by
    have : X + d / 2 = d * (X / d) + (X % d + d / 2) := by omega
    rw [this, Nat.mul_add_div hd]
  refine ⟨X / d, X % d, (X % d + d / 2) / d, rfl, rfl, by rw [Nat.mul_comm]; exact h1, h2, h3, ?_⟩
  rcases Nat.lt_or_ge (X % d + d / 2) d with h | h
  · exact .inl ⟨h, Nat.div_eq_of_lt h⟩
  · exact .inr ⟨h, Nat.div_eq_of_lt_le (by omega) (by omega)⟩
theorem near_odd {X d : Nat} (hd : 0 < d) (p : d % 2 = 1) : (((X + d / 2) / d : Nat) : Int) = rn (X : Int) d := by
  obtain ⟨T, r, k, e1, e2, e3, h2, e4, h5⟩ := near_parts (X := X) hd
  rw [rn_nat X d (by omega), e4, e1]
  unfold fars
  rw [e1, e2]
  rcases h5 with ⟨h5, rfl⟩ | ⟨h5, rfl⟩
  · have f1 : ¬ d < r + r := by omega
    have f2 : ¬ r + r = d := by omega
    simp [f1, f2]
  · have f1 : d < r + r := by omega
    simp [f1]
theorem near_ne {X d : Nat} (hd : 0 < d) (p : d % 2 = 0) (hne : (X + d / 2) / d * d ≠ X + d / 2) : (((X + d / 2) / d : Nat) : Int) = rn (X : Int) d := by
  obtain ⟨T, r, k, e1, e2, e3, h2, e4, h5⟩ := near_parts (X := X) hd
  rw [rn_nat X d (by omega), e4, e1]
  rw [e4, Nat.add_mul] at hne
  unfold fars
  rw [e1, e2]
  rcases h5 with ⟨h5, rfl⟩ | ⟨h5, rfl⟩
  · have f1 : ¬ d < r + r := by omega
    have f2 : ¬ r + r = d := by omega
    simp [f1, f2]
  · have f1 : d < r + r := by omega
    simp [f1]
theorem near_eq {X d : Nat} (hd : 0 < d) (p : d % 2 = 0) (he : (X + d / 2) / d * d = X + d / 2) : (((X + d / 2) / d - (X + d / 2) / d % 2 : Nat) : Int) = rn (X : Int) d := by
  obtain ⟨T, r, k, e1, e2, e3, h2, e4, h5⟩ := near_parts (X := X) hd
  rw [rn_nat X d (by omega), e4, e1]
  rw [e4, Nat.add_mul] at he
  unfold fars
  rw [e1, e2]
  rcases h5 with ⟨h5, rfl⟩ | ⟨h5, rfl⟩
  · omega
  · have f1 : ¬ d < r + r := by omega
    have f2 : r + r = d := by omega
    by_cases hT : T % 2 = 1
    · simp [f1, f2, hT]; omega
    · simp [f1, f2, hT]; omega
theorem near_least {X d : Nat} (hd : 0 < d) : (((X + d / 2) / d : Nat) : Int) - 1 ≤ rn (X : Int) d := by
  by_cases p : d % 2 = 1
  · rw [near_odd hd p]; omega
  · by_cases he : (X + d / 2) / d * d = X + d / 2
    · rw [← near_eq hd (by omega) he]; omega
    · rw [near_ne hd (by omega) he]; omega
theorem rn_sgn (b : Bool) (X : Nat) {d : Nat} (hd : d ≠ 0) : rn (sgn b X) d = if b then -rn (X : Int) d else rn (X : Int) d := by
  cases b
  · rfl
  · exact rn_neg (X : Int) hd
theorem near_far {b : Bool} {X d : Nat} (hd : 0 < d) (h : d * B64 ≤ X + d / 2) : ¬ I64 (rn (sgn b X) d) := by
  have h1 : B64 ≤ (X + d / 2) / d := (Nat.le_div_iff_mul_le hd).2 (by rw [Nat.mul_comm]; exact h)
  have h2 := near_least (X := X) hd
  have h3 : (18446744073709551616 : Int) ≤ (((X + d / 2) / d : Nat) : Int) := by unfold B64 at h1; omega
  rw [rn_sgn b X (by omega)]
  unfold I64
  cases b <;> simp <;> omega
theorem plus_val {l h m : Nat} : (h + sumHi l m 0) * B64 + sumLo l m 0 = l + B64 * h + m := by
  unfold sumHi sumLo
  have h1 := Nat.div_add_mod (l + m + 0) B64
  rw [Nat.add_mul, Nat.mul_comm h, Nat.mul_comm ((l + m + 0) / B64)]
  omega
theorem limbs_eq {t d lo hi : Nat} (hlo : lo < B64) : (mulLo t d = lo ∧ mulHi t d = hi) ↔ t * d = hi * B64 + lo := by
  unfold mulLo mulHi
  have h1 := Nat.div_add_mod (t * d) B64
  constructor
  · rintro ⟨a, b⟩
    rw [a, b, Nat.mul_comm] at h1
    exact h1.symm
  · intro h
    rw [h]
    refine ⟨?_, ?_⟩
    · rw [Nat.add_comm, Nat.add_mul_mod_self_right, Nat.mod_eq_of_lt hlo]
    · rw [Nat.add_comm, Nat.add_mul_div_right _ _ B64_pos, Nat.div_eq_of_lt hlo, Nat.zero_add]
theorem zn_less {w : World} {A : Option Addr} {n c q : Nat} (h : Num w A n c q) (hq : 0 < q) : Zn w true A n c (-(q : Int)) := ⟨by rw [Int.natAbs_neg, Int.natAbs_natCast]; exact h, by simp; omega⟩
theorem got_drewn {w : World} {v : Value} {e : Ending} {w' : World} (h : e = .returned v ∧ ∃ n, w' = w.drewN n) : GotV w v e w' := by
  obtain ⟨rfl, n, rfl⟩ := h
  exact ⟨rfl, below_drewN (Below.refl _ _) n⟩

theorem arr_eq (a b c d : Int) (w : World) : (Op.equalIn 10000 156 (.agg #[.int .u64 a, .int .u64 b]) (.agg #[.int .u64 c, .int .u64 d])).run Tryz.prog w = .ok (a == c && b == d) w := by
  have u3 := Tryz.underlying101
  have a3 := Tryz.isAgg101
  have z3 := Tryz.sizeOf101
  rw [show (10000 : Nat) = 9999 + 1 from rfl, Op.equalIn]
  simp only [Sem.run_bind, run_underlying Tryz.underlying156, Result.andThen_ok]
  simp only [Std.Legacy.Range.forIn_eq_forIn_range', Std.Legacy.Range.size, Nat.sub_zero, Nat.add_sub_cancel, Nat.div_one, List.range'_succ, List.range'_zero, List.forIn_cons, List.forIn_nil]
  go_simp
  by_cases h1 : a = c <;> by_cases h2 : b = d <;> simp [h1, h2]

attribute [local go_sem] arr_eq

theorem nearest_far {w : World} {b : Bool} {l h d m lo hi : Nat} (CP : ∀ W : World, Calls Tryz.prog 142 #[.agg #[.int .u64 (l : Int), .int .u64 (h : Int)], .int .u64 (m : Int)] W (GotV W (.agg #[.int .u64 (lo : Int), .int .u64 (hi : Int)]))) (k1 : IntKind.u64.wrap ((d : Int) / 2) = (m : Int)) (t1 : d ≤ hi) :
    Calls Tryz.prog 133 #[.bool b, .agg #[.int .u64 (l : Int), .int .u64 (h : Int)], .int .u64 (d : Int)] w (GotV w (.tuple #[.int .i64 (0), .int .i64 (2)])) := by
  have q1 : (d : Int) ≤ (hi : Int) := by omega
  have cc := Below.refl w.heap.size w
  go_enter Tryz.func133, Tryz.ntmps133
  go_wp2_with fail
  generalize hv_ : w.alloc (.cells #[.int .u64 (l : Int), .int .u64 (h : Int)] 156) = v1
  have bA : Below w.heap.size w v1 := by rw [← hv_]; exact ((Below.refl _ w).alloc (by simp) _)
  replace cc := bK cc bA
  clear bA
  obtain ⟨ka0, ka1⟩ : Cs2 v1 w.heap.size (.int .u64 (l : Int)) (.int .u64 (h : Int)) := by simp [Cs2, ← hv_, go_sem]
  have kal : w.heap.size < v1.heap.size := by simp [← hv_] <;> omega
  clear hv_
  refine (CP _).mono ?_
  rintro e w2 ⟨rfl, b⟩
  rewrite [cR b kal] at ka0 ka1
  replace kal := lK b kal
  replace cc := bK cc b
  clear b
  go_wp2_with fail
  generalize hv_ : w2.alloc (.cells #[.int .u64 (lo : Int), .int .u64 (hi : Int)] 156) = v3
  have bA : Below w2.heap.size w2 v3 := by rw [← hv_]; exact below_one _ _
  rewrite [cR bA kal] at ka0 ka1
  replace kal := lK bA kal
  replace cc := bK cc bA
  clear bA
  obtain ⟨kr0, kr1⟩ : Cs2 v3 w2.heap.size (.int .u64 (lo : Int)) (.int .u64 (hi : Int)) := by simp [Cs2, ← hv_, go_sem]
  have krl : w2.heap.size < v3.heap.size := by simp [← hv_]
  clear hv_
  go_wp2_with fail
  go_ret2
  exact ⟨rfl, cc⟩

theorem nearest_odd {w : World} {b : Bool} {l h d m lo hi t r : Nat} {z : Int} (CP : ∀ W : World, Calls Tryz.prog 142 #[.agg #[.int .u64 (l : Int), .int .u64 (h : Int)], .int .u64 (m : Int)] W (GotV W (.agg #[.int .u64 (lo : Int), .int .u64 (hi : Int)]))) (CD : ∀ W : World, Calls Tryz.prog 143 #[.int .u64 (hi : Int), .int .u64 (lo : Int), .int .u64 (d : Int)] W (GotV W (.tuple #[.int .u64 (t : Int), .int .u64 (r : Int)]))) (k1 : IntKind.u64.wrap ((d : Int) / 2) = (m : Int)) (t1 : hi < d) (p : d % 2 = 1) (hz : sgn b t = z) (hu : t < B64) :
    Calls Tryz.prog 133 #[.bool b, .agg #[.int .u64 (l : Int), .int .u64 (h : Int)], .int .u64 (d : Int)] w (GotV w (.tuple #[.int .i64 (nI (z)), .int .i64 (nE (z))])) := by
  have q1 : ¬ (d : Int) ≤ (hi : Int) := by omega
  have q2 : (d : Int) % 2 = 1 := by omega
  have q3 : (d : Int).tmod 2 = 1 := by rw [Int.tmod_eq_emod_of_nonneg (by omega)]; omega
  have cc := Below.refl w.heap.size w
  go_enter Tryz.func133, Tryz.ntmps133
  go_wp2_with fail
  generalize hv_ : w.alloc (.cells #[.int .u64 (l : Int), .int .u64 (h : Int)] 156) = v1
  have bA : Below w.heap.size w v1 := by rw [← hv_]; exact ((Below.refl _ w).alloc (by simp) _)
  replace cc := bK cc bA
  clear bA
  obtain ⟨ka0, ka1⟩ : Cs2 v1 w.heap.size (.int .u64 (l : Int)) (.int .u64 (h : Int)) := by simp [Cs2, ← hv_, go_sem]
  have kal : w.heap.size < v1.heap.size := by simp [← hv_] <;> omega
  clear hv_
  refine (CP _).mono ?_
  rintro e w2 ⟨rfl, b⟩
  rewrite [cR b kal] at ka0 ka1
  replace kal := lK b kal
  replace cc := bK cc b
  clear b
  go_wp2_with fail
  generalize hv_ : w2.alloc (.cells #[.int .u64 (lo : Int), .int .u64 (hi : Int)] 156) = v3
  have bA : Below w2.heap.size w2 v3 := by rw [← hv_]; exact below_one _ _
  rewrite [cR bA kal] at ka0 ka1
  replace kal := lK bA kal
  replace cc := bK cc bA
  clear bA
  obtain ⟨kr0, kr1⟩ : Cs2 v3 w2.heap.size (.int .u64 (lo : Int)) (.int .u64 (hi : Int)) := by simp [Cs2, ← hv_, go_sem]
  have krl : w2.heap.size < v3.heap.size := by simp [← hv_]
  clear hv_
  refine (CD _).mono ?_
  rintro e w4 ⟨rfl, b⟩
  rewrite [cR b kal] at ka0 ka1
  replace kal := lK b kal
  rewrite [cR b krl] at kr0 kr1
  replace krl := lK b krl
  replace cc := bK cc b
  clear b
  go_wp2_with fail
  have bD : Below w4.heap.size w4 w4.drew := below_drewN (Below.refl _ w4) 1
  rewrite [cR bD kal] at ka0 ka1
  replace kal := lK bD kal
  rewrite [cR bD krl] at kr0 kr1
  replace krl := lK bD krl
  replace cc := bK cc bD
  clear bD
  refine wp_region_held_drew (S := fun w' => w'.cell? ⟨w.heap.size, 0, none⟩ = some (.int .u64 (l : Int)) ∧ w'.cell? ⟨w.heap.size, 1, none⟩ = some (.int .u64 (h : Int)) ∧ w'.cell? ⟨w2.heap.size, 0, none⟩ = some (.int .u64 (lo : Int)) ∧ w'.cell? ⟨w2.heap.size, 1, none⟩ = some (.int .u64 (hi : Int))) (by kernel_rfl) ?_ (fun hHeld => ?_)
  · exact ⟨ka0, ka1, kr0, kr1⟩
  refine tY (i := 0) (v := ?_) rfl ?_ hHeld ?_
  rotate_left
  · (intro w hSw; (try dsimp only at hSw); go_simp; (try with_reducible rfl))
  try simp only [Act.put, pT]
  refine tY (i := 1) (v := ?_) rfl ?_ hHeld ?_
  rotate_left
  · (intro w hSw; (try dsimp only at hSw); go_simp; (try with_reducible rfl))
  try simp only [Act.put, pT]
  refine tY (i := 2) (v := ?_) rfl ?_ hHeld ?_
  rotate_left
  · (intro w hSw; (try dsimp only at hSw); go_simp; (try with_reducible rfl))
  try simp only [Act.put, pT]
  refine tY (i := 3) (v := ?_) rfl ?_ hHeld ?_
  rotate_left
  · (intro w hSw; (try dsimp only at hSw); go_simp; (try with_reducible rfl))
  try simp only [Act.put, pT]
  refine tU (i := 4) rfl hHeld ?_
  try simp only [Act.put, pT]
  refine tU (i := 5) rfl hHeld ?_
  try simp only [Act.put, pT]
  refine tU (i := 6) rfl hHeld ?_
  try simp only [Act.put, pT]
  refine tU (i := 7) rfl hHeld ?_
  try simp only [Act.put, pT]
  refine tU (i := 8) rfl hHeld ?_
  try simp only [Act.put, pT]
  refine tY (i := 9) (v := ?_) rfl ?_ hHeld ?_
  rotate_left
  · (intro w hSw; (try dsimp only at hSw); go_simp; (try with_reducible rfl))
  try simp only [Act.put, pT]
  refine wpAnyH_done (by kernel_rfl) ?_ _
  clear hHeld
  have hb : (b = false) ∨ (b = true ∧ decide (0 < t) = false) ∨ (b = true ∧ decide (0 < t) = true) := by cases b <;> simp <;> omega
  rcases hb with rfl | ⟨rfl, ub⟩ | ⟨rfl, ub⟩
  · skip
    obtain rfl : (t : Int) = z := hz
    have HU := Lib.hid hu
    clear hu
    try clear hz
    go_wp2_with fail
    refine (of_N _ t HU.out).mono ?_
    rintro e w5 ⟨Av, nv, cv, rfl, v, b⟩
    rewrite [cR b kal] at ka0 ka1
    replace kal := lK b kal
    rewrite [cR b krl] at kr0 kr1
    replace krl := lK b krl
    replace cc := bK cc b
    clear b
    have zu := zn_nat v
    go_wp2_with fail
    refine (mant_N zu (by rw [Int.natAbs_natCast]; exact Nat.le_trans (len_one HU.out) (by omega))).mono ?_
    rintro e w6 ⟨rfl, b⟩
    replace v := v.on b
    replace zu := zu.on b
    rewrite [cR b kal] at ka0 ka1
    replace kal := lK b kal
    rewrite [cR b krl] at kr0 kr1
    replace krl := lK b krl
    replace cc := bK cc b
    clear b
    go_wp2_with fail
    go_ret2
    exact ⟨rfl, cc⟩
  · skip
    have u0 : t = 0 := by simpa using ub
    obtain rfl : (t : Int) = z := by rw [← hz]; unfold sgn; simp; omega
    have ui : decide (0 < (t : Int)) = false := by simp; omega
    clear u0
    have HU := Lib.hid hu
    clear hu
    try clear hz
    go_wp2_with fail
    refine (of_N _ t HU.out).mono ?_
    rintro e w5 ⟨Av, nv, cv, rfl, v, b⟩
    rewrite [cR b kal] at ka0 ka1
    replace kal := lK b kal
    rewrite [cR b krl] at kr0 kr1
    replace krl := lK b krl
    replace cc := bK cc b
    clear b
    have zu := zn_nat v
    go_wp2_with fail
    refine (mant_N zu (by rw [Int.natAbs_natCast]; exact Nat.le_trans (len_one HU.out) (by omega))).mono ?_
    rintro e w6 ⟨rfl, b⟩
    replace v := v.on b
    replace zu := zu.on b
    rewrite [cR b kal] at ka0 ka1
    replace kal := lK b kal
    rewrite [cR b krl] at kr0 kr1
    replace krl := lK b krl
    replace cc := bK cc b
    clear b
    go_wp2_with fail
    go_ret2
    exact ⟨rfl, cc⟩
  · skip
    have u0 : 0 < t := of_decide_eq_true ub
    obtain rfl : -(t : Int) = z := hz
    have ui : decide (0 < (t : Int)) = true := by simp; omega
    have HU := Lib.hid hu
    clear hu
    try clear hz
    have HU0 := Lib.hid u0
    clear u0
    go_wp2_with fail
    refine (of_N _ t HU.out).mono ?_
    rintro e w5 ⟨Av, nv, cv, rfl, v, b⟩
    rewrite [cR b kal] at ka0 ka1
    replace kal := lK b kal
    rewrite [cR b krl] at kr0 kr1
    replace krl := lK b krl
    replace cc := bK cc b
    clear b
    have zu := zn_less v HU0.out
    go_wp2_with fail
    refine (mant_N zu (by rw [Int.natAbs_neg, Int.natAbs_natCast]; exact Nat.le_trans (len_one HU.out) (by omega))).mono ?_
    rintro e w6 ⟨rfl, b⟩
    replace v := v.on b
    replace zu := zu.on b
    rewrite [cR b kal] at ka0 ka1
    replace kal := lK b kal
    rewrite [cR b krl] at kr0 kr1
    replace krl := lK b krl
    replace cc := bK cc b
    clear b
    go_wp2_with fail
    go_ret2
    exact ⟨rfl, cc⟩

theorem nearest_ne {w : World} {b : Bool} {l h d m lo hi t r x y : Nat} {z : Int} (CP : ∀ W : World, Calls Tryz.prog 142 #[.agg #[.int .u64 (l : Int), .int .u64 (h : Int)], .int .u64 (m : Int)] W (GotV W (.agg #[.int .u64 (lo : Int), .int .u64 (hi : Int)]))) (CD : ∀ W : World, Calls Tryz.prog 143 #[.int .u64 (hi : Int), .int .u64 (lo : Int), .int .u64 (d : Int)] W (GotV W (.tuple #[.int .u64 (t : Int), .int .u64 (r : Int)]))) (k1 : IntKind.u64.wrap ((d : Int) / 2) = (m : Int)) (t1 : hi < d) (CQ : ∀ W : World, Calls Tryz.prog 134 #[.int .u64 (t : Int), .int .u64 (d : Int)] W (GotV W (.agg #[.int .u64 (x : Int), .int .u64 (y : Int)]))) (p : d % 2 = 0) (he : ((lo : Int) == (x : Int) && (hi : Int) == (y : Int)) = false) (hz : sgn b t = z) (hu : t < B64) :
    Calls Tryz.prog 133 #[.bool b, .agg #[.int .u64 (l : Int), .int .u64 (h : Int)], .int .u64 (d : Int)] w (GotV w (.tuple #[.int .i64 (nI (z)), .int .i64 (nE (z))])) := by
  have q1 : ¬ (d : Int) ≤ (hi : Int) := by omega
  have q2 : (d : Int) % 2 = 0 := by omega
  have q3 : (d : Int).tmod 2 = 0 := by rw [Int.tmod_eq_emod_of_nonneg (by omega)]; omega
  have q4 : ((lo : Int) == (x : Int) && (hi : Int) == (y : Int)) = false := he
  have cc := Below.refl w.heap.size w
  go_enter Tryz.func133, Tryz.ntmps133
  go_wp2_with fail
  generalize hv_ : w.alloc (.cells #[.int .u64 (l : Int), .int .u64 (h : Int)] 156) = v1
  have bA : Below w.heap.size w v1 := by rw [← hv_]; exact ((Below.refl _ w).alloc (by simp) _)
  replace cc := bK cc bA
  clear bA
  obtain ⟨ka0, ka1⟩ : Cs2 v1 w.heap.size (.int .u64 (l : Int)) (.int .u64 (h : Int)) := by simp [Cs2, ← hv_, go_sem]
  have kal : w.heap.size < v1.heap.size := by simp [← hv_] <;> omega
  clear hv_
  refine (CP _).mono ?_
  rintro e w2 ⟨rfl, b⟩
  rewrite [cR b kal] at ka0 ka1
  replace kal := lK b kal
  replace cc := bK cc b
  clear b
  go_wp2_with fail
  generalize hv_ : w2.alloc (.cells #[.int .u64 (lo : Int), .int .u64 (hi : Int)] 156) = v3
  have bA : Below w2.heap.size w2 v3 := by rw [← hv_]; exact below_one _ _
  rewrite [cR bA kal] at ka0 ka1
  replace kal := lK bA kal
  replace cc := bK cc bA
  clear bA
  obtain ⟨kr0, kr1⟩ : Cs2 v3 w2.heap.size (.int .u64 (lo : Int)) (.int .u64 (hi : Int)) := by simp [Cs2, ← hv_, go_sem]
  have krl : w2.heap.size < v3.heap.size := by simp [← hv_]
  clear hv_
  refine (CD _).mono ?_
  rintro e w4 ⟨rfl, b⟩
  rewrite [cR b kal] at ka0 ka1
  replace kal := lK b kal
  rewrite [cR b krl] at kr0 kr1
  replace krl := lK b krl
  replace cc := bK cc b
  clear b
  go_wp2_with fail
  have bD : Below w4.heap.size w4 w4.drew := below_drewN (Below.refl _ w4) 1
  rewrite [cR bD kal] at ka0 ka1
  replace kal := lK bD kal
  rewrite [cR bD krl] at kr0 kr1
  replace krl := lK bD krl
  replace cc := bK cc bD
  clear bD
  refine wp_region_held_drew (S := fun w' => w'.cell? ⟨w.heap.size, 0, none⟩ = some (.int .u64 (l : Int)) ∧ w'.cell? ⟨w.heap.size, 1, none⟩ = some (.int .u64 (h : Int)) ∧ w'.cell? ⟨w2.heap.size, 0, none⟩ = some (.int .u64 (lo : Int)) ∧ w'.cell? ⟨w2.heap.size, 1, none⟩ = some (.int .u64 (hi : Int))) (by kernel_rfl) ?_ (fun hHeld => ?_)
  · exact ⟨ka0, ka1, kr0, kr1⟩
  refine tY (i := 0) (v := ?_) rfl ?_ hHeld ?_
  rotate_left
  · (intro w hSw; (try dsimp only at hSw); go_simp; (try with_reducible rfl))
  try simp only [Act.put, pT]
  refine tY (i := 1) (v := ?_) rfl ?_ hHeld ?_
  rotate_left
  · (intro w hSw; (try dsimp only at hSw); go_simp; (try with_reducible rfl))
  try simp only [Act.put, pT]
  refine tY (i := 2) (v := ?_) rfl ?_ hHeld ?_
  rotate_left
  · (intro w hSw; (try dsimp only at hSw); go_simp; (try with_reducible rfl))
  try simp only [Act.put, pT]
  refine tY (i := 3) (v := ?_) rfl ?_ hHeld ?_
  rotate_left
  · (intro w hSw; (try dsimp only at hSw); go_simp; (try with_reducible rfl))
  try simp only [Act.put, pT]
  refine tY (i := 4) (v := ?_) rfl ?_ hHeld ?_
  rotate_left
  · (intro w hSw; (try dsimp only at hSw); go_simp; (try with_reducible rfl))
  try simp only [Act.put, pT]
  refine tY (i := 5) (v := ?_) rfl ?_ hHeld ?_
  rotate_left
  · (intro w hSw; (try dsimp only at hSw); go_simp; (try with_reducible rfl))
  try simp only [Act.put, pT]
  refine tY (i := 6) (v := ?_) rfl ?_ hHeld ?_
  rotate_left
  · (intro w hSw; (try dsimp only at hSw); go_simp; (try with_reducible rfl))
  try simp only [Act.put, pT]
  refine wpAnyH_ready (rs := [7]) (by kernel_rfl) (by simp) ?_
  refine AllReadyH.cons rfl (fun K hK => ?_) AllReadyH.nil
  (try simp only [pT])
  rw [if_pos (by rfl)]
  go_simp
  go_at_call 134
  refine (CQ _).mono ?_
  rintro e w5 ⟨rfl, b⟩
  rewrite [cR b kal] at ka0 ka1
  replace kal := lK b kal
  rewrite [cR b krl] at kr0 kr1
  replace krl := lK b krl
  replace cc := bK cc b
  clear b
  refine hK.out _ _ ?_ (fun hHeld => ?_)
  · exact ⟨ka0, ka1, kr0, kr1⟩
  clear hK K
  try simp only [Act.put, pT]
  refine tY (i := 8) (v := ?_) rfl ?_ hHeld ?_
  rotate_left
  · (intro w hSw; (try dsimp only at hSw); go_simp; (try with_reducible rfl))
  try simp only [Act.put, pT]
  refine tY (i := 9) (v := ?_) rfl ?_ hHeld ?_
  rotate_left
  · (intro w hSw; (try dsimp only at hSw); go_simp; (try with_reducible rfl))
  try simp only [Act.put, pT]
  refine wpAnyH_done (by kernel_rfl) ?_ _
  clear hHeld
  have hb : (b = false) ∨ (b = true ∧ decide (0 < t) = false) ∨ (b = true ∧ decide (0 < t) = true) := by cases b <;> simp <;> omega
  rcases hb with rfl | ⟨rfl, ub⟩ | ⟨rfl, ub⟩
  · skip
    obtain rfl : (t : Int) = z := hz
    have HU := Lib.hid hu
    clear hu
    try clear hz
    go_wp2_with fail
    refine (of_N _ t HU.out).mono ?_
    rintro e w6 ⟨Av, nv, cv, rfl, v, b⟩
    rewrite [cR b kal] at ka0 ka1
    replace kal := lK b kal
    rewrite [cR b krl] at kr0 kr1
    replace krl := lK b krl
    replace cc := bK cc b
    clear b
    have zu := zn_nat v
    go_wp2_with fail
    refine (mant_N zu (by rw [Int.natAbs_natCast]; exact Nat.le_trans (len_one HU.out) (by omega))).mono ?_
    rintro e w7 ⟨rfl, b⟩
    replace v := v.on b
    replace zu := zu.on b
    rewrite [cR b kal] at ka0 ka1
    replace kal := lK b kal
    rewrite [cR b krl] at kr0 kr1
    replace krl := lK b krl
    replace cc := bK cc b
    clear b
    go_wp2_with fail
    go_ret2
    exact ⟨rfl, cc⟩
  · skip
    have u0 : t = 0 := by simpa using ub
    obtain rfl : (t : Int) = z := by rw [← hz]; unfold sgn; simp; omega
    have ui : decide (0 < (t : Int)) = false := by simp; omega
    clear u0
    have HU := Lib.hid hu
    clear hu
    try clear hz
    go_wp2_with fail
    refine (of_N _ t HU.out).mono ?_
    rintro e w6 ⟨Av, nv, cv, rfl, v, b⟩
    rewrite [cR b kal] at ka0 ka1
    replace kal := lK b kal
    rewrite [cR b krl] at kr0 kr1
    replace krl := lK b krl
    replace cc := bK cc b
    clear b
    have zu := zn_nat v
    go_wp2_with fail
    refine (mant_N zu (by rw [Int.natAbs_natCast]; exact Nat.le_trans (len_one HU.out) (by omega))).mono ?_
    rintro e w7 ⟨rfl, b⟩
    replace v := v.on b
    replace zu := zu.on b
    rewrite [cR b kal] at ka0 ka1
    replace kal := lK b kal
    rewrite [cR b krl] at kr0 kr1
    replace krl := lK b krl
    replace cc := bK cc b
    clear b
    go_wp2_with fail
    go_ret2
    exact ⟨rfl, cc⟩
  · skip
    have u0 : 0 < t := of_decide_eq_true ub
    obtain rfl : -(t : Int) = z := hz
    have ui : decide (0 < (t : Int)) = true := by simp; omega
    have HU := Lib.hid hu
    clear hu
    try clear hz
    have HU0 := Lib.hid u0
    clear u0
    go_wp2_with fail
    refine (of_N _ t HU.out).mono ?_
    rintro e w6 ⟨Av, nv, cv, rfl, v, b⟩
    rewrite [cR b kal] at ka0 ka1
    replace kal := lK b kal
    rewrite [cR b krl] at kr0 kr1
    replace krl := lK b krl
    replace cc := bK cc b
    clear b
    have zu := zn_less v HU0.out
    go_wp2_with fail
    refine (mant_N zu (by rw [Int.natAbs_neg, Int.natAbs_natCast]; exact Nat.le_trans (len_one HU.out) (by omega))).mono ?_
    rintro e w7 ⟨rfl, b⟩
    replace v := v.on b
    replace zu := zu.on b
    rewrite [cR b kal] at ka0 ka1
    replace kal := lK b kal
    rewrite [cR b krl] at kr0 kr1
    replace krl := lK b krl
    replace cc := bK cc b
    clear b
    go_wp2_with fail
    go_ret2
    exact ⟨rfl, cc⟩

theorem nearest_eq {w : World} {b : Bool} {l h d m lo hi t r u : Nat} {z : Int} (CP : ∀ W : World, Calls Tryz.prog 142 #[.agg #[.int .u64 (l : Int), .int .u64 (h : Int)], .int .u64 (m : Int)] W (GotV W (.agg #[.int .u64 (lo : Int), .int .u64 (hi : Int)]))) (CD : ∀ W : World, Calls Tryz.prog 143 #[.int .u64 (hi : Int), .int .u64 (lo : Int), .int .u64 (d : Int)] W (GotV W (.tuple #[.int .u64 (t : Int), .int .u64 (r : Int)]))) (k1 : IntKind.u64.wrap ((d : Int) / 2) = (m : Int)) (t1 : hi < d) (CQ : ∀ W : World, Calls Tryz.prog 134 #[.int .u64 (t : Int), .int .u64 (d : Int)] W (GotV W (.agg #[.int .u64 (lo : Int), .int .u64 (hi : Int)]))) (p : d % 2 = 0) (k2 : IntKind.u64.wrap ((t : Int) - (t : Int) % 2) = (u : Int)) (k3 : (t : Int).tmod 2 = (t : Int) % 2) (hz : sgn b u = z) (hu : u < B64) :
    Calls Tryz.prog 133 #[.bool b, .agg #[.int .u64 (l : Int), .int .u64 (h : Int)], .int .u64 (d : Int)] w (GotV w (.tuple #[.int .i64 (nI (z)), .int .i64 (nE (z))])) := by
  have q1 : ¬ (d : Int) ≤ (hi : Int) := by omega
  have q2 : (d : Int) % 2 = 0 := by omega
  have q3 : (d : Int).tmod 2 = 0 := by rw [Int.tmod_eq_emod_of_nonneg (by omega)]; omega
  have cc := Below.refl w.heap.size w
  go_enter Tryz.func133, Tryz.ntmps133
  go_wp2_with fail
  generalize hv_ : w.alloc (.cells #[.int .u64 (l : Int), .int .u64 (h : Int)] 156) = v1
  have bA : Below w.heap.size w v1 := by rw [← hv_]; exact ((Below.refl _ w).alloc (by simp) _)
  replace cc := bK cc bA
  clear bA
  obtain ⟨ka0, ka1⟩ : Cs2 v1 w.heap.size (.int .u64 (l : Int)) (.int .u64 (h : Int)) := by simp [Cs2, ← hv_, go_sem]
  have kal : w.heap.size < v1.heap.size := by simp [← hv_] <;> omega
  clear hv_
  refine (CP _).mono ?_
  rintro e w2 ⟨rfl, b⟩
  rewrite [cR b kal] at ka0 ka1
  replace kal := lK b kal
  replace cc := bK cc b
  clear b
  go_wp2_with fail
  generalize hv_ : w2.alloc (.cells #[.int .u64 (lo : Int), .int .u64 (hi : Int)] 156) = v3
  have bA : Below w2.heap.size w2 v3 := by rw [← hv_]; exact below_one _ _
  rewrite [cR bA kal] at ka0 ka1
  replace kal := lK bA kal
  replace cc := bK cc bA
  clear bA
  obtain ⟨kr0, kr1⟩ : Cs2 v3 w2.heap.size (.int .u64 (lo : Int)) (.int .u64 (hi : Int)) := by simp [Cs2, ← hv_, go_sem]
  have krl : w2.heap.size < v3.heap.size := by simp [← hv_]
  clear hv_
  refine (CD _).mono ?_
  rintro e w4 ⟨rfl, b⟩
  rewrite [cR b kal] at ka0 ka1
  replace kal := lK b kal
  rewrite [cR b krl] at kr0 kr1
  replace krl := lK b krl
  replace cc := bK cc b
  clear b
  go_wp2_with fail
  have bD : Below w4.heap.size w4 w4.drew := below_drewN (Below.refl _ w4) 1
  rewrite [cR bD kal] at ka0 ka1
  replace kal := lK bD kal
  rewrite [cR bD krl] at kr0 kr1
  replace krl := lK bD krl
  replace cc := bK cc bD
  clear bD
  refine wp_region_held_drew (S := fun w' => w'.cell? ⟨w.heap.size, 0, none⟩ = some (.int .u64 (l : Int)) ∧ w'.cell? ⟨w.heap.size, 1, none⟩ = some (.int .u64 (h : Int)) ∧ w'.cell? ⟨w2.heap.size, 0, none⟩ = some (.int .u64 (lo : Int)) ∧ w'.cell? ⟨w2.heap.size, 1, none⟩ = some (.int .u64 (hi : Int))) (by kernel_rfl) ?_ (fun hHeld => ?_)
  · exact ⟨ka0, ka1, kr0, kr1⟩
  refine tY (i := 0) (v := ?_) rfl ?_ hHeld ?_
  rotate_left
  · (intro w hSw; (try dsimp only at hSw); go_simp; (try with_reducible rfl))
  try simp only [Act.put, pT]
  refine tY (i := 1) (v := ?_) rfl ?_ hHeld ?_
  rotate_left
  · (intro w hSw; (try dsimp only at hSw); go_simp; (try with_reducible rfl))
  try simp only [Act.put, pT]
  refine tY (i := 2) (v := ?_) rfl ?_ hHeld ?_
  rotate_left
  · (intro w hSw; (try dsimp only at hSw); go_simp; (try with_reducible rfl))
  try simp only [Act.put, pT]
  refine tY (i := 3) (v := ?_) rfl ?_ hHeld ?_
  rotate_left
  · (intro w hSw; (try dsimp only at hSw); go_simp; (try with_reducible rfl))
  try simp only [Act.put, pT]
  refine tY (i := 4) (v := ?_) rfl ?_ hHeld ?_
  rotate_left
  · (intro w hSw; (try dsimp only at hSw); go_simp; (try with_reducible rfl))
  try simp only [Act.put, pT]
  refine tY (i := 5) (v := ?_) rfl ?_ hHeld ?_
  rotate_left
  · (intro w hSw; (try dsimp only at hSw); go_simp; (try with_reducible rfl))
  try simp only [Act.put, pT]
  refine tY (i := 6) (v := ?_) rfl ?_ hHeld ?_
  rotate_left
  · (intro w hSw; (try dsimp only at hSw); go_simp; (try with_reducible rfl))
  try simp only [Act.put, pT]
  refine wpAnyH_ready (rs := [7]) (by kernel_rfl) (by simp) ?_
  refine AllReadyH.cons rfl (fun K hK => ?_) AllReadyH.nil
  (try simp only [pT])
  rw [if_pos (by rfl)]
  go_simp
  go_at_call 134
  refine (CQ _).mono ?_
  rintro e w5 ⟨rfl, b⟩
  rewrite [cR b kal] at ka0 ka1
  replace kal := lK b kal
  rewrite [cR b krl] at kr0 kr1
  replace krl := lK b krl
  replace cc := bK cc b
  clear b
  refine hK.out _ _ ?_ (fun hHeld => ?_)
  · exact ⟨ka0, ka1, kr0, kr1⟩
  clear hK K
  try simp only [Act.put, pT]
  refine tY (i := 8) (v := ?_) rfl ?_ hHeld ?_
  rotate_left
  · (intro w hSw; (try dsimp only at hSw); go_simp; (try with_reducible rfl))
  try simp only [Act.put, pT]
  refine tY (i := 9) (v := ?_) rfl ?_ hHeld ?_
  rotate_left
  · (intro w hSw; (try dsimp only at hSw); go_simp; (try with_reducible rfl))
  try simp only [Act.put, pT]
  refine wpAnyH_done (by kernel_rfl) ?_ _
  clear hHeld
  have hb : (b = false) ∨ (b = true ∧ decide (0 < u) = false) ∨ (b = true ∧ decide (0 < u) = true) := by cases b <;> simp <;> omega
  rcases hb with rfl | ⟨rfl, ub⟩ | ⟨rfl, ub⟩
  · skip
    obtain rfl : (u : Int) = z := hz
    have HU := Lib.hid hu
    clear hu
    try clear hz
    go_wp2_with fail
    refine (of_N _ u HU.out).mono ?_
    rintro e w6 ⟨Av, nv, cv, rfl, v, b⟩
    rewrite [cR b kal] at ka0 ka1
    replace kal := lK b kal
    rewrite [cR b krl] at kr0 kr1
    replace krl := lK b krl
    replace cc := bK cc b
    clear b
    have zu := zn_nat v
    go_wp2_with fail
    refine (mant_N zu (by rw [Int.natAbs_natCast]; exact Nat.le_trans (len_one HU.out) (by omega))).mono ?_
    rintro e w7 ⟨rfl, b⟩
    replace v := v.on b
    replace zu := zu.on b
    rewrite [cR b kal] at ka0 ka1
    replace kal := lK b kal
    rewrite [cR b krl] at kr0 kr1
    replace krl := lK b krl
    replace cc := bK cc b
    clear b
    go_wp2_with fail
    go_ret2
    exact ⟨rfl, cc⟩
  · skip
    have u0 : u = 0 := by simpa using ub
    obtain rfl : (u : Int) = z := by rw [← hz]; unfold sgn; simp; omega
    have ui : decide (0 < (u : Int)) = false := by simp; omega
    clear u0
    have HU := Lib.hid hu
    clear hu
    try clear hz
    go_wp2_with fail
    refine (of_N _ u HU.out).mono ?_
    rintro e w6 ⟨Av, nv, cv, rfl, v, b⟩
    rewrite [cR b kal] at ka0 ka1
    replace kal := lK b kal
    rewrite [cR b krl] at kr0 kr1
    replace krl := lK b krl
    replace cc := bK cc b
    clear b
    have zu := zn_nat v
    go_wp2_with fail
    refine (mant_N zu (by rw [Int.natAbs_natCast]; exact Nat.le_trans (len_one HU.out) (by omega))).mono ?_
    rintro e w7 ⟨rfl, b⟩
    replace v := v.on b
    replace zu := zu.on b
    rewrite [cR b kal] at ka0 ka1
    replace kal := lK b kal
    rewrite [cR b krl] at kr0 kr1
    replace krl := lK b krl
    replace cc := bK cc b
    clear b
    go_wp2_with fail
    go_ret2
    exact ⟨rfl, cc⟩
  · skip
    have u0 : 0 < u := of_decide_eq_true ub
    obtain rfl : -(u : Int) = z := hz
    have ui : decide (0 < (u : Int)) = true := by simp; omega
    have HU := Lib.hid hu
    clear hu
    try clear hz
    have HU0 := Lib.hid u0
    clear u0
    go_wp2_with fail
    refine (of_N _ u HU.out).mono ?_
    rintro e w6 ⟨Av, nv, cv, rfl, v, b⟩
    rewrite [cR b kal] at ka0 ka1
    replace kal := lK b kal
    rewrite [cR b krl] at kr0 kr1
    replace krl := lK b krl
    replace cc := bK cc b
    clear b
    have zu := zn_less v HU0.out
    go_wp2_with fail
    refine (mant_N zu (by rw [Int.natAbs_neg, Int.natAbs_natCast]; exact Nat.le_trans (len_one HU.out) (by omega))).mono ?_
    rintro e w7 ⟨rfl, b⟩
    replace v := v.on b
    replace zu := zu.on b
    rewrite [cR b kal] at ka0 ka1
    replace kal := lK b kal
    rewrite [cR b krl] at kr0 kr1
    replace krl := lK b krl
    replace cc := bK cc b
    clear b
    go_wp2_with fail
    go_ret2
    exact ⟨rfl, cc⟩

end Go.Proofs.YtpidpebgeblenaaGreat

/-
  The contract of the landed fix: nearest, whole.
-/
namespace Go.Proofs.YtpidpebgeblenaaGreat
set_option maxRecDepth 100000
open Go.RowKit
set_option linter.unusedVariables false
set_option linter.unusedSimpArgs false

theorem wrap_half8 {d : Nat} (hd : d < B64) : IntKind.u64.wrap ((d : Int) / 2) = ((d / 2 : Nat) : Int) := by
  rw [IntKind.wrap_u64]; unfold B64 at hd; omega
theorem mul_limbs (x y : Nat) : mulLo x y + B64 * mulHi x y = x * y := by
  unfold mulLo mulHi
  rw [Nat.add_comm]
  exact Nat.div_add_mod _ _
theorem hi_small {x y : Nat} (hx : x ≤ 9223372036854775808) (hy : y ≤ 9223372036854775808) : mulHi x y + 1 < B64 := by
  have h1 : x * y ≤ 9223372036854775808 * 9223372036854775808 := Nat.mul_le_mul hx hy
  have h2 : mulHi x y ≤ 9223372036854775808 * 9223372036854775808 / B64 := Nat.div_le_div_right h1
  have h3 : (9223372036854775808 * 9223372036854775808 : Nat) / B64 ≤ 4611686018427387904 := by unfold B64; decide
  have h4 : B64 = 18446744073709551616 := rfl
  omega
theorem i64_size {a : Int} (h : I64 a) : a.natAbs ≤ 9223372036854775808 := by unfold I64 at h; omega
set_option maxHeartbeats 8000000 in
theorem nearest_N {w : World} {b : Bool} {l h d : Nat} (hl : l < B64) (hh : h + 1 < B64) (hd0 : 0 < d) (hd : d < B64) :
    Calls Tryz.prog 133 #[.bool b, .agg #[.int .u64 (l : Int), .int .u64 (h : Int)], .int .u64 (d : Int)] w (GotV w (.tuple #[.int .i64 (nI (rn (sgn b (l + B64 * h)) d)), .int .i64 (nE (rn (sgn b (l + B64 * h)) d))])) := by
  have hm : d / 2 < B64 := by omega
  have s1 : sumHi l (d / 2) 0 ≤ 1 := sumHi_le hl hm (by omega)
  have hv := plus_val (l := l) (h := h) (m := d / 2)
  have hlo : sumLo l (d / 2) 0 < B64 := sumLo_lt _ _ _
  have CP : ∀ W : World, Calls Tryz.prog 142 #[.agg #[.int .u64 (l : Int), .int .u64 (h : Int)], .int .u64 ((d / 2 : Nat) : Int)] W (GotV W (.agg #[.int .u64 (sumLo l (d / 2) 0 : Int), .int .u64 ((h + sumHi l (d / 2) 0 : Nat) : Int)])) := fun W => plus_N hl hm (by omega)
  have k1 := wrap_half8 hd
  obtain ⟨lo, elo⟩ : ∃ q, sumLo l (d / 2) 0 = q := ⟨_, rfl⟩
  obtain ⟨hi, ehi⟩ : ∃ q, h + sumHi l (d / 2) 0 = q := ⟨_, rfl⟩
  obtain ⟨Y, eY⟩ : ∃ q, l + B64 * h = q := ⟨_, rfl⟩
  rw [elo] at hv hlo CP
  rw [ehi] at hv CP
  rw [eY] at hv
  rw [eY]
  clear elo ehi eY s1
  by_cases t1 : d ≤ hi
  · have hf := near_far (b := b) (X := Y) hd0 (by rw [← hv]; have := Nat.mul_le_mul_right B64 t1; omega)
    rw [(nI_no hf).1, (nI_no hf).2]
    exact nearest_far CP k1 t1
  · have CD : ∀ W : World, Calls Tryz.prog 143 #[.int .u64 (hi : Int), .int .u64 (lo : Int), .int .u64 (d : Int)] W (GotV W (.tuple #[.int .u64 (((hi * B64 + lo) / d : Nat) : Int), .int .u64 (((hi * B64 + lo) % d : Nat) : Int)])) :=
      fun W => (div64_N hi lo d W (by omega) hlo hd).mono fun e w' h => got_drewn h
    rw [hv] at CD
    have ht : (Y + d / 2) / d < B64 := by
      rw [Nat.div_lt_iff_lt_mul hd0, ← hv]
      have := Nat.mul_le_mul_right B64 (show hi + 1 ≤ d by omega)
      rw [Nat.add_mul, Nat.mul_comm d] at this
      omega
    obtain ⟨t, et⟩ : ∃ q, (Y + d / 2) / d = q := ⟨_, rfl⟩
    by_cases p : d % 2 = 1
    · have hz : sgn b t = rn (sgn b Y) d := by rw [rn_sgn b Y (by omega), ← near_odd hd0 p, et]; cases b <;> rfl
      rw [et] at CD ht
      exact nearest_odd CP CD k1 (by omega) p hz ht
    · have CQ : ∀ W : World, Calls Tryz.prog 134 #[.int .u64 (t : Int), .int .u64 (d : Int)] W (GotV W (.agg #[.int .u64 (mulLo t d : Int), .int .u64 (mulHi t d : Int)])) := fun W => product_N (by omega) hd
      by_cases he : t * d = Y + d / 2
      · have hz : sgn b (t - t % 2) = rn (sgn b Y) d := by rw [rn_sgn b Y (by omega), ← near_eq hd0 (by omega) (by rw [et]; exact he), et]; cases b <;> rfl
        have hl2 := (limbs_eq (t := t) (d := d) (lo := lo) (hi := hi) hlo).2 (by rw [hv]; exact he)
        rw [hl2.1, hl2.2] at CQ
        rw [et] at CD ht
        obtain ⟨u, eu⟩ : ∃ q, t - t % 2 = q := ⟨_, rfl⟩
        rw [eu] at hz
        exact nearest_eq CP CD k1 (by omega) CQ (by omega) (by rw [IntKind.wrap_u64]; unfold B64 at ht; omega) (by rw [Int.tmod_eq_emod_of_nonneg (by omega)]) hz (by omega)
      · have hz : sgn b t = rn (sgn b Y) d := by rw [rn_sgn b Y (by omega), ← near_ne hd0 (by omega) (by rw [et]; exact he), et]; cases b <;> rfl
        have hl2 := limbs_eq (t := t) (d := d) (lo := lo) (hi := hi) hlo
        rw [hv] at hl2
        rw [et] at CD ht
        refine nearest_ne CP CD k1 (by omega) CQ (by omega) ?_ hz ht
        have hne : ¬ (mulLo t d = lo ∧ mulHi t d = hi) := fun k => he (hl2.1 k)
        by_cases h1 : lo = mulLo t d
        · have h2 : ¬ hi = mulHi t d := fun k => hne ⟨h1.symm, k.symm⟩
          simp
          intro _
          omega
        · simp
          intro _
          omega

end Go.Proofs.YtpidpebgeblenaaGreat

/-
  The contracts of the landed fix: Add, Sub.
-/
namespace Go.Proofs.YtpidpebgeblenaaGreat
open Go.RowKit
set_option linter.unusedVariables false
set_option linter.unusedSimpArgs false







end Go.Proofs.YtpidpebgeblenaaGreat

/-
  The contracts of the landed fix: Mul, Div, Scale.
-/
namespace Go.Proofs.YtpidpebgeblenaaGreat
set_option maxRecDepth 100000
open Go.RowKit
set_option linter.unusedVariables false
set_option linter.unusedSimpArgs false

theorem sgn_prod {a b : Int} {n : Bool} (hn : (decide (a < 0) != decide (b < 0)) = n) : sgn n (a.natAbs * b.natAbs) = a * b := by rw [← hn]; exact sgn_mul rfl rfl
set_option maxHeartbeats 8000000 in
theorem fscale_N {w : World} {a b d : Int} (ha : I64 a) (hb : I64 b) (hd : I64 d) (h1 : 1 ≤ d) :
    Calls Tryz.prog 124 #[.int .i64 a, .int .i64 b, .int .i64 d] w (GotV w (.tuple #[.int .i64 (nI (rn (a * b) d.natAbs)), .int .i64 (nE (rn (a * b) d.natAbs))])) := by
  have t1_ : decide (d < 1) = false := decide_eq_false (by omega)
  obtain ⟨x, ex⟩ : ∃ x, a.natAbs = x := ⟨_, rfl⟩
  obtain ⟨y, ey⟩ : ∃ y, b.natAbs = y := ⟨_, rfl⟩
  have sa := i64_size ha
  have sb := i64_size hb
  have b64 : B64 = 18446744073709551616 := rfl
  obtain ⟨v, ev⟩ : ∃ v, d.natAbs = v := ⟨_, rfl⟩
  have sd := i64_size hd
  obtain ⟨p, hp⟩ : ∃ p, decide (a < 0) = p := ⟨_, rfl⟩
  obtain ⟨q, hq⟩ : ∃ q, decide (b < 0) = q := ⟨_, rfl⟩
  obtain ⟨n, hn⟩ : ∃ n, (p != q) = n := ⟨_, rfl⟩
  have hn' : (!(p == q)) = n := hn
  have hs : sgn n (x * y) = a * b := by rw [← ex, ← ey]; exact sgn_prod (by rw [hp, hq]; exact hn)
  rw [ex] at sa
  rw [ey] at sb
  have v0 : 0 < v := by omega
  rw [ev] at sd ⊢
  have vb : v < B64 := by omega
  obtain ⟨l, el⟩ : ∃ l, mulLo x y = l := ⟨_, rfl⟩
  obtain ⟨h, eh⟩ : ∃ h, mulHi x y = h := ⟨_, rfl⟩
  have hl : l < B64 := by rw [← el]; exact mulLo_lt _ _
  have hh : h + 1 < B64 := by rw [← eh]; exact hi_small (by omega) (by omega)
  have hx : l + B64 * h = x * y := by rw [← el, ← eh]; exact mul_limbs _ _
  obtain ⟨z, ez⟩ : ∃ z, rn (a * b) v = z := ⟨_, rfl⟩
  rw [ez]
  have CZ : ∀ (W : World), Calls Tryz.prog 135 #[.int .i64 a] W (GotV W (.int .u64 (x : Int))) := fun W => by rw [← ex]; exact size_N W ha
  have CY : ∀ (W : World), Calls Tryz.prog 135 #[.int .i64 b] W (GotV W (.int .u64 (y : Int))) := fun W => by rw [← ey]; exact size_N W hb
  have CV : ∀ (W : World), Calls Tryz.prog 135 #[.int .i64 d] W (GotV W (.int .u64 (v : Int))) := fun W => by rw [← ev]; exact size_N W hd
  have CP : ∀ (W : World), Calls Tryz.prog 134 #[.int .u64 (x : Int), .int .u64 (y : Int)] W (GotV W (.agg #[.int .u64 (l : Int), .int .u64 (h : Int)])) := fun W => by rw [← el, ← eh]; exact product_N (by omega) (by omega)
  have CN : ∀ (W : World), Calls Tryz.prog 133 #[.bool n, .agg #[.int .u64 (l : Int), .int .u64 (h : Int)], .int .u64 (v : Int)] W (GotV W (.tuple #[.int .i64 (nI z), .int .i64 (nE z)])) := fun W => by rw [← ez]; exact by have h := nearest_N (w := W) (b := n) hl hh v0 vb; rw [hx, hs] at h; exact h
  clear ex ey ev sa sb sd hs hx ez el eh hl hh vb v0 hn b64 h1
  have cc := Below.refl w.heap.size w
  go_enter Tryz.func124, Tryz.ntmps124
  go_wp2_with fail
  refine (CZ _).mono ?_
  rintro e w1 ⟨rfl, b⟩
  replace cc := bK cc b
  clear b
  go_wp2_with fail
  refine (CY _).mono ?_
  rintro e w2 ⟨rfl, b⟩
  replace cc := bK cc b
  clear b
  go_wp2_with fail
  refine (CP _).mono ?_
  rintro e w3 ⟨rfl, b⟩
  replace cc := bK cc b
  clear b
  go_wp2_with fail
  refine (CV _).mono ?_
  rintro e w4 ⟨rfl, b⟩
  replace cc := bK cc b
  clear b
  go_wp2_with fail
  refine (CN _).mono ?_
  rintro e w5 ⟨rfl, b⟩
  replace cc := bK cc b
  clear b
  go_wp2_with fail
  go_ret2
  exact ⟨rfl, cc⟩

end Go.Proofs.YtpidpebgeblenaaGreat

/-
  Rows of the call's own that are filled; boxes of blocks that are written.
-/
namespace Go.Proofs.YtpidpebgeblenaaGreat
set_option maxRecDepth 100000
open Go.RowKit
set_option linter.unusedVariables false
set_option linter.unusedSimpArgs false

/-- A row of noughts of the call's own, filled from its head on. -/
def part {α β : Type} (f : α → β) (z : β) (C : List α) (i : Nat) : List β := (C.take i).map f ++ List.replicate (C.length - i) z
theorem part_zero {α β : Type} (f : α → β) (z : β) (C : List α) : part f z C 0 = List.replicate C.length z := by simp [part]
theorem part_len {α β : Type} (f : α → β) (z : β) (C : List α) {i : Nat} (h : i ≤ C.length) : (part f z C i).length = C.length := by simp [part]; omega
theorem part_end {α β : Type} (f : α → β) (z : β) (C : List α) : part f z C C.length = C.map f := by simp [part]
theorem part_set {α β : Type} (f : α → β) (z : β) {C : List α} (d : α) {i : Nat} (h : i < C.length) : (part f z C i).set i (f (C[i]?.getD d)) = part f z C (i + 1) := by
  unfold part
  rw [take_at d h, List.map_append, List.set_append_right _ _ (by simp; omega)]
  have e : C.length - i = (C.length - (i + 1)) + 1 := by omega
  rw [e, List.replicate_succ, List.append_assoc]
  congr 1
  have e2 : i - ((C.take i).map f).length = 0 := by simp; omega
  rw [e2, List.set_cons_zero]
  rfl
theorem one_up (w : World) (o : Obj) : Below w.heap.size w (w.alloc o) := (Below.refl _ w).alloc (Nat.le_refl _) _
/-- Rows of noughts. -/
def zb (q : Nat) : Obj := .cells (madeCells #[.int .u8 0] q) 5
theorem zb_run (q : Nat) (hq : q ≤ 1000000) (W : World) : (Instr.makeSlice 41 (.int .i64 (q : Int)) (.int .i64 (q : Int))).run Tryz.prog W = .ok (.slice (some ⟨W.heap.size, 0, none⟩) q q) (W.alloc (zb q)) := by
  obtain ⟨i0, hi, hz0, hz1, hz2⟩ := info_parts infoB
  have h := run_make (P := Tryz.prog) W 41 5 i0 (.int .u8 0) Tryz.underlying41 hi hz0 .i64 .i64 (q : Int) (q : Int) (by omega) (Int.le_refl _) (by rw [hz2]; omega) (by omega)
  rw [hz1, Int.toNat_natCast, Nat.mul_one] at h
  exact h
theorem zb_own (q : Nat) (hq : q ≤ 1000000) (W : World) (t : Nat) (ht : t ≤ W.heap.size) : (W.alloc (zb q)).ownsRow t 5 1 (.slice (some ⟨W.heap.size, 0, none⟩) q q) q ((List.replicate q 0).map encB) := by
  refine ⟨by simp, .inr ⟨W.heap.size, q, madeCells #[.int .u8 0] q, rfl, ht, heap_alloc_new W _, Nat.le_refl _, by unfold maxLen; omega, by rw [size_madeCells, Nat.mul_one], ?_⟩⟩
  rw [toList_madeCells_one, List.map_replicate, Nat.mul_one, List.take_of_length_le (by simp)]
  rfl
def zi (q : Nat) : Obj := .cells (madeCells #[.int .i64 0] q) 2
theorem zi_run (q : Nat) (hq : q ≤ 1000000) (W : World) : (Instr.makeSlice 34 (.int .i64 (q : Int)) (.int .i64 (q : Int))).run Tryz.prog W = .ok (.slice (some ⟨W.heap.size, 0, none⟩) q q) (W.alloc (zi q)) := by
  obtain ⟨i0, hi, hz0, hz1, hz2⟩ := info_parts infoI
  have h := run_make (P := Tryz.prog) W 34 2 i0 (.int .i64 0) Tryz.underlying34 hi hz0 .i64 .i64 (q : Int) (q : Int) (by omega) (Int.le_refl _) (by rw [hz2]; omega) (by omega)
  rw [hz1, Int.toNat_natCast, Nat.mul_one] at h
  exact h
theorem zi_own (q : Nat) (hq : q ≤ 1000000) (W : World) (t : Nat) (ht : t ≤ W.heap.size) : (W.alloc (zi q)).ownsRow t 2 1 (.slice (some ⟨W.heap.size, 0, none⟩) q q) q ((List.replicate q 0).map encI) := by
  refine ⟨by simp, .inr ⟨W.heap.size, q, madeCells #[.int .i64 0] q, rfl, ht, heap_alloc_new W _, Nat.le_refl _, by unfold maxLen; omega, by rw [size_madeCells, Nat.mul_one], ?_⟩⟩
  rw [toList_madeCells_one, List.map_replicate, Nat.mul_one, List.take_of_length_le (by simp)]
  rfl
theorem own_on {t n cap : Nat} {w w' : World} {e : TypeId} {g : Nat} {xs : List Value} (hO : w.ownsRow t e 1 (.slice (some ⟨g, 0, none⟩) n cap) n xs) (b : Below w.heap.size w w') : w'.ownsRow t e 1 (.slice (some ⟨g, 0, none⟩) n cap) n xs := by
  have hl := hO.lt g rfl
  obtain ⟨h1, h2⟩ := hO
  refine ⟨h1, ?_⟩
  rcases h2 with h2 | ⟨g', cap', cur, hv, hg, hh, r⟩
  · exact Or.inl h2
  · refine Or.inr ⟨g', cap', cur, hv, hg, ?_, r⟩
    have : g' = g := by injection hv with e; injection e with e2; injection e2 with e3; exact e3.symm
    subst this
    rw [b.block g' hl.2]; exact hh
/-- A block is answered; its rows are new. -/
def GotBk (w : World) (k s : Int) (C : List Nat) (W : List Int) (e : Ending) (w' : World) : Prop :=
  ∃ A n c B m d, e = .returned (.agg #[.int .i64 k, .int .i64 s, .slice A n c, .slice B m d]) ∧ BR w' A n c C ∧ IR w' B m d W ∧ Below w.heap.size w w' ∧ (∀ p, A = some p → w.heap.size ≤ p.block) ∧ ∀ p, B = some p → w.heap.size ≤ p.block
/-- All four cells of a block's box are written. -/
@[reducible] def putK (W : World) (g : Nat) (a b c d : Value) : World := (((W.setCell ⟨g, 0, none⟩ a).setCell ⟨g, 1, none⟩ b).setCell ⟨g, 2, none⟩ c).setCell ⟨g, 3, none⟩ d
theorem cell_putK {w : World} {s b o : Nat} {u1 u2 u3 u4 : Value} (h : b ≠ s) : (putK w s u1 u2 u3 u4).cell? ⟨b, o, none⟩ = w.cell? ⟨b, o, none⟩ := by
  unfold putK
  iterate 4 rw [World.cell?_setCell_other (h := addr_ne' (Ne.symm h))]
theorem below_putK {C g : Nat} {V W : World} (h : Below C V W) (hg : C ≤ g) (a b c d : Value) : Below C V (putK W g a b c d) := (((h.setCell (p := ⟨g, 0, none⟩) hg a).setCell (p := ⟨g, 1, none⟩) hg b).setCell (p := ⟨g, 2, none⟩) hg c).setCell (p := ⟨g, 3, none⟩) hg d
theorem br_putK {W : World} {A : Option Addr} {n c g : Nat} {C : List Nat} (h : BR W A n c C) (hn : ∀ p, A = some p → p.block ≠ g) (u1 u2 u3 u4 : Value) : BR (putK W g u1 u2 u3 u4) A n c C :=
  ⟨h.1, h.2.1, h.2.2.1, fun hp => by
    obtain ⟨b, off, e, hlt, hc⟩ := h.2.2.2 hp
    have hne : b ≠ g := hn _ e
    exact ⟨b, off, e, by simp [putK]; exact hlt, fun j hj => (cell_putK hne).trans (hc j hj)⟩⟩
theorem ir_putK {W : World} {A : Option Addr} {n c g : Nat} {L : List Int} (h : IR W A n c L) (hn : ∀ p, A = some p → p.block ≠ g) (u1 u2 u3 u4 : Value) : IR (putK W g u1 u2 u3 u4) A n c L :=
  ⟨h.1, h.2.1, fun hp => by
    obtain ⟨b, off, e, hlt, hc⟩ := h.2.2 hp
    have hne : b ≠ g := hn _ e
    exact ⟨b, off, e, by simp [putK]; exact hlt, fun j hj => (cell_putK hne).trans (hc j hj)⟩⟩
def mx1 (x : Int) : Int := max x 1
theorem mx1_run {P : Program} (w : World) (ts : Array TypeId) (t : TypeId) (x : Int) : (Builtin.max_ ts t #[.int .i64 x, .int .i64 1]).run P w = .ok (.int .i64 (mx1 x)) w := by
  rw [run_max_int2]
  congr 2
  unfold mx1
  split <;> omega
end Go.Proofs.YtpidpebgeblenaaGreat

/-
  The contracts of the landed block: load, of either manner.
-/
namespace Go.Proofs.YtpidpebgeblenaaGreat
set_option maxRecDepth 100000
set_option maxHeartbeats 8000000
open Go.RowKit
set_option linter.unusedVariables false
set_option linter.unusedSimpArgs false

theorem bkwload_N {w : World} {k s : Int} {A B : Option Addr} {n c m d : Nat} {W : List Int} (hW : IR w B m d W) (hm : m ≤ 4096) :
    Calls Tryz.prog 114 #[.agg #[], .agg #[.int .i64 k, .int .i64 s, .slice A n c, .slice B m d]] w (GotI w W) := by
  have cc := Below.refl w.heap.size w
  go_enter Tryz.func114, Tryz.ntmps114
  go_wp2_with fail
  generalize hv_ : (w.alloc (.cells #[] 75)).alloc (.cells #[.int .i64 k, .int .i64 s, .slice A n c, .slice B m d] 43) = v1
  have bA : Below w.heap.size w v1 := by rw [← hv_]; exact (((Below.refl _ w).alloc (by simp) _).alloc (by simp) _)
  replace hW := hW.on bA
  replace cc := bK cc bA
  clear bA
  have kal : w.heap.size < v1.heap.size := by simp [← hv_] <;> omega
  have xa0 : v1.cell? ⟨w.heap.size + 1, 0, none⟩ = some (.int .i64 k) := by simp [← hv_, go_sem]
  have xa1 : v1.cell? ⟨w.heap.size + 1, 1, none⟩ = some (.int .i64 s) := by simp [← hv_, go_sem]
  have xa2 : v1.cell? ⟨w.heap.size + 1, 2, none⟩ = some (.slice A n c) := by simp [← hv_, go_sem]
  have xa3 : v1.cell? ⟨w.heap.size + 1, 3, none⟩ = some (.slice B m d) := by simp [← hv_, go_sem]
  have xal : w.heap.size + 1 < v1.heap.size := by simp [← hv_] <;> omega
  clear hv_
  go_wp2_with fail
  refine (bkclone_N hW hm).mono ?_
  rintro e w2 ⟨Al, nl, cl, rfl, hl, b, _⟩
  replace hW := hW.on b
  replace kal := lK b kal
  rewrite [cR b xal] at xa0 xa1 xa2 xa3
  replace xal := lK b xal
  replace cc := bK cc b
  clear b
  go_wp2_with fail
  go_ret
  exact ⟨_, _, _, rfl, hl, cc⟩

theorem bkcload_N {w : World} {k s : Int} {A B : Option Addr} {n c m d : Nat} {C : List Nat} (hk : Kind9 k) (h0 : 0 ≤ s) (hs : I64 s) (hC : BR w A n c C) (hn : n ≤ 4096) :
    Calls Tryz.prog 119 #[.int .i64 k, .agg #[.int .i64 k, .int .i64 s, .slice A n c, .slice B m d]] w (GotI w (C.map (ld k s))) := by
  have CB : ∀ W : World, Calls Tryz.prog 123 #[.int .i64 k] W (GotIp W (book9 k) 0) := fun W => by have h := bbook_N W k; rw [kind9_code hk] at h; exact h
  have CD := fun W => bden_N W k
  have hd := (facts10 hk).2.2.2.2.2.2
  have hlen := (facts10 hk).1
  have hnum : ∀ j, (book9 k)[j]?.getD 0 = num10 k j := fun _ => rfl
  have CS : ∀ (W : World) (x : Nat), x < 256 → Calls Tryz.prog 124 #[.int .i64 s, .int .i64 (num10 k x), .int .i64 (den9 k)] W (GotV W (.tuple #[.int .i64 (ld k s x), .int .i64 0])) := fun W x hx => by
    have h := fscale_N (w := W) hs (num10_i64 k x) (den9_i64 k) (by omega)
    have hz := ld_i64 hk h0 hs (show x ≤ 255 by omega)
    unfold ld at hz ⊢
    rw [(nI_yes hz).1, (nI_yes hz).2] at h
    exact h
  clear hd hk h0 hs
  generalize den9 k = D at *
  generalize num10 k = y at *
  generalize book9 k = L at *
  generalize ld k s = F at *
  have hmk := zi_run n (by omega)
  have HM : Hid (∀ i, i < C.length → (part F 0 C i).set i (F (C[i]?.getD 0)) = part F 0 C (i + 1)) := Lib.hid (fun i h => part_set F 0 0 h)
  have cc := Below.refl w.heap.size w
  go_enter Tryz.func119, Tryz.ntmps119
  go_wp2_with fail
  generalize hv_ : w.alloc (.cells #[.int .i64 k, .int .i64 s, .slice A n c, .slice B m d] 43) = v1
  have bA : Below w.heap.size w v1 := by rw [← hv_]; exact ((Below.refl _ w).alloc (by simp) _)
  replace hC := hC.on bA
  replace cc := bK cc bA
  clear bA
  have xa0 : v1.cell? ⟨w.heap.size, 0, none⟩ = some (.int .i64 k) := by simp [← hv_, go_sem]
  have xa1 : v1.cell? ⟨w.heap.size, 1, none⟩ = some (.int .i64 s) := by simp [← hv_, go_sem]
  have xa2 : v1.cell? ⟨w.heap.size, 2, none⟩ = some (.slice A n c) := by simp [← hv_, go_sem]
  have xa3 : v1.cell? ⟨w.heap.size, 3, none⟩ = some (.slice B m d) := by simp [← hv_, go_sem]
  have xal : w.heap.size < v1.heap.size := by simp [← hv_] <;> omega
  clear hv_
  go_wp2_with fail
  refine (CB _).mono ?_
  rintro e w2 ⟨Al, nl, cl, rfl, hl, b⟩
  replace hC := hC.on b
  rewrite [cR b xal] at xa0 xa1 xa2 xa3
  replace xal := lK b xal
  replace cc := bK cc b
  clear b
  have hn_ : nl = 256 := by rw [hl.1, hlen]
  subst hn_
  obtain ⟨bb, off, rfl, hb⟩ := hl.some (by omega)
  clear hlen
  go_wp2_with fail
  refine (CD _).mono ?_
  rintro e w3 ⟨rfl, b⟩
  replace hC := hC.on b
  replace hl := hl.on b
  rewrite [cR b xal] at xa0 xa1 xa2 xa3
  replace xal := lK b xal
  replace cc := bK cc b
  clear b
  have hb : bb < w3.heap.size := by obtain ⟨_, _, e, hh⟩ := hl.some (by omega); injection e with e; injection e with e; rw [e]; exact hh
  obtain ⟨g, hg⟩ : ∃ g, w3.heap.size = g := ⟨_, rfl⟩
  have hO := zi_own n (by omega) w3 g (by omega)
  rw [hg] at hO
  have hCl := hC.1
  have e0 : (List.replicate n 0).map encI = (part F 0 C 0).map encI := by rw [part_zero, ← hCl]
  rw [e0] at hO
  have hB1 : Below g w3 (w3.alloc (zi n)) := by rw [← hg]; exact one_up _ _
  have HG := Lib.hid hg
  have HO := Lib.hid hO
  have HB := Lib.hid hB1
  have HCL := Lib.hid hCl
  have X1 := Lib.hid xa1
  have X2 := Lib.hid xa2
  have XL := Lib.hid xal
  have HLV := Lib.hid hl
  have HCV := Lib.hid hC
  have HBB := Lib.hid hb
  have CCV := Lib.hid cc
  have hgg : ∀ {P : Prop}, P → P := fun h => h
  clear hg hO hB1 xa0 xa1 xa3 hl hC hb cc e0 hCl hgg
  go_upto_region 4 with fail
  rw [HG.out]
  have HX2 : (w3.alloc (zi n)).cell? ⟨w.heap.size, 2, none⟩ = some (.slice A n c) := (HB.out.cell (p := ⟨w.heap.size, 2, none⟩) (by show w.heap.size < g; have := XL.out; have := HG.out; omega)).trans X2.out
  clear xa2 xal
  generalize w3.alloc (zi n) = vz at *
  go_wp2_with fail
  go_loopw [25] (fun iv wr => ∃ i : Nat, i ≤ n ∧ iv = .int .i64 (i : Int) ∧ wr.ownsRow g 2 1 (.slice (some ⟨g, 0, none⟩) n n) n ((part F 0 C i).map encI) ∧ Below g w3 wr) (fun iv _ => n - (intOf iv).toNat)
  case atStart => exact ⟨0, by omega, rfl, HO.out, HB.out⟩
  case round =>
    clear HX2
    obtain ⟨i, hi, rfl, hO, hbl⟩ := hrel
    have hbV : Below w3.heap.size w3 wr := by rw [HG.out]; exact hbl
    have xa1 := (hbV.cell (p := ⟨w.heap.size, 1, none⟩) XL.out).trans X1.out
    have xa2 := (hbV.cell (p := ⟨w.heap.size, 2, none⟩) XL.out).trans X2.out
    have xal := Nat.lt_of_lt_of_le XL.out hbV.size
    have xag : w.heap.size ≠ g := by have := XL.out; have := HG.out; omega
    have cc := CCV.out.trans (hbV.mono CCV.out.size)
    have hC := HCV.out.on hbV
    by_cases hlt : i < n
    · have hb := Nat.lt_of_lt_of_le HBB.out hbV.size
      have hbg : bb ≠ g := by have := HBB.out; have := HG.out; omega
      have hl := HLV.out.on hbV
      obtain ⟨b2, o2, rfl, hb2_, hc2⟩ := HCV.out.2.2.2 (by omega)
      have hb2g : b2 ≠ g := by have := HG.out; omega
      have hb2 := Nat.lt_of_lt_of_le hb2_ hbV.size
      have e1 := hC.cell hlt
      have hx6 := hC.at hlt
      obtain ⟨x, hx⟩ : ∃ x, C[i]?.getD 0 = x := ⟨_, rfl⟩
      rw [hx] at e1 hx6
      have e2 : wr.cell? ⟨bb, off + x, none⟩ = some (.int .i64 (y x)) := by have h := hl.cell (j := x) hx6; rw [hnum x] at h; exact h
      have hM := HM.out i (by rw [← HCL.out]; exact hlt)
      rw [hx] at hM
      have CSx := fun W => CS W x hx6
      have hL : (part F 0 C i).length = n := by rw [part_len F 0 C (by rw [← HCL.out]; exact hi), HCL.out]
      obtain ⟨z, hz⟩ : ∃ z, F x = z := ⟨_, rfl⟩
      obtain ⟨v, hv⟩ : ∃ v, y x = v := ⟨_, rfl⟩
      rw [hz] at CSx hM
      rw [hv] at CSx e2
      have hgl := (hO.lt g rfl).2
      have cx := hO.cellAt i (by omega)
      have fx := hO.frozenAt i
      obtain ⟨v0_, ev0⟩ : ∃ v, ((part F 0 C i).map encI)[i]? = some v := ⟨_, List.getElem?_eq_getElem (by rw [List.length_map]; omega)⟩
      rw [ev0] at cx
      have HE := Lib.hid hM
      have HO2 := Lib.hid hO
      have x6 : (x : Int) < 256 := by omega
      have k3 : IntKind.i64.wrap ((i : Int) + 1) = ((i + 1 : Nat) : Int) := by rw [IntWalk.i64_in _ (by omega)]; omega
      clear hM hO hC hl hc2 hx hz hv hnum CS CB hL ev0 hb2_ CD
      go_wp2_with fail
      have qq : Below wr.heap.size wr wr.drew := below_drewN (Below.refl _ wr) 1
      have st : ∀ (W : World) (p : Addr) (u : Value), p.block ≠ g → (W.setCell ⟨g, i, none⟩ u).cell? p = W.cell? p := fun W p u h => World.cell?_setCell_other _ _ _ _ (fun e => h (by rw [← e]))
      go_region_held3 (fun w' => w'.cell? ⟨b2, o2 + i, none⟩ = some (.int .u8 (x : Int)) ∧ w'.cell? ⟨bb, off + x, none⟩ = some (.int .i64 v) ∧ w'.cell? ⟨w.heap.size, 1, none⟩ = some (.int .i64 s) ∧ w'.cell? ⟨w.heap.size, 2, none⟩ = some (.slice (some ⟨b2, o2, none⟩) n c))
        (first | with_reducible exact ⟨cK qq e1 hb2, cK qq e2 hb, cK qq xa1 xal, cK qq xa2 xal⟩ | with_reducible exact ⟨(st _ _ _ hb2g).trans (cK qq e1 hb2), (st _ _ _ hbg).trans (cK qq e2 hb), (st _ _ _ xag).trans (cK qq xa1 xal), (st _ _ _ xag).trans (cK qq xa2 xal)⟩ | go_keep)
        ((go_at_call 124; (with_reducible refine (CSx _).mono ?_); rintro e wz ⟨rfl, q⟩; replace qq := bK qq q; have cz := cK qq cx hgl; have fz := fK qq fx hgl; clear q))
      obtain ⟨hO3, hg3⟩ := (own_on HO2.out qq).stored i (.int .i64 z)
      have HO3 : Hid ((wz.setCell ⟨g, i, none⟩ (.int .i64 z)).ownsRow g 2 1 (.slice (some ⟨g, 0, none⟩) n n) n ((part F 0 C (i + 1)).map encI)) := Lib.hid (by rw [← HE.out, List.map_set]; exact hO3)
      have HBW : Hid (Below g w3 (wz.setCell ⟨g, i, none⟩ (.int .i64 z))) := Lib.hid ((hbl.trans (qq.mono (by have := HO2.out.lt g rfl; omega))).setCell (p := ⟨g, i, none⟩) (Nat.le_refl _) _)
      clear hO3 hg3
      go_wp2_with fail
      go_roundw
      case rel => exact ⟨i + 1, by omega, by go_num, HO3.out, HBW.out⟩
      case measure => simp [intOf] <;> omega
    · obtain rfl : i = n := by omega
      have hE : part F 0 C i = C.map F := by rw [HCL.out]; exact part_end F 0 C
      rw [hE] at hO
      have HR := Lib.hid (IR.of_own hO)
      clear hO hC
      go_wp2_with fail
      go_ret
      exact ⟨_, _, _, rfl, HR.out, cc⟩

end Go.Proofs.YtpidpebgeblenaaGreat

/-
  The contracts of the landed block: pack, of either manner.
-/
namespace Go.Proofs.YtpidpebgeblenaaGreat
set_option maxRecDepth 100000
set_option maxHeartbeats 8000000
open Go.RowKit
set_option linter.unusedVariables false
set_option linter.unusedSimpArgs false

/-- The box of a block, and its row of noughts, laid anew in any order. -/
def PkBox (V U : World) (g r : Nat) (k s : Int) (n : Nat) : Prop :=
  (U.cell? ⟨g, 0, none⟩ = some (.int .i64 k) ∧ U.cell? ⟨g, 1, none⟩ = some (.int .i64 s) ∧ U.cell? ⟨g, 2, none⟩ = some (.slice (some ⟨r, 0, none⟩) n n) ∧ U.cell? ⟨g, 3, none⟩ = some (.slice none 0 0)) ∧
    U.ownsRow V.heap.size 5 1 (.slice (some ⟨r, 0, none⟩) n n) n ((List.replicate n 0).map encB) ∧ Below V.heap.size V U ∧ g ≠ r ∧ g < U.heap.size ∧ V.heap.size ≤ g
abbrev kbx (k s : Int) (r n : Nat) : Obj := .cells #[.int .i64 k, .int .i64 s, .slice (some ⟨r, 0, none⟩) n n, .slice none 0 0] 43
theorem pkbox_a {V : World} {k s : Int} {n : Nat} (hn : n ≤ 1000000) : PkBox V ((V.alloc (zb n)).alloc (kbx k s V.heap.size n)).drew (V.heap.size + 1) V.heap.size k s n :=
  ⟨⟨by simp [go_sem], by simp [go_sem], by simp [go_sem], by simp [go_sem]⟩, (own_on (zb_own n hn V V.heap.size (Nat.le_refl _)) (one_up _ _)).drew, below_drewN (((Below.refl _ V).alloc (Nat.le_refl _) _).alloc (by simp) _) 1, by omega, by simp [go_sem], by omega⟩
theorem pkbox_b {V : World} {k s : Int} {n : Nat} (hn : n ≤ 1000000) : PkBox V ((V.alloc (kbx k s (V.heap.size + 1) n)).alloc (zb n)).drew V.heap.size (V.heap.size + 1) k s n :=
  ⟨⟨by simp [go_sem], by simp [go_sem], by simp [go_sem], by simp [go_sem]⟩, by
    have h := zb_own n hn (V.alloc (kbx k s (V.heap.size + 1) n)) V.heap.size (by simp)
    have e : (V.alloc (kbx k s (V.heap.size + 1) n)).heap.size = V.heap.size + 1 := by simp
    rw [e] at h
    exact h.drew, below_drewN (((Below.refl _ V).alloc (Nat.le_refl _) _).alloc (by simp) _) 1, by omega, by simp [go_sem] <;> omega, by omega⟩
attribute [local go_sem ↓] mx1_run

theorem bkwpack_N {w : World} {A : Option Addr} {n c : Nat} {L : List Int} (hA : IR w A n c L) (hn : n ≤ 4096) :
    Calls Tryz.prog 115 #[.agg #[], .slice A n c] w (GotBk w 4 0 [] L) := by
  have cc := Below.refl w.heap.size w
  go_enter Tryz.func115, Tryz.ntmps115
  go_wp2_with fail
  generalize hv_ : (w.alloc (.cells #[] 75)).alloc (.cells #[.int .i64 0, .int .i64 0, .slice none 0 0, .slice none 0 0] 43) = v1
  have f0 : v1.frozen? ⟨w.heap.size + 1, 0, none⟩ = false := by simp [← hv_, go_sem]
  have f1 : v1.frozen? ⟨w.heap.size + 1, 1, none⟩ = false := by simp [← hv_, go_sem]
  have f2 : v1.frozen? ⟨w.heap.size + 1, 2, none⟩ = false := by simp [← hv_, go_sem]
  have f3 : v1.frozen? ⟨w.heap.size + 1, 3, none⟩ = false := by simp [← hv_, go_sem]
  have bA : Below w.heap.size w v1 := by rw [← hv_]; exact (((Below.refl _ w).alloc (by simp) _).alloc (by simp) _)
  replace hA := hA.on bA
  replace cc := bK cc bA
  clear bA
  have kal : w.heap.size < v1.heap.size := by simp [← hv_] <;> omega
  have g0 : v1.cell? ⟨w.heap.size + 1, 0, none⟩ = some (.int .i64 0) := by simp [← hv_, go_sem]
  have g1 : v1.cell? ⟨w.heap.size + 1, 1, none⟩ = some (.int .i64 0) := by simp [← hv_, go_sem]
  have g2 : v1.cell? ⟨w.heap.size + 1, 2, none⟩ = some (.slice none 0 0) := by simp [← hv_, go_sem]
  have g3 : v1.cell? ⟨w.heap.size + 1, 3, none⟩ = some (.slice none 0 0) := by simp [← hv_, go_sem]
  have gl : w.heap.size + 1 < v1.heap.size := by simp [← hv_] <;> omega
  clear hv_
  have hgs : w.heap.size + 1 < v1.heap.size := gl
  go_wp2_with fail
  refine (bkclone_N hA hn).mono ?_
  rintro e w2 ⟨Al, nl, cl, rfl, hl, b, hnew⟩
  rewrite [fR b gl] at f0 f1 f2 f3
  replace hA := hA.on b
  replace kal := lK b kal
  rewrite [cR b gl] at g0 g1 g2 g3
  replace gl := lK b gl
  replace cc := bK cc b
  clear b
  have hne : ∀ p, Al = some p → p.block ≠ w.heap.size + 1 := fun p e => by have := hnew p e; omega
  have hnw : ∀ p, Al = some p → w.heap.size ≤ p.block := fun p e => by have := hnew p e; omega
  have HR := Lib.hid (ir_putK hl hne (.int .i64 4) (.int .i64 0) (.slice none 0 0) (.slice Al nl cl))
  have HB := Lib.hid (below_putK cc (show w.heap.size ≤ w.heap.size + 1 by omega) (.int .i64 4) (.int .i64 0) (.slice none 0 0) (.slice Al nl cl))
  clear hl hnew hne cc
  go_wp2_with fail
  refine bodyPost_ret (v := .agg #[.int .i64 4, .int .i64 0, .slice none 0 0, .slice Al nl cl]) (by simp [results, Tryz.results115, go_sem, g0, g1, g2, g3]) rfl ⟨_, _, _, _, _, _, rfl, BR.nil _ _ _, HR.out, HB.out, ⟨fun p e => (by cases e), hnw⟩⟩

theorem bkcpack_N {w : World} {k : Int} {A : Option Addr} {n c : Nat} {L : List Int} (hk : Kind9 k) (hA : IR w A n c L) (hn : n ≤ 4096) (hL : ∀ j : Nat, I64 (L[j]?.getD 0) ∧ L[j]?.getD 0 ≠ -9223372036854775808) (hO : ∀ x ∈ L, -gr L ≤ x ∧ x ≤ gr L ∧ (0 ≤ x ∨ sig9 k = true)) :
    Calls Tryz.prog 120 #[.int .i64 k, .slice A n c] w (GotBk w k (gr L) (L.map (pk k (gr L))) []) := by
  have HG := fun {V : World} (h : IR V A n c L) => bkgreat_N h (by omega) hL
  have hmk := zb_run n (by omega)
  have hg0 := gr_pos L
  have hgi : I64 (gr L) := grk_i64 hL _
  have CN : Hid (∀ (V : World) (i : Nat), i < L.length → Calls Tryz.prog 126 #[.int .i64 k, .int .i64 (L[i]?.getD 0), .int .i64 (mx1 (gr L))] V (GotV V (.int .u8 ((pk k (gr L) (L[i]?.getD 0) : Nat) : Int)))) := Lib.hid (fun V i hi => by
    have ho := hO _ (mem_at (d := 0) hi)
    exact bknear_N V (hL i).1 (by unfold I64 mx1 at *; omega) (pk_shr hk ho.1 ho.2.1 ho.2.2))
  have HM : Hid (∀ i, i < L.length → (part (pk k (gr L)) 0 L i).set i (pk k (gr L) (L[i]?.getD 0)) = part (pk k (gr L)) 0 L (i + 1)) := Lib.hid (fun i h => part_set _ 0 0 h)
  have HP6 : Hid (∀ x, pk k (gr L) x ≤ 255) := Lib.hid (fun x => pk_le _ _ _)
  have HLL := Lib.hid hA.1
  clear hO hL hk hg0 hgi
  generalize pk k (gr L) = F at *
  generalize gr L = S at *
  have cc := Below.refl w.heap.size w
  go_enter Tryz.func120, Tryz.ntmps120
  go_wp2_with fail
  generalize hv_ : w.alloc (.cells #[.int .i64 0, .int .i64 0, .slice none 0 0, .slice none 0 0] 43) = v1
  have f0 : v1.frozen? ⟨w.heap.size, 0, none⟩ = false := by simp [← hv_, go_sem]
  have f1 : v1.frozen? ⟨w.heap.size, 1, none⟩ = false := by simp [← hv_, go_sem]
  have f2 : v1.frozen? ⟨w.heap.size, 2, none⟩ = false := by simp [← hv_, go_sem]
  have f3 : v1.frozen? ⟨w.heap.size, 3, none⟩ = false := by simp [← hv_, go_sem]
  have bA : Below w.heap.size w v1 := by rw [← hv_]; exact ((Below.refl _ w).alloc (by simp) _)
  replace hA := hA.on bA
  replace cc := bK cc bA
  clear bA
  have g0 : v1.cell? ⟨w.heap.size, 0, none⟩ = some (.int .i64 0) := by simp [← hv_, go_sem]
  have g1 : v1.cell? ⟨w.heap.size, 1, none⟩ = some (.int .i64 0) := by simp [← hv_, go_sem]
  have g2 : v1.cell? ⟨w.heap.size, 2, none⟩ = some (.slice none 0 0) := by simp [← hv_, go_sem]
  have g3 : v1.cell? ⟨w.heap.size, 3, none⟩ = some (.slice none 0 0) := by simp [← hv_, go_sem]
  have gl : w.heap.size < v1.heap.size := by simp [← hv_] <;> omega
  clear hv_
  go_upto_region 1 with fail
  go_cut [5] (fun u wx => ∃ gk r : Nat, u = .pointer (some ⟨gk, 0, none⟩) ∧ PkBox v1 wx gk r k S n)
  case first =>
    have B0 : Below v1.heap.size v1 v1.drew := below_drewN (Below.refl _ v1) 1
    have B1 : ∀ o, Below v1.heap.size v1 (v1.alloc o).drew := fun o => below_drewN (one_up _ _) 1
    have B2 : ∀ o u, Below v1.heap.size v1 ((v1.alloc o).alloc u).drew := fun o u => below_drewN (((Below.refl _ v1).alloc (Nat.le_refl _) _).alloc (by simp) _) 1
    clear g0 g1 g2 g3 f0 f1 f2 f3
    go_region_held3 (fun _ => True) (trivial)
      ((go_at_call 125; (with_reducible refine (HG (hA.on (by first | exact B0 | exact B1 _ | exact B2 _ _))).mono ?_); rintro e wz ⟨rfl, rfl⟩))
    all_goals (go_wp2_with fail; go_meet)
    all_goals first | exact ⟨_, _, rfl, pkbox_a (by omega)⟩ | exact ⟨_, _, rfl, pkbox_b (by omega)⟩
  case rest =>
    obtain ⟨gk, r, rfl, ⟨p0, p1, p2, p3⟩, hO, b, hgr, hkl, hkg⟩ := hcut
    have e0 : (List.replicate n 0).map encB = (part F 0 L 0).map encB := by rw [part_zero, ← HLL.out]
    rw [e0] at hO
    have HO := Lib.hid hO
    have HB := Lib.hid b
    have HKG := Lib.hid hkg
    have HAV := Lib.hid hA
    have CCV := Lib.hid cc
    have HGL := Lib.hid gl
    have G0 := Lib.hid g0
    have G1 := Lib.hid g1
    have G2 := Lib.hid g2
    have G3 := Lib.hid g3
    have F0 := Lib.hid f0
    have F1 := Lib.hid f1
    have F2 := Lib.hid f2
    have F3 := Lib.hid f3
    have P0 := Lib.hid p0
    have P1 := Lib.hid p1
    have P2 := Lib.hid p2
    have P3 := Lib.hid p3
    clear e0 hO b hkg hA cc gl hkl g0 f0 p0 g1 f1 p1 g2 f2 p2 g3 f3 p3
    go_wp2_with fail
    go_loopw [17] (fun iv wr => ∃ i : Nat, i ≤ n ∧ iv = .int .i64 (i : Int) ∧ (wr.cell? ⟨gk, 0, none⟩ = some (.int .i64 k) ∧ wr.cell? ⟨gk, 1, none⟩ = some (.int .i64 S) ∧ wr.cell? ⟨gk, 2, none⟩ = some (.slice (some ⟨r, 0, none⟩) n n) ∧ wr.cell? ⟨gk, 3, none⟩ = some (.slice none 0 0)) ∧ wr.ownsRow v1.heap.size 5 1 (.slice (some ⟨r, 0, none⟩) n n) n ((part F 0 L i).map encB) ∧ Below v1.heap.size v1 wr) (fun iv _ => n - (intOf iv).toNat)
    case atStart => exact ⟨0, by omega, rfl, ⟨P0.out, P1.out, P2.out, P3.out⟩, HO.out, HB.out⟩
    case round =>
      obtain ⟨i, hi, rfl, ⟨p0, p1, p2, p3⟩, hO, hbl⟩ := hrel
      by_cases hlt : i < n
      · have hA := HAV.out.on hbl
        obtain ⟨b2, o2, rfl, hb2_, hc2⟩ := HAV.out.2.2 (by omega)
        have e1 := hA.cell hlt
        obtain ⟨x, hx⟩ : ∃ x, L[i]?.getD 0 = x := ⟨_, rfl⟩
        rw [hx] at e1
        have hM := HM.out i (by rw [← HLL.out]; exact hlt)
        have CNx := fun V => CN.out V i (by rw [← HLL.out]; exact hlt)
        rw [hx] at hM CNx
        have hL : (part F 0 L i).length = n := by rw [part_len F 0 L (by rw [← HLL.out]; exact hi), HLL.out]
        have h6 := HP6.out x
        obtain ⟨z, hz⟩ : ∃ z, F x = z := ⟨_, rfl⟩
        rw [hz] at CNx hM h6
        have hrl := (hO.lt r rfl).2
        have hkl := cell_lt p0
        simp only at hkl
        have cx := hO.cellAt i (by omega)
        have fx := hO.frozenAt i
        obtain ⟨v0_, ev0⟩ : ∃ v, ((part F 0 L i).map encB)[i]? = some v := ⟨_, List.getElem?_eq_getElem (by rw [List.length_map]; omega)⟩
        rw [ev0] at cx
        have HE := Lib.hid hM
        have HO2 := Lib.hid hO
        have k3 : IntKind.i64.wrap ((i : Int) + 1) = ((i + 1 : Nat) : Int) := by rw [IntWalk.i64_in _ (by omega)]; omega
        clear hM hO hA hc2 hx hz hL ev0 hb2_
        go_wp2_with fail
        have qq : Below wr.heap.size wr wr.drew := below_drewN (Below.refl _ wr) 1
        have st : ∀ (W : World) (p : Addr) (u : Value), p.block ≠ r → (W.setCell ⟨r, i, none⟩ u).cell? p = W.cell? p := fun W p u h => World.cell?_setCell_other _ _ _ _ (fun e => h (by rw [← e]))
        go_region_held3 (fun w' => w'.cell? ⟨gk, 1, none⟩ = some (.int .i64 S) ∧ w'.cell? ⟨gk, 2, none⟩ = some (.slice (some ⟨r, 0, none⟩) n n))
          (first | with_reducible exact ⟨cK qq p1 hkl, cK qq p2 hkl⟩ | with_reducible exact ⟨(st _ _ _ hgr).trans (cK qq p1 hkl), (st _ _ _ hgr).trans (cK qq p2 hkl)⟩ | go_keep)
          ((go_at_call 126; (with_reducible refine (CNx _).mono ?_); rintro e wz ⟨rfl, q⟩; replace qq := bK qq q; have cz := cK qq cx hrl; have fz := fK qq fx hrl; clear q))
        obtain ⟨hO3, hg3⟩ := (own_on HO2.out qq).stored i (.int .u8 (z : Int))
        have HO3 : Hid ((wz.setCell ⟨r, i, none⟩ (.int .u8 (z : Int))).ownsRow v1.heap.size 5 1 (.slice (some ⟨r, 0, none⟩) n n) n ((part F 0 L (i + 1)).map encB)) := Lib.hid (by rw [← HE.out, List.map_set]; exact hO3)
        have HBW : Hid (Below v1.heap.size v1 (wz.setCell ⟨r, i, none⟩ (.int .u8 (z : Int)))) := Lib.hid ((hbl.trans (qq.mono hbl.size)).setCell (p := ⟨r, i, none⟩) (HO2.out.lt r rfl).1 _)
        have Q0 := Lib.hid ((st wz ⟨gk, 0, none⟩ (.int .u8 (z : Int)) hgr).trans (cK qq p0 hkl))
        have Q1 := Lib.hid ((st wz ⟨gk, 1, none⟩ (.int .u8 (z : Int)) hgr).trans (cK qq p1 hkl))
        have Q2 := Lib.hid ((st wz ⟨gk, 2, none⟩ (.int .u8 (z : Int)) hgr).trans (cK qq p2 hkl))
        have Q3 := Lib.hid ((st wz ⟨gk, 3, none⟩ (.int .u8 (z : Int)) hgr).trans (cK qq p3 hkl))
        clear hO3 hg3 p0 p1 p2 p3
        go_wp2_with fail
        go_roundw
        case rel => exact ⟨i + 1, by omega, by go_num, ⟨Q0.out, Q1.out, Q2.out, Q3.out⟩, HO3.out, HBW.out⟩
        case measure => simp [intOf] <;> omega
      · obtain rfl : i = n := by omega
        have hE : part F 0 L i = L.map F := by rw [HLL.out]; exact part_end F 0 L
        rw [hE] at hO
        have hlo := hO.lt r rfl
        have hR : BR wr (some ⟨r, 0, none⟩) i i (L.map F) := BR.of_own hO (fun x hx => by obtain ⟨y, _, rfl⟩ := List.mem_map.1 hx; have := HP6.out y; omega)
        have hgl := HGL.out
        have cc := CCV.out.trans (hbl.mono CCV.out.size)
        have g0 := (hbl.cell (p := ⟨w.heap.size, 0, none⟩) hgl).trans G0.out
        have g1 := (hbl.cell (p := ⟨w.heap.size, 1, none⟩) hgl).trans G1.out
        have g2 := (hbl.cell (p := ⟨w.heap.size, 2, none⟩) hgl).trans G2.out
        have g3 := (hbl.cell (p := ⟨w.heap.size, 3, none⟩) hgl).trans G3.out
        have f0 := (hbl.frozen (p := ⟨w.heap.size, 0, none⟩) hgl).trans F0.out
        have f1 := (hbl.frozen (p := ⟨w.heap.size, 1, none⟩) hgl).trans F1.out
        have f2 := (hbl.frozen (p := ⟨w.heap.size, 2, none⟩) hgl).trans F2.out
        have f3 := (hbl.frozen (p := ⟨w.heap.size, 3, none⟩) hgl).trans F3.out
        have hrn : ∀ p, some (⟨r, 0, none⟩ : Addr) = some p → p.block ≠ w.heap.size := fun p e => by injection e with e; subst e; show r ≠ _; omega
        have hrw : ∀ p, some (⟨r, 0, none⟩ : Addr) = some p → w.heap.size ≤ p.block := fun p e => by injection e with e; subst e; show _ ≤ r; omega
        have HR := Lib.hid (br_putK hR hrn (.int .i64 k) (.int .i64 S) (.slice (some ⟨r, 0, none⟩) i i) (.slice none 0 0))
        have HBF := Lib.hid (below_putK cc (Nat.le_refl _) (.int .i64 k) (.int .i64 S) (.slice (some ⟨r, 0, none⟩) i i) (.slice none 0 0))
        clear hO hR hrn hlo hbl cc
        go_wp2_with fail
        refine bodyPost_ret (v := .agg #[.int .i64 k, .int .i64 S, .slice (some ⟨r, 0, none⟩) i i, .slice none 0 0]) (by simp [results, Tryz.results120, go_sem, g0, g1, g2, g3]) rfl ⟨_, _, _, _, _, _, rfl, HR.out, IR.nil _ _ _, HBF.out, ⟨hrw, fun p e => (by cases e)⟩⟩

end Go.Proofs.YtpidpebgeblenaaGreat

/-
  The contracts of the eleventh reference: Right.
-/
namespace Go.Proofs.YtpidpebgeblenaaGreat
set_option maxRecDepth 100000
set_option maxHeartbeats 8000000
open Go.RowKit
set_option linter.unusedVariables false
set_option linter.unusedSimpArgs false

theorem rRight_lo {w : World} {k s : Int} {A B : Option Addr} {n c m d : Nat} {q : Int} (hq : IntKind.i64.wrap ((n : Int) + (m : Int)) = q) (p0 : k < 0) :
    Calls Tryz.prog 23 #[.agg #[.int .i64 k, .int .i64 s, .slice A n c, .slice B m d]] w (GotV w (.bool false)) := by
  have t0 : decide (k < 0) = true := decide_eq_true (by omega)
  clear p0
  have cc := Below.refl w.heap.size w
  go_enter Tryz.func23, Tryz.ntmps23
  go_wp2_with fail
  generalize hv_ : w.alloc (.cells #[.int .i64 k, .int .i64 s, .slice A n c, .slice B m d] 43) = v1
  have bA : Below w.heap.size w v1 := by rw [← hv_]; exact ((Below.refl _ w).alloc (by simp) _)
  replace cc := bK cc bA
  clear bA
  have ka0 : v1.cell? ⟨w.heap.size, 0, none⟩ = some (.int .i64 k) := by simp [← hv_, go_sem]
  have ka1 : v1.cell? ⟨w.heap.size, 1, none⟩ = some (.int .i64 s) := by simp [← hv_, go_sem]
  have ka2 : v1.cell? ⟨w.heap.size, 2, none⟩ = some (.slice A n c) := by simp [← hv_, go_sem]
  have ka3 : v1.cell? ⟨w.heap.size, 3, none⟩ = some (.slice B m d) := by simp [← hv_, go_sem]
  have kal : w.heap.size < v1.heap.size := by simp [← hv_] <;> omega
  clear hv_
  go_wp2_with fail
  go_ret
  exact ⟨rfl, cc⟩

theorem rRight_hi {w : World} {k s : Int} {A B : Option Addr} {n c m d : Nat} {q : Int} (hq : IntKind.i64.wrap ((n : Int) + (m : Int)) = q) (p0 : 0 ≤ k) (p1 : 4 < k) :
    Calls Tryz.prog 23 #[.agg #[.int .i64 k, .int .i64 s, .slice A n c, .slice B m d]] w (GotV w (.bool false)) := by
  have t0 : decide (k < 0) = false := decide_eq_false (by omega)
  have t1 : decide (4 < k) = true := decide_eq_true (by omega)
  clear p0 p1
  have cc := Below.refl w.heap.size w
  go_enter Tryz.func23, Tryz.ntmps23
  go_wp2_with fail
  generalize hv_ : w.alloc (.cells #[.int .i64 k, .int .i64 s, .slice A n c, .slice B m d] 43) = v1
  have bA : Below w.heap.size w v1 := by rw [← hv_]; exact ((Below.refl _ w).alloc (by simp) _)
  replace cc := bK cc bA
  clear bA
  have ka0 : v1.cell? ⟨w.heap.size, 0, none⟩ = some (.int .i64 k) := by simp [← hv_, go_sem]
  have ka1 : v1.cell? ⟨w.heap.size, 1, none⟩ = some (.int .i64 s) := by simp [← hv_, go_sem]
  have ka2 : v1.cell? ⟨w.heap.size, 2, none⟩ = some (.slice A n c) := by simp [← hv_, go_sem]
  have ka3 : v1.cell? ⟨w.heap.size, 3, none⟩ = some (.slice B m d) := by simp [← hv_, go_sem]
  have kal : w.heap.size < v1.heap.size := by simp [← hv_] <;> omega
  clear hv_
  go_wp2_with fail
  go_ret
  exact ⟨rfl, cc⟩

theorem rRight_big {w : World} {k s : Int} {A B : Option Addr} {n c m d : Nat} {q : Int} (hq : IntKind.i64.wrap ((n : Int) + (m : Int)) = q) (p0 : 0 ≤ k) (p1 : k ≤ 4) (p2 : 4096 < q) :
    Calls Tryz.prog 23 #[.agg #[.int .i64 k, .int .i64 s, .slice A n c, .slice B m d]] w (GotV w (.bool false)) := by
  have t0 : decide (k < 0) = false := decide_eq_false (by omega)
  have t1 : decide (4 < k) = false := decide_eq_false (by omega)
  have t2 : decide (4096 < q) = true := decide_eq_true (by omega)
  clear p0 p1 p2
  have cc := Below.refl w.heap.size w
  go_enter Tryz.func23, Tryz.ntmps23
  go_wp2_with fail
  generalize hv_ : w.alloc (.cells #[.int .i64 k, .int .i64 s, .slice A n c, .slice B m d] 43) = v1
  have bA : Below w.heap.size w v1 := by rw [← hv_]; exact ((Below.refl _ w).alloc (by simp) _)
  replace cc := bK cc bA
  clear bA
  have ka0 : v1.cell? ⟨w.heap.size, 0, none⟩ = some (.int .i64 k) := by simp [← hv_, go_sem]
  have ka1 : v1.cell? ⟨w.heap.size, 1, none⟩ = some (.int .i64 s) := by simp [← hv_, go_sem]
  have ka2 : v1.cell? ⟨w.heap.size, 2, none⟩ = some (.slice A n c) := by simp [← hv_, go_sem]
  have ka3 : v1.cell? ⟨w.heap.size, 3, none⟩ = some (.slice B m d) := by simp [← hv_, go_sem]
  have kal : w.heap.size < v1.heap.size := by simp [← hv_] <;> omega
  clear hv_
  go_wp2_with fail
  go_ret
  exact ⟨rfl, cc⟩

theorem rRight_c0 {w : World} {k s : Int} {A B : Option Addr} {n c m d : Nat} {q : Int} (hq : IntKind.i64.wrap ((n : Int) + (m : Int)) = q) (p0 : 0 ≤ k) (p1 : k ≤ 3) (p2 : q ≤ 4096) (hm : m ≠ 0) :
    Calls Tryz.prog 23 #[.agg #[.int .i64 k, .int .i64 s, .slice A n c, .slice B m d]] w (GotV w (.bool false)) := by
  have t0 : decide (k < 0) = false := decide_eq_false (by omega)
  have t1 : decide (4 < k) = false := decide_eq_false (by omega)
  have t2 : decide (4096 < q) = false := decide_eq_false (by omega)
  have t3 : (k == 4) = false := beq_eq_false_iff_ne.2 (by omega)
  have t4 : (k != 4) = true := by simp; omega
  have t5 : ((m : Int) == 0) = false := beq_eq_false_iff_ne.2 (by omega)
  have t6 : (m == 0) = false := beq_eq_false_iff_ne.2 hm
  clear p0 p1 p2 hm
  have cc := Below.refl w.heap.size w
  go_enter Tryz.func23, Tryz.ntmps23
  go_wp2_with fail
  generalize hv_ : w.alloc (.cells #[.int .i64 k, .int .i64 s, .slice A n c, .slice B m d] 43) = v1
  have bA : Below w.heap.size w v1 := by rw [← hv_]; exact ((Below.refl _ w).alloc (by simp) _)
  replace cc := bK cc bA
  clear bA
  have ka0 : v1.cell? ⟨w.heap.size, 0, none⟩ = some (.int .i64 k) := by simp [← hv_, go_sem]
  have ka1 : v1.cell? ⟨w.heap.size, 1, none⟩ = some (.int .i64 s) := by simp [← hv_, go_sem]
  have ka2 : v1.cell? ⟨w.heap.size, 2, none⟩ = some (.slice A n c) := by simp [← hv_, go_sem]
  have ka3 : v1.cell? ⟨w.heap.size, 3, none⟩ = some (.slice B m d) := by simp [← hv_, go_sem]
  have kal : w.heap.size < v1.heap.size := by simp [← hv_] <;> omega
  clear hv_
  go_wp2_with fail
  go_ret
  exact ⟨rfl, cc⟩

theorem rRight_c1 {w : World} {k s : Int} {A B : Option Addr} {n c m d : Nat} {q : Int} (hq : IntKind.i64.wrap ((n : Int) + (m : Int)) = q) (p0 : 0 ≤ k) (p1 : k ≤ 3) (p2 : q ≤ 4096) (hm : m = 0) {C : List Nat} (hC : BR w A n c C) (hn : n ≤ 9223372036854775807) :
    Calls Tryz.prog 23 #[.agg #[.int .i64 k, .int .i64 s, .slice A n c, .slice B m d]] w (GotV w (.bool (decide (OkC k s C)))) := by
  subst hm
  have hk : Kind9 k := by unfold Kind9; omega
  have CC : ∀ {W : World}, BR W A n c C → Calls Tryz.prog 37 #[.agg #[.int .i64 k, .int .i64 s, .slice A n c, .slice B 0 d]] W (GotV W (.bool (decide (OkC k s C)))) := fun h => rcodes_N hk h hn
  obtain ⟨r, hr⟩ : ∃ r, decide (OkC k s C) = r := ⟨_, rfl⟩
  rw [hr] at CC ⊢
  clear hr hk
  have t0 : decide (k < 0) = false := decide_eq_false (by omega)
  have t1 : decide (4 < k) = false := decide_eq_false (by omega)
  have t2 : decide (4096 < q) = false := decide_eq_false (by omega)
  have t3 : (k == 4) = false := beq_eq_false_iff_ne.2 (by omega)
  have t4 : (k != 4) = true := by simp; omega
  have hqn : (n : Int) = q := by rw [← hq, IntWalk.i64_in _ (by omega)]; omega
  have t6 : decide (4096 < (n : Int)) = false := decide_eq_false (by omega)
  have t7 : decide (4096 < n) = false := decide_eq_false (by omega)
  clear p0 p1 p2 hqn
  have cc := Below.refl w.heap.size w
  go_enter Tryz.func23, Tryz.ntmps23
  go_wp2_with fail
  generalize hv_ : w.alloc (.cells #[.int .i64 k, .int .i64 s, .slice A n c, .slice B 0 d] 43) = v1
  have bA : Below w.heap.size w v1 := by rw [← hv_]; exact ((Below.refl _ w).alloc (by simp) _)
  replace hC := hC.on bA
  replace cc := bK cc bA
  clear bA
  have ka0 : v1.cell? ⟨w.heap.size, 0, none⟩ = some (.int .i64 k) := by simp [← hv_, go_sem]
  have ka1 : v1.cell? ⟨w.heap.size, 1, none⟩ = some (.int .i64 s) := by simp [← hv_, go_sem]
  have ka2 : v1.cell? ⟨w.heap.size, 2, none⟩ = some (.slice A n c) := by simp [← hv_, go_sem]
  have ka3 : v1.cell? ⟨w.heap.size, 3, none⟩ = some (.slice B 0 d) := by simp [← hv_, go_sem]
  have kal : w.heap.size < v1.heap.size := by simp [← hv_] <;> omega
  clear hv_
  go_wp2_with fail
  refine (CC hC).mono ?_
  rintro e w2 ⟨rfl, b⟩
  replace hC := hC.on b
  rewrite [cR b kal] at ka0 ka1 ka2 ka3
  replace kal := lK b kal
  replace cc := bK cc b
  clear b
  go_wp2_with fail
  go_ret
  exact ⟨rfl, cc⟩

theorem rRight_w {w : World} {k s : Int} {A B : Option Addr} {n c m d : Nat} {q : Int} (hq : IntKind.i64.wrap ((n : Int) + (m : Int)) = q) (p0 : k = 4) (p2 : q ≤ 4096) {W : List Int} (hW : IR w B m d W) (hm : m ≤ 9223372036854775807) {R : Bool} (hR : ((∀ j, j < W.length → W[j]?.getD 0 ≠ -9223372036854775808) → R = ((s == 0) && (n == 0))) ∧ ((∃ j, j < W.length ∧ W[j]?.getD 0 = -9223372036854775808) → R = false)) :
    Calls Tryz.prog 23 #[.agg #[.int .i64 k, .int .i64 s, .slice A n c, .slice B m d]] w (GotV w (.bool R)) := by
  subst p0
  have t2 : decide (4096 < q) = false := decide_eq_false (by omega)
  have HR := Lib.hid hR
  clear hR p2
  have cc := Below.refl w.heap.size w
  go_enter Tryz.func23, Tryz.ntmps23
  go_wp2_with fail
  generalize hv_ : w.alloc (.cells #[.int .i64 4, .int .i64 s, .slice A n c, .slice B m d] 43) = v1
  have bA : Below w.heap.size w v1 := by rw [← hv_]; exact ((Below.refl _ w).alloc (by simp) _)
  replace cc := bK cc bA
  clear bA
  have ka0 : v1.cell? ⟨w.heap.size, 0, none⟩ = some (.int .i64 4) := by simp [← hv_, go_sem]
  have ka1 : v1.cell? ⟨w.heap.size, 1, none⟩ = some (.int .i64 s) := by simp [← hv_, go_sem]
  have ka2 : v1.cell? ⟨w.heap.size, 2, none⟩ = some (.slice A n c) := by simp [← hv_, go_sem]
  have ka3 : v1.cell? ⟨w.heap.size, 3, none⟩ = some (.slice B m d) := by simp [← hv_, go_sem]
  have kal : w.heap.size < v1.heap.size := by simp [← hv_] <;> omega
  clear hv_
  have KA1 := Lib.hid ka1
  have KA2 := Lib.hid ka2
  have KA3 := Lib.hid ka3
  have KAL := Lib.hid kal
  have CCV := Lib.hid cc
  have HWV : Hid (IR v1 B m d W) := Lib.hid (hW.on cc)
  clear ka0 ka1 ka2 ka3 kal cc hW
  go_wp2_with fail
  go_loopw [3] (fun iv wr => ∃ i : Nat, i ≤ m ∧ iv = .int .i64 (i : Int) ∧ (∀ j, j < i → W[j]?.getD 0 ≠ -9223372036854775808) ∧ Below v1.heap.size v1 wr) (fun iv _ => m - (intOf iv).toNat)
  case atStart => exact ⟨0, by omega, rfl, fun j h => absurd h (by omega), Below.refl _ _⟩
  case round =>
    obtain ⟨i, hi, rfl, hj, hbl⟩ := hrel
    have ka1 := (hbl.cell (p := ⟨w.heap.size, 1, none⟩) KAL.out).trans KA1.out
    have ka2 := (hbl.cell (p := ⟨w.heap.size, 2, none⟩) KAL.out).trans KA2.out
    have ka3 := (hbl.cell (p := ⟨w.heap.size, 3, none⟩) KAL.out).trans KA3.out
    have cc := CCV.out.trans (hbl.mono CCV.out.size)
    have hl := HWV.out.1
    by_cases hlt : i < m
    · obtain ⟨bb, off, rfl, hb, hcell⟩ := (HWV.out.on hbl).2.2 (by omega)
      have h1 := hcell i hlt
      have k3 : IntKind.i64.wrap ((i : Int) + 1) = ((i + 1 : Nat) : Int) := by rw [IntWalk.i64_in _ (by omega)]; omega
      obtain ⟨x, hx⟩ : ∃ x, W[i]?.getD 0 = x := ⟨_, rfl⟩
      rw [hx] at h1
      by_cases hxy : x = -9223372036854775808
      · have hF : R = false := HR.out.2 ⟨i, by omega, by rw [hx, hxy]⟩
        subst hF
        subst hxy
        clear hcell hj hl hx
        go_wp2_with fail
        go_ret
        exact ⟨rfl, cc⟩
      · have t4 : (x == -9223372036854775808) = false := beq_eq_false_iff_ne.2 hxy
        have HJ : Hid (∀ j, j < i + 1 → W[j]?.getD 0 ≠ -9223372036854775808) := Lib.hid (fun j h => by
          rcases Nat.lt_or_ge j i with e | e
          · exact hj j e
          · have e2 : j = i := by omega
            rw [e2, hx]; exact hxy)
        clear hcell hj hl hx hxy
        go_wp2_with fail
        go_roundw
        case rel => exact ⟨i + 1, by omega, rfl, HJ.out, hbl⟩
        case measure => simp [intOf] <;> omega
    · obtain rfl : i = m := by omega
      have hE := HR.out.1 (fun j h => hj j (by omega))
      clear hj hl
      by_cases z : s = 0
      · subst z
        by_cases y : n = 0
        · subst y
          have hE2 : R = true := by rw [hE]; simp
          subst hE2
          clear hE
          go_wp2_with fail
          go_ret
          exact ⟨rfl, cc⟩
        · have hE2 : R = false := by rw [hE]; simp; omega
          subst hE2
          have y1 : ((n : Int) == 0) = false := beq_eq_false_iff_ne.2 (by omega)
          have y2 : (n == 0) = false := beq_eq_false_iff_ne.2 y
          clear hE y
          go_wp2_with fail
          go_ret
          exact ⟨rfl, cc⟩
      · have z1 : (s == 0) = false := beq_eq_false_iff_ne.2 z
        have hE2 : R = false := by rw [hE, z1]; rfl
        subst hE2
        clear hE z
        go_wp2_with fail
        go_ret
        exact ⟨rfl, cc⟩

theorem rRight_N {w : World} {k s : Int} {A B : Option Addr} {n c m d : Nat} {C : List Nat} {W : List Int} (hC : BR w A n c C) (hW : IR w B m d W) (hn : n ≤ 9223372036854775807) (hm : m ≤ 9223372036854775807) : Calls Tryz.prog 23 #[.agg #[.int .i64 k, .int .i64 s, .slice A n c, .slice B m d]] w (GotV w (.bool (decide (OkB k s C W)))) := by
  obtain ⟨q, hq⟩ : ∃ q, IntKind.i64.wrap ((n : Int) + (m : Int)) = q := ⟨_, rfl⟩
  have hC1 := hC.1
  have hW1 := hW.1
  have hsum : (n + m : Int) ≤ 9223372036854775807 → q = n + m := fun h => by rw [← hq]; exact IntWalk.i64_in _ (by omega)
  have hk9 : OkB k s C W → (0 ≤ k ∧ k ≤ 4) ∧ n + m ≤ 4096 ∧ (k ≠ 4 → m = 0) ∧ (k = 4 → n = 0) := by
    rintro (⟨h1, h2, h3, h4⟩ | ⟨h1, h2, h3, h4, h5⟩)
    · refine ⟨kind_or.2 (.inl h1), by omega, fun _ => by rw [hW1, h3]; rfl, fun h => by unfold Kind9 at h1; omega⟩
    · exact ⟨kind_or.2 (.inr h1), by omega, fun h => absurd h1 h, fun _ => by rw [hC1, h5]; rfl⟩
  by_cases a0 : k < 0
  · rw [decide_eq_false (fun h => by have := (hk9 h).1; omega)]; exact rRight_lo hq a0
  by_cases a1 : 4 < k
  · rw [decide_eq_false (fun h => by have := (hk9 h).1; omega)]; exact rRight_hi hq (by omega) a1
  by_cases a2 : 4096 < q
  · rw [decide_eq_false (fun h => by have h1 := (hk9 h).2.1; have := hsum (by omega); omega)]; exact rRight_big hq (by omega) (by omega) a2
  by_cases a3 : k = 4
  · refine rRight_w hq a3 (by omega) hW hm ⟨fun hall => ?_, fun hex => ?_⟩
    · by_cases z : s = 0
      · by_cases y : n = 0
        · have : OkB k s C W := .inr ⟨a3, by have := hsum (by omega); omega, fun x hx => by obtain ⟨j, hj, rfl⟩ := at_mem 0 hx; exact hall j hj, z, List.eq_nil_of_length_eq_zero (by omega)⟩
          rw [decide_eq_true this, z, y]; rfl
        · rw [decide_eq_false (fun h => y ((hk9 h).2.2.2 a3)), beq_eq_false_iff_ne.2 y, Bool.and_false]
      · rw [decide_eq_false (fun h => by rcases h with ⟨h1, _⟩ | ⟨_, _, _, h4, _⟩; unfold Kind9 at h1; omega; exact z h4), beq_eq_false_iff_ne.2 z, Bool.false_and]
    · obtain ⟨j, hj, he⟩ := hex
      refine decide_eq_false (fun h => ?_)
      rcases h with ⟨h1, _⟩ | ⟨_, _, h3, _⟩
      · unfold Kind9 at h1; omega
      · exact h3 _ (mem_at hj) he
  by_cases a4 : m = 0
  · have hk : Kind9 k := by unfold Kind9; omega
    have e : decide (OkB k s C W) = decide (OkC k s C) := by
      rw [Bool.eq_iff_iff, decide_eq_true_eq, decide_eq_true_eq]
      constructor
      · rintro (⟨_, _, _, h4⟩ | ⟨h1, _⟩)
        · exact h4
        · exact absurd h1 a3
      · intro h; exact .inl ⟨hk, by have := hsum (by omega); omega, List.eq_nil_of_length_eq_zero (by omega), h⟩
    rw [e]
    exact rRight_c1 hq (by omega) (by omega) (by omega) a4 hC hn
  · rw [decide_eq_false (fun h => a4 ((hk9 h).2.2.1 a3))]; exact rRight_c0 hq (by omega) (by omega) (by omega) a4

end Go.Proofs.YtpidpebgeblenaaGreat
