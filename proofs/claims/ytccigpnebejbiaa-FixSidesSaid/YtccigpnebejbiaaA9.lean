/-
  Several texts in one: V2, V3, V4, V5, V6, KS, H7, H8, K9, MathR.
-/
import Derived.Test.YtccigpnebejbiaaA8
import Derived.Test.YtccigpnebejbiaaA5
import Derived.Test.YtccigpnebejbiaaA6
import Derived.Test.YtccigpnebejbiaaA1
import Derived.Test.YtccigpnebejbiaaA3
import Derived.Test.YtccigpnebejbiaaA2

/-
  The contracts of the landed fix: size, isFrac, product, plus, mantissa.
-/
namespace Go.Proofs.Ytccigpnebejbiaa
set_option maxRecDepth 100000
open Go.RowKit
set_option linter.unusedVariables false
set_option linter.unusedSimpArgs false

set_option maxRecDepth 100000 in
set_option maxHeartbeats 8000000 in
theorem size_neg (w : World) {a : Int} (ha : I64 a) (h : a < 0) :
    Calls Try.prog 26 #[.int .i64 a] w (GotV w (.int .u64 (a.natAbs : Int))) := by
  have t1 : decide (a < 0) = true := decide_eq_true h
  have k1 : IntKind.u64.wrap (-IntKind.u64.wrap a) = (a.natAbs : Int) := by unfold I64 at ha; rw [IntKind.wrap_u64, IntKind.wrap_u64]; omega
  go_enter Try.func26, Try.ntmps26
  go_wp2_with fail
  go_ret
  exact ⟨rfl, Below.refl _ _⟩

set_option maxRecDepth 100000 in
set_option maxHeartbeats 8000000 in
theorem size_pos (w : World) {a : Int} (ha : I64 a) (h : 0 ≤ a) :
    Calls Try.prog 26 #[.int .i64 a] w (GotV w (.int .u64 (a.natAbs : Int))) := by
  have t1 : decide (a < 0) = false := decide_eq_false (by omega)
  have k1 : IntKind.u64.wrap a = (a.natAbs : Int) := by unfold I64 at ha; rw [IntKind.wrap_u64]; omega
  go_enter Try.func26, Try.ntmps26
  go_wp2_with fail
  go_ret
  exact ⟨rfl, Below.refl _ _⟩

set_option maxRecDepth 100000 in
set_option maxHeartbeats 8000000 in
theorem size_N (w : World) {a : Int} (ha : I64 a) :
    Calls Try.prog 26 #[.int .i64 a] w (GotV w (.int .u64 (a.natAbs : Int))) := by
  by_cases h : a < 0
  · exact size_neg w ha h
  · exact size_pos w ha (by omega)

set_option maxRecDepth 100000 in
set_option maxHeartbeats 8000000 in
theorem isf_0 (w : World) {j : Int} (h : j < 0) :
    Calls Try.prog 29 #[.int .i64 j] w (GotV w (.bool false)) := by
  have t1 : decide (0 ≤ j) = false := decide_eq_false (by omega)
  go_enter Try.func29, Try.ntmps29
  go_wp2_with fail
  go_ret
  exact ⟨rfl, Below.refl _ _⟩

set_option maxRecDepth 100000 in
set_option maxHeartbeats 8000000 in
theorem isf_1 (w : World) {j : Int} (h0 : 0 ≤ j) (h1 : 40 < j) :
    Calls Try.prog 29 #[.int .i64 j] w (GotV w (.bool false)) := by
  have t1 : decide (0 ≤ j) = true := decide_eq_true h0
  have t2 : decide (j ≤ 40) = false := decide_eq_false (by omega)
  go_enter Try.func29, Try.ntmps29
  go_wp2_with fail
  go_ret
  exact ⟨rfl, Below.refl _ _⟩

set_option maxRecDepth 100000 in
set_option maxHeartbeats 8000000 in
theorem isf_2 (w : World) {j : Int} (h0 : 0 ≤ j) (h1 : j ≤ 40) :
    Calls Try.prog 29 #[.int .i64 j] w (GotV w (.bool true)) := by
  have t1 : decide (0 ≤ j) = true := decide_eq_true h0
  have t2 : decide (j ≤ 40) = true := decide_eq_true (by omega)
  go_enter Try.func29, Try.ntmps29
  go_wp2_with fail
  go_ret
  exact ⟨rfl, Below.refl _ _⟩

set_option maxRecDepth 100000 in
set_option maxHeartbeats 8000000 in
theorem isf_no (w : World) {j : Int} (h : j < 0 ∨ 40 < j) :
    Calls Try.prog 29 #[.int .i64 j] w (GotV w (.bool false)) := by
  by_cases h0 : 0 ≤ j
  · exact isf_1 w h0 (by omega)
  · exact isf_0 w (by omega)

set_option maxRecDepth 100000 in
set_option maxHeartbeats 8000000 in
theorem product_N {w : World} {x y : Nat} (hx : x < B64) (hy : y < B64) :
    Calls Try.prog 25 #[.int .u64 (x : Int), .int .u64 (y : Int)] w (GotV w (.agg #[.int .u64 (mulLo x y : Int), .int .u64 (mulHi x y : Int)])) := by
  have cc := Below.refl w.heap.size w
  go_enter Try.func25, Try.ntmps25
  go_wp2_with fail
  have f0 : (w.alloc (.cells #[.int .u64 0, .int .u64 0] 50)).frozen? ⟨w.heap.size, 0, none⟩ = false := by simp [go_sem]
  have f1 : (w.alloc (.cells #[.int .u64 0, .int .u64 0] 50)).frozen? ⟨w.heap.size, 1, none⟩ = false := by simp [go_sem]
  have bA : Below w.heap.size w (w.alloc (.cells #[.int .u64 0, .int .u64 0] 50)) := ((Below.refl _ w).alloc (by simp) _)
  replace cc := bK cc bA
  clear bA
  have g_0 : (w.alloc (.cells #[.int .u64 0, .int .u64 0] 50)).cell? ⟨w.heap.size, 0, none⟩ = some (.int .u64 0) := by simp [go_sem]
  have g_1 : (w.alloc (.cells #[.int .u64 0, .int .u64 0] 50)).cell? ⟨w.heap.size, 1, none⟩ = some (.int .u64 0) := by simp [go_sem]
  have g_l : w.heap.size < (w.alloc (.cells #[.int .u64 0, .int .u64 0] 50)).heap.size := by simp <;> omega
  generalize w.alloc (.cells #[.int .u64 0, .int .u64 0] 50) = v1 at *
  refine (mul64_any x y _ hx hy).mono ?_
  rintro e w' ⟨rfl, rfl⟩
  go_wp2_with fail
  refine bodyPost_ret (v := .agg #[.int .u64 (mulLo x y : Int), .int .u64 (mulHi x y : Int)]) (by simp [results, Try.results25, go_sem, g_0, g_1]) rfl ⟨rfl, below_put cc (by omega) _ _⟩

set_option maxRecDepth 100000 in
set_option maxHeartbeats 8000000 in
theorem plus_N {w : World} {l h y : Nat} (hl : l < B64) (hy : y < B64) (hh : h + sumHi l y 0 < B64) :
    Calls Try.prog 46 #[.agg #[.int .u64 (l : Int), .int .u64 (h : Int)], .int .u64 (y : Int)] w (GotV w (.agg #[.int .u64 (sumLo l y 0 : Int), .int .u64 ((h + sumHi l y 0 : Nat) : Int)])) := by
  obtain ⟨q, hq⟩ : ∃ q, h + sumHi l y 0 = q := ⟨_, rfl⟩
  rw [hq] at hh ⊢
  have k1 : IntKind.u64.wrap ((h : Int) + (sumHi l y 0 : Int)) = (q : Int) := by rw [← hq] at hh ⊢; rw [← Int.natCast_add]; exact wrap_nat hh
  have r1 := add64_run0 l y
  clear hq
  go_enter Try.func46, Try.ntmps46
  go_wp2_with fail
  refine bodyPost_ret (v := .agg #[.int .u64 (sumLo l y 0 : Int), .int .u64 (q : Int)]) (by simp [results, Try.results46, go_sem]) rfl ⟨rfl, below_two _ _ _⟩

set_option maxRecDepth 100000 in
set_option maxHeartbeats 8000000 in
theorem mant_yes {w : World} {b : Bool} {A : Option Addr} {n c : Nat} {z : Int} (hz : Zn w b A n c z) (hx : (limbs z.natAbs).length ≤ 300) (hi : I64 z) :
    Calls Try.prog 33 #[.agg #[.bool b, .slice A n c]] w (GotV w (.tuple #[.int .i64 (z), .int .i64 (0)])) := by
  have cc := Below.refl w.heap.size w
  go_enter Try.func33, Try.ntmps33
  go_wp2_with fail
  have bA : Below w.heap.size w (w.alloc (.cells #[.bool b, .slice A n c] 33)) := ((Below.refl _ w).alloc (by simp) _)
  replace hz := hz.on bA
  replace cc := bK cc bA
  clear bA
  have ka0 : (w.alloc (.cells #[.bool b, .slice A n c] 33)).cell? ⟨w.heap.size, 0, none⟩ = some (.bool b) := by simp [go_sem]
  have ka1 : (w.alloc (.cells #[.bool b, .slice A n c] 33)).cell? ⟨w.heap.size, 1, none⟩ = some (.slice A n c) := by simp [go_sem]
  have kal : w.heap.size < (w.alloc (.cells #[.bool b, .slice A n c] 33)).heap.size := by simp <;> omega
  generalize w.alloc (.cells #[.bool b, .slice A n c] 33) = v1 at *
  refine (zint_yes hz hi).mono ?_
  rintro e w2 ⟨rfl, b⟩
  replace hz := hz.on b
  replace ka0 := cK b ka0 kal
  replace ka1 := cK b ka1 kal
  replace kal := lK b kal
  replace cc := bK cc b
  clear b
  go_wp2_with fail
  go_ret2
  exact ⟨rfl, cc⟩

set_option maxRecDepth 100000 in
set_option maxHeartbeats 8000000 in
theorem mant_no {w : World} {b : Bool} {A : Option Addr} {n c : Nat} {z : Int} (hz : Zn w b A n c z) (hx : (limbs z.natAbs).length ≤ 300) (hi : ¬ I64 z) :
    Calls Try.prog 33 #[.agg #[.bool b, .slice A n c]] w (GotV w (.tuple #[.int .i64 (0), .int .i64 (2)])) := by
  have cc := Below.refl w.heap.size w
  go_enter Try.func33, Try.ntmps33
  go_wp2_with fail
  have bA : Below w.heap.size w (w.alloc (.cells #[.bool b, .slice A n c] 33)) := ((Below.refl _ w).alloc (by simp) _)
  replace hz := hz.on bA
  replace cc := bK cc bA
  clear bA
  have ka0 : (w.alloc (.cells #[.bool b, .slice A n c] 33)).cell? ⟨w.heap.size, 0, none⟩ = some (.bool b) := by simp [go_sem]
  have ka1 : (w.alloc (.cells #[.bool b, .slice A n c] 33)).cell? ⟨w.heap.size, 1, none⟩ = some (.slice A n c) := by simp [go_sem]
  have kal : w.heap.size < (w.alloc (.cells #[.bool b, .slice A n c] 33)).heap.size := by simp <;> omega
  generalize w.alloc (.cells #[.bool b, .slice A n c] 33) = v1 at *
  refine (zint_no hz hx hi).mono ?_
  rintro e w2 ⟨rfl, b⟩
  replace hz := hz.on b
  replace ka0 := cK b ka0 kal
  replace ka1 := cK b ka1 kal
  replace kal := lK b kal
  replace cc := bK cc b
  clear b
  go_wp2_with fail
  go_ret2
  exact ⟨rfl, cc⟩

set_option maxRecDepth 100000 in
set_option maxHeartbeats 8000000 in
theorem mant_N {w : World} {b : Bool} {A : Option Addr} {n c : Nat} {z : Int} (hz : Zn w b A n c z) (hx : (limbs z.natAbs).length ≤ 300) :
    Calls Try.prog 33 #[.agg #[.bool b, .slice A n c]] w (GotV w (.tuple #[.int .i64 (nI (z)), .int .i64 (nE (z))])) := by
  by_cases hi : I64 z
  · rw [(nI_yes hi).1, (nI_yes hi).2]; exact mant_yes hz hx hi
  · rw [(nI_no hi).1, (nI_no hi).2]; exact mant_no hz hx hi

end Go.Proofs.Ytccigpnebejbiaa

/-
  The contract of the landed fix: nearest.
-/
namespace Go.Proofs.Ytccigpnebejbiaa
set_option maxRecDepth 100000
open Go.RowKit
set_option linter.unusedVariables false
set_option linter.unusedSimpArgs false

theorem near_parts {X d : Nat} (hd : 0 < d) : ∃ T r k, X / d = T ∧ X % d = r ∧ T * d + r = X ∧ r < d ∧ (X + d / 2) / d = T + k ∧ ((r + d / 2 < d ∧ k = 0) ∨ (d ≤ r + d / 2 ∧ k = 1)) := by
  have h1 := Nat.div_add_mod X d
  have h2 := Nat.mod_lt X hd
  have h3 : (X + d / 2) / d = X / d + (X % d + d / 2) / d := by
    have : X + d / 2 = d * (X / d) + (X % d + d / 2) := by omega
    rw [this, Nat.mul_add_div hd]
  refine ⟨X / d, X % d, (X % d + d / 2) / d, rfl, rfl, by rw [Nat.mul_comm]; exact h1, h2, h3, ?_⟩
  rcases Nat.lt_or_ge (X % d + d / 2) d with h | h
  · exact .inl ⟨h, Nat.div_eq_of_lt h⟩
  · exact .inr ⟨h, Nat.div_eq_of_lt_le (by omega) (by omega)⟩
theorem near_odd {X d : Nat} (hd : 0 < d) (p : d % 2 = 1) : (((X + d / 2) / d : Nat) : Int) = rn (X : Int) d := by
  obtain ⟨T, r, k, e1, e2, e3, h2, e4, h5⟩ := near_parts (X := X) hd
  rw [rn_nat X d (by omega), e4, e1]
  unfold fars
  rw [e1, e2]
  rcases h5 with ⟨h5, rfl⟩ | ⟨h5, rfl⟩
  · have f1 : ¬ d < r + r := by omega
    have f2 : ¬ r + r = d := by omega
    simp [f1, f2]
  · have f1 : d < r + r := by omega
    simp [f1]
theorem near_ne {X d : Nat} (hd : 0 < d) (p : d % 2 = 0) (hne : (X + d / 2) / d * d ≠ X + d / 2) : (((X + d / 2) / d : Nat) : Int) = rn (X : Int) d := by
  obtain ⟨T, r, k, e1, e2, e3, h2, e4, h5⟩ := near_parts (X := X) hd
  rw [rn_nat X d (by omega), e4, e1]
  rw [e4, Nat.add_mul] at hne
  unfold fars
  rw [e1, e2]
  rcases h5 with ⟨h5, rfl⟩ | ⟨h5, rfl⟩
  · have f1 : ¬ d < r + r := by omega
    have f2 : ¬ r + r = d := by omega
    simp [f1, f2]
  · have f1 : d < r + r := by omega
    simp [f1]
theorem near_eq {X d : Nat} (hd : 0 < d) (p : d % 2 = 0) (he : (X + d / 2) / d * d = X + d / 2) : (((X + d / 2) / d - (X + d / 2) / d % 2 : Nat) : Int) = rn (X : Int) d := by
  obtain ⟨T, r, k, e1, e2, e3, h2, e4, h5⟩ := near_parts (X := X) hd
  rw [rn_nat X d (by omega), e4, e1]
  rw [e4, Nat.add_mul] at he
  unfold fars
  rw [e1, e2]
  rcases h5 with ⟨h5, rfl⟩ | ⟨h5, rfl⟩
  · omega
  · have f1 : ¬ d < r + r := by omega
    have f2 : r + r = d := by omega
    by_cases hT : T % 2 = 1
    · simp [f1, f2, hT]; omega
    · simp [f1, f2, hT]; omega
theorem near_least {X d : Nat} (hd : 0 < d) : (((X + d / 2) / d : Nat) : Int) - 1 ≤ rn (X : Int) d := by
  by_cases p : d % 2 = 1
  · rw [near_odd hd p]; omega
  · by_cases he : (X + d / 2) / d * d = X + d / 2
    · rw [← near_eq hd (by omega) he]; omega
    · rw [near_ne hd (by omega) he]; omega
theorem rn_sgn (b : Bool) (X : Nat) {d : Nat} (hd : d ≠ 0) : rn (sgn b X) d = if b then -rn (X : Int) d else rn (X : Int) d := by
  cases b
  · rfl
  · exact rn_neg (X : Int) hd
theorem near_far {b : Bool} {X d : Nat} (hd : 0 < d) (h : d * B64 ≤ X + d / 2) : ¬ I64 (rn (sgn b X) d) := by
  have h1 : B64 ≤ (X + d / 2) / d := (Nat.le_div_iff_mul_le hd).2 (by rw [Nat.mul_comm]; exact h)
  have h2 := near_least (X := X) hd
  have h3 : (18446744073709551616 : Int) ≤ (((X + d / 2) / d : Nat) : Int) := by unfold B64 at h1; omega
  rw [rn_sgn b X (by omega)]
  unfold I64
  cases b <;> simp <;> omega
theorem plus_val {l h m : Nat} : (h + sumHi l m 0) * B64 + sumLo l m 0 = l + B64 * h + m := by
  unfold sumHi sumLo
  have h1 := Nat.div_add_mod (l + m + 0) B64
  rw [Nat.add_mul, Nat.mul_comm h, Nat.mul_comm ((l + m + 0) / B64)]
  omega
theorem limbs_eq {t d lo hi : Nat} (hlo : lo < B64) : (mulLo t d = lo ∧ mulHi t d = hi) ↔ t * d = hi * B64 + lo := by
  unfold mulLo mulHi
  have h1 := Nat.div_add_mod (t * d) B64
  constructor
  · rintro ⟨a, b⟩
    rw [a, b, Nat.mul_comm] at h1
    exact h1.symm
  · intro h
    rw [h]
    refine ⟨?_, ?_⟩
    · rw [Nat.add_comm, Nat.add_mul_mod_self_right, Nat.mod_eq_of_lt hlo]
    · rw [Nat.add_comm, Nat.add_mul_div_right _ _ B64_pos, Nat.div_eq_of_lt hlo, Nat.zero_add]
theorem zn_less {w : World} {A : Option Addr} {n c q : Nat} (h : Num w A n c q) (hq : 0 < q) : Zn w true A n c (-(q : Int)) := ⟨by rw [Int.natAbs_neg, Int.natAbs_natCast]; exact h, by simp; omega⟩
theorem got_drewn {w : World} {v : Value} {e : Ending} {w' : World} (h : e = .returned v ∧ ∃ n, w' = w.drewN n) : GotV w v e w' := by
  obtain ⟨rfl, n, rfl⟩ := h
  exact ⟨rfl, below_drewN (Below.refl _ _) n⟩

theorem arr_eq (a b c d : Int) (w : World) : (Op.equalIn 10000 50 (.agg #[.int .u64 a, .int .u64 b]) (.agg #[.int .u64 c, .int .u64 d])).run Try.prog w = .ok (a == c && b == d) w := by
  have u3 := Try.underlying48
  have a3 := Try.isAgg48
  have z3 := Try.sizeOf48
  rw [show (10000 : Nat) = 9999 + 1 from rfl, Op.equalIn]
  simp only [Sem.run_bind, run_underlying Try.underlying50, Result.andThen_ok]
  simp only [Std.Legacy.Range.forIn_eq_forIn_range', Std.Legacy.Range.size, Nat.sub_zero, Nat.add_sub_cancel, Nat.div_one, List.range'_succ, List.range'_zero, List.forIn_cons, List.forIn_nil]
  go_simp
  by_cases h1 : a = c <;> by_cases h2 : b = d <;> simp [h1, h2]

attribute [local go_sem] arr_eq

set_option maxRecDepth 100000 in
set_option maxHeartbeats 8000000 in
theorem nearest_far {w : World} {b : Bool} {l h d m lo hi : Nat} (CP : ∀ W : World, Calls Try.prog 46 #[.agg #[.int .u64 (l : Int), .int .u64 (h : Int)], .int .u64 (m : Int)] W (GotV W (.agg #[.int .u64 (lo : Int), .int .u64 (hi : Int)]))) (k1 : IntKind.u64.wrap ((d : Int) / 2) = (m : Int)) (t1 : d ≤ hi) :
    Calls Try.prog 24 #[.bool b, .agg #[.int .u64 (l : Int), .int .u64 (h : Int)], .int .u64 (d : Int)] w (GotV w (.tuple #[.int .i64 (0), .int .i64 (2)])) := by
  have q1 : (d : Int) ≤ (hi : Int) := by omega
  have cc := Below.refl w.heap.size w
  go_enter Try.func24, Try.ntmps24
  go_wp2_with fail
  have bA : Below w.heap.size w (w.alloc (.cells #[.int .u64 (l : Int), .int .u64 (h : Int)] 50)) := ((Below.refl _ w).alloc (by simp) _)
  replace cc := bK cc bA
  clear bA
  have ka0 : (w.alloc (.cells #[.int .u64 (l : Int), .int .u64 (h : Int)] 50)).cell? ⟨w.heap.size, 0, none⟩ = some (.int .u64 (l : Int)) := by simp [go_sem]
  have ka1 : (w.alloc (.cells #[.int .u64 (l : Int), .int .u64 (h : Int)] 50)).cell? ⟨w.heap.size, 1, none⟩ = some (.int .u64 (h : Int)) := by simp [go_sem]
  have kal : w.heap.size < (w.alloc (.cells #[.int .u64 (l : Int), .int .u64 (h : Int)] 50)).heap.size := by simp <;> omega
  generalize w.alloc (.cells #[.int .u64 (l : Int), .int .u64 (h : Int)] 50) = v1 at *
  refine (CP _).mono ?_
  rintro e w2 ⟨rfl, b⟩
  replace ka0 := cK b ka0 kal
  replace ka1 := cK b ka1 kal
  replace kal := lK b kal
  replace cc := bK cc b
  clear b
  go_wp2_with fail
  have bA := below_one w2 (.cells #[.int .u64 (lo : Int), .int .u64 (hi : Int)] 50)
  replace ka0 := cK bA ka0 kal
  replace ka1 := cK bA ka1 kal
  replace kal := lK bA kal
  replace cc := bK cc bA
  clear bA
  have kr0 : (w2.alloc (.cells #[.int .u64 (lo : Int), .int .u64 (hi : Int)] 50)).cell? ⟨w2.heap.size, 0, none⟩ = some (.int .u64 (lo : Int)) := by simp [go_sem]
  have kr1 : (w2.alloc (.cells #[.int .u64 (lo : Int), .int .u64 (hi : Int)] 50)).cell? ⟨w2.heap.size, 1, none⟩ = some (.int .u64 (hi : Int)) := by simp [go_sem]
  have krl : w2.heap.size < (w2.alloc (.cells #[.int .u64 (lo : Int), .int .u64 (hi : Int)] 50)).heap.size := by simp
  generalize w2.alloc (.cells #[.int .u64 (lo : Int), .int .u64 (hi : Int)] 50) = v3 at *
  go_wp2_with fail
  go_ret2
  exact ⟨rfl, cc⟩

set_option maxRecDepth 100000 in
set_option maxHeartbeats 8000000 in
theorem nearest_odd {w : World} {b : Bool} {l h d m lo hi t r : Nat} {z : Int} (CP : ∀ W : World, Calls Try.prog 46 #[.agg #[.int .u64 (l : Int), .int .u64 (h : Int)], .int .u64 (m : Int)] W (GotV W (.agg #[.int .u64 (lo : Int), .int .u64 (hi : Int)]))) (CD : ∀ W : World, Calls Try.prog 47 #[.int .u64 (hi : Int), .int .u64 (lo : Int), .int .u64 (d : Int)] W (GotV W (.tuple #[.int .u64 (t : Int), .int .u64 (r : Int)]))) (k1 : IntKind.u64.wrap ((d : Int) / 2) = (m : Int)) (t1 : hi < d) (p : d % 2 = 1) (hz : sgn b t = z) (hu : t < B64) :
    Calls Try.prog 24 #[.bool b, .agg #[.int .u64 (l : Int), .int .u64 (h : Int)], .int .u64 (d : Int)] w (GotV w (.tuple #[.int .i64 (nI (z)), .int .i64 (nE (z))])) := by
  have q1 : ¬ (d : Int) ≤ (hi : Int) := by omega
  have q2 : (d : Int) % 2 = 1 := by omega
  have q3 : (d : Int).tmod 2 = 1 := by rw [Int.tmod_eq_emod_of_nonneg (by omega)]; omega
  have cc := Below.refl w.heap.size w
  go_enter Try.func24, Try.ntmps24
  go_wp2_with fail
  have bA : Below w.heap.size w (w.alloc (.cells #[.int .u64 (l : Int), .int .u64 (h : Int)] 50)) := ((Below.refl _ w).alloc (by simp) _)
  replace cc := bK cc bA
  clear bA
  have ka0 : (w.alloc (.cells #[.int .u64 (l : Int), .int .u64 (h : Int)] 50)).cell? ⟨w.heap.size, 0, none⟩ = some (.int .u64 (l : Int)) := by simp [go_sem]
  have ka1 : (w.alloc (.cells #[.int .u64 (l : Int), .int .u64 (h : Int)] 50)).cell? ⟨w.heap.size, 1, none⟩ = some (.int .u64 (h : Int)) := by simp [go_sem]
  have kal : w.heap.size < (w.alloc (.cells #[.int .u64 (l : Int), .int .u64 (h : Int)] 50)).heap.size := by simp <;> omega
  generalize w.alloc (.cells #[.int .u64 (l : Int), .int .u64 (h : Int)] 50) = v1 at *
  refine (CP _).mono ?_
  rintro e w2 ⟨rfl, b⟩
  replace ka0 := cK b ka0 kal
  replace ka1 := cK b ka1 kal
  replace kal := lK b kal
  replace cc := bK cc b
  clear b
  go_wp2_with fail
  have bA := below_one w2 (.cells #[.int .u64 (lo : Int), .int .u64 (hi : Int)] 50)
  replace ka0 := cK bA ka0 kal
  replace ka1 := cK bA ka1 kal
  replace kal := lK bA kal
  replace cc := bK cc bA
  clear bA
  have kr0 : (w2.alloc (.cells #[.int .u64 (lo : Int), .int .u64 (hi : Int)] 50)).cell? ⟨w2.heap.size, 0, none⟩ = some (.int .u64 (lo : Int)) := by simp [go_sem]
  have kr1 : (w2.alloc (.cells #[.int .u64 (lo : Int), .int .u64 (hi : Int)] 50)).cell? ⟨w2.heap.size, 1, none⟩ = some (.int .u64 (hi : Int)) := by simp [go_sem]
  have krl : w2.heap.size < (w2.alloc (.cells #[.int .u64 (lo : Int), .int .u64 (hi : Int)] 50)).heap.size := by simp
  generalize w2.alloc (.cells #[.int .u64 (lo : Int), .int .u64 (hi : Int)] 50) = v3 at *
  refine (CD _).mono ?_
  rintro e w4 ⟨rfl, b⟩
  replace ka0 := cK b ka0 kal
  replace ka1 := cK b ka1 kal
  replace kal := lK b kal
  replace kr0 := cK b kr0 krl
  replace kr1 := cK b kr1 krl
  replace krl := lK b krl
  replace cc := bK cc b
  clear b
  go_wp2_with fail
  have bD : Below w4.heap.size w4 w4.drew := below_drewN (Below.refl _ w4) 1
  replace ka0 := cK bD ka0 kal
  replace ka1 := cK bD ka1 kal
  replace kal := lK bD kal
  replace kr0 := cK bD kr0 krl
  replace kr1 := cK bD kr1 krl
  replace krl := lK bD krl
  replace cc := bK cc bD
  clear bD
  refine wp_region_held_drew (S := fun w' => w'.cell? ⟨w.heap.size, 0, none⟩ = some (.int .u64 (l : Int)) ∧ w'.cell? ⟨w.heap.size, 1, none⟩ = some (.int .u64 (h : Int)) ∧ w'.cell? ⟨w2.heap.size, 0, none⟩ = some (.int .u64 (lo : Int)) ∧ w'.cell? ⟨w2.heap.size, 1, none⟩ = some (.int .u64 (hi : Int))) (by kernel_rfl) ?_ (fun hHeld => ?_)
  · exact ⟨ka0, ka1, kr0, kr1⟩
  refine wpAnyH_take (i := 0) (v := ?_) rfl (by kernel_rfl) (by kernel_rfl) (by kernel_rfl) (fun _ _ _ h => h) (Or.inl ⟨by rfl, ?_⟩) hHeld ?_
  rotate_left
  · (intro w hSw; (try dsimp only at hSw); go_simp; (try with_reducible rfl))
  try simp only [Act.put, List.getElem_toArray, List.getElem_cons_zero, List.getElem_cons_succ, List.setIfInBounds_toArray, List.set_cons_zero, List.set_cons_succ]
  refine wpAnyH_take (i := 1) (v := ?_) rfl (by kernel_rfl) (by kernel_rfl) (by kernel_rfl) (fun _ _ _ h => h) (Or.inl ⟨by rfl, ?_⟩) hHeld ?_
  rotate_left
  · (intro w hSw; (try dsimp only at hSw); go_simp; (try with_reducible rfl))
  try simp only [Act.put, List.getElem_toArray, List.getElem_cons_zero, List.getElem_cons_succ, List.setIfInBounds_toArray, List.set_cons_zero, List.set_cons_succ]
  refine wpAnyH_take (i := 2) (v := ?_) rfl (by kernel_rfl) (by kernel_rfl) (by kernel_rfl) (fun _ _ _ h => h) (Or.inl ⟨by rfl, ?_⟩) hHeld ?_
  rotate_left
  · (intro w hSw; (try dsimp only at hSw); go_simp; (try with_reducible rfl))
  try simp only [Act.put, List.getElem_toArray, List.getElem_cons_zero, List.getElem_cons_succ, List.setIfInBounds_toArray, List.set_cons_zero, List.set_cons_succ]
  refine wpAnyH_take (i := 3) (v := ?_) rfl (by kernel_rfl) (by kernel_rfl) (by kernel_rfl) (fun _ _ _ h => h) (Or.inl ⟨by rfl, ?_⟩) hHeld ?_
  rotate_left
  · (intro w hSw; (try dsimp only at hSw); go_simp; (try with_reducible rfl))
  try simp only [Act.put, List.getElem_toArray, List.getElem_cons_zero, List.getElem_cons_succ, List.setIfInBounds_toArray, List.set_cons_zero, List.set_cons_succ]
  refine wpAnyH_take (i := 4) (v := undef) rfl (by kernel_rfl) (by kernel_rfl) (by kernel_rfl) (fun _ _ _ h => h) (Or.inr ⟨by rfl, rfl⟩) hHeld ?_
  try simp only [Act.put, List.getElem_toArray, List.getElem_cons_zero, List.getElem_cons_succ, List.setIfInBounds_toArray, List.set_cons_zero, List.set_cons_succ]
  refine wpAnyH_take (i := 5) (v := undef) rfl (by kernel_rfl) (by kernel_rfl) (by kernel_rfl) (fun _ _ _ h => h) (Or.inr ⟨by rfl, rfl⟩) hHeld ?_
  try simp only [Act.put, List.getElem_toArray, List.getElem_cons_zero, List.getElem_cons_succ, List.setIfInBounds_toArray, List.set_cons_zero, List.set_cons_succ]
  refine wpAnyH_take (i := 6) (v := undef) rfl (by kernel_rfl) (by kernel_rfl) (by kernel_rfl) (fun _ _ _ h => h) (Or.inr ⟨by rfl, rfl⟩) hHeld ?_
  try simp only [Act.put, List.getElem_toArray, List.getElem_cons_zero, List.getElem_cons_succ, List.setIfInBounds_toArray, List.set_cons_zero, List.set_cons_succ]
  refine wpAnyH_take (i := 7) (v := undef) rfl (by kernel_rfl) (by kernel_rfl) (by kernel_rfl) (fun _ _ _ h => h) (Or.inr ⟨by rfl, rfl⟩) hHeld ?_
  try simp only [Act.put, List.getElem_toArray, List.getElem_cons_zero, List.getElem_cons_succ, List.setIfInBounds_toArray, List.set_cons_zero, List.set_cons_succ]
  refine wpAnyH_take (i := 8) (v := undef) rfl (by kernel_rfl) (by kernel_rfl) (by kernel_rfl) (fun _ _ _ h => h) (Or.inr ⟨by rfl, rfl⟩) hHeld ?_
  try simp only [Act.put, List.getElem_toArray, List.getElem_cons_zero, List.getElem_cons_succ, List.setIfInBounds_toArray, List.set_cons_zero, List.set_cons_succ]
  refine wpAnyH_take (i := 9) (v := ?_) rfl (by kernel_rfl) (by kernel_rfl) (by kernel_rfl) (fun _ _ _ h => h) (Or.inl ⟨by rfl, ?_⟩) hHeld ?_
  rotate_left
  · (intro w hSw; (try dsimp only at hSw); go_simp; (try with_reducible rfl))
  try simp only [Act.put, List.getElem_toArray, List.getElem_cons_zero, List.getElem_cons_succ, List.setIfInBounds_toArray, List.set_cons_zero, List.set_cons_succ]
  refine wpAnyH_done (by kernel_rfl) ?_ _
  clear hHeld
  have hb : (b = false) ∨ (b = true ∧ decide (0 < t) = false) ∨ (b = true ∧ decide (0 < t) = true) := by cases b <;> simp <;> omega
  rcases hb with rfl | ⟨rfl, ub⟩ | ⟨rfl, ub⟩
  · skip
    obtain rfl : (t : Int) = z := hz
    have HU := Lib.hid hu
    clear hu
    try clear hz
    go_wp2_with fail
    refine (of_N _ t HU.out).mono ?_
    rintro e w5 ⟨Av, nv, cv, rfl, v, b⟩
    replace ka0 := cK b ka0 kal
    replace ka1 := cK b ka1 kal
    replace kal := lK b kal
    replace kr0 := cK b kr0 krl
    replace kr1 := cK b kr1 krl
    replace krl := lK b krl
    replace cc := bK cc b
    clear b
    have zu := zn_nat v
    go_wp2_with fail
    refine (mant_N zu (by rw [Int.natAbs_natCast]; exact Nat.le_trans (len_one HU.out) (by omega))).mono ?_
    rintro e w6 ⟨rfl, b⟩
    replace v := v.on b
    replace zu := zu.on b
    replace ka0 := cK b ka0 kal
    replace ka1 := cK b ka1 kal
    replace kal := lK b kal
    replace kr0 := cK b kr0 krl
    replace kr1 := cK b kr1 krl
    replace krl := lK b krl
    replace cc := bK cc b
    clear b
    go_wp2_with fail
    go_ret2
    exact ⟨rfl, cc⟩
  · skip
    have u0 : t = 0 := by simpa using ub
    obtain rfl : (t : Int) = z := by rw [← hz]; unfold sgn; simp; omega
    have ui : decide (0 < (t : Int)) = false := by simp; omega
    clear u0
    have HU := Lib.hid hu
    clear hu
    try clear hz
    go_wp2_with fail
    refine (of_N _ t HU.out).mono ?_
    rintro e w5 ⟨Av, nv, cv, rfl, v, b⟩
    replace ka0 := cK b ka0 kal
    replace ka1 := cK b ka1 kal
    replace kal := lK b kal
    replace kr0 := cK b kr0 krl
    replace kr1 := cK b kr1 krl
    replace krl := lK b krl
    replace cc := bK cc b
    clear b
    have zu := zn_nat v
    go_wp2_with fail
    refine (mant_N zu (by rw [Int.natAbs_natCast]; exact Nat.le_trans (len_one HU.out) (by omega))).mono ?_
    rintro e w6 ⟨rfl, b⟩
    replace v := v.on b
    replace zu := zu.on b
    replace ka0 := cK b ka0 kal
    replace ka1 := cK b ka1 kal
    replace kal := lK b kal
    replace kr0 := cK b kr0 krl
    replace kr1 := cK b kr1 krl
    replace krl := lK b krl
    replace cc := bK cc b
    clear b
    go_wp2_with fail
    go_ret2
    exact ⟨rfl, cc⟩
  · skip
    have u0 : 0 < t := of_decide_eq_true ub
    obtain rfl : -(t : Int) = z := hz
    have ui : decide (0 < (t : Int)) = true := by simp; omega
    have HU := Lib.hid hu
    clear hu
    try clear hz
    have HU0 := Lib.hid u0
    clear u0
    go_wp2_with fail
    refine (of_N _ t HU.out).mono ?_
    rintro e w5 ⟨Av, nv, cv, rfl, v, b⟩
    replace ka0 := cK b ka0 kal
    replace ka1 := cK b ka1 kal
    replace kal := lK b kal
    replace kr0 := cK b kr0 krl
    replace kr1 := cK b kr1 krl
    replace krl := lK b krl
    replace cc := bK cc b
    clear b
    have zu := zn_less v HU0.out
    go_wp2_with fail
    refine (mant_N zu (by rw [Int.natAbs_neg, Int.natAbs_natCast]; exact Nat.le_trans (len_one HU.out) (by omega))).mono ?_
    rintro e w6 ⟨rfl, b⟩
    replace v := v.on b
    replace zu := zu.on b
    replace ka0 := cK b ka0 kal
    replace ka1 := cK b ka1 kal
    replace kal := lK b kal
    replace kr0 := cK b kr0 krl
    replace kr1 := cK b kr1 krl
    replace krl := lK b krl
    replace cc := bK cc b
    clear b
    go_wp2_with fail
    go_ret2
    exact ⟨rfl, cc⟩

set_option maxRecDepth 100000 in
set_option maxHeartbeats 8000000 in
theorem nearest_ne {w : World} {b : Bool} {l h d m lo hi t r x y : Nat} {z : Int} (CP : ∀ W : World, Calls Try.prog 46 #[.agg #[.int .u64 (l : Int), .int .u64 (h : Int)], .int .u64 (m : Int)] W (GotV W (.agg #[.int .u64 (lo : Int), .int .u64 (hi : Int)]))) (CD : ∀ W : World, Calls Try.prog 47 #[.int .u64 (hi : Int), .int .u64 (lo : Int), .int .u64 (d : Int)] W (GotV W (.tuple #[.int .u64 (t : Int), .int .u64 (r : Int)]))) (k1 : IntKind.u64.wrap ((d : Int) / 2) = (m : Int)) (t1 : hi < d) (CQ : ∀ W : World, Calls Try.prog 25 #[.int .u64 (t : Int), .int .u64 (d : Int)] W (GotV W (.agg #[.int .u64 (x : Int), .int .u64 (y : Int)]))) (p : d % 2 = 0) (he : ((lo : Int) == (x : Int) && (hi : Int) == (y : Int)) = false) (hz : sgn b t = z) (hu : t < B64) :
    Calls Try.prog 24 #[.bool b, .agg #[.int .u64 (l : Int), .int .u64 (h : Int)], .int .u64 (d : Int)] w (GotV w (.tuple #[.int .i64 (nI (z)), .int .i64 (nE (z))])) := by
  have q1 : ¬ (d : Int) ≤ (hi : Int) := by omega
  have q2 : (d : Int) % 2 = 0 := by omega
  have q3 : (d : Int).tmod 2 = 0 := by rw [Int.tmod_eq_emod_of_nonneg (by omega)]; omega
  have q4 : ((lo : Int) == (x : Int) && (hi : Int) == (y : Int)) = false := he
  have cc := Below.refl w.heap.size w
  go_enter Try.func24, Try.ntmps24
  go_wp2_with fail
  have bA : Below w.heap.size w (w.alloc (.cells #[.int .u64 (l : Int), .int .u64 (h : Int)] 50)) := ((Below.refl _ w).alloc (by simp) _)
  replace cc := bK cc bA
  clear bA
  have ka0 : (w.alloc (.cells #[.int .u64 (l : Int), .int .u64 (h : Int)] 50)).cell? ⟨w.heap.size, 0, none⟩ = some (.int .u64 (l : Int)) := by simp [go_sem]
  have ka1 : (w.alloc (.cells #[.int .u64 (l : Int), .int .u64 (h : Int)] 50)).cell? ⟨w.heap.size, 1, none⟩ = some (.int .u64 (h : Int)) := by simp [go_sem]
  have kal : w.heap.size < (w.alloc (.cells #[.int .u64 (l : Int), .int .u64 (h : Int)] 50)).heap.size := by simp <;> omega
  generalize w.alloc (.cells #[.int .u64 (l : Int), .int .u64 (h : Int)] 50) = v1 at *
  refine (CP _).mono ?_
  rintro e w2 ⟨rfl, b⟩
  replace ka0 := cK b ka0 kal
  replace ka1 := cK b ka1 kal
  replace kal := lK b kal
  replace cc := bK cc b
  clear b
  go_wp2_with fail
  have bA := below_one w2 (.cells #[.int .u64 (lo : Int), .int .u64 (hi : Int)] 50)
  replace ka0 := cK bA ka0 kal
  replace ka1 := cK bA ka1 kal
  replace kal := lK bA kal
  replace cc := bK cc bA
  clear bA
  have kr0 : (w2.alloc (.cells #[.int .u64 (lo : Int), .int .u64 (hi : Int)] 50)).cell? ⟨w2.heap.size, 0, none⟩ = some (.int .u64 (lo : Int)) := by simp [go_sem]
  have kr1 : (w2.alloc (.cells #[.int .u64 (lo : Int), .int .u64 (hi : Int)] 50)).cell? ⟨w2.heap.size, 1, none⟩ = some (.int .u64 (hi : Int)) := by simp [go_sem]
  have krl : w2.heap.size < (w2.alloc (.cells #[.int .u64 (lo : Int), .int .u64 (hi : Int)] 50)).heap.size := by simp
  generalize w2.alloc (.cells #[.int .u64 (lo : Int), .int .u64 (hi : Int)] 50) = v3 at *
  refine (CD _).mono ?_
  rintro e w4 ⟨rfl, b⟩
  replace ka0 := cK b ka0 kal
  replace ka1 := cK b ka1 kal
  replace kal := lK b kal
  replace kr0 := cK b kr0 krl
  replace kr1 := cK b kr1 krl
  replace krl := lK b krl
  replace cc := bK cc b
  clear b
  go_wp2_with fail
  have bD : Below w4.heap.size w4 w4.drew := below_drewN (Below.refl _ w4) 1
  replace ka0 := cK bD ka0 kal
  replace ka1 := cK bD ka1 kal
  replace kal := lK bD kal
  replace kr0 := cK bD kr0 krl
  replace kr1 := cK bD kr1 krl
  replace krl := lK bD krl
  replace cc := bK cc bD
  clear bD
  refine wp_region_held_drew (S := fun w' => w'.cell? ⟨w.heap.size, 0, none⟩ = some (.int .u64 (l : Int)) ∧ w'.cell? ⟨w.heap.size, 1, none⟩ = some (.int .u64 (h : Int)) ∧ w'.cell? ⟨w2.heap.size, 0, none⟩ = some (.int .u64 (lo : Int)) ∧ w'.cell? ⟨w2.heap.size, 1, none⟩ = some (.int .u64 (hi : Int))) (by kernel_rfl) ?_ (fun hHeld => ?_)
  · exact ⟨ka0, ka1, kr0, kr1⟩
  refine wpAnyH_take (i := 0) (v := ?_) rfl (by kernel_rfl) (by kernel_rfl) (by kernel_rfl) (fun _ _ _ h => h) (Or.inl ⟨by rfl, ?_⟩) hHeld ?_
  rotate_left
  · (intro w hSw; (try dsimp only at hSw); go_simp; (try with_reducible rfl))
  try simp only [Act.put, List.getElem_toArray, List.getElem_cons_zero, List.getElem_cons_succ, List.setIfInBounds_toArray, List.set_cons_zero, List.set_cons_succ]
  refine wpAnyH_take (i := 1) (v := ?_) rfl (by kernel_rfl) (by kernel_rfl) (by kernel_rfl) (fun _ _ _ h => h) (Or.inl ⟨by rfl, ?_⟩) hHeld ?_
  rotate_left
  · (intro w hSw; (try dsimp only at hSw); go_simp; (try with_reducible rfl))
  try simp only [Act.put, List.getElem_toArray, List.getElem_cons_zero, List.getElem_cons_succ, List.setIfInBounds_toArray, List.set_cons_zero, List.set_cons_succ]
  refine wpAnyH_take (i := 2) (v := ?_) rfl (by kernel_rfl) (by kernel_rfl) (by kernel_rfl) (fun _ _ _ h => h) (Or.inl ⟨by rfl, ?_⟩) hHeld ?_
  rotate_left
  · (intro w hSw; (try dsimp only at hSw); go_simp; (try with_reducible rfl))
  try simp only [Act.put, List.getElem_toArray, List.getElem_cons_zero, List.getElem_cons_succ, List.setIfInBounds_toArray, List.set_cons_zero, List.set_cons_succ]
  refine wpAnyH_take (i := 3) (v := ?_) rfl (by kernel_rfl) (by kernel_rfl) (by kernel_rfl) (fun _ _ _ h => h) (Or.inl ⟨by rfl, ?_⟩) hHeld ?_
  rotate_left
  · (intro w hSw; (try dsimp only at hSw); go_simp; (try with_reducible rfl))
  try simp only [Act.put, List.getElem_toArray, List.getElem_cons_zero, List.getElem_cons_succ, List.setIfInBounds_toArray, List.set_cons_zero, List.set_cons_succ]
  refine wpAnyH_take (i := 4) (v := ?_) rfl (by kernel_rfl) (by kernel_rfl) (by kernel_rfl) (fun _ _ _ h => h) (Or.inl ⟨by rfl, ?_⟩) hHeld ?_
  rotate_left
  · (intro w hSw; (try dsimp only at hSw); go_simp; (try with_reducible rfl))
  try simp only [Act.put, List.getElem_toArray, List.getElem_cons_zero, List.getElem_cons_succ, List.setIfInBounds_toArray, List.set_cons_zero, List.set_cons_succ]
  refine wpAnyH_take (i := 5) (v := ?_) rfl (by kernel_rfl) (by kernel_rfl) (by kernel_rfl) (fun _ _ _ h => h) (Or.inl ⟨by rfl, ?_⟩) hHeld ?_
  rotate_left
  · (intro w hSw; (try dsimp only at hSw); go_simp; (try with_reducible rfl))
  try simp only [Act.put, List.getElem_toArray, List.getElem_cons_zero, List.getElem_cons_succ, List.setIfInBounds_toArray, List.set_cons_zero, List.set_cons_succ]
  refine wpAnyH_take (i := 6) (v := ?_) rfl (by kernel_rfl) (by kernel_rfl) (by kernel_rfl) (fun _ _ _ h => h) (Or.inl ⟨by rfl, ?_⟩) hHeld ?_
  rotate_left
  · (intro w hSw; (try dsimp only at hSw); go_simp; (try with_reducible rfl))
  try simp only [Act.put, List.getElem_toArray, List.getElem_cons_zero, List.getElem_cons_succ, List.setIfInBounds_toArray, List.set_cons_zero, List.set_cons_succ]
  refine wpAnyH_ready (rs := [7]) (by kernel_rfl) (by simp) ?_
  refine AllReadyH.cons rfl (fun K hK => ?_) AllReadyH.nil
  (try simp only [List.getElem_toArray, List.getElem_cons_zero, List.getElem_cons_succ])
  rw [if_pos (by rfl)]
  go_simp
  go_at_call 25
  refine (CQ _).mono ?_
  rintro e w5 ⟨rfl, b⟩
  replace ka0 := cK b ka0 kal
  replace ka1 := cK b ka1 kal
  replace kal := lK b kal
  replace kr0 := cK b kr0 krl
  replace kr1 := cK b kr1 krl
  replace krl := lK b krl
  replace cc := bK cc b
  clear b
  refine hK.out _ _ ?_ (fun hHeld => ?_)
  · exact ⟨ka0, ka1, kr0, kr1⟩
  clear hK K
  try simp only [Act.put, List.getElem_toArray, List.getElem_cons_zero, List.getElem_cons_succ, List.setIfInBounds_toArray, List.set_cons_zero, List.set_cons_succ]
  refine wpAnyH_take (i := 8) (v := ?_) rfl (by kernel_rfl) (by kernel_rfl) (by kernel_rfl) (fun _ _ _ h => h) (Or.inl ⟨by rfl, ?_⟩) hHeld ?_
  rotate_left
  · (intro w hSw; (try dsimp only at hSw); go_simp; (try with_reducible rfl))
  try simp only [Act.put, List.getElem_toArray, List.getElem_cons_zero, List.getElem_cons_succ, List.setIfInBounds_toArray, List.set_cons_zero, List.set_cons_succ]
  refine wpAnyH_take (i := 9) (v := ?_) rfl (by kernel_rfl) (by kernel_rfl) (by kernel_rfl) (fun _ _ _ h => h) (Or.inl ⟨by rfl, ?_⟩) hHeld ?_
  rotate_left
  · (intro w hSw; (try dsimp only at hSw); go_simp; (try with_reducible rfl))
  try simp only [Act.put, List.getElem_toArray, List.getElem_cons_zero, List.getElem_cons_succ, List.setIfInBounds_toArray, List.set_cons_zero, List.set_cons_succ]
  refine wpAnyH_done (by kernel_rfl) ?_ _
  clear hHeld
  have hb : (b = false) ∨ (b = true ∧ decide (0 < t) = false) ∨ (b = true ∧ decide (0 < t) = true) := by cases b <;> simp <;> omega
  rcases hb with rfl | ⟨rfl, ub⟩ | ⟨rfl, ub⟩
  · skip
    obtain rfl : (t : Int) = z := hz
    have HU := Lib.hid hu
    clear hu
    try clear hz
    go_wp2_with fail
    refine (of_N _ t HU.out).mono ?_
    rintro e w6 ⟨Av, nv, cv, rfl, v, b⟩
    replace ka0 := cK b ka0 kal
    replace ka1 := cK b ka1 kal
    replace kal := lK b kal
    replace kr0 := cK b kr0 krl
    replace kr1 := cK b kr1 krl
    replace krl := lK b krl
    replace cc := bK cc b
    clear b
    have zu := zn_nat v
    go_wp2_with fail
    refine (mant_N zu (by rw [Int.natAbs_natCast]; exact Nat.le_trans (len_one HU.out) (by omega))).mono ?_
    rintro e w7 ⟨rfl, b⟩
    replace v := v.on b
    replace zu := zu.on b
    replace ka0 := cK b ka0 kal
    replace ka1 := cK b ka1 kal
    replace kal := lK b kal
    replace kr0 := cK b kr0 krl
    replace kr1 := cK b kr1 krl
    replace krl := lK b krl
    replace cc := bK cc b
    clear b
    go_wp2_with fail
    go_ret2
    exact ⟨rfl, cc⟩
  · skip
    have u0 : t = 0 := by simpa using ub
    obtain rfl : (t : Int) = z := by rw [← hz]; unfold sgn; simp; omega
    have ui : decide (0 < (t : Int)) = false := by simp; omega
    clear u0
    have HU := Lib.hid hu
    clear hu
    try clear hz
    go_wp2_with fail
    refine (of_N _ t HU.out).mono ?_
    rintro e w6 ⟨Av, nv, cv, rfl, v, b⟩
    replace ka0 := cK b ka0 kal
    replace ka1 := cK b ka1 kal
    replace kal := lK b kal
    replace kr0 := cK b kr0 krl
    replace kr1 := cK b kr1 krl
    replace krl := lK b krl
    replace cc := bK cc b
    clear b
    have zu := zn_nat v
    go_wp2_with fail
    refine (mant_N zu (by rw [Int.natAbs_natCast]; exact Nat.le_trans (len_one HU.out) (by omega))).mono ?_
    rintro e w7 ⟨rfl, b⟩
    replace v := v.on b
    replace zu := zu.on b
    replace ka0 := cK b ka0 kal
    replace ka1 := cK b ka1 kal
    replace kal := lK b kal
    replace kr0 := cK b kr0 krl
    replace kr1 := cK b kr1 krl
    replace krl := lK b krl
    replace cc := bK cc b
    clear b
    go_wp2_with fail
    go_ret2
    exact ⟨rfl, cc⟩
  · skip
    have u0 : 0 < t := of_decide_eq_true ub
    obtain rfl : -(t : Int) = z := hz
    have ui : decide (0 < (t : Int)) = true := by simp; omega
    have HU := Lib.hid hu
    clear hu
    try clear hz
    have HU0 := Lib.hid u0
    clear u0
    go_wp2_with fail
    refine (of_N _ t HU.out).mono ?_
    rintro e w6 ⟨Av, nv, cv, rfl, v, b⟩
    replace ka0 := cK b ka0 kal
    replace ka1 := cK b ka1 kal
    replace kal := lK b kal
    replace kr0 := cK b kr0 krl
    replace kr1 := cK b kr1 krl
    replace krl := lK b krl
    replace cc := bK cc b
    clear b
    have zu := zn_less v HU0.out
    go_wp2_with fail
    refine (mant_N zu (by rw [Int.natAbs_neg, Int.natAbs_natCast]; exact Nat.le_trans (len_one HU.out) (by omega))).mono ?_
    rintro e w7 ⟨rfl, b⟩
    replace v := v.on b
    replace zu := zu.on b
    replace ka0 := cK b ka0 kal
    replace ka1 := cK b ka1 kal
    replace kal := lK b kal
    replace kr0 := cK b kr0 krl
    replace kr1 := cK b kr1 krl
    replace krl := lK b krl
    replace cc := bK cc b
    clear b
    go_wp2_with fail
    go_ret2
    exact ⟨rfl, cc⟩

set_option maxRecDepth 100000 in
set_option maxHeartbeats 8000000 in
theorem nearest_eq {w : World} {b : Bool} {l h d m lo hi t r u : Nat} {z : Int} (CP : ∀ W : World, Calls Try.prog 46 #[.agg #[.int .u64 (l : Int), .int .u64 (h : Int)], .int .u64 (m : Int)] W (GotV W (.agg #[.int .u64 (lo : Int), .int .u64 (hi : Int)]))) (CD : ∀ W : World, Calls Try.prog 47 #[.int .u64 (hi : Int), .int .u64 (lo : Int), .int .u64 (d : Int)] W (GotV W (.tuple #[.int .u64 (t : Int), .int .u64 (r : Int)]))) (k1 : IntKind.u64.wrap ((d : Int) / 2) = (m : Int)) (t1 : hi < d) (CQ : ∀ W : World, Calls Try.prog 25 #[.int .u64 (t : Int), .int .u64 (d : Int)] W (GotV W (.agg #[.int .u64 (lo : Int), .int .u64 (hi : Int)]))) (p : d % 2 = 0) (k2 : IntKind.u64.wrap ((t : Int) - (t : Int) % 2) = (u : Int)) (k3 : (t : Int).tmod 2 = (t : Int) % 2) (hz : sgn b u = z) (hu : u < B64) :
    Calls Try.prog 24 #[.bool b, .agg #[.int .u64 (l : Int), .int .u64 (h : Int)], .int .u64 (d : Int)] w (GotV w (.tuple #[.int .i64 (nI (z)), .int .i64 (nE (z))])) := by
  have q1 : ¬ (d : Int) ≤ (hi : Int) := by omega
  have q2 : (d : Int) % 2 = 0 := by omega
  have q3 : (d : Int).tmod 2 = 0 := by rw [Int.tmod_eq_emod_of_nonneg (by omega)]; omega
  have cc := Below.refl w.heap.size w
  go_enter Try.func24, Try.ntmps24
  go_wp2_with fail
  have bA : Below w.heap.size w (w.alloc (.cells #[.int .u64 (l : Int), .int .u64 (h : Int)] 50)) := ((Below.refl _ w).alloc (by simp) _)
  replace cc := bK cc bA
  clear bA
  have ka0 : (w.alloc (.cells #[.int .u64 (l : Int), .int .u64 (h : Int)] 50)).cell? ⟨w.heap.size, 0, none⟩ = some (.int .u64 (l : Int)) := by simp [go_sem]
  have ka1 : (w.alloc (.cells #[.int .u64 (l : Int), .int .u64 (h : Int)] 50)).cell? ⟨w.heap.size, 1, none⟩ = some (.int .u64 (h : Int)) := by simp [go_sem]
  have kal : w.heap.size < (w.alloc (.cells #[.int .u64 (l : Int), .int .u64 (h : Int)] 50)).heap.size := by simp <;> omega
  generalize w.alloc (.cells #[.int .u64 (l : Int), .int .u64 (h : Int)] 50) = v1 at *
  refine (CP _).mono ?_
  rintro e w2 ⟨rfl, b⟩
  replace ka0 := cK b ka0 kal
  replace ka1 := cK b ka1 kal
  replace kal := lK b kal
  replace cc := bK cc b
  clear b
  go_wp2_with fail
  have bA := below_one w2 (.cells #[.int .u64 (lo : Int), .int .u64 (hi : Int)] 50)
  replace ka0 := cK bA ka0 kal
  replace ka1 := cK bA ka1 kal
  replace kal := lK bA kal
  replace cc := bK cc bA
  clear bA
  have kr0 : (w2.alloc (.cells #[.int .u64 (lo : Int), .int .u64 (hi : Int)] 50)).cell? ⟨w2.heap.size, 0, none⟩ = some (.int .u64 (lo : Int)) := by simp [go_sem]
  have kr1 : (w2.alloc (.cells #[.int .u64 (lo : Int), .int .u64 (hi : Int)] 50)).cell? ⟨w2.heap.size, 1, none⟩ = some (.int .u64 (hi : Int)) := by simp [go_sem]
  have krl : w2.heap.size < (w2.alloc (.cells #[.int .u64 (lo : Int), .int .u64 (hi : Int)] 50)).heap.size := by simp
  generalize w2.alloc (.cells #[.int .u64 (lo : Int), .int .u64 (hi : Int)] 50) = v3 at *
  refine (CD _).mono ?_
  rintro e w4 ⟨rfl, b⟩
  replace ka0 := cK b ka0 kal
  replace ka1 := cK b ka1 kal
  replace kal := lK b kal
  replace kr0 := cK b kr0 krl
  replace kr1 := cK b kr1 krl
  replace krl := lK b krl
  replace cc := bK cc b
  clear b
  go_wp2_with fail
  have bD : Below w4.heap.size w4 w4.drew := below_drewN (Below.refl _ w4) 1
  replace ka0 := cK bD ka0 kal
  replace ka1 := cK bD ka1 kal
  replace kal := lK bD kal
  replace kr0 := cK bD kr0 krl
  replace kr1 := cK bD kr1 krl
  replace krl := lK bD krl
  replace cc := bK cc bD
  clear bD
  refine wp_region_held_drew (S := fun w' => w'.cell? ⟨w.heap.size, 0, none⟩ = some (.int .u64 (l : Int)) ∧ w'.cell? ⟨w.heap.size, 1, none⟩ = some (.int .u64 (h : Int)) ∧ w'.cell? ⟨w2.heap.size, 0, none⟩ = some (.int .u64 (lo : Int)) ∧ w'.cell? ⟨w2.heap.size, 1, none⟩ = some (.int .u64 (hi : Int))) (by kernel_rfl) ?_ (fun hHeld => ?_)
  · exact ⟨ka0, ka1, kr0, kr1⟩
  refine wpAnyH_take (i := 0) (v := ?_) rfl (by kernel_rfl) (by kernel_rfl) (by kernel_rfl) (fun _ _ _ h => h) (Or.inl ⟨by rfl, ?_⟩) hHeld ?_
  rotate_left
  · (intro w hSw; (try dsimp only at hSw); go_simp; (try with_reducible rfl))
  try simp only [Act.put, List.getElem_toArray, List.getElem_cons_zero, List.getElem_cons_succ, List.setIfInBounds_toArray, List.set_cons_zero, List.set_cons_succ]
  refine wpAnyH_take (i := 1) (v := ?_) rfl (by kernel_rfl) (by kernel_rfl) (by kernel_rfl) (fun _ _ _ h => h) (Or.inl ⟨by rfl, ?_⟩) hHeld ?_
  rotate_left
  · (intro w hSw; (try dsimp only at hSw); go_simp; (try with_reducible rfl))
  try simp only [Act.put, List.getElem_toArray, List.getElem_cons_zero, List.getElem_cons_succ, List.setIfInBounds_toArray, List.set_cons_zero, List.set_cons_succ]
  refine wpAnyH_take (i := 2) (v := ?_) rfl (by kernel_rfl) (by kernel_rfl) (by kernel_rfl) (fun _ _ _ h => h) (Or.inl ⟨by rfl, ?_⟩) hHeld ?_
  rotate_left
  · (intro w hSw; (try dsimp only at hSw); go_simp; (try with_reducible rfl))
  try simp only [Act.put, List.getElem_toArray, List.getElem_cons_zero, List.getElem_cons_succ, List.setIfInBounds_toArray, List.set_cons_zero, List.set_cons_succ]
  refine wpAnyH_take (i := 3) (v := ?_) rfl (by kernel_rfl) (by kernel_rfl) (by kernel_rfl) (fun _ _ _ h => h) (Or.inl ⟨by rfl, ?_⟩) hHeld ?_
  rotate_left
  · (intro w hSw; (try dsimp only at hSw); go_simp; (try with_reducible rfl))
  try simp only [Act.put, List.getElem_toArray, List.getElem_cons_zero, List.getElem_cons_succ, List.setIfInBounds_toArray, List.set_cons_zero, List.set_cons_succ]
  refine wpAnyH_take (i := 4) (v := ?_) rfl (by kernel_rfl) (by kernel_rfl) (by kernel_rfl) (fun _ _ _ h => h) (Or.inl ⟨by rfl, ?_⟩) hHeld ?_
  rotate_left
  · (intro w hSw; (try dsimp only at hSw); go_simp; (try with_reducible rfl))
  try simp only [Act.put, List.getElem_toArray, List.getElem_cons_zero, List.getElem_cons_succ, List.setIfInBounds_toArray, List.set_cons_zero, List.set_cons_succ]
  refine wpAnyH_take (i := 5) (v := ?_) rfl (by kernel_rfl) (by kernel_rfl) (by kernel_rfl) (fun _ _ _ h => h) (Or.inl ⟨by rfl, ?_⟩) hHeld ?_
  rotate_left
  · (intro w hSw; (try dsimp only at hSw); go_simp; (try with_reducible rfl))
  try simp only [Act.put, List.getElem_toArray, List.getElem_cons_zero, List.getElem_cons_succ, List.setIfInBounds_toArray, List.set_cons_zero, List.set_cons_succ]
  refine wpAnyH_take (i := 6) (v := ?_) rfl (by kernel_rfl) (by kernel_rfl) (by kernel_rfl) (fun _ _ _ h => h) (Or.inl ⟨by rfl, ?_⟩) hHeld ?_
  rotate_left
  · (intro w hSw; (try dsimp only at hSw); go_simp; (try with_reducible rfl))
  try simp only [Act.put, List.getElem_toArray, List.getElem_cons_zero, List.getElem_cons_succ, List.setIfInBounds_toArray, List.set_cons_zero, List.set_cons_succ]
  refine wpAnyH_ready (rs := [7]) (by kernel_rfl) (by simp) ?_
  refine AllReadyH.cons rfl (fun K hK => ?_) AllReadyH.nil
  (try simp only [List.getElem_toArray, List.getElem_cons_zero, List.getElem_cons_succ])
  rw [if_pos (by rfl)]
  go_simp
  go_at_call 25
  refine (CQ _).mono ?_
  rintro e w5 ⟨rfl, b⟩
  replace ka0 := cK b ka0 kal
  replace ka1 := cK b ka1 kal
  replace kal := lK b kal
  replace kr0 := cK b kr0 krl
  replace kr1 := cK b kr1 krl
  replace krl := lK b krl
  replace cc := bK cc b
  clear b
  refine hK.out _ _ ?_ (fun hHeld => ?_)
  · exact ⟨ka0, ka1, kr0, kr1⟩
  clear hK K
  try simp only [Act.put, List.getElem_toArray, List.getElem_cons_zero, List.getElem_cons_succ, List.setIfInBounds_toArray, List.set_cons_zero, List.set_cons_succ]
  refine wpAnyH_take (i := 8) (v := ?_) rfl (by kernel_rfl) (by kernel_rfl) (by kernel_rfl) (fun _ _ _ h => h) (Or.inl ⟨by rfl, ?_⟩) hHeld ?_
  rotate_left
  · (intro w hSw; (try dsimp only at hSw); go_simp; (try with_reducible rfl))
  try simp only [Act.put, List.getElem_toArray, List.getElem_cons_zero, List.getElem_cons_succ, List.setIfInBounds_toArray, List.set_cons_zero, List.set_cons_succ]
  refine wpAnyH_take (i := 9) (v := ?_) rfl (by kernel_rfl) (by kernel_rfl) (by kernel_rfl) (fun _ _ _ h => h) (Or.inl ⟨by rfl, ?_⟩) hHeld ?_
  rotate_left
  · (intro w hSw; (try dsimp only at hSw); go_simp; (try with_reducible rfl))
  try simp only [Act.put, List.getElem_toArray, List.getElem_cons_zero, List.getElem_cons_succ, List.setIfInBounds_toArray, List.set_cons_zero, List.set_cons_succ]
  refine wpAnyH_done (by kernel_rfl) ?_ _
  clear hHeld
  have hb : (b = false) ∨ (b = true ∧ decide (0 < u) = false) ∨ (b = true ∧ decide (0 < u) = true) := by cases b <;> simp <;> omega
  rcases hb with rfl | ⟨rfl, ub⟩ | ⟨rfl, ub⟩
  · skip
    obtain rfl : (u : Int) = z := hz
    have HU := Lib.hid hu
    clear hu
    try clear hz
    go_wp2_with fail
    refine (of_N _ u HU.out).mono ?_
    rintro e w6 ⟨Av, nv, cv, rfl, v, b⟩
    replace ka0 := cK b ka0 kal
    replace ka1 := cK b ka1 kal
    replace kal := lK b kal
    replace kr0 := cK b kr0 krl
    replace kr1 := cK b kr1 krl
    replace krl := lK b krl
    replace cc := bK cc b
    clear b
    have zu := zn_nat v
    go_wp2_with fail
    refine (mant_N zu (by rw [Int.natAbs_natCast]; exact Nat.le_trans (len_one HU.out) (by omega))).mono ?_
    rintro e w7 ⟨rfl, b⟩
    replace v := v.on b
    replace zu := zu.on b
    replace ka0 := cK b ka0 kal
    replace ka1 := cK b ka1 kal
    replace kal := lK b kal
    replace kr0 := cK b kr0 krl
    replace kr1 := cK b kr1 krl
    replace krl := lK b krl
    replace cc := bK cc b
    clear b
    go_wp2_with fail
    go_ret2
    exact ⟨rfl, cc⟩
  · skip
    have u0 : u = 0 := by simpa using ub
    obtain rfl : (u : Int) = z := by rw [← hz]; unfold sgn; simp; omega
    have ui : decide (0 < (u : Int)) = false := by simp; omega
    clear u0
    have HU := Lib.hid hu
    clear hu
    try clear hz
    go_wp2_with fail
    refine (of_N _ u HU.out).mono ?_
    rintro e w6 ⟨Av, nv, cv, rfl, v, b⟩
    replace ka0 := cK b ka0 kal
    replace ka1 := cK b ka1 kal
    replace kal := lK b kal
    replace kr0 := cK b kr0 krl
    replace kr1 := cK b kr1 krl
    replace krl := lK b krl
    replace cc := bK cc b
    clear b
    have zu := zn_nat v
    go_wp2_with fail
    refine (mant_N zu (by rw [Int.natAbs_natCast]; exact Nat.le_trans (len_one HU.out) (by omega))).mono ?_
    rintro e w7 ⟨rfl, b⟩
    replace v := v.on b
    replace zu := zu.on b
    replace ka0 := cK b ka0 kal
    replace ka1 := cK b ka1 kal
    replace kal := lK b kal
    replace kr0 := cK b kr0 krl
    replace kr1 := cK b kr1 krl
    replace krl := lK b krl
    replace cc := bK cc b
    clear b
    go_wp2_with fail
    go_ret2
    exact ⟨rfl, cc⟩
  · skip
    have u0 : 0 < u := of_decide_eq_true ub
    obtain rfl : -(u : Int) = z := hz
    have ui : decide (0 < (u : Int)) = true := by simp; omega
    have HU := Lib.hid hu
    clear hu
    try clear hz
    have HU0 := Lib.hid u0
    clear u0
    go_wp2_with fail
    refine (of_N _ u HU.out).mono ?_
    rintro e w6 ⟨Av, nv, cv, rfl, v, b⟩
    replace ka0 := cK b ka0 kal
    replace ka1 := cK b ka1 kal
    replace kal := lK b kal
    replace kr0 := cK b kr0 krl
    replace kr1 := cK b kr1 krl
    replace krl := lK b krl
    replace cc := bK cc b
    clear b
    have zu := zn_less v HU0.out
    go_wp2_with fail
    refine (mant_N zu (by rw [Int.natAbs_neg, Int.natAbs_natCast]; exact Nat.le_trans (len_one HU.out) (by omega))).mono ?_
    rintro e w7 ⟨rfl, b⟩
    replace v := v.on b
    replace zu := zu.on b
    replace ka0 := cK b ka0 kal
    replace ka1 := cK b ka1 kal
    replace kal := lK b kal
    replace kr0 := cK b kr0 krl
    replace kr1 := cK b kr1 krl
    replace krl := lK b krl
    replace cc := bK cc b
    clear b
    go_wp2_with fail
    go_ret2
    exact ⟨rfl, cc⟩

end Go.Proofs.Ytccigpnebejbiaa

/-
  The contract of the landed fix: nearest, whole.
-/
namespace Go.Proofs.Ytccigpnebejbiaa
set_option maxRecDepth 100000
open Go.RowKit
set_option linter.unusedVariables false
set_option linter.unusedSimpArgs false

theorem wrap_half8 {d : Nat} (hd : d < B64) : IntKind.u64.wrap ((d : Int) / 2) = ((d / 2 : Nat) : Int) := by
  rw [IntKind.wrap_u64]; unfold B64 at hd; omega
theorem mul_limbs (x y : Nat) : mulLo x y + B64 * mulHi x y = x * y := by
  unfold mulLo mulHi
  rw [Nat.add_comm]
  exact Nat.div_add_mod _ _
theorem hi_small {x y : Nat} (hx : x ≤ 9223372036854775808) (hy : y ≤ 9223372036854775808) : mulHi x y + 1 < B64 := by
  have h1 : x * y ≤ 9223372036854775808 * 9223372036854775808 := Nat.mul_le_mul hx hy
  have h2 : mulHi x y ≤ 9223372036854775808 * 9223372036854775808 / B64 := Nat.div_le_div_right h1
  have h3 : (9223372036854775808 * 9223372036854775808 : Nat) / B64 ≤ 4611686018427387904 := by unfold B64; decide
  have h4 : B64 = 18446744073709551616 := rfl
  omega
theorem i64_size {a : Int} (h : I64 a) : a.natAbs ≤ 9223372036854775808 := by unfold I64 at h; omega
theorem pow_size {k : Nat} (h : k ≤ 40) : 2 ^ k ≤ 1099511627776 := Nat.le_trans (Nat.pow_le_pow_right (by omega) h) (by decide)

set_option maxRecDepth 100000 in
set_option maxHeartbeats 8000000 in
theorem nearest_N {w : World} {b : Bool} {l h d : Nat} (hl : l < B64) (hh : h + 1 < B64) (hd0 : 0 < d) (hd : d < B64) :
    Calls Try.prog 24 #[.bool b, .agg #[.int .u64 (l : Int), .int .u64 (h : Int)], .int .u64 (d : Int)] w (GotV w (.tuple #[.int .i64 (nI (rn (sgn b (l + B64 * h)) d)), .int .i64 (nE (rn (sgn b (l + B64 * h)) d))])) := by
  have hm : d / 2 < B64 := by omega
  have s1 : sumHi l (d / 2) 0 ≤ 1 := sumHi_le hl hm (by omega)
  have hv := plus_val (l := l) (h := h) (m := d / 2)
  have hlo : sumLo l (d / 2) 0 < B64 := sumLo_lt _ _ _
  have CP : ∀ W : World, Calls Try.prog 46 #[.agg #[.int .u64 (l : Int), .int .u64 (h : Int)], .int .u64 ((d / 2 : Nat) : Int)] W (GotV W (.agg #[.int .u64 (sumLo l (d / 2) 0 : Int), .int .u64 ((h + sumHi l (d / 2) 0 : Nat) : Int)])) := fun W => plus_N hl hm (by omega)
  have k1 := wrap_half8 hd
  obtain ⟨lo, elo⟩ : ∃ q, sumLo l (d / 2) 0 = q := ⟨_, rfl⟩
  obtain ⟨hi, ehi⟩ : ∃ q, h + sumHi l (d / 2) 0 = q := ⟨_, rfl⟩
  obtain ⟨Y, eY⟩ : ∃ q, l + B64 * h = q := ⟨_, rfl⟩
  rw [elo] at hv hlo CP
  rw [ehi] at hv CP
  rw [eY] at hv
  rw [eY]
  clear elo ehi eY s1
  by_cases t1 : d ≤ hi
  · have hf := near_far (b := b) (X := Y) hd0 (by rw [← hv]; have := Nat.mul_le_mul_right B64 t1; omega)
    rw [(nI_no hf).1, (nI_no hf).2]
    exact nearest_far CP k1 t1
  · have CD : ∀ W : World, Calls Try.prog 47 #[.int .u64 (hi : Int), .int .u64 (lo : Int), .int .u64 (d : Int)] W (GotV W (.tuple #[.int .u64 (((hi * B64 + lo) / d : Nat) : Int), .int .u64 (((hi * B64 + lo) % d : Nat) : Int)])) :=
      fun W => (div64_N hi lo d W (by omega) hlo hd).mono fun e w' h => got_drewn h
    rw [hv] at CD
    have ht : (Y + d / 2) / d < B64 := by
      rw [Nat.div_lt_iff_lt_mul hd0, ← hv]
      have := Nat.mul_le_mul_right B64 (show hi + 1 ≤ d by omega)
      rw [Nat.add_mul, Nat.mul_comm d] at this
      omega
    obtain ⟨t, et⟩ : ∃ q, (Y + d / 2) / d = q := ⟨_, rfl⟩
    by_cases p : d % 2 = 1
    · have hz : sgn b t = rn (sgn b Y) d := by rw [rn_sgn b Y (by omega), ← near_odd hd0 p, et]; cases b <;> rfl
      rw [et] at CD ht
      exact nearest_odd CP CD k1 (by omega) p hz ht
    · have CQ : ∀ W : World, Calls Try.prog 25 #[.int .u64 (t : Int), .int .u64 (d : Int)] W (GotV W (.agg #[.int .u64 (mulLo t d : Int), .int .u64 (mulHi t d : Int)])) := fun W => product_N (by omega) hd
      by_cases he : t * d = Y + d / 2
      · have hz : sgn b (t - t % 2) = rn (sgn b Y) d := by rw [rn_sgn b Y (by omega), ← near_eq hd0 (by omega) (by rw [et]; exact he), et]; cases b <;> rfl
        have hl2 := (limbs_eq (t := t) (d := d) (lo := lo) (hi := hi) hlo).2 (by rw [hv]; exact he)
        rw [hl2.1, hl2.2] at CQ
        rw [et] at CD ht
        obtain ⟨u, eu⟩ : ∃ q, t - t % 2 = q := ⟨_, rfl⟩
        rw [eu] at hz
        exact nearest_eq CP CD k1 (by omega) CQ (by omega) (by rw [IntKind.wrap_u64]; unfold B64 at ht; omega) (by rw [Int.tmod_eq_emod_of_nonneg (by omega)]) hz (by omega)
      · have hz : sgn b t = rn (sgn b Y) d := by rw [rn_sgn b Y (by omega), ← near_ne hd0 (by omega) (by rw [et]; exact he), et]; cases b <;> rfl
        have hl2 := limbs_eq (t := t) (d := d) (lo := lo) (hi := hi) hlo
        rw [hv] at hl2
        rw [et] at CD ht
        refine nearest_ne CP CD k1 (by omega) CQ (by omega) ?_ hz ht
        have hne : ¬ (mulLo t d = lo ∧ mulHi t d = hi) := fun k => he (hl2.1 k)
        by_cases h1 : lo = mulLo t d
        · have h2 : ¬ hi = mulHi t d := fun k => hne ⟨h1.symm, k.symm⟩
          simp
          intro _
          omega
        · simp
          intro _
          omega

end Go.Proofs.Ytccigpnebejbiaa

/-
  The contracts of the landed fix: Add, Sub.
-/
namespace Go.Proofs.Ytccigpnebejbiaa
set_option maxRecDepth 100000
open Go.RowKit
set_option linter.unusedVariables false
set_option linter.unusedSimpArgs false

set_option maxRecDepth 100000 in
set_option maxHeartbeats 8000000 in
theorem fadd_yes {w : World} {a b : Int} (ha : I64 a) (hb : I64 b) (hi : I64 (a + b)) :
    Calls Try.prog 22 #[.int .i64 a, .int .i64 b] w (GotV w (.tuple #[.int .i64 (a + b), .int .i64 (0)])) := by
  obtain ⟨s, es⟩ : ∃ s, a + b = s := ⟨_, rfl⟩
  have k1 : IntKind.i64.wrap (a + b) = s := by rw [← es]; exact IntWalk.i64_in _ (by unfold I64 at hi; omega)
  rw [es]
  by_cases hb0 : b < 0
  · skip
    have t1 : decide (b < 0) = true := decide_eq_true (by omega)
    have t2 : decide (s < a) = true := decide_eq_true (by omega)
    clear es hb0
    have cc := Below.refl w.heap.size w
    go_enter Try.func22, Try.ntmps22
    go_wp2_with fail
    go_ret2
    exact ⟨rfl, cc⟩
  · skip
    have t1 : decide (b < 0) = false := decide_eq_false (by omega)
    have t2 : decide (s < a) = false := decide_eq_false (by omega)
    clear es hb0
    have cc := Below.refl w.heap.size w
    go_enter Try.func22, Try.ntmps22
    go_wp2_with fail
    go_ret2
    exact ⟨rfl, cc⟩

set_option maxRecDepth 100000 in
set_option maxHeartbeats 8000000 in
theorem fadd_far {w : World} {a b : Int} (ha : I64 a) (hb : I64 b) (hi : ¬ I64 (a + b)) :
    Calls Try.prog 22 #[.int .i64 a, .int .i64 b] w (GotV w (.tuple #[.int .i64 (0), .int .i64 (2)])) := by
  obtain ⟨s, es⟩ : ∃ s, IntKind.i64.wrap (a + b) = s := ⟨_, rfl⟩
  have e2 := es
  rw [IntKind.wrap_i64] at e2
  unfold I64 at ha hb hi
  by_cases hb0 : b < 0
  · skip
    have t1 : decide (b < 0) = true := decide_eq_true (by omega)
    have t2 : decide (s < a) = false := decide_eq_false (by omega)
    clear e2 hb0 ha hb hi
    have cc := Below.refl w.heap.size w
    go_enter Try.func22, Try.ntmps22
    go_wp2_with fail
    go_ret2
    exact ⟨rfl, cc⟩
  · skip
    have t1 : decide (b < 0) = false := decide_eq_false (by omega)
    have t2 : decide (s < a) = true := decide_eq_true (by omega)
    clear e2 hb0 ha hb hi
    have cc := Below.refl w.heap.size w
    go_enter Try.func22, Try.ntmps22
    go_wp2_with fail
    go_ret2
    exact ⟨rfl, cc⟩

set_option maxRecDepth 100000 in
set_option maxHeartbeats 8000000 in
theorem fadd_N {w : World} {a b : Int} (ha : I64 a) (hb : I64 b) :
    Calls Try.prog 22 #[.int .i64 a, .int .i64 b] w (GotV w (.tuple #[.int .i64 (nI (a + b)), .int .i64 (nE (a + b))])) := by
  by_cases hi : I64 (a + b)
  · rw [(nI_yes hi).1, (nI_yes hi).2]; exact fadd_yes ha hb hi
  · rw [(nI_no hi).1, (nI_no hi).2]; exact fadd_far ha hb hi

set_option maxRecDepth 100000 in
set_option maxHeartbeats 8000000 in
theorem fsub_yes {w : World} {a b : Int} (ha : I64 a) (hb : I64 b) (hi : I64 (a - b)) :
    Calls Try.prog 23 #[.int .i64 a, .int .i64 b] w (GotV w (.tuple #[.int .i64 (a - b), .int .i64 (0)])) := by
  obtain ⟨s, es⟩ : ∃ s, a - b = s := ⟨_, rfl⟩
  have k1 : IntKind.i64.wrap (a - b) = s := by rw [← es]; exact IntWalk.i64_in _ (by unfold I64 at hi; omega)
  rw [es]
  by_cases hb0 : b < 0
  · skip
    have t1 : decide (b < 0) = true := decide_eq_true (by omega)
    have t2 : decide (a < s) = true := decide_eq_true (by omega)
    clear es hb0
    have cc := Below.refl w.heap.size w
    go_enter Try.func23, Try.ntmps23
    go_wp2_with fail
    go_ret2
    exact ⟨rfl, cc⟩
  · skip
    have t1 : decide (b < 0) = false := decide_eq_false (by omega)
    have t2 : decide (a < s) = false := decide_eq_false (by omega)
    clear es hb0
    have cc := Below.refl w.heap.size w
    go_enter Try.func23, Try.ntmps23
    go_wp2_with fail
    go_ret2
    exact ⟨rfl, cc⟩

set_option maxRecDepth 100000 in
set_option maxHeartbeats 8000000 in
theorem fsub_far {w : World} {a b : Int} (ha : I64 a) (hb : I64 b) (hi : ¬ I64 (a - b)) :
    Calls Try.prog 23 #[.int .i64 a, .int .i64 b] w (GotV w (.tuple #[.int .i64 (0), .int .i64 (2)])) := by
  obtain ⟨s, es⟩ : ∃ s, IntKind.i64.wrap (a - b) = s := ⟨_, rfl⟩
  have e2 := es
  rw [IntKind.wrap_i64] at e2
  unfold I64 at ha hb hi
  by_cases hb0 : b < 0
  · skip
    have t1 : decide (b < 0) = true := decide_eq_true (by omega)
    have t2 : decide (a < s) = false := decide_eq_false (by omega)
    clear e2 hb0 ha hb hi
    have cc := Below.refl w.heap.size w
    go_enter Try.func23, Try.ntmps23
    go_wp2_with fail
    go_ret2
    exact ⟨rfl, cc⟩
  · skip
    have t1 : decide (b < 0) = false := decide_eq_false (by omega)
    have t2 : decide (a < s) = true := decide_eq_true (by omega)
    clear e2 hb0 ha hb hi
    have cc := Below.refl w.heap.size w
    go_enter Try.func23, Try.ntmps23
    go_wp2_with fail
    go_ret2
    exact ⟨rfl, cc⟩

set_option maxRecDepth 100000 in
set_option maxHeartbeats 8000000 in
theorem fsub_N {w : World} {a b : Int} (ha : I64 a) (hb : I64 b) :
    Calls Try.prog 23 #[.int .i64 a, .int .i64 b] w (GotV w (.tuple #[.int .i64 (nI (a - b)), .int .i64 (nE (a - b))])) := by
  by_cases hi : I64 (a - b)
  · rw [(nI_yes hi).1, (nI_yes hi).2]; exact fsub_yes ha hb hi
  · rw [(nI_no hi).1, (nI_no hi).2]; exact fsub_far ha hb hi

end Go.Proofs.Ytccigpnebejbiaa

/-
  The contracts of the landed fix: Mul, Div, Scale.
-/
namespace Go.Proofs.Ytccigpnebejbiaa
set_option maxRecDepth 100000
open Go.RowKit
set_option linter.unusedVariables false
set_option linter.unusedSimpArgs false

theorem sgn_prod {a b : Int} {n : Bool} (hn : (decide (a < 0) != decide (b < 0)) = n) : sgn n (a.natAbs * b.natAbs) = a * b := by rw [← hn]; exact sgn_mul rfl rfl
theorem sgn_quot {a b : Int} {n : Bool} (k : Nat) (hn : (decide (a < 0) != decide (b < 0)) = n) (hb : b ≠ 0) : sgn n (a.natAbs * 2 ^ k) = b.sign * (a * ((2 ^ k : Nat) : Int)) := by
  have h1 : b.sign * (a * ((2 ^ k : Nat) : Int)) = (a * b.sign) * ((2 ^ k : Nat) : Int) := by rw [← Int.mul_assoc, Int.mul_comm b.sign]
  rw [h1, ← hn]
  obtain ⟨o, eo⟩ : ∃ o : Nat, 2 ^ k = o := ⟨_, rfl⟩
  rw [eo]
  rcases Int.lt_trichotomy b 0 with h | h | h
  · rw [Int.sign_eq_neg_one_of_neg h]
    by_cases ha : a < 0
    · have e : a * -1 = (a.natAbs : Int) := by omega
      rw [e]; unfold sgn; simp [ha, h]
    · have e : a * -1 = -(a.natAbs : Int) := by omega
      rw [e, Int.neg_mul]; unfold sgn; simp [ha, h]
  · exact absurd h hb
  · rw [Int.sign_eq_one_of_pos h, Int.mul_one]
    have h' : ¬ b < 0 := by omega
    by_cases ha : a < 0
    · have e : a = -(a.natAbs : Int) := by omega
      have e2 : a * (o : Int) = -((a.natAbs * o : Nat) : Int) := by rw [Int.natCast_mul, ← Int.neg_mul, ← e]
      rw [e2]; unfold sgn; simp [ha, h']
    · have e : a = (a.natAbs : Int) := by omega
      have e2 : a * (o : Int) = ((a.natAbs * o : Nat) : Int) := by rw [Int.natCast_mul, ← e]
      rw [e2]; unfold sgn; simp [ha, h']

set_option maxRecDepth 100000 in
set_option maxHeartbeats 8000000 in
theorem fmul_N {w : World} {a b j : Int} (ha : I64 a) (hb : I64 b) (j0 : 0 ≤ j) (j1 : j ≤ 40) :
    Calls Try.prog 13 #[.int .i64 a, .int .i64 b, .int .i64 j] w (GotV w (.tuple #[.int .i64 (nI (rn (a * b) (2 ^ j.toNat))), .int .i64 (nE (rn (a * b) (2 ^ j.toNat)))])) := by
  have je := to_nat j0
  obtain ⟨k, hk⟩ : ∃ k, j.toNat = k := ⟨_, rfl⟩
  rw [hk] at je ⊢
  have k40 : k ≤ 40 := by omega
  have km : min k 64 = k := by omega
  have pk := pow_size k40
  have p0 : 0 < 2 ^ k := Nat.pow_pos (by omega)
  have kw : ((2 : Int) ^ k) = ((2 ^ k : Nat) : Int) := by simp
  obtain ⟨o, eo⟩ : ∃ o, 2 ^ k = o := ⟨_, rfl⟩
  rw [eo] at pk p0 kw ⊢
  have ob : o < B64 := by unfold B64; omega
  have k1 : IntKind.u64.wrap ((2 : Int) ^ k) = (o : Int) := by rw [kw, IntKind.wrap_u64]; unfold B64 at ob; omega
  have k2 : IntKind.u64.wrap ((2 : Int) ^ j.toNat) = (o : Int) := by rw [hk]; exact k1
  clear kw k1
  obtain ⟨x, ex⟩ : ∃ x, a.natAbs = x := ⟨_, rfl⟩
  obtain ⟨y, ey⟩ : ∃ y, b.natAbs = y := ⟨_, rfl⟩
  have sa := i64_size ha
  have sb := i64_size hb
  have b64 : B64 = 18446744073709551616 := rfl
  obtain ⟨p, hp⟩ : ∃ p, decide (a < 0) = p := ⟨_, rfl⟩
  obtain ⟨q, hq⟩ : ∃ q, decide (b < 0) = q := ⟨_, rfl⟩
  obtain ⟨n, hn⟩ : ∃ n, (p != q) = n := ⟨_, rfl⟩
  have hn' : (!(p == q)) = n := hn
  have hs : sgn n (x * y) = a * b := by rw [← ex, ← ey]; exact sgn_prod (by rw [hp, hq]; exact hn)
  rw [ex] at sa
  rw [ey] at sb
  obtain ⟨l, el⟩ : ∃ l, mulLo x y = l := ⟨_, rfl⟩
  obtain ⟨h, eh⟩ : ∃ h, mulHi x y = h := ⟨_, rfl⟩
  have hl : l < B64 := by rw [← el]; exact mulLo_lt _ _
  have hh : h + 1 < B64 := by rw [← eh]; exact hi_small (by omega) (by omega)
  have hx : l + B64 * h = x * y := by rw [← el, ← eh]; exact mul_limbs _ _
  obtain ⟨z, ez⟩ : ∃ z, rn (a * b) o = z := ⟨_, rfl⟩
  rw [ez]
  have CZ : ∀ (W : World), Calls Try.prog 26 #[.int .i64 a] W (GotV W (.int .u64 (x : Int))) := fun W => by rw [← ex]; exact size_N W ha
  have CY : ∀ (W : World), Calls Try.prog 26 #[.int .i64 b] W (GotV W (.int .u64 (y : Int))) := fun W => by rw [← ey]; exact size_N W hb
  have CP : ∀ (W : World), Calls Try.prog 25 #[.int .u64 (x : Int), .int .u64 (y : Int)] W (GotV W (.agg #[.int .u64 (l : Int), .int .u64 (h : Int)])) := fun W => by rw [← el, ← eh]; exact product_N (by omega) (by omega)
  have CN : ∀ (W : World), Calls Try.prog 24 #[.bool n, .agg #[.int .u64 (l : Int), .int .u64 (h : Int)], .int .u64 (o : Int)] W (GotV W (.tuple #[.int .i64 (nI z), .int .i64 (nE z)])) := fun W => by rw [← ez]; exact by have h := nearest_N (w := W) (b := n) hl hh p0 ob; rw [hx, hs] at h; exact h
  clear hk eo pk p0 ex ey sa sb hs hx ez el eh hl hh ob hn b64
  have cc := Below.refl w.heap.size w
  go_enter Try.func13, Try.ntmps13
  go_wp2_with fail
  refine (isf_2 _ j0 j1).mono ?_
  rintro e w1 ⟨rfl, b⟩
  replace cc := bK cc b
  clear b
  go_wp2_with fail
  have bD : Below w1.heap.size w1 w1.drew := below_drewN (Below.refl _ w1) 1
  replace cc := bK cc bD
  clear bD
  refine wp_region_held_drew (S := fun w' => True) (by kernel_rfl) ?_ (fun hHeld => ?_)
  · exact ⟨⟩
  refine wpAnyH_take (i := 0) (v := ?_) rfl (by kernel_rfl) (by kernel_rfl) (by kernel_rfl) (fun _ _ _ h => h) (Or.inl ⟨by rfl, ?_⟩) hHeld ?_
  rotate_left
  · (intro w hSw; (try dsimp only at hSw); go_simp; (try with_reducible rfl))
  try simp only [Act.put, List.getElem_toArray, List.getElem_cons_zero, List.getElem_cons_succ, List.setIfInBounds_toArray, List.set_cons_zero, List.set_cons_succ]
  refine wpAnyH_take (i := 1) (v := ?_) rfl (by kernel_rfl) (by kernel_rfl) (by kernel_rfl) (fun _ _ _ h => h) (Or.inl ⟨by rfl, ?_⟩) hHeld ?_
  rotate_left
  · (intro w hSw; (try dsimp only at hSw); go_simp; (try with_reducible rfl))
  try simp only [Act.put, List.getElem_toArray, List.getElem_cons_zero, List.getElem_cons_succ, List.setIfInBounds_toArray, List.set_cons_zero, List.set_cons_succ]
  refine wpAnyH_take (i := 2) (v := ?_) rfl (by kernel_rfl) (by kernel_rfl) (by kernel_rfl) (fun _ _ _ h => h) (Or.inl ⟨by rfl, ?_⟩) hHeld ?_
  rotate_left
  · (intro w hSw; (try dsimp only at hSw); go_simp; (try with_reducible rfl))
  try simp only [Act.put, List.getElem_toArray, List.getElem_cons_zero, List.getElem_cons_succ, List.setIfInBounds_toArray, List.set_cons_zero, List.set_cons_succ]
  refine wpAnyH_take (i := 3) (v := ?_) rfl (by kernel_rfl) (by kernel_rfl) (by kernel_rfl) (fun _ _ _ h => h) (Or.inl ⟨by rfl, ?_⟩) hHeld ?_
  rotate_left
  · (intro w hSw; (try dsimp only at hSw); go_simp; (try with_reducible rfl))
  try simp only [Act.put, List.getElem_toArray, List.getElem_cons_zero, List.getElem_cons_succ, List.setIfInBounds_toArray, List.set_cons_zero, List.set_cons_succ]
  refine wpAnyH_take (i := 4) (v := ?_) rfl (by kernel_rfl) (by kernel_rfl) (by kernel_rfl) (fun _ _ _ h => h) (Or.inl ⟨by rfl, ?_⟩) hHeld ?_
  rotate_left
  · (intro w hSw; (try dsimp only at hSw); go_simp; (try with_reducible rfl))
  try simp only [Act.put, List.getElem_toArray, List.getElem_cons_zero, List.getElem_cons_succ, List.setIfInBounds_toArray, List.set_cons_zero, List.set_cons_succ]
  refine wpAnyH_take (i := 5) (v := ?_) rfl (by kernel_rfl) (by kernel_rfl) (by kernel_rfl) (fun _ _ _ h => h) (Or.inl ⟨by rfl, ?_⟩) hHeld ?_
  rotate_left
  · (intro w hSw; (try dsimp only at hSw); go_simp; (try with_reducible rfl))
  try simp only [Act.put, List.getElem_toArray, List.getElem_cons_zero, List.getElem_cons_succ, List.setIfInBounds_toArray, List.set_cons_zero, List.set_cons_succ]
  refine wpAnyH_take (i := 7) (v := ?_) rfl (by kernel_rfl) (by kernel_rfl) (by kernel_rfl) (fun _ _ _ h => h) (Or.inl ⟨by rfl, ?_⟩) hHeld ?_
  rotate_left
  · (intro w hSw; (try dsimp only at hSw); go_simp; (try with_reducible rfl))
  try simp only [Act.put, List.getElem_toArray, List.getElem_cons_zero, List.getElem_cons_succ, List.setIfInBounds_toArray, List.set_cons_zero, List.set_cons_succ]
  refine wpAnyH_take (i := 10) (v := ?_) rfl (by kernel_rfl) (by kernel_rfl) (by kernel_rfl) (fun _ _ _ h => h) (Or.inl ⟨by rfl, ?_⟩) hHeld ?_
  rotate_left
  · (intro w hSw; (try dsimp only at hSw); go_simp; (try with_reducible rfl))
  try simp only [Act.put, List.getElem_toArray, List.getElem_cons_zero, List.getElem_cons_succ, List.setIfInBounds_toArray, List.set_cons_zero, List.set_cons_succ]
  refine wpAnyH_take (i := 11) (v := ?_) rfl (by kernel_rfl) (by kernel_rfl) (by kernel_rfl) (fun _ _ _ h => h) (Or.inl ⟨by rfl, ?_⟩) hHeld ?_
  rotate_left
  · (intro w hSw; (try dsimp only at hSw); go_simp; (try with_reducible rfl))
  try simp only [Act.put, List.getElem_toArray, List.getElem_cons_zero, List.getElem_cons_succ, List.setIfInBounds_toArray, List.set_cons_zero, List.set_cons_succ]
  refine wpAnyH_ready (rs := [6]) (by kernel_rfl) (by simp) ?_
  refine AllReadyH.cons rfl (fun K hK => ?_) AllReadyH.nil
  (try simp only [List.getElem_toArray, List.getElem_cons_zero, List.getElem_cons_succ])
  rw [if_pos (by rfl)]
  go_simp
  go_at_call 26
  refine (CZ _).mono ?_
  rintro e w2 ⟨rfl, b⟩
  replace cc := bK cc b
  clear b
  refine hK.out _ _ ?_ (fun hHeld => ?_)
  · exact ⟨⟩
  clear hK K
  try simp only [Act.put, List.getElem_toArray, List.getElem_cons_zero, List.getElem_cons_succ, List.setIfInBounds_toArray, List.set_cons_zero, List.set_cons_succ]
  refine wpAnyH_ready (rs := [8]) (by kernel_rfl) (by simp) ?_
  refine AllReadyH.cons rfl (fun K hK => ?_) AllReadyH.nil
  (try simp only [List.getElem_toArray, List.getElem_cons_zero, List.getElem_cons_succ])
  rw [if_pos (by rfl)]
  go_simp
  go_at_call 26
  refine (CY _).mono ?_
  rintro e w3 ⟨rfl, b⟩
  replace cc := bK cc b
  clear b
  refine hK.out _ _ ?_ (fun hHeld => ?_)
  · exact ⟨⟩
  clear hK K
  try simp only [Act.put, List.getElem_toArray, List.getElem_cons_zero, List.getElem_cons_succ, List.setIfInBounds_toArray, List.set_cons_zero, List.set_cons_succ]
  refine wpAnyH_ready (rs := [9]) (by kernel_rfl) (by simp) ?_
  refine AllReadyH.cons rfl (fun K hK => ?_) AllReadyH.nil
  (try simp only [List.getElem_toArray, List.getElem_cons_zero, List.getElem_cons_succ])
  rw [if_pos (by rfl)]
  go_simp
  go_at_call 25
  refine (CP _).mono ?_
  rintro e w4 ⟨rfl, b⟩
  replace cc := bK cc b
  clear b
  refine hK.out _ _ ?_ (fun hHeld => ?_)
  · exact ⟨⟩
  clear hK K
  try simp only [Act.put, List.getElem_toArray, List.getElem_cons_zero, List.getElem_cons_succ, List.setIfInBounds_toArray, List.set_cons_zero, List.set_cons_succ]
  refine wpAnyH_ready (rs := [12]) (by kernel_rfl) (by simp) ?_
  refine AllReadyH.cons rfl (fun K hK => ?_) AllReadyH.nil
  (try simp only [List.getElem_toArray, List.getElem_cons_zero, List.getElem_cons_succ])
  rw [if_pos (by rfl)]
  go_simp
  go_at_call 24
  refine (CN _).mono ?_
  rintro e w5 ⟨rfl, b⟩
  replace cc := bK cc b
  clear b
  refine hK.out _ _ ?_ (fun hHeld => ?_)
  · exact ⟨⟩
  clear hK K
  try simp only [Act.put, List.getElem_toArray, List.getElem_cons_zero, List.getElem_cons_succ, List.setIfInBounds_toArray, List.set_cons_zero, List.set_cons_succ]
  refine wpAnyH_take (i := 13) (v := ?_) rfl (by kernel_rfl) (by kernel_rfl) (by kernel_rfl) (fun _ _ _ h => h) (Or.inl ⟨by rfl, ?_⟩) hHeld ?_
  rotate_left
  · (intro w hSw; (try dsimp only at hSw); go_simp; (try with_reducible rfl))
  try simp only [Act.put, List.getElem_toArray, List.getElem_cons_zero, List.getElem_cons_succ, List.setIfInBounds_toArray, List.set_cons_zero, List.set_cons_succ]
  refine wpAnyH_take (i := 14) (v := ?_) rfl (by kernel_rfl) (by kernel_rfl) (by kernel_rfl) (fun _ _ _ h => h) (Or.inl ⟨by rfl, ?_⟩) hHeld ?_
  rotate_left
  · (intro w hSw; (try dsimp only at hSw); go_simp; (try with_reducible rfl))
  try simp only [Act.put, List.getElem_toArray, List.getElem_cons_zero, List.getElem_cons_succ, List.setIfInBounds_toArray, List.set_cons_zero, List.set_cons_succ]
  refine wpAnyH_take (i := 15) (v := ?_) rfl (by kernel_rfl) (by kernel_rfl) (by kernel_rfl) (fun _ _ _ h => h) (Or.inl ⟨by rfl, ?_⟩) hHeld ?_
  rotate_left
  · (intro w hSw; (try dsimp only at hSw); go_simp; (try with_reducible rfl))
  try simp only [Act.put, List.getElem_toArray, List.getElem_cons_zero, List.getElem_cons_succ, List.setIfInBounds_toArray, List.set_cons_zero, List.set_cons_succ]
  refine wpAnyH_take (i := 16) (v := ?_) rfl (by kernel_rfl) (by kernel_rfl) (by kernel_rfl) (fun _ _ _ h => h) (Or.inl ⟨by rfl, ?_⟩) hHeld ?_
  rotate_left
  · (intro w hSw; (try dsimp only at hSw); go_simp; (try with_reducible rfl))
  try simp only [Act.put, List.getElem_toArray, List.getElem_cons_zero, List.getElem_cons_succ, List.setIfInBounds_toArray, List.set_cons_zero, List.set_cons_succ]
  refine wpAnyH_done (by kernel_rfl) ?_ _
  clear hHeld
  go_wp2_with fail
  go_ret2
  exact ⟨rfl, cc⟩

set_option maxRecDepth 100000 in
set_option maxHeartbeats 8000000 in
theorem fmul_no {w : World} {a b j : Int} (ha : I64 a) (hb : I64 b) (h : j < 0 ∨ 40 < j) :
    Calls Try.prog 13 #[.int .i64 a, .int .i64 b, .int .i64 j] w (GotV w (.tuple #[.int .i64 (0), .int .i64 (1)])) := by
  have cc := Below.refl w.heap.size w
  go_enter Try.func13, Try.ntmps13
  go_wp2_with fail
  refine (isf_no _ h).mono ?_
  rintro e w1 ⟨rfl, b⟩
  replace cc := bK cc b
  clear b
  go_wp2_with fail
  go_ret2
  exact ⟨rfl, cc⟩

set_option maxRecDepth 100000 in
set_option maxHeartbeats 8000000 in
theorem fdiv_N {w : World} {a b j : Int} (ha : I64 a) (hb : I64 b) (hb0 : b ≠ 0) (j0 : 0 ≤ j) (j1 : j ≤ 40) :
    Calls Try.prog 14 #[.int .i64 a, .int .i64 b, .int .i64 j] w (GotV w (.tuple #[.int .i64 (nI (rn (b.sign * (a * ((2 ^ j.toNat : Nat) : Int))) b.natAbs)), .int .i64 (nE (rn (b.sign * (a * ((2 ^ j.toNat : Nat) : Int))) b.natAbs))])) := by
  have b0 : (b == 0) = false := by simp; exact hb0
  have je := to_nat j0
  obtain ⟨k, hk⟩ : ∃ k, j.toNat = k := ⟨_, rfl⟩
  rw [hk] at je ⊢
  have k40 : k ≤ 40 := by omega
  have km : min k 64 = k := by omega
  have pk := pow_size k40
  have p0 : 0 < 2 ^ k := Nat.pow_pos (by omega)
  have kw : ((2 : Int) ^ k) = ((2 ^ k : Nat) : Int) := by simp
  obtain ⟨x, ex⟩ : ∃ x, a.natAbs = x := ⟨_, rfl⟩
  obtain ⟨y, ey⟩ : ∃ y, b.natAbs = y := ⟨_, rfl⟩
  have sa := i64_size ha
  have sb := i64_size hb
  have b64 : B64 = 18446744073709551616 := rfl
  obtain ⟨p, hp⟩ : ∃ p, decide (a < 0) = p := ⟨_, rfl⟩
  obtain ⟨q, hq⟩ : ∃ q, decide (b < 0) = q := ⟨_, rfl⟩
  obtain ⟨n, hn⟩ : ∃ n, (p != q) = n := ⟨_, rfl⟩
  have hn' : (!(p == q)) = n := hn
  have hs : sgn n (x * 2 ^ k) = b.sign * (a * ((2 ^ k : Nat) : Int)) := by rw [← ex]; exact sgn_quot k (by rw [hp, hq]; exact hn) hb0
  have y0 : 0 < y := by rw [← ey]; omega
  rw [ex] at sa
  rw [ey] at sb ⊢
  have yb : y < B64 := by omega
  obtain ⟨o, eo⟩ : ∃ o, 2 ^ k = o := ⟨_, rfl⟩
  rw [eo] at pk p0 hs kw ⊢
  have ob : o < B64 := by unfold B64; omega
  have k1 : IntKind.u64.wrap ((2 : Int) ^ k) = (o : Int) := by rw [kw, IntKind.wrap_u64]; unfold B64 at ob; omega
  have k2 : IntKind.u64.wrap ((2 : Int) ^ j.toNat) = (o : Int) := by rw [hk]; exact k1
  clear kw k1
  obtain ⟨l, el⟩ : ∃ l, mulLo x o = l := ⟨_, rfl⟩
  obtain ⟨h, eh⟩ : ∃ h, mulHi x o = h := ⟨_, rfl⟩
  have hl : l < B64 := by rw [← el]; exact mulLo_lt _ _
  have hh : h + 1 < B64 := by rw [← eh]; exact hi_small (by omega) (by omega)
  have hx : l + B64 * h = x * o := by rw [← el, ← eh]; exact mul_limbs _ _
  obtain ⟨z, ez⟩ : ∃ z, rn (b.sign * (a * (o : Int))) y = z := ⟨_, rfl⟩
  rw [ez]
  have CZ : ∀ (W : World), Calls Try.prog 26 #[.int .i64 a] W (GotV W (.int .u64 (x : Int))) := fun W => by rw [← ex]; exact size_N W ha
  have CY : ∀ (W : World), Calls Try.prog 26 #[.int .i64 b] W (GotV W (.int .u64 (y : Int))) := fun W => by rw [← ey]; exact size_N W hb
  have CP : ∀ (W : World), Calls Try.prog 25 #[.int .u64 (x : Int), .int .u64 (o : Int)] W (GotV W (.agg #[.int .u64 (l : Int), .int .u64 (h : Int)])) := fun W => by rw [← el, ← eh]; exact product_N (by omega) (by omega)
  have CN : ∀ (W : World), Calls Try.prog 24 #[.bool n, .agg #[.int .u64 (l : Int), .int .u64 (h : Int)], .int .u64 (y : Int)] W (GotV W (.tuple #[.int .i64 (nI z), .int .i64 (nE z)])) := fun W => by rw [← ez]; exact by have h := nearest_N (w := W) (b := n) hl hh y0 yb; rw [hx, hs] at h; exact h
  clear hk eo pk p0 ex ey sa sb hs hx ez el eh hl hh ob yb y0 hn b64 hb0
  have cc := Below.refl w.heap.size w
  go_enter Try.func14, Try.ntmps14
  go_wp2_with fail
  refine (isf_2 _ j0 j1).mono ?_
  rintro e w1 ⟨rfl, b⟩
  replace cc := bK cc b
  clear b
  go_wp2_with fail
  have bD : Below w1.heap.size w1 w1.drew := below_drewN (Below.refl _ w1) 1
  replace cc := bK cc bD
  clear bD
  refine wp_region_held_drew (S := fun w' => True) (by kernel_rfl) ?_ (fun hHeld => ?_)
  · exact ⟨⟩
  refine wpAnyH_take (i := 0) (v := ?_) rfl (by kernel_rfl) (by kernel_rfl) (by kernel_rfl) (fun _ _ _ h => h) (Or.inl ⟨by rfl, ?_⟩) hHeld ?_
  rotate_left
  · (intro w hSw; (try dsimp only at hSw); go_simp; (try with_reducible rfl))
  try simp only [Act.put, List.getElem_toArray, List.getElem_cons_zero, List.getElem_cons_succ, List.setIfInBounds_toArray, List.set_cons_zero, List.set_cons_succ]
  refine wpAnyH_take (i := 1) (v := ?_) rfl (by kernel_rfl) (by kernel_rfl) (by kernel_rfl) (fun _ _ _ h => h) (Or.inl ⟨by rfl, ?_⟩) hHeld ?_
  rotate_left
  · (intro w hSw; (try dsimp only at hSw); go_simp; (try with_reducible rfl))
  try simp only [Act.put, List.getElem_toArray, List.getElem_cons_zero, List.getElem_cons_succ, List.setIfInBounds_toArray, List.set_cons_zero, List.set_cons_succ]
  refine wpAnyH_take (i := 2) (v := ?_) rfl (by kernel_rfl) (by kernel_rfl) (by kernel_rfl) (fun _ _ _ h => h) (Or.inl ⟨by rfl, ?_⟩) hHeld ?_
  rotate_left
  · (intro w hSw; (try dsimp only at hSw); go_simp; (try with_reducible rfl))
  try simp only [Act.put, List.getElem_toArray, List.getElem_cons_zero, List.getElem_cons_succ, List.setIfInBounds_toArray, List.set_cons_zero, List.set_cons_succ]
  refine wpAnyH_take (i := 3) (v := ?_) rfl (by kernel_rfl) (by kernel_rfl) (by kernel_rfl) (fun _ _ _ h => h) (Or.inl ⟨by rfl, ?_⟩) hHeld ?_
  rotate_left
  · (intro w hSw; (try dsimp only at hSw); go_simp; (try with_reducible rfl))
  try simp only [Act.put, List.getElem_toArray, List.getElem_cons_zero, List.getElem_cons_succ, List.setIfInBounds_toArray, List.set_cons_zero, List.set_cons_succ]
  refine wpAnyH_take (i := 4) (v := ?_) rfl (by kernel_rfl) (by kernel_rfl) (by kernel_rfl) (fun _ _ _ h => h) (Or.inl ⟨by rfl, ?_⟩) hHeld ?_
  rotate_left
  · (intro w hSw; (try dsimp only at hSw); go_simp; (try with_reducible rfl))
  try simp only [Act.put, List.getElem_toArray, List.getElem_cons_zero, List.getElem_cons_succ, List.setIfInBounds_toArray, List.set_cons_zero, List.set_cons_succ]
  refine wpAnyH_take (i := 5) (v := ?_) rfl (by kernel_rfl) (by kernel_rfl) (by kernel_rfl) (fun _ _ _ h => h) (Or.inl ⟨by rfl, ?_⟩) hHeld ?_
  rotate_left
  · (intro w hSw; (try dsimp only at hSw); go_simp; (try with_reducible rfl))
  try simp only [Act.put, List.getElem_toArray, List.getElem_cons_zero, List.getElem_cons_succ, List.setIfInBounds_toArray, List.set_cons_zero, List.set_cons_succ]
  refine wpAnyH_take (i := 7) (v := ?_) rfl (by kernel_rfl) (by kernel_rfl) (by kernel_rfl) (fun _ _ _ h => h) (Or.inl ⟨by rfl, ?_⟩) hHeld ?_
  rotate_left
  · (intro w hSw; (try dsimp only at hSw); go_simp; (try with_reducible rfl))
  try simp only [Act.put, List.getElem_toArray, List.getElem_cons_zero, List.getElem_cons_succ, List.setIfInBounds_toArray, List.set_cons_zero, List.set_cons_succ]
  refine wpAnyH_take (i := 8) (v := ?_) rfl (by kernel_rfl) (by kernel_rfl) (by kernel_rfl) (fun _ _ _ h => h) (Or.inl ⟨by rfl, ?_⟩) hHeld ?_
  rotate_left
  · (intro w hSw; (try dsimp only at hSw); go_simp; (try with_reducible rfl))
  try simp only [Act.put, List.getElem_toArray, List.getElem_cons_zero, List.getElem_cons_succ, List.setIfInBounds_toArray, List.set_cons_zero, List.set_cons_succ]
  refine wpAnyH_take (i := 10) (v := ?_) rfl (by kernel_rfl) (by kernel_rfl) (by kernel_rfl) (fun _ _ _ h => h) (Or.inl ⟨by rfl, ?_⟩) hHeld ?_
  rotate_left
  · (intro w hSw; (try dsimp only at hSw); go_simp; (try with_reducible rfl))
  try simp only [Act.put, List.getElem_toArray, List.getElem_cons_zero, List.getElem_cons_succ, List.setIfInBounds_toArray, List.set_cons_zero, List.set_cons_succ]
  refine wpAnyH_ready (rs := [6]) (by kernel_rfl) (by simp) ?_
  refine AllReadyH.cons rfl (fun K hK => ?_) AllReadyH.nil
  (try simp only [List.getElem_toArray, List.getElem_cons_zero, List.getElem_cons_succ])
  rw [if_pos (by rfl)]
  go_simp
  go_at_call 26
  refine (CZ _).mono ?_
  rintro e w2 ⟨rfl, b⟩
  replace cc := bK cc b
  clear b
  refine hK.out _ _ ?_ (fun hHeld => ?_)
  · exact ⟨⟩
  clear hK K
  try simp only [Act.put, List.getElem_toArray, List.getElem_cons_zero, List.getElem_cons_succ, List.setIfInBounds_toArray, List.set_cons_zero, List.set_cons_succ]
  refine wpAnyH_ready (rs := [9]) (by kernel_rfl) (by simp) ?_
  refine AllReadyH.cons rfl (fun K hK => ?_) AllReadyH.nil
  (try simp only [List.getElem_toArray, List.getElem_cons_zero, List.getElem_cons_succ])
  rw [if_pos (by rfl)]
  go_simp
  go_at_call 25
  refine (CP _).mono ?_
  rintro e w3 ⟨rfl, b⟩
  replace cc := bK cc b
  clear b
  refine hK.out _ _ ?_ (fun hHeld => ?_)
  · exact ⟨⟩
  clear hK K
  try simp only [Act.put, List.getElem_toArray, List.getElem_cons_zero, List.getElem_cons_succ, List.setIfInBounds_toArray, List.set_cons_zero, List.set_cons_succ]
  refine wpAnyH_ready (rs := [11]) (by kernel_rfl) (by simp) ?_
  refine AllReadyH.cons rfl (fun K hK => ?_) AllReadyH.nil
  (try simp only [List.getElem_toArray, List.getElem_cons_zero, List.getElem_cons_succ])
  rw [if_pos (by rfl)]
  go_simp
  go_at_call 26
  refine (CY _).mono ?_
  rintro e w4 ⟨rfl, b⟩
  replace cc := bK cc b
  clear b
  refine hK.out _ _ ?_ (fun hHeld => ?_)
  · exact ⟨⟩
  clear hK K
  try simp only [Act.put, List.getElem_toArray, List.getElem_cons_zero, List.getElem_cons_succ, List.setIfInBounds_toArray, List.set_cons_zero, List.set_cons_succ]
  refine wpAnyH_ready (rs := [12]) (by kernel_rfl) (by simp) ?_
  refine AllReadyH.cons rfl (fun K hK => ?_) AllReadyH.nil
  (try simp only [List.getElem_toArray, List.getElem_cons_zero, List.getElem_cons_succ])
  rw [if_pos (by rfl)]
  go_simp
  go_at_call 24
  refine (CN _).mono ?_
  rintro e w5 ⟨rfl, b⟩
  replace cc := bK cc b
  clear b
  refine hK.out _ _ ?_ (fun hHeld => ?_)
  · exact ⟨⟩
  clear hK K
  try simp only [Act.put, List.getElem_toArray, List.getElem_cons_zero, List.getElem_cons_succ, List.setIfInBounds_toArray, List.set_cons_zero, List.set_cons_succ]
  refine wpAnyH_take (i := 13) (v := ?_) rfl (by kernel_rfl) (by kernel_rfl) (by kernel_rfl) (fun _ _ _ h => h) (Or.inl ⟨by rfl, ?_⟩) hHeld ?_
  rotate_left
  · (intro w hSw; (try dsimp only at hSw); go_simp; (try with_reducible rfl))
  try simp only [Act.put, List.getElem_toArray, List.getElem_cons_zero, List.getElem_cons_succ, List.setIfInBounds_toArray, List.set_cons_zero, List.set_cons_succ]
  refine wpAnyH_take (i := 14) (v := ?_) rfl (by kernel_rfl) (by kernel_rfl) (by kernel_rfl) (fun _ _ _ h => h) (Or.inl ⟨by rfl, ?_⟩) hHeld ?_
  rotate_left
  · (intro w hSw; (try dsimp only at hSw); go_simp; (try with_reducible rfl))
  try simp only [Act.put, List.getElem_toArray, List.getElem_cons_zero, List.getElem_cons_succ, List.setIfInBounds_toArray, List.set_cons_zero, List.set_cons_succ]
  refine wpAnyH_take (i := 15) (v := ?_) rfl (by kernel_rfl) (by kernel_rfl) (by kernel_rfl) (fun _ _ _ h => h) (Or.inl ⟨by rfl, ?_⟩) hHeld ?_
  rotate_left
  · (intro w hSw; (try dsimp only at hSw); go_simp; (try with_reducible rfl))
  try simp only [Act.put, List.getElem_toArray, List.getElem_cons_zero, List.getElem_cons_succ, List.setIfInBounds_toArray, List.set_cons_zero, List.set_cons_succ]
  refine wpAnyH_take (i := 16) (v := ?_) rfl (by kernel_rfl) (by kernel_rfl) (by kernel_rfl) (fun _ _ _ h => h) (Or.inl ⟨by rfl, ?_⟩) hHeld ?_
  rotate_left
  · (intro w hSw; (try dsimp only at hSw); go_simp; (try with_reducible rfl))
  try simp only [Act.put, List.getElem_toArray, List.getElem_cons_zero, List.getElem_cons_succ, List.setIfInBounds_toArray, List.set_cons_zero, List.set_cons_succ]
  refine wpAnyH_done (by kernel_rfl) ?_ _
  clear hHeld
  go_wp2_with fail
  go_ret2
  exact ⟨rfl, cc⟩

set_option maxRecDepth 100000 in
set_option maxHeartbeats 8000000 in
theorem fdiv_no {w : World} {a b j : Int} (ha : I64 a) (hb : I64 b) (h : j < 0 ∨ 40 < j) :
    Calls Try.prog 14 #[.int .i64 a, .int .i64 b, .int .i64 j] w (GotV w (.tuple #[.int .i64 (0), .int .i64 (1)])) := by
  have cc := Below.refl w.heap.size w
  go_enter Try.func14, Try.ntmps14
  go_wp2_with fail
  refine (isf_no _ h).mono ?_
  rintro e w1 ⟨rfl, b⟩
  replace cc := bK cc b
  clear b
  go_wp2_with fail
  go_ret2
  exact ⟨rfl, cc⟩

set_option maxRecDepth 100000 in
set_option maxHeartbeats 8000000 in
theorem fdiv_zero {w : World} {a j : Int} (ha : I64 a) (j0 : 0 ≤ j) (j1 : j ≤ 40) :
    Calls Try.prog 14 #[.int .i64 a, .int .i64 0, .int .i64 j] w (GotV w (.tuple #[.int .i64 (0), .int .i64 (4)])) := by
  have cc := Below.refl w.heap.size w
  go_enter Try.func14, Try.ntmps14
  go_wp2_with fail
  refine (isf_2 _ j0 j1).mono ?_
  rintro e w1 ⟨rfl, b⟩
  replace cc := bK cc b
  clear b
  go_wp2_with fail
  go_ret2
  exact ⟨rfl, cc⟩

set_option maxRecDepth 100000 in
set_option maxHeartbeats 8000000 in
theorem fscale_N {w : World} {a b d : Int} (ha : I64 a) (hb : I64 b) (hd : I64 d) (h1 : 1 ≤ d) :
    Calls Try.prog 8 #[.int .i64 a, .int .i64 b, .int .i64 d] w (GotV w (.tuple #[.int .i64 (nI (rn (a * b) d.natAbs)), .int .i64 (nE (rn (a * b) d.natAbs))])) := by
  have t1_ : decide (d < 1) = false := decide_eq_false (by omega)
  obtain ⟨x, ex⟩ : ∃ x, a.natAbs = x := ⟨_, rfl⟩
  obtain ⟨y, ey⟩ : ∃ y, b.natAbs = y := ⟨_, rfl⟩
  have sa := i64_size ha
  have sb := i64_size hb
  have b64 : B64 = 18446744073709551616 := rfl
  obtain ⟨v, ev⟩ : ∃ v, d.natAbs = v := ⟨_, rfl⟩
  have sd := i64_size hd
  obtain ⟨p, hp⟩ : ∃ p, decide (a < 0) = p := ⟨_, rfl⟩
  obtain ⟨q, hq⟩ : ∃ q, decide (b < 0) = q := ⟨_, rfl⟩
  obtain ⟨n, hn⟩ : ∃ n, (p != q) = n := ⟨_, rfl⟩
  have hn' : (!(p == q)) = n := hn
  have hs : sgn n (x * y) = a * b := by rw [← ex, ← ey]; exact sgn_prod (by rw [hp, hq]; exact hn)
  rw [ex] at sa
  rw [ey] at sb
  have v0 : 0 < v := by omega
  rw [ev] at sd ⊢
  have vb : v < B64 := by omega
  obtain ⟨l, el⟩ : ∃ l, mulLo x y = l := ⟨_, rfl⟩
  obtain ⟨h, eh⟩ : ∃ h, mulHi x y = h := ⟨_, rfl⟩
  have hl : l < B64 := by rw [← el]; exact mulLo_lt _ _
  have hh : h + 1 < B64 := by rw [← eh]; exact hi_small (by omega) (by omega)
  have hx : l + B64 * h = x * y := by rw [← el, ← eh]; exact mul_limbs _ _
  obtain ⟨z, ez⟩ : ∃ z, rn (a * b) v = z := ⟨_, rfl⟩
  rw [ez]
  have CZ : ∀ (W : World), Calls Try.prog 26 #[.int .i64 a] W (GotV W (.int .u64 (x : Int))) := fun W => by rw [← ex]; exact size_N W ha
  have CY : ∀ (W : World), Calls Try.prog 26 #[.int .i64 b] W (GotV W (.int .u64 (y : Int))) := fun W => by rw [← ey]; exact size_N W hb
  have CV : ∀ (W : World), Calls Try.prog 26 #[.int .i64 d] W (GotV W (.int .u64 (v : Int))) := fun W => by rw [← ev]; exact size_N W hd
  have CP : ∀ (W : World), Calls Try.prog 25 #[.int .u64 (x : Int), .int .u64 (y : Int)] W (GotV W (.agg #[.int .u64 (l : Int), .int .u64 (h : Int)])) := fun W => by rw [← el, ← eh]; exact product_N (by omega) (by omega)
  have CN : ∀ (W : World), Calls Try.prog 24 #[.bool n, .agg #[.int .u64 (l : Int), .int .u64 (h : Int)], .int .u64 (v : Int)] W (GotV W (.tuple #[.int .i64 (nI z), .int .i64 (nE z)])) := fun W => by rw [← ez]; exact by have h := nearest_N (w := W) (b := n) hl hh v0 vb; rw [hx, hs] at h; exact h
  clear ex ey ev sa sb sd hs hx ez el eh hl hh vb v0 hn b64 h1
  have cc := Below.refl w.heap.size w
  go_enter Try.func8, Try.ntmps8
  go_wp2_with fail
  refine (CZ _).mono ?_
  rintro e w1 ⟨rfl, b⟩
  replace cc := bK cc b
  clear b
  go_wp2_with fail
  refine (CY _).mono ?_
  rintro e w2 ⟨rfl, b⟩
  replace cc := bK cc b
  clear b
  go_wp2_with fail
  refine (CP _).mono ?_
  rintro e w3 ⟨rfl, b⟩
  replace cc := bK cc b
  clear b
  go_wp2_with fail
  refine (CV _).mono ?_
  rintro e w4 ⟨rfl, b⟩
  replace cc := bK cc b
  clear b
  go_wp2_with fail
  refine (CN _).mono ?_
  rintro e w5 ⟨rfl, b⟩
  replace cc := bK cc b
  clear b
  go_wp2_with fail
  go_ret2
  exact ⟨rfl, cc⟩

set_option maxRecDepth 100000 in
set_option maxHeartbeats 8000000 in
theorem fscale_no {w : World} {a b d : Int} (ha : I64 a) (hb : I64 b) (hd : I64 d) (h : d < 1) :
    Calls Try.prog 8 #[.int .i64 a, .int .i64 b, .int .i64 d] w (GotV w (.tuple #[.int .i64 (0), .int .i64 (1)])) := by
  have t1_ : decide (d < 1) = true := decide_eq_true h
  have cc := Below.refl w.heap.size w
  go_enter Try.func8, Try.ntmps8
  go_wp2_with fail
  go_wp2_with fail
  go_ret2
  exact ⟨rfl, cc⟩

end Go.Proofs.Ytccigpnebejbiaa

/-
  Spans: values, boxes, what is answered.
-/
namespace Go.Proofs.Ytccigpnebejbiaa
open Go.RowKit
set_option linter.unusedVariables false
set_option linter.unusedSimpArgs false

/-- A span: both ends. -/
def St (w : World) (b : Bool) (A : Option Addr) (n c : Nat) (B : Option Addr) (m d : Nat) (v : Bool) (V : Option Addr) (r k : Nat) (U : Option Addr) (o q : Nat) (x y : Rat) : Prop := Rt w b A n c B m d x ∧ Rt w v V r k U o q y
/-- A call has answered a span; and one with a code. -/
def GotSt (w : World) (x y : Rat) (e : Ending) (w' : World) : Prop := ∃ b A n c B m d v V r k U o q, e = .returned (.agg #[.bool b, .slice A n c, .slice B m d, .bool v, .slice V r k, .slice U o q]) ∧ St w' b A n c B m d v V r k U o q x y ∧ Below w.heap.size w w'
def GotSp (w : World) (x y : Rat) (z : Int) (e : Ending) (w' : World) : Prop := ∃ b A n c B m d v V r k U o q, e = .returned (.tuple #[.agg #[.bool b, .slice A n c, .slice B m d, .bool v, .slice V r k, .slice U o q], .int .i64 z]) ∧ St w' b A n c B m d v V r k U o q x y ∧ Below w.heap.size w w'
/-- A box of six cells, none of which is a digit. -/
def Held (W : World) (g : Nat) : Prop := ∀ i, i < 6 → ∃ u, W.cell? ⟨g, i, none⟩ = some u ∧ ∀ k n, u ≠ .int k n
theorem held6 {W : World} {g : Nat} {b v : Bool} {A B V U : Option Addr} {n c m d r k o q : Nat} (h0 : W.cell? ⟨g, 0, none⟩ = some (.bool b)) (h1 : W.cell? ⟨g, 1, none⟩ = some (.slice A n c)) (h2 : W.cell? ⟨g, 2, none⟩ = some (.slice B m d)) (h3 : W.cell? ⟨g, 3, none⟩ = some (.bool v)) (h4 : W.cell? ⟨g, 4, none⟩ = some (.slice V r k)) (h5 : W.cell? ⟨g, 5, none⟩ = some (.slice U o q)) : Held W g := by
  intro i hi
  match i, hi with
  | 0, _ => exact ⟨_, h0, fun _ _ e => by cases e⟩
  | 1, _ => exact ⟨_, h1, fun _ _ e => by cases e⟩
  | 2, _ => exact ⟨_, h2, fun _ _ e => by cases e⟩
  | 3, _ => exact ⟨_, h3, fun _ _ e => by cases e⟩
  | 4, _ => exact ⟨_, h4, fun _ _ e => by cases e⟩
  | 5, _ => exact ⟨_, h5, fun _ _ e => by cases e⟩
theorem Held.set {W : World} {g j : Nat} {v : Value} (h : Held W g) (hj : j < 6) (hv : ∀ k n, v ≠ .int k n) : Held (W.setCell ⟨g, j, none⟩ v) g := by
  intro i hi
  obtain ⟨u, h1, h2⟩ := h i hi
  by_cases e : j = i
  · subst e
    exact ⟨v, World.cell?_setCell_same _ _ _ h1, hv⟩
  · exact ⟨u, (World.cell?_setCell_other _ _ _ _ (addr_ne e)).trans h1, h2⟩
theorem Num.held {W : World} {g j : Nat} {v : Value} {A : Option Addr} {n c x : Nat} (hn : Num W A n c x) (h : Held W g) (hj : j < 6) : Num (W.setCell ⟨g, j, none⟩ v) A n c x := by
  obtain ⟨u, h1, h2⟩ := h j hj
  exact hn.set_other h1 h2
/-- All six cells are written. -/
@[reducible] def putS (W : World) (g : Nat) (a b c d e f : Value) : World := (((((W.setCell ⟨g, 0, none⟩ a).setCell ⟨g, 1, none⟩ b).setCell ⟨g, 2, none⟩ c).setCell ⟨g, 3, none⟩ d).setCell ⟨g, 4, none⟩ e).setCell ⟨g, 5, none⟩ f
theorem cell_putS {w : World} {s b o : Nat} {u1 u2 u3 u4 u5 u6 : Value} (h : b ≠ s) : (putS w s u1 u2 u3 u4 u5 u6).cell? ⟨b, o, none⟩ = w.cell? ⟨b, o, none⟩ := by
  unfold putS
  iterate 6 rw [World.cell?_setCell_other (h := addr_ne' (Ne.symm h))]
theorem below_putS {C g : Nat} {V W : World} (h : Below C V W) (hg : C ≤ g) (a b c d e f : Value) : Below C V (putS W g a b c d e f) := (((((h.setCell (p := ⟨g, 0, none⟩) hg a).setCell (p := ⟨g, 1, none⟩) hg b).setCell (p := ⟨g, 2, none⟩) hg c).setCell (p := ⟨g, 3, none⟩) hg d).setCell (p := ⟨g, 4, none⟩) hg e).setCell (p := ⟨g, 5, none⟩) hg f
section
variable {W : World} {g : Nat}
theorem Num.putS {A : Option Addr} {n c x : Nat} (hn : Num W A n c x) (h : Held W g) (b v : Bool) (u1 u2 u4 u5 : Option Addr × Nat × Nat) : Num (putS W g (.bool b) (.slice u1.1 u1.2.1 u1.2.2) (.slice u2.1 u2.2.1 u2.2.2) (.bool v) (.slice u4.1 u4.2.1 u4.2.2) (.slice u5.1 u5.2.1 u5.2.2)) A n c x := by
  have k0 := h.set (j := 0) (v := .bool b) (by omega) (fun _ _ e => by cases e)
  have k1 := k0.set (j := 1) (v := .slice u1.1 u1.2.1 u1.2.2) (by omega) (fun _ _ e => by cases e)
  have k2 := k1.set (j := 2) (v := .slice u2.1 u2.2.1 u2.2.2) (by omega) (fun _ _ e => by cases e)
  have k3 := k2.set (j := 3) (v := .bool v) (by omega) (fun _ _ e => by cases e)
  have k4 := k3.set (j := 4) (v := .slice u4.1 u4.2.1 u4.2.2) (by omega) (fun _ _ e => by cases e)
  exact (((((hn.held h (by omega)).held k0 (by omega)).held k1 (by omega)).held k2 (by omega)).held k3 (by omega)).held k4 (by omega)
theorem Rt.putS {b0 : Bool} {A0 B0 : Option Addr} {n0 c0 m0 d0 : Nat} {x : Rat} (hr : Rt W b0 A0 n0 c0 B0 m0 d0 x) (h : Held W g) (b v : Bool) {A1 A2 A4 A5 : Option Addr} {n1 c1 n2 c2 n4 c4 n5 c5 : Nat} : Rt (putS W g (.bool b) (.slice A1 n1 c1) (.slice A2 n2 c2) (.bool v) (.slice A4 n4 c4) (.slice A5 n5 c5)) b0 A0 n0 c0 B0 m0 d0 x :=
  ⟨⟨hr.1.1.putS h b v (A1, n1, c1) (A2, n2, c2) (A4, n4, c4) (A5, n5, c5), hr.1.2⟩, hr.2.putS h b v (A1, n1, c1) (A2, n2, c2) (A4, n4, c4) (A5, n5, c5)⟩
end

end Go.Proofs.Ytccigpnebejbiaa

/-
  The contracts of the seventh reference: Same, Has, In.
-/
namespace Go.Proofs.Ytccigpnebejbiaa
open Go.RowKit
set_option linter.unusedVariables false
set_option linter.unusedSimpArgs false






theorem cmpQ_le {a b : Rat} : cmpQ a b ≤ 0 ↔ a ≤ b := by unfold cmpQ; grind





end Go.Proofs.Ytccigpnebejbiaa

/-
  The contracts of the seventh reference: Add.
-/
namespace Go.Proofs.Ytccigpnebejbiaa
open Go.RowKit
set_option linter.unusedVariables false
set_option linter.unusedSimpArgs false


end Go.Proofs.Ytccigpnebejbiaa

/-
  The contracts of the eighth reference: Add, Sub, Mul, Div, Scale.
-/
namespace Go.Proofs.Ytccigpnebejbiaa
set_option maxRecDepth 100000
open Go.RowKit
set_option linter.unusedVariables false
set_option linter.unusedSimpArgs false

theorem bak_sz8 {a : Int} (h : I64 a) {k : Nat} (hk : k ≤ 500) : Sz (bak a k) 8 := bak_sz (Nat.le_trans (len_one h.abs) (by omega)) (by omega) hk
theorem of_nought {a : Int} : ((a : Int) : Rat).num = a := rfl



theorem prod_sz {a b : Int} (ha : I64 a) (hb : I64 b) {k : Nat} (hk : k ≤ 40) : Sz (bak a k * bak b k) 15 := by
  have h1 : ∀ {z : Int}, I64 z → Sz (bak z k) 7 := fun {z} h => sz_mk (pow_ne k) (Nat.le_trans (len_one h.abs) (by omega)) (Nat.le_trans (len_one (Nat.lt_of_le_of_lt (Nat.pow_le_pow_right (by omega) hk) (by decide))) (by omega))
  exact ((h1 ha).mul (h1 hb)).le (by omega)






set_option maxRecDepth 100000 in
set_option maxHeartbeats 8000000 in
theorem rscale8_N {w : World} {a b d : Int} (ha : I64 a) (hb : I64 b) (hd : I64 d) (h1 : 1 ≤ d) :
    Calls Try.prog 9 #[.int .i64 a, .int .i64 b, .int .i64 d] w (GotV w (.tuple #[.int .i64 (nI (rn (a * b) d.natAbs)), .int .i64 (nE (rn (a * b) d.natAbs))])) := by
  obtain ⟨q, rfl⟩ : ∃ q : Nat, d = (q : Int) := ⟨d.toNat, by omega⟩
  have sa : Sz ((a : Int) : Rat) 1 := sz_of (len_one ha.abs)
  have sb : Sz ((b : Int) : Rat) 1 := sz_of (len_one hb.abs)
  have sd : Sz (((q : Int) : Int) : Rat) 1 := sz_of (len_one hd.abs)
  have hn : (((q : Int) : Int) : Rat).num ≠ 0 := by show (q : Int) ≠ 0; omega
  have sm := sa.mul sb
  have sv := sm.div sd hn
  obtain ⟨m_, em⟩ : ∃ v, ((a : Int) : Rat) * ((b : Int) : Rat) = v := ⟨_, rfl⟩
  rw [em] at sm sv
  obtain ⟨v, e⟩ : ∃ v, m_ / (((q : Int) : Int) : Rat) = v := ⟨_, rfl⟩
  have eq := nea_scale a b q (by omega)
  rw [em, e] at eq
  rw [e] at sv
  obtain ⟨z, ez⟩ : ∃ z, rn (a * b) q = z := ⟨_, rfl⟩
  rw [ez] at eq
  have t1_ : decide ((q : Int) < 1) = false := decide_eq_false (by omega)
  have hq_ : ((q : Int)).natAbs = q := by omega
  have CN : ∀ {W : World} {b : Bool} {A B : Option Addr} {n c m d : Nat}, Rt W b A n c B m d v → Calls Try.prog 28 #[.agg #[.bool b, .slice A n c, .slice B m d], .int .i64 0] W (GotV W (.tuple #[.int .i64 (nI (z)), .int .i64 (nE (z))])) := fun h => by have k := near_N h (sv.le (by omega)) (j := 0) (by omega) (by omega); rw [show (0 : Int).toNat = 0 from rfl, eq] at k; exact k
  have CM : ∀ {W : World} {b0 : Bool} {A0 B0 : Option Addr} {n0 c0 m0 d0 : Nat} {b1 : Bool} {A1 B1 : Option Addr} {n1 c1 m1 d1 : Nat}, Rt W b0 A0 n0 c0 B0 m0 d0 ((a : Int) : Rat) → Rt W b1 A1 n1 c1 B1 m1 d1 ((b : Int) : Rat) → Calls Try.prog 18 #[.agg #[.bool b0, .slice A0 n0 c0, .slice B0 m0 d0], .agg #[.bool b1, .slice A1 n1 c1, .slice B1 m1 d1]] W (GotRt W m_) := fun h k => by rw [← em]; exact rtmul_N h (sa.le (by omega)) k (sb.le (by omega))
  obtain ⟨rq, eqq⟩ : ∃ r, (((q : Int) : Int) : Rat) = r := ⟨_, rfl⟩
  have CQ : ∀ W : World, Calls Try.prog 27 #[.int .i64 (q : Int)] W (GotRt W rq) := fun W => by rw [← eqq]; exact rtof_N W _ hd
  rw [eqq] at sd hn e
  have CO : ∀ {W : World} {b0 : Bool} {A0 B0 : Option Addr} {n0 c0 m0 d0 : Nat} {b1 : Bool} {A1 B1 : Option Addr} {n1 c1 m1 d1 : Nat}, Rt W b0 A0 n0 c0 B0 m0 d0 m_ → Rt W b1 A1 n1 c1 B1 m1 d1 rq → Calls Try.prog 19 #[.agg #[.bool b0, .slice A0 n0 c0, .slice B0 m0 d0], .agg #[.bool b1, .slice A1 n1 c1, .slice B1 m1 d1]] W (GotRp W v 0) := fun h k => by rw [← e]; exact rtdiv_N h (sm.le (by omega)) k (sd.le (by omega)) hn
  rw [hq_, ez]
  clear e em ez eq hn eqq hq_
  have cc := Below.refl w.heap.size w
  go_enter Try.func9, Try.ntmps9
  go_wp2_with fail
  refine (rtof_N _ a ha).mono ?_
  rintro e w1 ⟨bx, Ax, nx, cx, Bx, mx, dx, rfl, hx, b⟩
  replace cc := bK cc b
  clear b
  go_wp2_with fail
  refine (rtof_N _ b hb).mono ?_
  rintro e w2 ⟨bz, Az, nz, cz, Bz, mz, dz, rfl, hz, b⟩
  replace hx := hx.on b
  replace cc := bK cc b
  clear b
  go_wp2_with fail
  refine (CM hx hz).mono ?_
  rintro e w3 ⟨bu, Au, nu, cu, Bu, mu, du, rfl, hu, b⟩
  replace hx := hx.on b
  replace hz := hz.on b
  replace cc := bK cc b
  clear b
  go_wp2_with fail
  refine (CQ _).mono ?_
  rintro e w4 ⟨be, Ae, ne, ce, Be, me, de, rfl, he, b⟩
  replace hx := hx.on b
  replace hz := hz.on b
  replace hu := hu.on b
  replace cc := bK cc b
  clear b
  go_wp2_with fail
  refine (CO hu he).mono ?_
  rintro e w5 ⟨bk, Ak, nk, ck, Bk, mk, dk, rfl, hk, b⟩
  replace hx := hx.on b
  replace hz := hz.on b
  replace hu := hu.on b
  replace he := he.on b
  replace cc := bK cc b
  clear b
  go_wp2_with fail
  have bA := below_one w5 (.cells #[.bool bk, .slice Ak nk ck, .slice Bk mk dk] 35)
  replace hx := hx.on bA
  replace hz := hz.on bA
  replace hu := hu.on bA
  replace he := he.on bA
  replace hk := hk.on bA
  replace cc := bK cc bA
  clear bA
  have xq0 : (w5.alloc (.cells #[.bool bk, .slice Ak nk ck, .slice Bk mk dk] 35)).cell? ⟨w5.heap.size, 0, none⟩ = some (.bool bk) := by simp [go_sem]
  have xq1 : (w5.alloc (.cells #[.bool bk, .slice Ak nk ck, .slice Bk mk dk] 35)).cell? ⟨w5.heap.size, 1, none⟩ = some (.slice Ak nk ck) := by simp [go_sem]
  have xq2 : (w5.alloc (.cells #[.bool bk, .slice Ak nk ck, .slice Bk mk dk] 35)).cell? ⟨w5.heap.size, 2, none⟩ = some (.slice Bk mk dk) := by simp [go_sem]
  have xql : w5.heap.size < (w5.alloc (.cells #[.bool bk, .slice Ak nk ck, .slice Bk mk dk] 35)).heap.size := by simp
  generalize w5.alloc (.cells #[.bool bk, .slice Ak nk ck, .slice Bk mk dk] 35) = v6 at *
  go_wp2_with fail
  refine (CN hk).mono ?_
  rintro e w7 ⟨rfl, b⟩
  replace hx := hx.on b
  replace hz := hz.on b
  replace hu := hu.on b
  replace he := he.on b
  replace hk := hk.on b
  replace xq0 := cK b xq0 xql
  replace xq1 := cK b xq1 xql
  replace xq2 := cK b xq2 xql
  replace xql := lK b xql
  replace cc := bK cc b
  clear b
  go_wp2_with fail
  go_ret2
  exact ⟨rfl, cc⟩

set_option maxRecDepth 100000 in
set_option maxHeartbeats 8000000 in
theorem rscale8_no {w : World} {a b d : Int} (h : d < 1) :
    Calls Try.prog 9 #[.int .i64 a, .int .i64 b, .int .i64 d] w (GotV w (.tuple #[.int .i64 (0), .int .i64 (1)])) := by
  have t1_ : decide (d < 1) = true := decide_eq_true h
  have cc := Below.refl w.heap.size w
  go_enter Try.func9, Try.ntmps9
  go_wp2_with fail
  go_wp2_with fail
  go_ret2
  exact ⟨rfl, cc⟩

end Go.Proofs.Ytccigpnebejbiaa

/-
  Plain arithmetic of powers and roots.
-/
namespace Go.Proofs.Ytccigpnebejbiaa

/-- The greatest number up to n whose power of k is at most x. -/
def irootTo (k x : Nat) : Nat → Nat
  | 0 => 0
  | n + 1 => if (n + 1) ^ k ≤ x then n + 1 else irootTo k x n
/-- A root, down. -/
def iroot (k x : Nat) : Nat := irootTo k x x
/-- A root, up. -/
def uroot (k x : Nat) : Nat := if iroot k x ^ k = x then iroot k x else iroot k x + 1

theorem irootTo_pow {k x : Nat} (hk : k ≠ 0) (n : Nat) : irootTo k x n ^ k ≤ x := by
  induction n with
  | zero => unfold irootTo; rw [Nat.zero_pow (by omega)]; omega
  | succ n ih =>
    unfold irootTo
    split
    · assumption
    · exact ih
theorem le_irootTo {k x r : Nat} (n : Nat) (hr : r ≤ n) (h : r ^ k ≤ x) : r ≤ irootTo k x n := by
  induction n with
  | zero => omega
  | succ n ih =>
    unfold irootTo
    split
    · exact hr
    · rename_i hn
      rcases Nat.lt_or_ge n r with h1 | h1
      · have : r = n + 1 := by omega
        subst this; exact absurd h hn
      · exact ih h1
theorem self_le_pow {k : Nat} (r : Nat) (hk : k ≠ 0) : r ≤ r ^ k := Nat.le_self_pow hk r
theorem pow_le {a b : Nat} (k : Nat) (h : a ≤ b) : a ^ k ≤ b ^ k := Nat.pow_le_pow_left h k
theorem pow_lt {a b k : Nat} (hk : k ≠ 0) (h : a < b) : a ^ k < b ^ k := Nat.pow_lt_pow_left h hk
/-- A number is at most the root just if its power is at most the number. -/
theorem le_iroot {k x r : Nat} (hk : k ≠ 0) : r ≤ iroot k x ↔ r ^ k ≤ x := by
  constructor
  · intro h
    exact Nat.le_trans (pow_le k h) (irootTo_pow hk x)
  · intro h
    exact le_irootTo x (Nat.le_trans (self_le_pow r hk) h) h
theorem iroot_pow {k : Nat} (x : Nat) (hk : k ≠ 0) : iroot k x ^ k ≤ x := irootTo_pow hk x
theorem lt_iroot {k : Nat} (x : Nat) (hk : k ≠ 0) : x < (iroot k x + 1) ^ k := by
  rcases Nat.lt_or_ge x ((iroot k x + 1) ^ k) with h | h
  · exact h
  · have := (le_iroot hk).2 h; omega
theorem iroot_eq {k x r : Nat} (hk : k ≠ 0) (h1 : r ^ k ≤ x) (h2 : x < (r + 1) ^ k) : iroot k x = r := by
  have a := (le_iroot hk).2 h1
  rcases Nat.lt_or_ge r (iroot k x) with h | h
  · have := (le_iroot (x := x) (r := r + 1) hk).1 h; omega
  · omega
theorem uroot_le {k x r : Nat} (hk : k ≠ 0) : uroot k x ≤ r ↔ x ≤ r ^ k := by
  unfold uroot
  have h1 := iroot_pow x hk
  have h2 := lt_iroot x hk
  split
  · rename_i e
    constructor
    · intro h
      rw [← e]; exact pow_le k h
    · intro h
      rcases Nat.lt_or_ge r (iroot k x) with h3 | h3
      · have := pow_lt hk h3; omega
      · exact h3
  · rename_i e
    constructor
    · intro h
      have := pow_le k h; omega
    · intro h
      rcases Nat.lt_or_ge (iroot k x) r with h3 | h3
      · exact h3
      · have := pow_le k h3; omega
theorem iroot_le {k : Nat} (x : Nat) (hk : k ≠ 0) : iroot k x ≤ x := Nat.le_trans (self_le_pow _ hk) (iroot_pow x hk)
theorem uroot_le_self {k : Nat} (x : Nat) (hk : k ≠ 0) : uroot k x ≤ x := (uroot_le hk).2 (self_le_pow x hk)

/-- P3.3: the root of a power. -/
theorem iroot_of_pow {k : Nat} (a : Nat) (hk : k ≠ 0) : iroot k (a ^ k) = a := iroot_eq hk (Nat.le_refl _) (pow_lt hk (Nat.lt_succ_self a))
theorem uroot_of_pow {k : Nat} (a : Nat) (hk : k ≠ 0) : uroot k (a ^ k) = a := by unfold uroot; rw [iroot_of_pow a hk, if_pos rfl]
theorem iroot_pred {k a : Nat} (hk : k ≠ 0) (ha : a ≠ 0) : iroot k (a ^ k - 1) = a - 1 := by
  have h1 := pow_lt hk (show a - 1 < a by omega)
  refine iroot_eq hk (by omega) ?_
  rw [Nat.sub_add_cancel (by omega)]
  omega
theorem uroot_pred {k a : Nat} (hk : 2 ≤ k) (ha : 2 ≤ a) : uroot k (a ^ k - 1) = a := by
  unfold uroot
  rw [iroot_pred (by omega) (by omega), if_neg, Nat.sub_add_cancel (by omega)]
  obtain ⟨b, rfl⟩ : ∃ b, a = b + 1 := ⟨a - 1, by omega⟩
  rw [Nat.add_sub_cancel]
  obtain ⟨j, rfl⟩ : ∃ j, k = j + 1 := ⟨k - 1, by omega⟩
  have h1 : b ^ j * 1 ≤ (b + 1) ^ j * 1 := Nat.mul_le_mul_right _ (pow_le j (by omega))
  have h2 : (b + 1) ^ (j + 1) = (b + 1) ^ j * b + (b + 1) ^ j := by rw [Nat.pow_succ, Nat.mul_add, Nat.mul_one]
  have h3 : b ^ (j + 1) ≤ (b + 1) ^ j * b := by rw [Nat.pow_succ]; exact Nat.mul_le_mul_right _ (pow_le j (by omega))
  have h4 : 1 < (b + 1) ^ j := Nat.one_lt_pow (by omega) (by omega)
  omega
theorem uroot_zero {k : Nat} (hk : k ≠ 0) : uroot k 0 = 0 := by
  have := uroot_le_self 0 hk; omega
theorem iroot_mono {k a b : Nat} (hk : k ≠ 0) (h : a ≤ b) : iroot k a ≤ iroot k b := (le_iroot hk).2 (Nat.le_trans (iroot_pow a hk) h)
theorem iroot_higher {k : Nat} (a : Nat) (hk : k ≠ 0) : iroot (k + 1) a ≤ iroot k a := by
  refine (le_iroot hk).2 ?_
  have h := iroot_pow a (k := k + 1) (by omega)
  rcases Nat.eq_zero_or_pos (iroot (k + 1) a) with h0 | h0
  · rw [h0, Nat.zero_pow (by omega)]; omega
  · exact Nat.le_trans (Nat.pow_le_pow_right h0 (by omega)) h
theorem iroot_one (a : Nat) : iroot 1 a = a := iroot_eq (by omega) (by rw [Nat.pow_one]; omega) (by rw [Nat.pow_one]; omega)
theorem iroot_iroot {k n : Nat} (a : Nat) (hk : k ≠ 0) (hn : n ≠ 0) : iroot n (iroot k a) = iroot (k * n) a := by
  have hkn : k * n ≠ 0 := Nat.mul_ne_zero hk hn
  have key : ∀ r, r ≤ iroot n (iroot k a) ↔ r ≤ iroot (k * n) a := fun r => by
    rw [le_iroot hn, le_iroot hk, le_iroot hkn, ← Nat.pow_mul, Nat.mul_comm n k]
  exact Nat.le_antisymm ((key _).1 (Nat.le_refl _)) ((key _).2 (Nat.le_refl _))
theorem iroot_mul {k : Nat} (a b : Nat) (hk : k ≠ 0) : iroot k a * iroot k b ≤ iroot k (a * b) := by
  rw [le_iroot hk, Nat.mul_pow]
  exact Nat.mul_le_mul (iroot_pow a hk) (iroot_pow b hk)
theorem le_uroot_pow {k : Nat} (x : Nat) (hk : k ≠ 0) : x ≤ uroot k x ^ k := (uroot_le hk).1 (Nat.le_refl _)
theorem uroot_mul {k : Nat} (a b : Nat) (hk : k ≠ 0) : uroot k (a * b) ≤ uroot k a * uroot k b := by
  rw [uroot_le hk, Nat.mul_pow]
  exact Nat.mul_le_mul (le_uroot_pow a hk) (le_uroot_pow b hk)

theorem limbs_length_pow {a m : Nat} (h : (limbs a).length ≤ m) (k : Nat) : (limbs (a ^ k)).length ≤ m * k + 1 := by
  refine Nat.le_trans (limbs_length_le (n := a ^ k) (k := m * k + 1) ?_) (Nat.le_refl _)
  have h1 : a ^ k ≤ (B64 ^ m) ^ k := pow_le k (Nat.le_of_lt (lt_of_limbs_length h))
  rw [← Nat.pow_mul] at h1
  have h2 : B64 ^ (m * k) < B64 ^ (m * k + 1) := Nat.pow_lt_pow_right B64_gt (Nat.lt_succ_self _)
  omega

/-- The reference's loop: its start, a step, its end. -/
theorem root_start {a b k : Nat} (hk : k ≠ 0) (ha : a < 2 ^ b) : a < (0 + 2 ^ (b / k + 1)) ^ k := by
  rw [Nat.zero_add, ← Nat.pow_mul]
  refine Nat.lt_of_lt_of_le ha (Nat.pow_le_pow_right (by omega) ?_)
  have := Nat.div_add_mod b k
  have := Nat.mod_lt b (show k > 0 by omega)
  rw [Nat.add_mul, Nat.one_mul, Nat.mul_comm (b / k)]
  omega
theorem root_step {out i : Nat} : out + 2 ^ (i + 1) = out + 2 ^ i + 2 ^ i := by rw [Nat.pow_succ]; omega

end Go.Proofs.Ytccigpnebejbiaa
