/-
  The walk of FixOrder.
-/
import Derived.Test.YtccigpnebejbiaaA10
import Derived.Test.YtccigpnebejbiaaA3
namespace Go.Proofs.Ytccigpnebejbiaa
set_option maxRecDepth 100000
open Go.RowKit
set_option linter.unusedVariables false
set_option linter.unusedSimpArgs false

theorem rel_le {x y : Int} (h : x ≤ y) : nE x = 2 ∨ (nE x = 0 ∧ nE y = 2) ∨ (nE x = 0 ∧ nE y = 0 ∧ decide (nI y < nI x) = false) := by
  by_cases hx : I64 x
  · by_cases hy : I64 y
    · rw [(nI_yes hx).1, (nI_yes hx).2, (nI_yes hy).1, (nI_yes hy).2]; exact Or.inr (Or.inr ⟨rfl, rfl, decide_eq_false (by omega)⟩)
    · exact Or.inr (Or.inl ⟨(nI_yes hx).2, (nI_no hy).2⟩)
  · exact Or.inl (nI_no hx).2
theorem rel_add {a b c : Int} (h : a ≤ b) : nE (a + c) = 2 ∨ (nE (a + c) = 0 ∧ nE (b + c) = 2) ∨ (nE (a + c) = 0 ∧ nE (b + c) = 0 ∧ ((decide (nI (b + c) ≤ nI (a + c)) = false) ∨ (decide (nI (b + c) ≤ nI (a + c)) = true ∧ decide (a < b) = false))) := by
  by_cases hx : I64 (a + c)
  · by_cases hy : I64 (b + c)
    · rw [(nI_yes hx).1, (nI_yes hx).2, (nI_yes hy).1, (nI_yes hy).2]
      refine Or.inr (Or.inr ⟨rfl, rfl, ?_⟩)
      by_cases e : a < b
      · exact Or.inl (decide_eq_false (by omega))
      · exact Or.inr ⟨decide_eq_true (by omega), decide_eq_false e⟩
    · exact Or.inr (Or.inl ⟨(nI_yes hx).2, (nI_no hy).2⟩)
  · exact Or.inl (nI_no hx).2

theorem and31 (d : Int) : 0 ≤ bits .and .i64 d 31 ∧ bits .and .i64 d 31 ≤ 31 := by
  have h : (BitVec.ofInt 64 d &&& BitVec.ofInt 64 31).toNat ≤ 31 := by rw [BitVec.toNat_and]; exact Nat.and_le_right
  have e : bits .and .i64 d 31 = IntKind.i64.wrap ((BitVec.ofInt 64 d &&& BitVec.ofInt 64 31).toNat : Int) := rfl
  rw [e, IntWalk.i64_in _ (by omega)]
  omega

set_option maxRecDepth 100000 in
set_option maxHeartbeats 8000000 in
theorem FixOrder_gt {w : World} {a b c d : Int} (h : b < a) :
    Calls Try.prog 5 #[.int .i64 a, .int .i64 b, .agg #[.int .i64 c, .int .i64 d]] w (fun e w' => e = .returned (.bool true) ∧ Below w.heap.size w w') := by
  obtain ⟨j, hj⟩ : ∃ j, bits .and .i64 d 31 = j := ⟨_, rfl⟩
  have t1 : decide (b < a) = true := decide_eq_true h
  have cc := Below.refl w.heap.size w
  go_enter Try.func5, Try.ntmps5
  go_wp2_with fail
  have bA : Below w.heap.size w (w.alloc (.cells #[.int .i64 c, .int .i64 d] 22)) := ((Below.refl _ w).alloc (by simp) _)
  replace cc := bK cc bA
  clear bA
  have pw0 : (w.alloc (.cells #[.int .i64 c, .int .i64 d] 22)).cell? ⟨w.heap.size, 0, none⟩ = some (.int .i64 c) := by simp [go_sem]
  have pw1 : (w.alloc (.cells #[.int .i64 c, .int .i64 d] 22)).cell? ⟨w.heap.size, 1, none⟩ = some (.int .i64 d) := by simp [go_sem]
  have pwl : w.heap.size < (w.alloc (.cells #[.int .i64 c, .int .i64 d] 22)).heap.size := by simp <;> omega
  generalize w.alloc (.cells #[.int .i64 c, .int .i64 d] 22) = v1 at *
  go_wp2_with fail
  have qq : Below v1.heap.size v1 v1.drew := below_drewN (Below.refl _ v1) 1
  go_region_held3 (fun w' => w'.cell? ⟨w.heap.size, 0, none⟩ = some (.int .i64 c) ∧ w'.cell? ⟨w.heap.size, 1, none⟩ = some (.int .i64 d))
    (first | with_reducible exact ⟨cK qq pw0 pwl, cK qq pw1 pwl⟩ | go_keep)
    (first
      | fail)
  replace pw0 := cK qq pw0 pwl
  replace pw1 := cK qq pw1 pwl
  replace pwl := lK qq pwl
  replace cc := bK cc qq
  clear qq
  go_wp2_with fail
  refine (alive8_any _).mono ?_
  rintro e w2 ⟨rfl, b⟩
  replace pw0 := cK b pw0 pwl
  replace pw1 := cK b pw1 pwl
  replace pwl := lK b pwl
  replace cc := bK cc b
  clear b
  go_wp2_with fail
  go_ret
  exact ⟨rfl, cc⟩

set_option maxRecDepth 100000 in
set_option maxHeartbeats 8000000 in
theorem FixOrder_low {w : World} {a b c d : Int} (h0 : ¬ b < a) (h : c ≤ 0) :
    Calls Try.prog 5 #[.int .i64 a, .int .i64 b, .agg #[.int .i64 c, .int .i64 d]] w (fun e w' => e = .returned (.bool true) ∧ Below w.heap.size w w') := by
  obtain ⟨j, hj⟩ : ∃ j, bits .and .i64 d 31 = j := ⟨_, rfl⟩
  have t1 : decide (b < a) = false := decide_eq_false h0
  have t2 : decide (c ≤ 0) = true := decide_eq_true h
  have cc := Below.refl w.heap.size w
  go_enter Try.func5, Try.ntmps5
  go_wp2_with fail
  have bA : Below w.heap.size w (w.alloc (.cells #[.int .i64 c, .int .i64 d] 22)) := ((Below.refl _ w).alloc (by simp) _)
  replace cc := bK cc bA
  clear bA
  have pw0 : (w.alloc (.cells #[.int .i64 c, .int .i64 d] 22)).cell? ⟨w.heap.size, 0, none⟩ = some (.int .i64 c) := by simp [go_sem]
  have pw1 : (w.alloc (.cells #[.int .i64 c, .int .i64 d] 22)).cell? ⟨w.heap.size, 1, none⟩ = some (.int .i64 d) := by simp [go_sem]
  have pwl : w.heap.size < (w.alloc (.cells #[.int .i64 c, .int .i64 d] 22)).heap.size := by simp <;> omega
  generalize w.alloc (.cells #[.int .i64 c, .int .i64 d] 22) = v1 at *
  go_wp2_with fail
  have qq : Below v1.heap.size v1 v1.drew := below_drewN (Below.refl _ v1) 1
  go_region_held3 (fun w' => w'.cell? ⟨w.heap.size, 0, none⟩ = some (.int .i64 c) ∧ w'.cell? ⟨w.heap.size, 1, none⟩ = some (.int .i64 d))
    (first | with_reducible exact ⟨cK qq pw0 pwl, cK qq pw1 pwl⟩ | go_keep)
    (first
      | fail)
  replace pw0 := cK qq pw0 pwl
  replace pw1 := cK qq pw1 pwl
  replace pwl := lK qq pwl
  replace cc := bK cc qq
  clear qq
  go_wp2_with fail
  refine (alive8_any _).mono ?_
  rintro e w2 ⟨rfl, b⟩
  replace pw0 := cK b pw0 pwl
  replace pw1 := cK b pw1 pwl
  replace pwl := lK b pwl
  replace cc := bK cc b
  clear b
  go_wp2_with fail
  go_ret
  exact ⟨rfl, cc⟩

set_option maxRecDepth 100000 in
set_option maxHeartbeats 8000000 in
theorem FixOrder_by {w : World} {a b c d p e q g s h t i u j v k x l y m : Int} (hab : ¬ b < a) (hc : ¬ c ≤ 0) (A0 : ∀ W : World, Calls Try.prog 13 #[.int .i64 a, .int .i64 c, .int .i64 (bits .and .i64 d 31)] W (GotV W (.tuple #[.int .i64 (p), .int .i64 (e)]))) (A1 : ∀ W : World, Calls Try.prog 13 #[.int .i64 b, .int .i64 c, .int .i64 (bits .and .i64 d 31)] W (GotV W (.tuple #[.int .i64 (q), .int .i64 (g)]))) (A2 : ∀ W : World, Calls Try.prog 14 #[.int .i64 a, .int .i64 c, .int .i64 (bits .and .i64 d 31)] W (GotV W (.tuple #[.int .i64 (s), .int .i64 (h)]))) (A3 : ∀ W : World, Calls Try.prog 14 #[.int .i64 b, .int .i64 c, .int .i64 (bits .and .i64 d 31)] W (GotV W (.tuple #[.int .i64 (t), .int .i64 (i)]))) (A4 : ∀ W : World, Calls Try.prog 22 #[.int .i64 a, .int .i64 c] W (GotV W (.tuple #[.int .i64 (u), .int .i64 (j)]))) (A5 : ∀ W : World, Calls Try.prog 22 #[.int .i64 b, .int .i64 c] W (GotV W (.tuple #[.int .i64 (v), .int .i64 (k)]))) (A6 : ∀ W : World, Calls Try.prog 10 #[.int .i64 a, .int .i64 (bits .and .i64 d 31)] W (GotV W (.tuple #[.int .i64 (x), .int .i64 (l)]))) (A7 : ∀ W : World, Calls Try.prog 10 #[.int .i64 b, .int .i64 (bits .and .i64 d 31)] W (GotV W (.tuple #[.int .i64 (y), .int .i64 (m)]))) (K1 : Hid (e = 2 ∨ (e = 0 ∧ g = 2) ∨ (e = 0 ∧ g = 0 ∧ decide (q < p) = false))) (K2 : Hid (h = 2 ∨ (h = 0 ∧ i = 2) ∨ (h = 0 ∧ i = 0 ∧ decide (t < s) = false))) (K3 : Hid (j = 2 ∨ (j = 0 ∧ k = 2) ∨ (j = 0 ∧ k = 0 ∧ (decide (v ≤ u) = false ∨ (decide (v ≤ u) = true ∧ decide (a < b) = false))))) (K4 : Hid ((decide (a < 0) = true ∧ l = 1) ∨ (decide (a < 0) = false ∧ l = 0 ∧ m = 0 ∧ decide (x ≤ y) = true))) :
    Calls Try.prog 5 #[.int .i64 a, .int .i64 b, .agg #[.int .i64 c, .int .i64 d]] w (fun e w' => e = .returned (.bool true) ∧ Below w.heap.size w w') := by
  obtain ⟨f_, hf⟩ : ∃ j, bits .and .i64 d 31 = j := ⟨_, rfl⟩
  rw [hf] at *
  have t1 : decide (b < a) = false := decide_eq_false (by omega)
  have t2 : decide (c ≤ 0) = false := decide_eq_false (by omega)
  have cc := Below.refl w.heap.size w
  go_enter Try.func5, Try.ntmps5
  go_wp2_with fail
  have bA : Below w.heap.size w (w.alloc (.cells #[.int .i64 c, .int .i64 d] 22)) := ((Below.refl _ w).alloc (by simp) _)
  replace cc := bK cc bA
  clear bA
  have pw0 : (w.alloc (.cells #[.int .i64 c, .int .i64 d] 22)).cell? ⟨w.heap.size, 0, none⟩ = some (.int .i64 c) := by simp [go_sem]
  have pw1 : (w.alloc (.cells #[.int .i64 c, .int .i64 d] 22)).cell? ⟨w.heap.size, 1, none⟩ = some (.int .i64 d) := by simp [go_sem]
  have pwl : w.heap.size < (w.alloc (.cells #[.int .i64 c, .int .i64 d] 22)).heap.size := by simp <;> omega
  generalize w.alloc (.cells #[.int .i64 c, .int .i64 d] 22) = v1 at *
  go_wp2_with fail
  have qq : Below v1.heap.size v1 v1.drew := below_drewN (Below.refl _ v1) 1
  go_region_held3 (fun w' => w'.cell? ⟨w.heap.size, 0, none⟩ = some (.int .i64 c) ∧ w'.cell? ⟨w.heap.size, 1, none⟩ = some (.int .i64 d))
    (first | with_reducible exact ⟨cK qq pw0 pwl, cK qq pw1 pwl⟩ | go_keep)
    (first
      | fail)
  replace pw0 := cK qq pw0 pwl
  replace pw1 := cK qq pw1 pwl
  replace pwl := lK qq pwl
  replace cc := bK cc qq
  clear qq
  go_wp2_with fail
  refine (A0 _).mono ?_
  rintro e w2 ⟨rfl, b⟩
  replace pw0 := cK b pw0 pwl
  replace pw1 := cK b pw1 pwl
  replace pwl := lK b pwl
  replace cc := bK cc b
  clear b
  go_wp2_with fail
  refine (A1 _).mono ?_
  rintro e w3 ⟨rfl, b⟩
  replace pw0 := cK b pw0 pwl
  replace pw1 := cK b pw1 pwl
  replace pwl := lK b pwl
  replace cc := bK cc b
  clear b
  go_wp2_with fail
  refine (A2 _).mono ?_
  rintro e w4 ⟨rfl, b⟩
  replace pw0 := cK b pw0 pwl
  replace pw1 := cK b pw1 pwl
  replace pwl := lK b pwl
  replace cc := bK cc b
  clear b
  go_wp2_with fail
  refine (A3 _).mono ?_
  rintro e w5 ⟨rfl, b⟩
  replace pw0 := cK b pw0 pwl
  replace pw1 := cK b pw1 pwl
  replace pwl := lK b pwl
  replace cc := bK cc b
  clear b
  go_wp2_with fail
  refine (A4 _).mono ?_
  rintro e w6 ⟨rfl, b⟩
  replace pw0 := cK b pw0 pwl
  replace pw1 := cK b pw1 pwl
  replace pwl := lK b pwl
  replace cc := bK cc b
  clear b
  go_wp2_with fail
  refine (A5 _).mono ?_
  rintro e w7 ⟨rfl, b⟩
  replace pw0 := cK b pw0 pwl
  replace pw1 := cK b pw1 pwl
  replace pwl := lK b pwl
  replace cc := bK cc b
  clear b
  go_wp2_with fail
  refine (A6 _).mono ?_
  rintro e w8 ⟨rfl, b⟩
  replace pw0 := cK b pw0 pwl
  replace pw1 := cK b pw1 pwl
  replace pwl := lK b pwl
  replace cc := bK cc b
  clear b
  go_wp2_with fail
  refine (A7 _).mono ?_
  rintro e w9 ⟨rfl, b⟩
  replace pw0 := cK b pw0 pwl
  replace pw1 := cK b pw1 pwl
  replace pwl := lK b pwl
  replace cc := bK cc b
  clear b
  have H1 := K1.out
  have H2 := K2.out
  have H3 := K3.out
  have H4 := K4.out
  rcases H1 with rfl | ⟨rfl, rfl⟩ | ⟨rfl, rfl, h1⟩ <;> rcases H2 with rfl | ⟨rfl, rfl⟩ | ⟨rfl, rfl, h2⟩ <;> rcases H3 with rfl | ⟨rfl, rfl⟩ | ⟨rfl, rfl, h3 | ⟨h3, h4⟩⟩ <;> go_wp2_with fail
  all_goals
    refine (alive8_any _).mono ?_
    rintro e w9 ⟨rfl, b⟩
    replace cc := bK cc b
    clear b
    rcases H4 with ⟨h5, rfl⟩ | ⟨h5, rfl, rfl, h6⟩ <;> (go_wp2_with fail; go_ret; exact ⟨rfl, cc⟩)

end Go.Proofs.Ytccigpnebejbiaa
