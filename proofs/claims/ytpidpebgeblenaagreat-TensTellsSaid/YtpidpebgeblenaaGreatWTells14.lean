/-
  The walk of TensTells.
-/
import Derived.Test.YtpidpebgeblenaaGreatL14
import Derived.Test.YtpidpebgeblenaaGreatA3
namespace Go.Proofs.YtpidpebgeblenaaGreat
set_option maxRecDepth 100000
set_option maxHeartbeats 8000000
open Go.RowKit
set_option linter.unusedVariables false
set_option linter.unusedSimpArgs false

theorem rsame9_self14 {w : World} {A B : Option Addr} {n c m d : Nat} {L : List Int} (hA : IR w A n c L) (hB : IR w B m d L) (hn : n ≤ 9223372036854775807) : Calls Tryz.prog 16 #[.slice A n c, .slice B m d] w (GotV w (.bool true)) := by
  have h := rsame9_any hA hB hn
  rw [decide_eq_true rfl] at h
  exact h
theorem okS_blocks {kk ks km ko lg : Int} {L : List Bk} (h : OkS kk ks km ko lg L) : L.length ≤ 4096 ∧ ∀ j, j < L.length → OkX (L[j]?.getD bk0) := by
  obtain ⟨hK, h1, h2, h3⟩ := h
  have hs := hK.2.1.1
  refine ⟨?_, fun j hj => ?_⟩
  · have h4 : (lg + ks - 1) / ks ≤ lg := by
      rcases Int.lt_or_le 0 lg with hp | hp
      · have h5 : lg + ks - 1 ≤ lg * ks + (ks - 1) := by
          have := Int.mul_le_mul_of_nonneg_left hs (Int.le_of_lt hp)
          rw [Int.mul_one] at this
          omega
        have h6 : lg + ks - 1 < (lg + 1) * ks := by rw [Int.add_mul, Int.one_mul]; omega
        have := Int.ediv_lt_of_lt_mul (by omega) h6
        omega
      · have : lg = 0 := by omega
        subst this
        rw [Int.zero_add, Int.ediv_eq_zero_of_lt (by omega) (by omega)]
        exact Int.le_refl _
    omega
  · exact (of_decide_eq_true (List.all_eq_true.1 h3 j (List.mem_range.2 hj))).1
theorem okS_load {kk ks km ko lg : Int} {L : List Bk} (h : OkS kk ks km ko lg L) : (ldS L L.length).length ≤ 9223372036854775807 := by
  have h1 := okS_blocks h
  have h2 := ldS_len h1.2 L.length (Nat.le_refl _)
  have : 4096 * L.length ≤ 4096 * 4096 := Nat.mul_le_mul_left _ h1.1
  omega

theorem TensTells_fa {w : World} {kka ksa kma koa lga : Int} {Aa : Option Addr} {na ca : Nat} {La : List Bk} {kkb ksb kmb kob lgb : Int} {Ab : Option Addr} {nb cb : Nat} {Lb : List Bk} (hAa : KR w Aa na ca La) (hAb : KR w Ab nb cb Lb) (Fa : ∀ {W : World}, KR W Aa na ca La → Calls Tryz.prog 6 #[.agg #[.int .i64 kka, .int .i64 ksa, .int .i64 kma, .int .i64 koa, .int .i64 lga, .slice Aa na ca], .int .i64 24] W (GotV W (.bool false))) :
    Calls Tryz.prog 3 #[.agg #[.int .i64 kka, .int .i64 ksa, .int .i64 kma, .int .i64 koa, .int .i64 lga, .slice Aa na ca], .agg #[.int .i64 kkb, .int .i64 ksb, .int .i64 kmb, .int .i64 kob, .int .i64 lgb, .slice Ab nb cb]] w fun e w' => e = .returned (.bool true) ∧ Below w.heap.size w w' := by
  have cc := Below.refl w.heap.size w
  go_enter Tryz.func3, Tryz.ntmps3
  go_wp2_with fail
  generalize hv_ : (w.alloc (.cells #[.int .i64 kka, .int .i64 ksa, .int .i64 kma, .int .i64 koa, .int .i64 lga, .slice Aa na ca] 26)).alloc (.cells #[.int .i64 kkb, .int .i64 ksb, .int .i64 kmb, .int .i64 kob, .int .i64 lgb, .slice Ab nb cb] 26) = v1
  have bA : Below w.heap.size w v1 := by rw [← hv_]; exact (((Below.refl _ w).alloc (by simp) _).alloc (by simp) _)
  replace hAa := hAa.on bA
  replace hAb := hAb.on bA
  replace cc := bK cc bA
  clear bA
  obtain ⟨xa0, xa1, xa2, xa3, xa4, xa5⟩ : Cs6 v1 w.heap.size (.int .i64 kka) (.int .i64 ksa) (.int .i64 kma) (.int .i64 koa) (.int .i64 lga) (.slice Aa na ca) := by simp [Cs6, ← hv_, go_sem]
  have xal : w.heap.size < v1.heap.size := by simp [← hv_] <;> omega
  obtain ⟨xb0, xb1, xb2, xb3, xb4, xb5⟩ : Cs6 v1 (w.heap.size + 1) (.int .i64 kkb) (.int .i64 ksb) (.int .i64 kmb) (.int .i64 kob) (.int .i64 lgb) (.slice Ab nb cb) := by simp [Cs6, ← hv_, go_sem]
  have xbl : w.heap.size + 1 < v1.heap.size := by simp [← hv_] <;> omega
  clear hv_
  go_wp2_with fail
  refine (Fa hAa).mono ?_
  rintro e w2 ⟨rfl, b⟩
  replace hAa := hAa.on b
  replace hAb := hAb.on b
  rewrite [cR b xal] at xa0 xa1 xa2 xa3 xa4 xa5
  replace xal := lK b xal
  rewrite [cR b xbl] at xb0 xb1 xb2 xb3 xb4 xb5
  replace xbl := lK b xbl
  replace cc := bK cc b
  clear b
  go_wp2_with fail
  refine (alive14_any _).mono ?_
  rintro e w3 ⟨rfl, b⟩
  replace hAa := hAa.on b
  replace hAb := hAb.on b
  rewrite [cR b xal] at xa0 xa1 xa2 xa3 xa4 xa5
  replace xal := lK b xal
  rewrite [cR b xbl] at xb0 xb1 xb2 xb3 xb4 xb5
  replace xbl := lK b xbl
  replace cc := bK cc b
  clear b
  go_wp2_with fail
  go_ret
  exact ⟨rfl, cc⟩

theorem TensTells_fb {w : World} {kka ksa kma koa lga : Int} {Aa : Option Addr} {na ca : Nat} {La : List Bk} {kkb ksb kmb kob lgb : Int} {Ab : Option Addr} {nb cb : Nat} {Lb : List Bk} (hAa : KR w Aa na ca La) (hAb : KR w Ab nb cb Lb) (Fa : ∀ {W : World}, KR W Aa na ca La → Calls Tryz.prog 6 #[.agg #[.int .i64 kka, .int .i64 ksa, .int .i64 kma, .int .i64 koa, .int .i64 lga, .slice Aa na ca], .int .i64 24] W (GotV W (.bool true))) (Fb : ∀ {W : World}, KR W Ab nb cb Lb → Calls Tryz.prog 6 #[.agg #[.int .i64 kkb, .int .i64 ksb, .int .i64 kmb, .int .i64 kob, .int .i64 lgb, .slice Ab nb cb], .int .i64 24] W (GotV W (.bool false))) :
    Calls Tryz.prog 3 #[.agg #[.int .i64 kka, .int .i64 ksa, .int .i64 kma, .int .i64 koa, .int .i64 lga, .slice Aa na ca], .agg #[.int .i64 kkb, .int .i64 ksb, .int .i64 kmb, .int .i64 kob, .int .i64 lgb, .slice Ab nb cb]] w fun e w' => e = .returned (.bool true) ∧ Below w.heap.size w w' := by
  have cc := Below.refl w.heap.size w
  go_enter Tryz.func3, Tryz.ntmps3
  go_wp2_with fail
  generalize hv_ : (w.alloc (.cells #[.int .i64 kka, .int .i64 ksa, .int .i64 kma, .int .i64 koa, .int .i64 lga, .slice Aa na ca] 26)).alloc (.cells #[.int .i64 kkb, .int .i64 ksb, .int .i64 kmb, .int .i64 kob, .int .i64 lgb, .slice Ab nb cb] 26) = v1
  have bA : Below w.heap.size w v1 := by rw [← hv_]; exact (((Below.refl _ w).alloc (by simp) _).alloc (by simp) _)
  replace hAa := hAa.on bA
  replace hAb := hAb.on bA
  replace cc := bK cc bA
  clear bA
  obtain ⟨xa0, xa1, xa2, xa3, xa4, xa5⟩ : Cs6 v1 w.heap.size (.int .i64 kka) (.int .i64 ksa) (.int .i64 kma) (.int .i64 koa) (.int .i64 lga) (.slice Aa na ca) := by simp [Cs6, ← hv_, go_sem]
  have xal : w.heap.size < v1.heap.size := by simp [← hv_] <;> omega
  obtain ⟨xb0, xb1, xb2, xb3, xb4, xb5⟩ : Cs6 v1 (w.heap.size + 1) (.int .i64 kkb) (.int .i64 ksb) (.int .i64 kmb) (.int .i64 kob) (.int .i64 lgb) (.slice Ab nb cb) := by simp [Cs6, ← hv_, go_sem]
  have xbl : w.heap.size + 1 < v1.heap.size := by simp [← hv_] <;> omega
  clear hv_
  go_wp2_with fail
  refine (Fa hAa).mono ?_
  rintro e w2 ⟨rfl, b⟩
  replace hAa := hAa.on b
  replace hAb := hAb.on b
  rewrite [cR b xal] at xa0 xa1 xa2 xa3 xa4 xa5
  replace xal := lK b xal
  rewrite [cR b xbl] at xb0 xb1 xb2 xb3 xb4 xb5
  replace xbl := lK b xbl
  replace cc := bK cc b
  clear b
  go_wp2_with fail
  refine (Fb hAb).mono ?_
  rintro e w3 ⟨rfl, b⟩
  replace hAa := hAa.on b
  replace hAb := hAb.on b
  rewrite [cR b xal] at xa0 xa1 xa2 xa3 xa4 xa5
  replace xal := lK b xal
  rewrite [cR b xbl] at xb0 xb1 xb2 xb3 xb4 xb5
  replace xbl := lK b xbl
  replace cc := bK cc b
  clear b
  go_wp2_with fail
  refine (alive14_any _).mono ?_
  rintro e w4 ⟨rfl, b⟩
  replace hAa := hAa.on b
  replace hAb := hAb.on b
  rewrite [cR b xal] at xa0 xa1 xa2 xa3 xa4 xa5
  replace xal := lK b xal
  rewrite [cR b xbl] at xb0 xb1 xb2 xb3 xb4 xb5
  replace xbl := lK b xbl
  replace cc := bK cc b
  clear b
  go_wp2_with fail
  go_ret
  exact ⟨rfl, cc⟩

theorem TensTells_no {w : World} {kka ksa kma koa lga : Int} {Aa : Option Addr} {na ca : Nat} {La : List Bk} {kkb ksb kmb kob lgb : Int} {Ab : Option Addr} {nb cb : Nat} {Lb : List Bk} (hAa : KR w Aa na ca La) (hAb : KR w Ab nb cb Lb) {v u : Bool} {q : Int} (Fa : ∀ {W : World}, KR W Aa na ca La → Calls Tryz.prog 6 #[.agg #[.int .i64 kka, .int .i64 ksa, .int .i64 kma, .int .i64 koa, .int .i64 lga, .slice Aa na ca], .int .i64 24] W (GotV W (.bool true))) (Fb : ∀ {W : World}, KR W Ab nb cb Lb → Calls Tryz.prog 6 #[.agg #[.int .i64 kkb, .int .i64 ksb, .int .i64 kmb, .int .i64 kob, .int .i64 lgb, .slice Ab nb cb], .int .i64 24] W (GotV W (.bool true))) (R0 : ∀ {W : World}, KR W Aa na ca La → Calls Tryz.prog 8 #[.agg #[.int .i64 kka, .int .i64 ksa, .int .i64 kma, .int .i64 koa, .int .i64 lga, .slice Aa na ca]] W (GotV W (.bool false))) (M0 : ∀ W : World, Calls Tryz.prog 9 #[.agg #[.int .i64 kka, .int .i64 ksa, .int .i64 kma, .int .i64 koa]] W (GotV W (.bool v))) (M1 : ∀ W : World, Calls Tryz.prog 10 #[.agg #[.int .i64 kka, .int .i64 ksa, .int .i64 kma, .int .i64 koa]] W (GotV W (.bool v))) (R1 : ∀ {W : World}, KR W Aa na ca La → Calls Tryz.prog 11 #[.agg #[.int .i64 kka, .int .i64 ksa, .int .i64 kma, .int .i64 koa, .int .i64 lga, .slice Aa na ca]] W (GotV W (.bool false))) (S0 : ∀ {W : World}, KR W Aa na ca La → KR W Ab nb cb Lb → Calls Tryz.prog 12 #[.agg #[.int .i64 kka, .int .i64 ksa, .int .i64 kma, .int .i64 koa, .int .i64 lga, .slice Aa na ca], .agg #[.int .i64 kkb, .int .i64 ksb, .int .i64 kmb, .int .i64 kob, .int .i64 lgb, .slice Ab nb cb]] W (GotV W (.bool u))) (S1 : ∀ {W : World}, KR W Aa na ca La → KR W Ab nb cb Lb → Calls Tryz.prog 13 #[.agg #[.int .i64 kka, .int .i64 ksa, .int .i64 kma, .int .i64 koa, .int .i64 lga, .slice Aa na ca], .agg #[.int .i64 kkb, .int .i64 ksb, .int .i64 kmb, .int .i64 kob, .int .i64 lgb, .slice Ab nb cb]] W (GotV W (.bool u))) (K0 : ∀ {W : World}, KR W Aa na ca La → Calls Tryz.prog 14 #[.agg #[.int .i64 kka, .int .i64 ksa, .int .i64 kma, .int .i64 koa, .int .i64 lga, .slice Aa na ca]] W (GotV W (.int .i64 q))) (K1 : ∀ {W : World}, KR W Aa na ca La → Calls Tryz.prog 15 #[.agg #[.int .i64 kka, .int .i64 ksa, .int .i64 kma, .int .i64 koa, .int .i64 lga, .slice Aa na ca]] W (GotV W (.int .i64 q))) :
    Calls Tryz.prog 3 #[.agg #[.int .i64 kka, .int .i64 ksa, .int .i64 kma, .int .i64 koa, .int .i64 lga, .slice Aa na ca], .agg #[.int .i64 kkb, .int .i64 ksb, .int .i64 kmb, .int .i64 kob, .int .i64 lgb, .slice Ab nb cb]] w fun e w' => e = .returned (.bool true) ∧ Below w.heap.size w w' := by
  have cc := Below.refl w.heap.size w
  go_enter Tryz.func3, Tryz.ntmps3
  go_wp2_with fail
  generalize hv_ : (w.alloc (.cells #[.int .i64 kka, .int .i64 ksa, .int .i64 kma, .int .i64 koa, .int .i64 lga, .slice Aa na ca] 26)).alloc (.cells #[.int .i64 kkb, .int .i64 ksb, .int .i64 kmb, .int .i64 kob, .int .i64 lgb, .slice Ab nb cb] 26) = v1
  have bA : Below w.heap.size w v1 := by rw [← hv_]; exact (((Below.refl _ w).alloc (by simp) _).alloc (by simp) _)
  replace hAa := hAa.on bA
  replace hAb := hAb.on bA
  replace cc := bK cc bA
  clear bA
  obtain ⟨xa0, xa1, xa2, xa3, xa4, xa5⟩ : Cs6 v1 w.heap.size (.int .i64 kka) (.int .i64 ksa) (.int .i64 kma) (.int .i64 koa) (.int .i64 lga) (.slice Aa na ca) := by simp [Cs6, ← hv_, go_sem]
  have xal : w.heap.size < v1.heap.size := by simp [← hv_] <;> omega
  obtain ⟨xb0, xb1, xb2, xb3, xb4, xb5⟩ : Cs6 v1 (w.heap.size + 1) (.int .i64 kkb) (.int .i64 ksb) (.int .i64 kmb) (.int .i64 kob) (.int .i64 lgb) (.slice Ab nb cb) := by simp [Cs6, ← hv_, go_sem]
  have xbl : w.heap.size + 1 < v1.heap.size := by simp [← hv_] <;> omega
  clear hv_
  go_wp2_with fail
  refine (Fa hAa).mono ?_
  rintro e w2 ⟨rfl, b⟩
  replace hAa := hAa.on b
  replace hAb := hAb.on b
  rewrite [cR b xal] at xa0 xa1 xa2 xa3 xa4 xa5
  replace xal := lK b xal
  rewrite [cR b xbl] at xb0 xb1 xb2 xb3 xb4 xb5
  replace xbl := lK b xbl
  replace cc := bK cc b
  clear b
  go_wp2_with fail
  refine (Fb hAb).mono ?_
  rintro e w3 ⟨rfl, b⟩
  replace hAa := hAa.on b
  replace hAb := hAb.on b
  rewrite [cR b xal] at xa0 xa1 xa2 xa3 xa4 xa5
  replace xal := lK b xal
  rewrite [cR b xbl] at xb0 xb1 xb2 xb3 xb4 xb5
  replace xbl := lK b xbl
  replace cc := bK cc b
  clear b
  go_wp2_with fail
  refine (R0 hAa).mono ?_
  rintro e w4 ⟨rfl, b⟩
  replace hAa := hAa.on b
  replace hAb := hAb.on b
  rewrite [cR b xal] at xa0 xa1 xa2 xa3 xa4 xa5
  replace xal := lK b xal
  rewrite [cR b xbl] at xb0 xb1 xb2 xb3 xb4 xb5
  replace xbl := lK b xbl
  replace cc := bK cc b
  clear b
  go_wp2_with fail
  have bD : Below w4.heap.size w4 w4.drew := below_drewN (Below.refl _ w4) 1
  replace hAa := hAa.on bD
  replace hAb := hAb.on bD
  rewrite [cR bD xal] at xa0 xa1 xa2 xa3 xa4 xa5
  replace xal := lK bD xal
  rewrite [cR bD xbl] at xb0 xb1 xb2 xb3 xb4 xb5
  replace xbl := lK bD xbl
  replace cc := bK cc bD
  clear bD
  refine wp_region_held_drew (S := fun w' => w'.cell? ⟨w.heap.size, 0, none⟩ = some (.int .i64 kka) ∧ w'.cell? ⟨w.heap.size, 1, none⟩ = some (.int .i64 ksa) ∧ w'.cell? ⟨w.heap.size, 2, none⟩ = some (.int .i64 kma) ∧ w'.cell? ⟨w.heap.size, 3, none⟩ = some (.int .i64 koa) ∧ w'.cell? ⟨w.heap.size, 4, none⟩ = some (.int .i64 lga) ∧ w'.cell? ⟨w.heap.size, 5, none⟩ = some (.slice Aa na ca) ∧ w'.cell? ⟨w.heap.size + 1, 0, none⟩ = some (.int .i64 kkb) ∧ w'.cell? ⟨w.heap.size + 1, 1, none⟩ = some (.int .i64 ksb) ∧ w'.cell? ⟨w.heap.size + 1, 2, none⟩ = some (.int .i64 kmb) ∧ w'.cell? ⟨w.heap.size + 1, 3, none⟩ = some (.int .i64 kob) ∧ w'.cell? ⟨w.heap.size + 1, 4, none⟩ = some (.int .i64 lgb) ∧ w'.cell? ⟨w.heap.size + 1, 5, none⟩ = some (.slice Ab nb cb)) (by kernel_rfl) ?_ (fun hHeld => ?_)
  · exact ⟨xa0, xa1, xa2, xa3, xa4, xa5, xb0, xb1, xb2, xb3, xb4, xb5⟩
  refine tY (i := 0) (v := ?_) rfl ?_ hHeld ?_
  rotate_left
  · (intro w hSw; (try dsimp only at hSw); go_simp; (try with_reducible rfl))
  try simp only [Act.put, pT]
  refine tY (i := 1) (v := ?_) rfl ?_ hHeld ?_
  rotate_left
  · (intro w hSw; (try dsimp only at hSw); go_simp; (try with_reducible rfl))
  try simp only [Act.put, pT]
  refine tY (i := 3) (v := ?_) rfl ?_ hHeld ?_
  rotate_left
  · (intro w hSw; (try dsimp only at hSw); go_simp; (try with_reducible rfl))
  try simp only [Act.put, pT]
  refine tY (i := 4) (v := ?_) rfl ?_ hHeld ?_
  rotate_left
  · (intro w hSw; (try dsimp only at hSw); go_simp; (try with_reducible rfl))
  try simp only [Act.put, pT]
  refine wpAnyH_ready (rs := [2]) (by kernel_rfl) (by simp) ?_
  refine AllReadyH.cons rfl (fun K hK => ?_) AllReadyH.nil
  (try simp only [pT])
  rw [if_pos (by rfl)]
  go_simp
  go_at_call 9
  refine (M0 _).mono ?_
  rintro e w5 ⟨rfl, b⟩
  replace hAa := hAa.on b
  replace hAb := hAb.on b
  rewrite [cR b xal] at xa0 xa1 xa2 xa3 xa4 xa5
  replace xal := lK b xal
  rewrite [cR b xbl] at xb0 xb1 xb2 xb3 xb4 xb5
  replace xbl := lK b xbl
  replace cc := bK cc b
  clear b
  refine hK.out _ _ ?_ (fun hHeld => ?_)
  · exact ⟨xa0, xa1, xa2, xa3, xa4, xa5, xb0, xb1, xb2, xb3, xb4, xb5⟩
  clear hK K
  try simp only [Act.put, pT]
  refine wpAnyH_ready (rs := [5]) (by kernel_rfl) (by simp) ?_
  refine AllReadyH.cons rfl (fun K hK => ?_) AllReadyH.nil
  (try simp only [pT])
  rw [if_pos (by rfl)]
  go_simp
  go_at_call 10
  refine (M1 _).mono ?_
  rintro e w6 ⟨rfl, b⟩
  replace hAa := hAa.on b
  replace hAb := hAb.on b
  rewrite [cR b xal] at xa0 xa1 xa2 xa3 xa4 xa5
  replace xal := lK b xal
  rewrite [cR b xbl] at xb0 xb1 xb2 xb3 xb4 xb5
  replace xbl := lK b xbl
  replace cc := bK cc b
  clear b
  refine hK.out _ _ ?_ (fun hHeld => ?_)
  · exact ⟨xa0, xa1, xa2, xa3, xa4, xa5, xb0, xb1, xb2, xb3, xb4, xb5⟩
  clear hK K
  try simp only [Act.put, pT]
  refine tY (i := 6) (v := ?_) rfl ?_ hHeld ?_
  rotate_left
  · (intro w hSw; (try dsimp only at hSw); go_simp; (try with_reducible rfl))
  try simp only [Act.put, pT]
  refine tY (i := 7) (v := ?_) rfl ?_ hHeld ?_
  rotate_left
  · (intro w hSw; (try dsimp only at hSw); go_simp; (try with_reducible rfl))
  try simp only [Act.put, pT]
  refine tY (i := 8) (v := ?_) rfl ?_ hHeld ?_
  rotate_left
  · (intro w hSw; (try dsimp only at hSw); go_simp; (try with_reducible rfl))
  try simp only [Act.put, pT]
  refine tY (i := 10) (v := ?_) rfl ?_ hHeld ?_
  rotate_left
  · (intro w hSw; (try dsimp only at hSw); go_simp; (try with_reducible rfl))
  try simp only [Act.put, pT]
  refine wpAnyH_ready (rs := [9]) (by kernel_rfl) (by simp) ?_
  refine AllReadyH.cons rfl (fun K hK => ?_) AllReadyH.nil
  (try simp only [pT])
  rw [if_pos (by rfl)]
  go_simp
  go_at_call 11
  refine (R1 hAa).mono ?_
  rintro e w7 ⟨rfl, b⟩
  replace hAa := hAa.on b
  replace hAb := hAb.on b
  rewrite [cR b xal] at xa0 xa1 xa2 xa3 xa4 xa5
  replace xal := lK b xal
  rewrite [cR b xbl] at xb0 xb1 xb2 xb3 xb4 xb5
  replace xbl := lK b xbl
  replace cc := bK cc b
  clear b
  refine hK.out _ _ ?_ (fun hHeld => ?_)
  · exact ⟨xa0, xa1, xa2, xa3, xa4, xa5, xb0, xb1, xb2, xb3, xb4, xb5⟩
  clear hK K
  try simp only [Act.put, pT]
  refine tY (i := 11) (v := ?_) rfl ?_ hHeld ?_
  rotate_left
  · (intro w hSw; (try dsimp only at hSw); go_simp; (try with_reducible rfl))
  try simp only [Act.put, pT]
  refine tY (i := 12) (v := ?_) rfl ?_ hHeld ?_
  rotate_left
  · (intro w hSw; (try dsimp only at hSw); go_simp; (try with_reducible rfl))
  try simp only [Act.put, pT]
  refine tY (i := 13) (v := ?_) rfl ?_ hHeld ?_
  rotate_left
  · (intro w hSw; (try dsimp only at hSw); go_simp; (try with_reducible rfl))
  try simp only [Act.put, pT]
  refine tY (i := 14) (v := ?_) rfl ?_ hHeld ?_
  rotate_left
  · (intro w hSw; (try dsimp only at hSw); go_simp; (try with_reducible rfl))
  try simp only [Act.put, pT]
  refine tY (i := 15) (v := ?_) rfl ?_ hHeld ?_
  rotate_left
  · (intro w hSw; (try dsimp only at hSw); go_simp; (try with_reducible rfl))
  try simp only [Act.put, pT]
  refine tY (i := 17) (v := ?_) rfl ?_ hHeld ?_
  rotate_left
  · (intro w hSw; (try dsimp only at hSw); go_simp; (try with_reducible rfl))
  try simp only [Act.put, pT]
  refine tY (i := 18) (v := ?_) rfl ?_ hHeld ?_
  rotate_left
  · (intro w hSw; (try dsimp only at hSw); go_simp; (try with_reducible rfl))
  try simp only [Act.put, pT]
  refine wpAnyH_ready (rs := [16]) (by kernel_rfl) (by simp) ?_
  refine AllReadyH.cons rfl (fun K hK => ?_) AllReadyH.nil
  (try simp only [pT])
  rw [if_pos (by rfl)]
  go_simp
  go_at_call 12
  refine (S0 hAa hAb).mono ?_
  rintro e w8 ⟨rfl, b⟩
  replace hAa := hAa.on b
  replace hAb := hAb.on b
  rewrite [cR b xal] at xa0 xa1 xa2 xa3 xa4 xa5
  replace xal := lK b xal
  rewrite [cR b xbl] at xb0 xb1 xb2 xb3 xb4 xb5
  replace xbl := lK b xbl
  replace cc := bK cc b
  clear b
  refine hK.out _ _ ?_ (fun hHeld => ?_)
  · exact ⟨xa0, xa1, xa2, xa3, xa4, xa5, xb0, xb1, xb2, xb3, xb4, xb5⟩
  clear hK K
  try simp only [Act.put, pT]
  refine wpAnyH_ready (rs := [19]) (by kernel_rfl) (by simp) ?_
  refine AllReadyH.cons rfl (fun K hK => ?_) AllReadyH.nil
  (try simp only [pT])
  rw [if_pos (by rfl)]
  go_simp
  go_at_call 13
  refine (S1 hAa hAb).mono ?_
  rintro e w9 ⟨rfl, b⟩
  replace hAa := hAa.on b
  replace hAb := hAb.on b
  rewrite [cR b xal] at xa0 xa1 xa2 xa3 xa4 xa5
  replace xal := lK b xal
  rewrite [cR b xbl] at xb0 xb1 xb2 xb3 xb4 xb5
  replace xbl := lK b xbl
  replace cc := bK cc b
  clear b
  refine hK.out _ _ ?_ (fun hHeld => ?_)
  · exact ⟨xa0, xa1, xa2, xa3, xa4, xa5, xb0, xb1, xb2, xb3, xb4, xb5⟩
  clear hK K
  try simp only [Act.put, pT]
  refine tY (i := 20) (v := ?_) rfl ?_ hHeld ?_
  rotate_left
  · (intro w hSw; (try dsimp only at hSw); go_simp; (try with_reducible rfl))
  try simp only [Act.put, pT]
  refine tY (i := 21) (v := ?_) rfl ?_ hHeld ?_
  rotate_left
  · (intro w hSw; (try dsimp only at hSw); go_simp; (try with_reducible rfl))
  try simp only [Act.put, pT]
  refine tY (i := 22) (v := ?_) rfl ?_ hHeld ?_
  rotate_left
  · (intro w hSw; (try dsimp only at hSw); go_simp; (try with_reducible rfl))
  try simp only [Act.put, pT]
  refine tY (i := 23) (v := ?_) rfl ?_ hHeld ?_
  rotate_left
  · (intro w hSw; (try dsimp only at hSw); go_simp; (try with_reducible rfl))
  try simp only [Act.put, pT]
  refine tY (i := 25) (v := ?_) rfl ?_ hHeld ?_
  rotate_left
  · (intro w hSw; (try dsimp only at hSw); go_simp; (try with_reducible rfl))
  try simp only [Act.put, pT]
  refine wpAnyH_ready (rs := [24]) (by kernel_rfl) (by simp) ?_
  refine AllReadyH.cons rfl (fun K hK => ?_) AllReadyH.nil
  (try simp only [pT])
  rw [if_pos (by rfl)]
  go_simp
  go_at_call 14
  refine (K0 hAa).mono ?_
  rintro e w10 ⟨rfl, b⟩
  replace hAa := hAa.on b
  replace hAb := hAb.on b
  rewrite [cR b xal] at xa0 xa1 xa2 xa3 xa4 xa5
  replace xal := lK b xal
  rewrite [cR b xbl] at xb0 xb1 xb2 xb3 xb4 xb5
  replace xbl := lK b xbl
  replace cc := bK cc b
  clear b
  refine hK.out _ _ ?_ (fun hHeld => ?_)
  · exact ⟨xa0, xa1, xa2, xa3, xa4, xa5, xb0, xb1, xb2, xb3, xb4, xb5⟩
  clear hK K
  try simp only [Act.put, pT]
  refine wpAnyH_ready (rs := [26]) (by kernel_rfl) (by simp) ?_
  refine AllReadyH.cons rfl (fun K hK => ?_) AllReadyH.nil
  (try simp only [pT])
  rw [if_pos (by rfl)]
  go_simp
  go_at_call 15
  refine (K1 hAa).mono ?_
  rintro e w11 ⟨rfl, b⟩
  replace hAa := hAa.on b
  replace hAb := hAb.on b
  rewrite [cR b xal] at xa0 xa1 xa2 xa3 xa4 xa5
  replace xal := lK b xal
  rewrite [cR b xbl] at xb0 xb1 xb2 xb3 xb4 xb5
  replace xbl := lK b xbl
  replace cc := bK cc b
  clear b
  refine hK.out _ _ ?_ (fun hHeld => ?_)
  · exact ⟨xa0, xa1, xa2, xa3, xa4, xa5, xb0, xb1, xb2, xb3, xb4, xb5⟩
  clear hK K
  try simp only [Act.put, pT]
  refine tY (i := 27) (v := ?_) rfl ?_ hHeld ?_
  rotate_left
  · (intro w hSw; (try dsimp only at hSw); go_simp; (try with_reducible rfl))
  try simp only [Act.put, pT]
  refine tY (i := 28) (v := ?_) rfl ?_ hHeld ?_
  rotate_left
  · (intro w hSw; (try dsimp only at hSw); go_simp; (try with_reducible rfl))
  try simp only [Act.put, pT]
  refine wpAnyH_done (by kernel_rfl) ?_ _
  clear hHeld
  go_wp2_with fail
  have bD : Below w11.heap.size w11 w11.drew := below_drewN (Below.refl _ w11) 1
  replace hAa := hAa.on bD
  replace hAb := hAb.on bD
  rewrite [cR bD xal] at xa0 xa1 xa2 xa3 xa4 xa5
  replace xal := lK bD xal
  rewrite [cR bD xbl] at xb0 xb1 xb2 xb3 xb4 xb5
  replace xbl := lK bD xbl
  replace cc := bK cc bD
  clear bD
  refine wp_region_held_drew (S := fun w' => w'.cell? ⟨w.heap.size, 0, none⟩ = some (.int .i64 kka) ∧ w'.cell? ⟨w.heap.size, 1, none⟩ = some (.int .i64 ksa) ∧ w'.cell? ⟨w.heap.size, 2, none⟩ = some (.int .i64 kma) ∧ w'.cell? ⟨w.heap.size, 3, none⟩ = some (.int .i64 koa) ∧ w'.cell? ⟨w.heap.size, 4, none⟩ = some (.int .i64 lga) ∧ w'.cell? ⟨w.heap.size, 5, none⟩ = some (.slice Aa na ca) ∧ w'.cell? ⟨w.heap.size + 1, 0, none⟩ = some (.int .i64 kkb) ∧ w'.cell? ⟨w.heap.size + 1, 1, none⟩ = some (.int .i64 ksb) ∧ w'.cell? ⟨w.heap.size + 1, 2, none⟩ = some (.int .i64 kmb) ∧ w'.cell? ⟨w.heap.size + 1, 3, none⟩ = some (.int .i64 kob) ∧ w'.cell? ⟨w.heap.size + 1, 4, none⟩ = some (.int .i64 lgb) ∧ w'.cell? ⟨w.heap.size + 1, 5, none⟩ = some (.slice Ab nb cb)) (by kernel_rfl) ?_ (fun hHeld => ?_)
  · exact ⟨xa0, xa1, xa2, xa3, xa4, xa5, xb0, xb1, xb2, xb3, xb4, xb5⟩
  refine wpAnyH_ready (rs := [0]) (by kernel_rfl) (by simp) ?_
  refine AllReadyH.cons rfl (fun K hK => ?_) AllReadyH.nil
  (try simp only [pT])
  rw [if_pos (by rfl)]
  go_simp
  go_at_call 7
  refine (alive14_any _).mono ?_
  rintro e w12 ⟨rfl, b⟩
  replace hAa := hAa.on b
  replace hAb := hAb.on b
  rewrite [cR b xal] at xa0 xa1 xa2 xa3 xa4 xa5
  replace xal := lK b xal
  rewrite [cR b xbl] at xb0 xb1 xb2 xb3 xb4 xb5
  replace xbl := lK b xbl
  replace cc := bK cc b
  clear b
  refine hK.out _ _ ?_ (fun hHeld => ?_)
  · exact ⟨xa0, xa1, xa2, xa3, xa4, xa5, xb0, xb1, xb2, xb3, xb4, xb5⟩
  clear hK K
  try simp only [Act.put, pT]
  refine tY (i := 1) (v := ?_) rfl ?_ hHeld ?_
  rotate_left
  · (intro w hSw; (try dsimp only at hSw); go_simp; (try with_reducible rfl))
  try simp only [Act.put, pT]
  refine tY (i := 2) (v := ?_) rfl ?_ hHeld ?_
  rotate_left
  · (intro w hSw; (try dsimp only at hSw); go_simp; (try with_reducible rfl))
  try simp only [Act.put, pT]
  refine tY (i := 3) (v := ?_) rfl ?_ hHeld ?_
  rotate_left
  · (intro w hSw; (try dsimp only at hSw); go_simp; (try with_reducible rfl))
  try simp only [Act.put, pT]
  refine tY (i := 4) (v := ?_) rfl ?_ hHeld ?_
  rotate_left
  · (intro w hSw; (try dsimp only at hSw); go_simp; (try with_reducible rfl))
  try simp only [Act.put, pT]
  refine tU (i := 5) rfl hHeld ?_
  try simp only [Act.put, pT]
  refine tU (i := 6) rfl hHeld ?_
  try simp only [Act.put, pT]
  refine tU (i := 7) rfl hHeld ?_
  try simp only [Act.put, pT]
  refine tU (i := 8) rfl hHeld ?_
  try simp only [Act.put, pT]
  refine tU (i := 9) rfl hHeld ?_
  try simp only [Act.put, pT]
  refine tY (i := 10) (v := ?_) rfl ?_ hHeld ?_
  rotate_left
  · (intro w hSw; (try dsimp only at hSw); go_simp; (try with_reducible rfl))
  try simp only [Act.put, pT]
  refine tY (i := 11) (v := ?_) rfl ?_ hHeld ?_
  rotate_left
  · (intro w hSw; (try dsimp only at hSw); go_simp; (try with_reducible rfl))
  try simp only [Act.put, pT]
  refine tY (i := 12) (v := ?_) rfl ?_ hHeld ?_
  rotate_left
  · (intro w hSw; (try dsimp only at hSw); go_simp; (try with_reducible rfl))
  try simp only [Act.put, pT]
  refine wpAnyH_done (by kernel_rfl) ?_ _
  clear hHeld
  go_wp2_with fail
  go_ret
  exact ⟨rfl, cc⟩

theorem TensTells_yes {w : World} {kka ksa kma koa lga : Int} {Aa : Option Addr} {na ca : Nat} {La : List Bk} {kkb ksb kmb kob lgb : Int} {Ab : Option Addr} {nb cb : Nat} {Lb : List Bk} (hAa : KR w Aa na ca La) (hAb : KR w Ab nb cb Lb) {v u : Bool} {q : Int} (Fa : ∀ {W : World}, KR W Aa na ca La → Calls Tryz.prog 6 #[.agg #[.int .i64 kka, .int .i64 ksa, .int .i64 kma, .int .i64 koa, .int .i64 lga, .slice Aa na ca], .int .i64 24] W (GotV W (.bool true))) (Fb : ∀ {W : World}, KR W Ab nb cb Lb → Calls Tryz.prog 6 #[.agg #[.int .i64 kkb, .int .i64 ksb, .int .i64 kmb, .int .i64 kob, .int .i64 lgb, .slice Ab nb cb], .int .i64 24] W (GotV W (.bool true))) (R0 : ∀ {W : World}, KR W Aa na ca La → Calls Tryz.prog 8 #[.agg #[.int .i64 kka, .int .i64 ksa, .int .i64 kma, .int .i64 koa, .int .i64 lga, .slice Aa na ca]] W (GotV W (.bool true))) (M0 : ∀ W : World, Calls Tryz.prog 9 #[.agg #[.int .i64 kka, .int .i64 ksa, .int .i64 kma, .int .i64 koa]] W (GotV W (.bool v))) (M1 : ∀ W : World, Calls Tryz.prog 10 #[.agg #[.int .i64 kka, .int .i64 ksa, .int .i64 kma, .int .i64 koa]] W (GotV W (.bool v))) (R1 : ∀ {W : World}, KR W Aa na ca La → Calls Tryz.prog 11 #[.agg #[.int .i64 kka, .int .i64 ksa, .int .i64 kma, .int .i64 koa, .int .i64 lga, .slice Aa na ca]] W (GotV W (.bool true))) (S0 : ∀ {W : World}, KR W Aa na ca La → KR W Ab nb cb Lb → Calls Tryz.prog 12 #[.agg #[.int .i64 kka, .int .i64 ksa, .int .i64 kma, .int .i64 koa, .int .i64 lga, .slice Aa na ca], .agg #[.int .i64 kkb, .int .i64 ksb, .int .i64 kmb, .int .i64 kob, .int .i64 lgb, .slice Ab nb cb]] W (GotV W (.bool u))) (S1 : ∀ {W : World}, KR W Aa na ca La → KR W Ab nb cb Lb → Calls Tryz.prog 13 #[.agg #[.int .i64 kka, .int .i64 ksa, .int .i64 kma, .int .i64 koa, .int .i64 lga, .slice Aa na ca], .agg #[.int .i64 kkb, .int .i64 ksb, .int .i64 kmb, .int .i64 kob, .int .i64 lgb, .slice Ab nb cb]] W (GotV W (.bool u))) (K0 : ∀ {W : World}, KR W Aa na ca La → Calls Tryz.prog 14 #[.agg #[.int .i64 kka, .int .i64 ksa, .int .i64 kma, .int .i64 koa, .int .i64 lga, .slice Aa na ca]] W (GotV W (.int .i64 q))) (K1 : ∀ {W : World}, KR W Aa na ca La → Calls Tryz.prog 15 #[.agg #[.int .i64 kka, .int .i64 ksa, .int .i64 kma, .int .i64 koa, .int .i64 lga, .slice Aa na ca]] W (GotV W (.int .i64 q))) {R : List Int} (hl : R.length ≤ 9223372036854775807) (D0 : ∀ {W : World}, KR W Aa na ca La → Calls Tryz.prog 17 #[.agg #[.int .i64 kka, .int .i64 ksa, .int .i64 kma, .int .i64 koa, .int .i64 lga, .slice Aa na ca]] W (GotI W R)) (D1 : ∀ {W : World}, KR W Aa na ca La → Calls Tryz.prog 18 #[.agg #[.int .i64 kka, .int .i64 ksa, .int .i64 kma, .int .i64 koa, .int .i64 lga, .slice Aa na ca]] W (GotI W R)) :
    Calls Tryz.prog 3 #[.agg #[.int .i64 kka, .int .i64 ksa, .int .i64 kma, .int .i64 koa, .int .i64 lga, .slice Aa na ca], .agg #[.int .i64 kkb, .int .i64 ksb, .int .i64 kmb, .int .i64 kob, .int .i64 lgb, .slice Ab nb cb]] w fun e w' => e = .returned (.bool true) ∧ Below w.heap.size w w' := by
  have cc := Below.refl w.heap.size w
  go_enter Tryz.func3, Tryz.ntmps3
  go_wp2_with fail
  generalize hv_ : (w.alloc (.cells #[.int .i64 kka, .int .i64 ksa, .int .i64 kma, .int .i64 koa, .int .i64 lga, .slice Aa na ca] 26)).alloc (.cells #[.int .i64 kkb, .int .i64 ksb, .int .i64 kmb, .int .i64 kob, .int .i64 lgb, .slice Ab nb cb] 26) = v1
  have bA : Below w.heap.size w v1 := by rw [← hv_]; exact (((Below.refl _ w).alloc (by simp) _).alloc (by simp) _)
  replace hAa := hAa.on bA
  replace hAb := hAb.on bA
  replace cc := bK cc bA
  clear bA
  obtain ⟨xa0, xa1, xa2, xa3, xa4, xa5⟩ : Cs6 v1 w.heap.size (.int .i64 kka) (.int .i64 ksa) (.int .i64 kma) (.int .i64 koa) (.int .i64 lga) (.slice Aa na ca) := by simp [Cs6, ← hv_, go_sem]
  have xal : w.heap.size < v1.heap.size := by simp [← hv_] <;> omega
  obtain ⟨xb0, xb1, xb2, xb3, xb4, xb5⟩ : Cs6 v1 (w.heap.size + 1) (.int .i64 kkb) (.int .i64 ksb) (.int .i64 kmb) (.int .i64 kob) (.int .i64 lgb) (.slice Ab nb cb) := by simp [Cs6, ← hv_, go_sem]
  have xbl : w.heap.size + 1 < v1.heap.size := by simp [← hv_] <;> omega
  clear hv_
  go_wp2_with fail
  refine (Fa hAa).mono ?_
  rintro e w2 ⟨rfl, b⟩
  replace hAa := hAa.on b
  replace hAb := hAb.on b
  rewrite [cR b xal] at xa0 xa1 xa2 xa3 xa4 xa5
  replace xal := lK b xal
  rewrite [cR b xbl] at xb0 xb1 xb2 xb3 xb4 xb5
  replace xbl := lK b xbl
  replace cc := bK cc b
  clear b
  go_wp2_with fail
  refine (Fb hAb).mono ?_
  rintro e w3 ⟨rfl, b⟩
  replace hAa := hAa.on b
  replace hAb := hAb.on b
  rewrite [cR b xal] at xa0 xa1 xa2 xa3 xa4 xa5
  replace xal := lK b xal
  rewrite [cR b xbl] at xb0 xb1 xb2 xb3 xb4 xb5
  replace xbl := lK b xbl
  replace cc := bK cc b
  clear b
  go_wp2_with fail
  refine (R0 hAa).mono ?_
  rintro e w4 ⟨rfl, b⟩
  replace hAa := hAa.on b
  replace hAb := hAb.on b
  rewrite [cR b xal] at xa0 xa1 xa2 xa3 xa4 xa5
  replace xal := lK b xal
  rewrite [cR b xbl] at xb0 xb1 xb2 xb3 xb4 xb5
  replace xbl := lK b xbl
  replace cc := bK cc b
  clear b
  go_wp2_with fail
  have bD : Below w4.heap.size w4 w4.drew := below_drewN (Below.refl _ w4) 1
  replace hAa := hAa.on bD
  replace hAb := hAb.on bD
  rewrite [cR bD xal] at xa0 xa1 xa2 xa3 xa4 xa5
  replace xal := lK bD xal
  rewrite [cR bD xbl] at xb0 xb1 xb2 xb3 xb4 xb5
  replace xbl := lK bD xbl
  replace cc := bK cc bD
  clear bD
  refine wp_region_held_drew (S := fun w' => w'.cell? ⟨w.heap.size, 0, none⟩ = some (.int .i64 kka) ∧ w'.cell? ⟨w.heap.size, 1, none⟩ = some (.int .i64 ksa) ∧ w'.cell? ⟨w.heap.size, 2, none⟩ = some (.int .i64 kma) ∧ w'.cell? ⟨w.heap.size, 3, none⟩ = some (.int .i64 koa) ∧ w'.cell? ⟨w.heap.size, 4, none⟩ = some (.int .i64 lga) ∧ w'.cell? ⟨w.heap.size, 5, none⟩ = some (.slice Aa na ca) ∧ w'.cell? ⟨w.heap.size + 1, 0, none⟩ = some (.int .i64 kkb) ∧ w'.cell? ⟨w.heap.size + 1, 1, none⟩ = some (.int .i64 ksb) ∧ w'.cell? ⟨w.heap.size + 1, 2, none⟩ = some (.int .i64 kmb) ∧ w'.cell? ⟨w.heap.size + 1, 3, none⟩ = some (.int .i64 kob) ∧ w'.cell? ⟨w.heap.size + 1, 4, none⟩ = some (.int .i64 lgb) ∧ w'.cell? ⟨w.heap.size + 1, 5, none⟩ = some (.slice Ab nb cb)) (by kernel_rfl) ?_ (fun hHeld => ?_)
  · exact ⟨xa0, xa1, xa2, xa3, xa4, xa5, xb0, xb1, xb2, xb3, xb4, xb5⟩
  refine tY (i := 0) (v := ?_) rfl ?_ hHeld ?_
  rotate_left
  · (intro w hSw; (try dsimp only at hSw); go_simp; (try with_reducible rfl))
  try simp only [Act.put, pT]
  refine tY (i := 1) (v := ?_) rfl ?_ hHeld ?_
  rotate_left
  · (intro w hSw; (try dsimp only at hSw); go_simp; (try with_reducible rfl))
  try simp only [Act.put, pT]
  refine tY (i := 3) (v := ?_) rfl ?_ hHeld ?_
  rotate_left
  · (intro w hSw; (try dsimp only at hSw); go_simp; (try with_reducible rfl))
  try simp only [Act.put, pT]
  refine tY (i := 4) (v := ?_) rfl ?_ hHeld ?_
  rotate_left
  · (intro w hSw; (try dsimp only at hSw); go_simp; (try with_reducible rfl))
  try simp only [Act.put, pT]
  refine wpAnyH_ready (rs := [2]) (by kernel_rfl) (by simp) ?_
  refine AllReadyH.cons rfl (fun K hK => ?_) AllReadyH.nil
  (try simp only [pT])
  rw [if_pos (by rfl)]
  go_simp
  go_at_call 9
  refine (M0 _).mono ?_
  rintro e w5 ⟨rfl, b⟩
  replace hAa := hAa.on b
  replace hAb := hAb.on b
  rewrite [cR b xal] at xa0 xa1 xa2 xa3 xa4 xa5
  replace xal := lK b xal
  rewrite [cR b xbl] at xb0 xb1 xb2 xb3 xb4 xb5
  replace xbl := lK b xbl
  replace cc := bK cc b
  clear b
  refine hK.out _ _ ?_ (fun hHeld => ?_)
  · exact ⟨xa0, xa1, xa2, xa3, xa4, xa5, xb0, xb1, xb2, xb3, xb4, xb5⟩
  clear hK K
  try simp only [Act.put, pT]
  refine wpAnyH_ready (rs := [5]) (by kernel_rfl) (by simp) ?_
  refine AllReadyH.cons rfl (fun K hK => ?_) AllReadyH.nil
  (try simp only [pT])
  rw [if_pos (by rfl)]
  go_simp
  go_at_call 10
  refine (M1 _).mono ?_
  rintro e w6 ⟨rfl, b⟩
  replace hAa := hAa.on b
  replace hAb := hAb.on b
  rewrite [cR b xal] at xa0 xa1 xa2 xa3 xa4 xa5
  replace xal := lK b xal
  rewrite [cR b xbl] at xb0 xb1 xb2 xb3 xb4 xb5
  replace xbl := lK b xbl
  replace cc := bK cc b
  clear b
  refine hK.out _ _ ?_ (fun hHeld => ?_)
  · exact ⟨xa0, xa1, xa2, xa3, xa4, xa5, xb0, xb1, xb2, xb3, xb4, xb5⟩
  clear hK K
  try simp only [Act.put, pT]
  refine tY (i := 6) (v := ?_) rfl ?_ hHeld ?_
  rotate_left
  · (intro w hSw; (try dsimp only at hSw); go_simp; (try with_reducible rfl))
  try simp only [Act.put, pT]
  refine tY (i := 7) (v := ?_) rfl ?_ hHeld ?_
  rotate_left
  · (intro w hSw; (try dsimp only at hSw); go_simp; (try with_reducible rfl))
  try simp only [Act.put, pT]
  refine tY (i := 8) (v := ?_) rfl ?_ hHeld ?_
  rotate_left
  · (intro w hSw; (try dsimp only at hSw); go_simp; (try with_reducible rfl))
  try simp only [Act.put, pT]
  refine tY (i := 10) (v := ?_) rfl ?_ hHeld ?_
  rotate_left
  · (intro w hSw; (try dsimp only at hSw); go_simp; (try with_reducible rfl))
  try simp only [Act.put, pT]
  refine wpAnyH_ready (rs := [9]) (by kernel_rfl) (by simp) ?_
  refine AllReadyH.cons rfl (fun K hK => ?_) AllReadyH.nil
  (try simp only [pT])
  rw [if_pos (by rfl)]
  go_simp
  go_at_call 11
  refine (R1 hAa).mono ?_
  rintro e w7 ⟨rfl, b⟩
  replace hAa := hAa.on b
  replace hAb := hAb.on b
  rewrite [cR b xal] at xa0 xa1 xa2 xa3 xa4 xa5
  replace xal := lK b xal
  rewrite [cR b xbl] at xb0 xb1 xb2 xb3 xb4 xb5
  replace xbl := lK b xbl
  replace cc := bK cc b
  clear b
  refine hK.out _ _ ?_ (fun hHeld => ?_)
  · exact ⟨xa0, xa1, xa2, xa3, xa4, xa5, xb0, xb1, xb2, xb3, xb4, xb5⟩
  clear hK K
  try simp only [Act.put, pT]
  refine tY (i := 11) (v := ?_) rfl ?_ hHeld ?_
  rotate_left
  · (intro w hSw; (try dsimp only at hSw); go_simp; (try with_reducible rfl))
  try simp only [Act.put, pT]
  refine tY (i := 12) (v := ?_) rfl ?_ hHeld ?_
  rotate_left
  · (intro w hSw; (try dsimp only at hSw); go_simp; (try with_reducible rfl))
  try simp only [Act.put, pT]
  refine tY (i := 13) (v := ?_) rfl ?_ hHeld ?_
  rotate_left
  · (intro w hSw; (try dsimp only at hSw); go_simp; (try with_reducible rfl))
  try simp only [Act.put, pT]
  refine tY (i := 14) (v := ?_) rfl ?_ hHeld ?_
  rotate_left
  · (intro w hSw; (try dsimp only at hSw); go_simp; (try with_reducible rfl))
  try simp only [Act.put, pT]
  refine tY (i := 15) (v := ?_) rfl ?_ hHeld ?_
  rotate_left
  · (intro w hSw; (try dsimp only at hSw); go_simp; (try with_reducible rfl))
  try simp only [Act.put, pT]
  refine tY (i := 17) (v := ?_) rfl ?_ hHeld ?_
  rotate_left
  · (intro w hSw; (try dsimp only at hSw); go_simp; (try with_reducible rfl))
  try simp only [Act.put, pT]
  refine tY (i := 18) (v := ?_) rfl ?_ hHeld ?_
  rotate_left
  · (intro w hSw; (try dsimp only at hSw); go_simp; (try with_reducible rfl))
  try simp only [Act.put, pT]
  refine wpAnyH_ready (rs := [16]) (by kernel_rfl) (by simp) ?_
  refine AllReadyH.cons rfl (fun K hK => ?_) AllReadyH.nil
  (try simp only [pT])
  rw [if_pos (by rfl)]
  go_simp
  go_at_call 12
  refine (S0 hAa hAb).mono ?_
  rintro e w8 ⟨rfl, b⟩
  replace hAa := hAa.on b
  replace hAb := hAb.on b
  rewrite [cR b xal] at xa0 xa1 xa2 xa3 xa4 xa5
  replace xal := lK b xal
  rewrite [cR b xbl] at xb0 xb1 xb2 xb3 xb4 xb5
  replace xbl := lK b xbl
  replace cc := bK cc b
  clear b
  refine hK.out _ _ ?_ (fun hHeld => ?_)
  · exact ⟨xa0, xa1, xa2, xa3, xa4, xa5, xb0, xb1, xb2, xb3, xb4, xb5⟩
  clear hK K
  try simp only [Act.put, pT]
  refine wpAnyH_ready (rs := [19]) (by kernel_rfl) (by simp) ?_
  refine AllReadyH.cons rfl (fun K hK => ?_) AllReadyH.nil
  (try simp only [pT])
  rw [if_pos (by rfl)]
  go_simp
  go_at_call 13
  refine (S1 hAa hAb).mono ?_
  rintro e w9 ⟨rfl, b⟩
  replace hAa := hAa.on b
  replace hAb := hAb.on b
  rewrite [cR b xal] at xa0 xa1 xa2 xa3 xa4 xa5
  replace xal := lK b xal
  rewrite [cR b xbl] at xb0 xb1 xb2 xb3 xb4 xb5
  replace xbl := lK b xbl
  replace cc := bK cc b
  clear b
  refine hK.out _ _ ?_ (fun hHeld => ?_)
  · exact ⟨xa0, xa1, xa2, xa3, xa4, xa5, xb0, xb1, xb2, xb3, xb4, xb5⟩
  clear hK K
  try simp only [Act.put, pT]
  refine tY (i := 20) (v := ?_) rfl ?_ hHeld ?_
  rotate_left
  · (intro w hSw; (try dsimp only at hSw); go_simp; (try with_reducible rfl))
  try simp only [Act.put, pT]
  refine tY (i := 21) (v := ?_) rfl ?_ hHeld ?_
  rotate_left
  · (intro w hSw; (try dsimp only at hSw); go_simp; (try with_reducible rfl))
  try simp only [Act.put, pT]
  refine tY (i := 22) (v := ?_) rfl ?_ hHeld ?_
  rotate_left
  · (intro w hSw; (try dsimp only at hSw); go_simp; (try with_reducible rfl))
  try simp only [Act.put, pT]
  refine tY (i := 23) (v := ?_) rfl ?_ hHeld ?_
  rotate_left
  · (intro w hSw; (try dsimp only at hSw); go_simp; (try with_reducible rfl))
  try simp only [Act.put, pT]
  refine tY (i := 25) (v := ?_) rfl ?_ hHeld ?_
  rotate_left
  · (intro w hSw; (try dsimp only at hSw); go_simp; (try with_reducible rfl))
  try simp only [Act.put, pT]
  refine wpAnyH_ready (rs := [24]) (by kernel_rfl) (by simp) ?_
  refine AllReadyH.cons rfl (fun K hK => ?_) AllReadyH.nil
  (try simp only [pT])
  rw [if_pos (by rfl)]
  go_simp
  go_at_call 14
  refine (K0 hAa).mono ?_
  rintro e w10 ⟨rfl, b⟩
  replace hAa := hAa.on b
  replace hAb := hAb.on b
  rewrite [cR b xal] at xa0 xa1 xa2 xa3 xa4 xa5
  replace xal := lK b xal
  rewrite [cR b xbl] at xb0 xb1 xb2 xb3 xb4 xb5
  replace xbl := lK b xbl
  replace cc := bK cc b
  clear b
  refine hK.out _ _ ?_ (fun hHeld => ?_)
  · exact ⟨xa0, xa1, xa2, xa3, xa4, xa5, xb0, xb1, xb2, xb3, xb4, xb5⟩
  clear hK K
  try simp only [Act.put, pT]
  refine wpAnyH_ready (rs := [26]) (by kernel_rfl) (by simp) ?_
  refine AllReadyH.cons rfl (fun K hK => ?_) AllReadyH.nil
  (try simp only [pT])
  rw [if_pos (by rfl)]
  go_simp
  go_at_call 15
  refine (K1 hAa).mono ?_
  rintro e w11 ⟨rfl, b⟩
  replace hAa := hAa.on b
  replace hAb := hAb.on b
  rewrite [cR b xal] at xa0 xa1 xa2 xa3 xa4 xa5
  replace xal := lK b xal
  rewrite [cR b xbl] at xb0 xb1 xb2 xb3 xb4 xb5
  replace xbl := lK b xbl
  replace cc := bK cc b
  clear b
  refine hK.out _ _ ?_ (fun hHeld => ?_)
  · exact ⟨xa0, xa1, xa2, xa3, xa4, xa5, xb0, xb1, xb2, xb3, xb4, xb5⟩
  clear hK K
  try simp only [Act.put, pT]
  refine tY (i := 27) (v := ?_) rfl ?_ hHeld ?_
  rotate_left
  · (intro w hSw; (try dsimp only at hSw); go_simp; (try with_reducible rfl))
  try simp only [Act.put, pT]
  refine tY (i := 28) (v := ?_) rfl ?_ hHeld ?_
  rotate_left
  · (intro w hSw; (try dsimp only at hSw); go_simp; (try with_reducible rfl))
  try simp only [Act.put, pT]
  refine wpAnyH_done (by kernel_rfl) ?_ _
  clear hHeld
  go_wp2_with fail
  have bD : Below w11.heap.size w11 w11.drew := below_drewN (Below.refl _ w11) 1
  replace hAa := hAa.on bD
  replace hAb := hAb.on bD
  rewrite [cR bD xal] at xa0 xa1 xa2 xa3 xa4 xa5
  replace xal := lK bD xal
  rewrite [cR bD xbl] at xb0 xb1 xb2 xb3 xb4 xb5
  replace xbl := lK bD xbl
  replace cc := bK cc bD
  clear bD
  refine wp_region_held_drew (S := fun w' => w'.cell? ⟨w.heap.size, 0, none⟩ = some (.int .i64 kka) ∧ w'.cell? ⟨w.heap.size, 1, none⟩ = some (.int .i64 ksa) ∧ w'.cell? ⟨w.heap.size, 2, none⟩ = some (.int .i64 kma) ∧ w'.cell? ⟨w.heap.size, 3, none⟩ = some (.int .i64 koa) ∧ w'.cell? ⟨w.heap.size, 4, none⟩ = some (.int .i64 lga) ∧ w'.cell? ⟨w.heap.size, 5, none⟩ = some (.slice Aa na ca) ∧ w'.cell? ⟨w.heap.size + 1, 0, none⟩ = some (.int .i64 kkb) ∧ w'.cell? ⟨w.heap.size + 1, 1, none⟩ = some (.int .i64 ksb) ∧ w'.cell? ⟨w.heap.size + 1, 2, none⟩ = some (.int .i64 kmb) ∧ w'.cell? ⟨w.heap.size + 1, 3, none⟩ = some (.int .i64 kob) ∧ w'.cell? ⟨w.heap.size + 1, 4, none⟩ = some (.int .i64 lgb) ∧ w'.cell? ⟨w.heap.size + 1, 5, none⟩ = some (.slice Ab nb cb)) (by kernel_rfl) ?_ (fun hHeld => ?_)
  · exact ⟨xa0, xa1, xa2, xa3, xa4, xa5, xb0, xb1, xb2, xb3, xb4, xb5⟩
  refine wpAnyH_ready (rs := [0]) (by kernel_rfl) (by simp) ?_
  refine AllReadyH.cons rfl (fun K hK => ?_) AllReadyH.nil
  (try simp only [pT])
  rw [if_pos (by rfl)]
  go_simp
  go_at_call 7
  refine (alive14_any _).mono ?_
  rintro e w12 ⟨rfl, b⟩
  replace hAa := hAa.on b
  replace hAb := hAb.on b
  rewrite [cR b xal] at xa0 xa1 xa2 xa3 xa4 xa5
  replace xal := lK b xal
  rewrite [cR b xbl] at xb0 xb1 xb2 xb3 xb4 xb5
  replace xbl := lK b xbl
  replace cc := bK cc b
  clear b
  refine hK.out _ _ ?_ (fun hHeld => ?_)
  · exact ⟨xa0, xa1, xa2, xa3, xa4, xa5, xb0, xb1, xb2, xb3, xb4, xb5⟩
  clear hK K
  try simp only [Act.put, pT]
  refine tY (i := 1) (v := ?_) rfl ?_ hHeld ?_
  rotate_left
  · (intro w hSw; (try dsimp only at hSw); go_simp; (try with_reducible rfl))
  try simp only [Act.put, pT]
  refine tY (i := 2) (v := ?_) rfl ?_ hHeld ?_
  rotate_left
  · (intro w hSw; (try dsimp only at hSw); go_simp; (try with_reducible rfl))
  try simp only [Act.put, pT]
  refine tY (i := 3) (v := ?_) rfl ?_ hHeld ?_
  rotate_left
  · (intro w hSw; (try dsimp only at hSw); go_simp; (try with_reducible rfl))
  try simp only [Act.put, pT]
  refine tY (i := 4) (v := ?_) rfl ?_ hHeld ?_
  rotate_left
  · (intro w hSw; (try dsimp only at hSw); go_simp; (try with_reducible rfl))
  try simp only [Act.put, pT]
  refine tY (i := 5) (v := ?_) rfl ?_ hHeld ?_
  rotate_left
  · (intro w hSw; (try dsimp only at hSw); go_simp; (try with_reducible rfl))
  try simp only [Act.put, pT]
  refine tY (i := 7) (v := ?_) rfl ?_ hHeld ?_
  rotate_left
  · (intro w hSw; (try dsimp only at hSw); go_simp; (try with_reducible rfl))
  try simp only [Act.put, pT]
  refine wpAnyH_ready (rs := [6]) (by kernel_rfl) (by simp) ?_
  refine AllReadyH.cons rfl (fun K hK => ?_) AllReadyH.nil
  (try simp only [pT])
  rw [if_pos (by rfl)]
  go_simp
  go_at_call 17
  refine (D0 hAa).mono ?_
  rintro e w13 ⟨Ax, nx, cx, rfl, hx, b⟩
  replace hAa := hAa.on b
  replace hAb := hAb.on b
  rewrite [cR b xal] at xa0 xa1 xa2 xa3 xa4 xa5
  replace xal := lK b xal
  rewrite [cR b xbl] at xb0 xb1 xb2 xb3 xb4 xb5
  replace xbl := lK b xbl
  replace cc := bK cc b
  clear b
  refine hK.out _ _ ?_ (fun hHeld => ?_)
  · exact ⟨xa0, xa1, xa2, xa3, xa4, xa5, xb0, xb1, xb2, xb3, xb4, xb5⟩
  clear hK K
  try simp only [Act.put, pT]
  refine wpAnyH_ready (rs := [8]) (by kernel_rfl) (by simp) ?_
  refine AllReadyH.cons rfl (fun K hK => ?_) AllReadyH.nil
  (try simp only [pT])
  rw [if_pos (by rfl)]
  go_simp
  go_at_call 18
  refine (D1 hAa).mono ?_
  rintro e w14 ⟨Ay, ny, cy, rfl, hy, b⟩
  replace hAa := hAa.on b
  replace hAb := hAb.on b
  replace hx := hx.on b
  rewrite [cR b xal] at xa0 xa1 xa2 xa3 xa4 xa5
  replace xal := lK b xal
  rewrite [cR b xbl] at xb0 xb1 xb2 xb3 xb4 xb5
  replace xbl := lK b xbl
  replace cc := bK cc b
  clear b
  refine hK.out _ _ ?_ (fun hHeld => ?_)
  · exact ⟨xa0, xa1, xa2, xa3, xa4, xa5, xb0, xb1, xb2, xb3, xb4, xb5⟩
  clear hK K
  try simp only [Act.put, pT]
  refine wpAnyH_ready (rs := [9]) (by kernel_rfl) (by simp) ?_
  refine AllReadyH.cons rfl (fun K hK => ?_) AllReadyH.nil
  (try simp only [pT])
  rw [if_pos (by rfl)]
  go_simp
  go_at_call 16
  refine (rsame9_self14 hx hy (by rw [hx.1]; exact hl)).mono ?_
  rintro e w15 ⟨rfl, b⟩
  replace hAa := hAa.on b
  replace hAb := hAb.on b
  replace hx := hx.on b
  replace hy := hy.on b
  rewrite [cR b xal] at xa0 xa1 xa2 xa3 xa4 xa5
  replace xal := lK b xal
  rewrite [cR b xbl] at xb0 xb1 xb2 xb3 xb4 xb5
  replace xbl := lK b xbl
  replace cc := bK cc b
  clear b
  refine hK.out _ _ ?_ (fun hHeld => ?_)
  · exact ⟨xa0, xa1, xa2, xa3, xa4, xa5, xb0, xb1, xb2, xb3, xb4, xb5⟩
  clear hK K
  try simp only [Act.put, pT]
  refine tY (i := 10) (v := ?_) rfl ?_ hHeld ?_
  rotate_left
  · (intro w hSw; (try dsimp only at hSw); go_simp; (try with_reducible rfl))
  try simp only [Act.put, pT]
  refine tY (i := 11) (v := ?_) rfl ?_ hHeld ?_
  rotate_left
  · (intro w hSw; (try dsimp only at hSw); go_simp; (try with_reducible rfl))
  try simp only [Act.put, pT]
  refine tY (i := 12) (v := ?_) rfl ?_ hHeld ?_
  rotate_left
  · (intro w hSw; (try dsimp only at hSw); go_simp; (try with_reducible rfl))
  try simp only [Act.put, pT]
  refine wpAnyH_done (by kernel_rfl) ?_ _
  clear hHeld
  go_wp2_with fail
  go_ret
  exact ⟨rfl, cc⟩

theorem TensTells_walk {w : World} {kka ksa kma koa lga : Int} {Aa : Option Addr} {na ca : Nat} {La : List Bk} (hAa : KR w Aa na ca La) (hna : na ≤ 9223372036854775807) (hia : I64 kka ∧ I64 ksa ∧ I64 kma ∧ I64 koa ∧ I64 lga) {kkb ksb kmb kob lgb : Int} {Ab : Option Addr} {nb cb : Nat} {Lb : List Bk} (hAb : KR w Ab nb cb Lb) (hnb : nb ≤ 9223372036854775807) (hib : I64 kkb ∧ I64 ksb ∧ I64 kmb ∧ I64 kob ∧ I64 lgb) : Calls Tryz.prog 3 #[.agg #[.int .i64 kka, .int .i64 ksa, .int .i64 kma, .int .i64 koa, .int .i64 lga, .slice Aa na ca], .agg #[.int .i64 kkb, .int .i64 ksb, .int .i64 kmb, .int .i64 kob, .int .i64 lgb, .slice Ab nb cb]] w fun e w' => e = .returned (.bool true) ∧ Below w.heap.size w w' := by
  have FA : ∀ {W : World}, KR W Aa na ca La → Calls Tryz.prog 6 #[.agg #[.int .i64 kka, .int .i64 ksa, .int .i64 kma, .int .i64 koa, .int .i64 lga, .slice Aa na ca], .int .i64 24] W (GotV W (.bool (decide (fs La na ≤ 24) && decide ((na : Int) ≤ 24)))) := fun h => rFew14_N h hna
  have FB : ∀ {W : World}, KR W Ab nb cb Lb → Calls Tryz.prog 6 #[.agg #[.int .i64 kkb, .int .i64 ksb, .int .i64 kmb, .int .i64 kob, .int .i64 lgb, .slice Ab nb cb], .int .i64 24] W (GotV W (.bool (decide (fs Lb nb ≤ 24) && decide ((nb : Int) ≤ 24)))) := fun h => rFew14_N h hnb
  generalize (decide (fs La na ≤ 24) && decide ((na : Int) ≤ 24)) = fa at FA
  generalize (decide (fs Lb nb ≤ 24) && decide ((nb : Int) ≤ 24)) = fb at FB
  have hl := hAa.1
  have hI4 : I64 kka ∧ I64 ksa ∧ I64 kma ∧ I64 koa := ⟨hia.1, hia.2.1, hia.2.2.1, hia.2.2.2.1⟩
  cases fa with
  | false => exact TensTells_fa hAa hAb FA
  | true =>
    cases fb with
    | false => exact TensTells_fb hAa hAb FA FB
    | true =>
      by_cases ho : OkS kka ksa kma koa lga La
      · have hb := okS_blocks ho
        exact TensTells_yes hAa hAb FA FB (fun h => by have := rRight14_N (kk := kka) (ks := ksa) (km := kma) (ko := koa) (lg := lga) h; rwa [decide_eq_true ho] at this) (fun W => tnMay_N W hI4) (fun W => rMay14_N W) (fun h => by have := tnRight_N h hna hia; rwa [decide_eq_true ho] at this) (fun h g => tnSame_N h hna g hnb) (fun h g => rSame14_N h g hna) (fun h => tnCost_N h hna) (fun h => rCost14_N h hna) (R := ldS La na) (by rw [hl]; exact okS_load ho) (fun h => tnLoad_N h ho) (fun h => rLoadS_N h (by omega) (fun j hj => hb.2 j (by omega)))
      · exact TensTells_no hAa hAb FA FB (fun h => by have := rRight14_N (kk := kka) (ks := ksa) (km := kma) (ko := koa) (lg := lga) h; rwa [decide_eq_false ho] at this) (fun W => tnMay_N W hI4) (fun W => rMay14_N W) (fun h => by have := tnRight_N h hna hia; rwa [decide_eq_false ho] at this) (fun h g => tnSame_N h hna g hnb) (fun h g => rSame14_N h g hna) (fun h => tnCost_N h hna) (fun h => rCost14_N h hna)

end Go.Proofs.YtpidpebgeblenaaGreat
