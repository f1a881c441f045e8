/-
  The walk of FixHalf.
-/
import Derived.Test.YtccigpnebejbiaaA10
import Derived.Test.YtccigpnebejbiaaMH
import Derived.Test.YtccigpnebejbiaaA3
namespace Go.Proofs.Ytccigpnebejbiaa
set_option maxRecDepth 100000
open Go.RowKit
set_option linter.unusedVariables false
set_option linter.unusedSimpArgs false

theorem prod_half {a : Int} (ha : I64 a) {k : Nat} (hk : k ≤ 40) : Sz (bak a k) 7 := sz_mk (pow_ne k) (Nat.le_trans (len_one ha.abs) (by omega)) (Nat.le_trans (len_one (Nat.lt_of_le_of_lt (Nat.pow_le_pow_right (by omega) hk) (by decide))) (by omega))
theorem bak_num {b : Int} {k : Nat} (h : b ≠ 0) : (bak b k).num ≠ 0 := fun e => by
  have h1 := bak_mul b k
  rw [Rat.num_eq_zero.1 e, Rat.zero_mul] at h1
  exact h (Rat.intCast_eq_zero_iff.1 h1.symm)

set_option maxRecDepth 100000 in
set_option maxHeartbeats 8000000 in
theorem within_N {w : World} {b0 : Bool} {A0 B0 : Option Addr} {n0 c0 m0 d0 : Nat} {x0 : Rat} (h0 : Rt w b0 A0 n0 c0 B0 m0 d0 x0) (s0 : Sz x0 30) {z j : Int} (hz : I64 z) (j0 : 0 ≤ j) (j1 : j ≤ 40) (hr : decide (cmpQ (absQ (bak z j.toNat - x0)) (bak 1 (j.toNat + 1)) ≤ 0) = true) :
    Calls Try.prog 17 #[.int .i64 z, .agg #[.bool b0, .slice A0 n0 c0, .slice B0 m0 d0], .int .i64 j] w (GotV w (.bool true)) := by
  have ew : IntKind.i64.wrap (j + 1) = j + 1 := IntWalk.i64_in _ (by omega)
  have k1 : (j + 1).toNat = j.toNat + 1 := by omega
  have h1_ : I64 1 := by unfold I64; omega
  have so := bak_sz8 hz (show j.toNat ≤ 500 by omega)
  have sh := bak_sz8 h1_ (show j.toNat + 1 ≤ 500 by omega)
  obtain ⟨o_, eo⟩ : ∃ v, bak z j.toNat = v := ⟨_, rfl⟩
  obtain ⟨f_, ef⟩ : ∃ v, bak 1 (j.toNat + 1) = v := ⟨_, rfl⟩
  rw [eo] at so hr
  rw [ef] at sh hr
  have sd := so.sub s0
  have sa := absQ_sz sd
  have tr : decide (cmpQ (absQ (o_ - x0)) f_ ≤ 0) = true := hr
  obtain ⟨c_, ec⟩ : ∃ v, cmpQ (absQ (o_ - x0)) f_ = v := ⟨_, rfl⟩
  have HC := Lib.hid ec
  rw [ec] at tr
  have CB : ∀ {W : World} {b : Bool} {A : Option Addr} {n c : Nat}, Zn W b A n c z → Calls Try.prog 15 #[.agg #[.bool b, .slice A n c], .int .i64 j] W (GotRp W o_ 0) := fun h => by rw [← eo]; exact rback_N h (Nat.le_trans (len_one hz.abs) (by omega)) j0 (by omega)
  have CH : ∀ {W : World} {b : Bool} {A : Option Addr} {n c : Nat}, Zn W b A n c 1 → Calls Try.prog 15 #[.agg #[.bool b, .slice A n c], .int .i64 (j + 1)] W (GotRp W f_ 0) := fun h => by rw [← ef, ← k1]; exact rback_N h (Nat.le_trans (len_one h1_.abs) (by omega)) (by omega) (by omega)
  clear hr eo ef ec
  have cc := Below.refl w.heap.size w
  go_enter Try.func17, Try.ntmps17
  go_wp2_with fail
  have bA : Below w.heap.size w (w.alloc (.cells #[.bool b0, .slice A0 n0 c0, .slice B0 m0 d0] 35)) := ((Below.refl _ w).alloc (by simp) _)
  replace h0 := h0.on bA
  replace cc := bK cc bA
  clear bA
  have ka0 : (w.alloc (.cells #[.bool b0, .slice A0 n0 c0, .slice B0 m0 d0] 35)).cell? ⟨w.heap.size, 0, none⟩ = some (.bool b0) := by simp [go_sem]
  have ka1 : (w.alloc (.cells #[.bool b0, .slice A0 n0 c0, .slice B0 m0 d0] 35)).cell? ⟨w.heap.size, 1, none⟩ = some (.slice A0 n0 c0) := by simp [go_sem]
  have ka2 : (w.alloc (.cells #[.bool b0, .slice A0 n0 c0, .slice B0 m0 d0] 35)).cell? ⟨w.heap.size, 2, none⟩ = some (.slice B0 m0 d0) := by simp [go_sem]
  have kal : w.heap.size < (w.alloc (.cells #[.bool b0, .slice A0 n0 c0, .slice B0 m0 d0] 35)).heap.size := by simp <;> omega
  generalize w.alloc (.cells #[.bool b0, .slice A0 n0 c0, .slice B0 m0 d0] 35) = v1 at *
  refine (rzof_N _ z hz).mono ?_
  rintro e w2 ⟨bz, Az, nz, cz, rfl, hz_, b⟩
  replace h0 := h0.on b
  replace ka0 := cK b ka0 kal
  replace ka1 := cK b ka1 kal
  replace ka2 := cK b ka2 kal
  replace kal := lK b kal
  replace cc := bK cc b
  clear b
  go_wp2_with fail
  refine (CB hz_).mono ?_
  rintro e w3 ⟨bu, Au, nu, cu, Bu, mu, du, rfl, hu, b⟩
  replace h0 := h0.on b
  replace hz_ := hz_.on b
  replace ka0 := cK b ka0 kal
  replace ka1 := cK b ka1 kal
  replace ka2 := cK b ka2 kal
  replace kal := lK b kal
  replace cc := bK cc b
  clear b
  go_wp2_with fail
  have bA := below_one w3 (.cells #[.bool bu, .slice Au nu cu, .slice Bu mu du] 35)
  replace h0 := h0.on bA
  replace hz_ := hz_.on bA
  replace hu := hu.on bA
  replace ka0 := cK bA ka0 kal
  replace ka1 := cK bA ka1 kal
  replace ka2 := cK bA ka2 kal
  replace kal := lK bA kal
  replace cc := bK cc bA
  clear bA
  have xa0 : (w3.alloc (.cells #[.bool bu, .slice Au nu cu, .slice Bu mu du] 35)).cell? ⟨w3.heap.size, 0, none⟩ = some (.bool bu) := by simp [go_sem]
  have xa1 : (w3.alloc (.cells #[.bool bu, .slice Au nu cu, .slice Bu mu du] 35)).cell? ⟨w3.heap.size, 1, none⟩ = some (.slice Au nu cu) := by simp [go_sem]
  have xa2 : (w3.alloc (.cells #[.bool bu, .slice Au nu cu, .slice Bu mu du] 35)).cell? ⟨w3.heap.size, 2, none⟩ = some (.slice Bu mu du) := by simp [go_sem]
  have xal : w3.heap.size < (w3.alloc (.cells #[.bool bu, .slice Au nu cu, .slice Bu mu du] 35)).heap.size := by simp
  generalize w3.alloc (.cells #[.bool bu, .slice Au nu cu, .slice Bu mu du] 35) = v4 at *
  go_wp2_with fail
  refine (rzof_N _ 1 h1_).mono ?_
  rintro e w5 ⟨bi, Ai, ni, ci, rfl, hi, b⟩
  replace h0 := h0.on b
  replace hz_ := hz_.on b
  replace hu := hu.on b
  replace ka0 := cK b ka0 kal
  replace ka1 := cK b ka1 kal
  replace ka2 := cK b ka2 kal
  replace kal := lK b kal
  replace xa0 := cK b xa0 xal
  replace xa1 := cK b xa1 xal
  replace xa2 := cK b xa2 xal
  replace xal := lK b xal
  replace cc := bK cc b
  clear b
  go_wp2_with fail
  refine (CH hi).mono ?_
  rintro e w6 ⟨bv, Av, nv, cv, Bv, mv, dv, rfl, hv, b⟩
  replace h0 := h0.on b
  replace hz_ := hz_.on b
  replace hu := hu.on b
  replace hi := hi.on b
  replace ka0 := cK b ka0 kal
  replace ka1 := cK b ka1 kal
  replace ka2 := cK b ka2 kal
  replace kal := lK b kal
  replace xa0 := cK b xa0 xal
  replace xa1 := cK b xa1 xal
  replace xa2 := cK b xa2 xal
  replace xal := lK b xal
  replace cc := bK cc b
  clear b
  go_wp2_with fail
  have bA := below_one w6 (.cells #[.bool bv, .slice Av nv cv, .slice Bv mv dv] 35)
  replace h0 := h0.on bA
  replace hz_ := hz_.on bA
  replace hu := hu.on bA
  replace hi := hi.on bA
  replace hv := hv.on bA
  replace ka0 := cK bA ka0 kal
  replace ka1 := cK bA ka1 kal
  replace ka2 := cK bA ka2 kal
  replace kal := lK bA kal
  replace xa0 := cK bA xa0 xal
  replace xa1 := cK bA xa1 xal
  replace xa2 := cK bA xa2 xal
  replace xal := lK bA xal
  replace cc := bK cc bA
  clear bA
  have xb0 : (w6.alloc (.cells #[.bool bv, .slice Av nv cv, .slice Bv mv dv] 35)).cell? ⟨w6.heap.size, 0, none⟩ = some (.bool bv) := by simp [go_sem]
  have xb1 : (w6.alloc (.cells #[.bool bv, .slice Av nv cv, .slice Bv mv dv] 35)).cell? ⟨w6.heap.size, 1, none⟩ = some (.slice Av nv cv) := by simp [go_sem]
  have xb2 : (w6.alloc (.cells #[.bool bv, .slice Av nv cv, .slice Bv mv dv] 35)).cell? ⟨w6.heap.size, 2, none⟩ = some (.slice Bv mv dv) := by simp [go_sem]
  have xbl : w6.heap.size < (w6.alloc (.cells #[.bool bv, .slice Av nv cv, .slice Bv mv dv] 35)).heap.size := by simp
  generalize w6.alloc (.cells #[.bool bv, .slice Av nv cv, .slice Bv mv dv] 35) = v7 at *
  go_wp2_with fail
  have bD : Below v7.heap.size v7 v7.drew := below_drewN (Below.refl _ v7) 1
  replace h0 := h0.on bD
  replace hz_ := hz_.on bD
  replace hu := hu.on bD
  replace hi := hi.on bD
  replace hv := hv.on bD
  replace ka0 := cK bD ka0 kal
  replace ka1 := cK bD ka1 kal
  replace ka2 := cK bD ka2 kal
  replace kal := lK bD kal
  replace xa0 := cK bD xa0 xal
  replace xa1 := cK bD xa1 xal
  replace xa2 := cK bD xa2 xal
  replace xal := lK bD xal
  replace xb0 := cK bD xb0 xbl
  replace xb1 := cK bD xb1 xbl
  replace xb2 := cK bD xb2 xbl
  replace xbl := lK bD xbl
  replace cc := bK cc bD
  clear bD
  refine wp_region_held_drew (S := fun w' => w'.cell? ⟨w.heap.size, 0, none⟩ = some (.bool b0) ∧ w'.cell? ⟨w.heap.size, 1, none⟩ = some (.slice A0 n0 c0) ∧ w'.cell? ⟨w.heap.size, 2, none⟩ = some (.slice B0 m0 d0) ∧ w'.cell? ⟨w3.heap.size, 0, none⟩ = some (.bool bu) ∧ w'.cell? ⟨w3.heap.size, 1, none⟩ = some (.slice Au nu cu) ∧ w'.cell? ⟨w3.heap.size, 2, none⟩ = some (.slice Bu mu du) ∧ w'.cell? ⟨w6.heap.size, 0, none⟩ = some (.bool bv) ∧ w'.cell? ⟨w6.heap.size, 1, none⟩ = some (.slice Av nv cv) ∧ w'.cell? ⟨w6.heap.size, 2, none⟩ = some (.slice Bv mv dv)) (by kernel_rfl) ?_ (fun hHeld => ?_)
  · exact ⟨ka0, ka1, ka2, xa0, xa1, xa2, xb0, xb1, xb2⟩
  refine wpAnyH_take (i := 0) (v := ?_) rfl (by kernel_rfl) (by kernel_rfl) (by kernel_rfl) (fun _ _ _ h => h) (Or.inl ⟨by rfl, ?_⟩) hHeld ?_
  rotate_left
  · (intro w hSw; (try dsimp only at hSw); go_simp; (try with_reducible rfl))
  try simp only [Act.put, List.getElem_toArray, List.getElem_cons_zero, List.getElem_cons_succ, List.setIfInBounds_toArray, List.set_cons_zero, List.set_cons_succ]
  refine wpAnyH_take (i := 1) (v := ?_) rfl (by kernel_rfl) (by kernel_rfl) (by kernel_rfl) (fun _ _ _ h => h) (Or.inl ⟨by rfl, ?_⟩) hHeld ?_
  rotate_left
  · (intro w hSw; (try dsimp only at hSw); go_simp; (try with_reducible rfl))
  try simp only [Act.put, List.getElem_toArray, List.getElem_cons_zero, List.getElem_cons_succ, List.setIfInBounds_toArray, List.set_cons_zero, List.set_cons_succ]
  refine wpAnyH_take (i := 4) (v := ?_) rfl (by kernel_rfl) (by kernel_rfl) (by kernel_rfl) (fun _ _ _ h => h) (Or.inl ⟨by rfl, ?_⟩) hHeld ?_
  rotate_left
  · (intro w hSw; (try dsimp only at hSw); go_simp; (try with_reducible rfl))
  try simp only [Act.put, List.getElem_toArray, List.getElem_cons_zero, List.getElem_cons_succ, List.setIfInBounds_toArray, List.set_cons_zero, List.set_cons_succ]
  refine wpAnyH_ready (rs := [2]) (by kernel_rfl) (by simp) ?_
  refine AllReadyH.cons rfl (fun K hK => ?_) AllReadyH.nil
  (try simp only [List.getElem_toArray, List.getElem_cons_zero, List.getElem_cons_succ])
  rw [if_pos (by rfl)]
  go_simp
  go_at_call 41
  refine (rtsub_N hu (so.le (by omega)) h0 (s0.le (by omega))).mono ?_
  rintro e w8 ⟨bd, Ad, nd, cd, Bd, md, dd, rfl, hd, b⟩
  replace h0 := h0.on b
  replace hz_ := hz_.on b
  replace hu := hu.on b
  replace hi := hi.on b
  replace hv := hv.on b
  replace ka0 := cK b ka0 kal
  replace ka1 := cK b ka1 kal
  replace ka2 := cK b ka2 kal
  replace kal := lK b kal
  replace xa0 := cK b xa0 xal
  replace xa1 := cK b xa1 xal
  replace xa2 := cK b xa2 xal
  replace xal := lK b xal
  replace xb0 := cK b xb0 xbl
  replace xb1 := cK b xb1 xbl
  replace xb2 := cK b xb2 xbl
  replace xbl := lK b xbl
  replace cc := bK cc b
  clear b
  refine hK.out _ _ ?_ (fun hHeld => ?_)
  · exact ⟨ka0, ka1, ka2, xa0, xa1, xa2, xb0, xb1, xb2⟩
  clear hK K
  try simp only [Act.put, List.getElem_toArray, List.getElem_cons_zero, List.getElem_cons_succ, List.setIfInBounds_toArray, List.set_cons_zero, List.set_cons_succ]
  refine wpAnyH_ready (rs := [3]) (by kernel_rfl) (by simp) ?_
  refine AllReadyH.cons rfl (fun K hK => ?_) AllReadyH.nil
  (try simp only [List.getElem_toArray, List.getElem_cons_zero, List.getElem_cons_succ])
  rw [if_pos (by rfl)]
  go_simp
  go_at_call 21
  refine (rtabs_N hd).mono ?_
  rintro e w9 ⟨be, Ae, ne, ce, Be, me, de, rfl, he, b⟩
  replace h0 := h0.on b
  replace hz_ := hz_.on b
  replace hu := hu.on b
  replace hi := hi.on b
  replace hv := hv.on b
  replace hd := hd.on b
  replace ka0 := cK b ka0 kal
  replace ka1 := cK b ka1 kal
  replace ka2 := cK b ka2 kal
  replace kal := lK b kal
  replace xa0 := cK b xa0 xal
  replace xa1 := cK b xa1 xal
  replace xa2 := cK b xa2 xal
  replace xal := lK b xal
  replace xb0 := cK b xb0 xbl
  replace xb1 := cK b xb1 xbl
  replace xb2 := cK b xb2 xbl
  replace xbl := lK b xbl
  replace cc := bK cc b
  clear b
  refine hK.out _ _ ?_ (fun hHeld => ?_)
  · exact ⟨ka0, ka1, ka2, xa0, xa1, xa2, xb0, xb1, xb2⟩
  clear hK K
  try simp only [Act.put, List.getElem_toArray, List.getElem_cons_zero, List.getElem_cons_succ, List.setIfInBounds_toArray, List.set_cons_zero, List.set_cons_succ]
  refine wpAnyH_ready (rs := [5]) (by kernel_rfl) (by simp) ?_
  refine AllReadyH.cons rfl (fun K hK => ?_) AllReadyH.nil
  (try simp only [List.getElem_toArray, List.getElem_cons_zero, List.getElem_cons_succ])
  rw [if_pos (by rfl)]
  go_simp
  go_at_call 20
  refine (rtcmp_v c_ he (sa.le (by omega)) hv (sh.le (by omega)) HC.out).mono ?_
  rintro e w10 ⟨rfl, b⟩
  replace h0 := h0.on b
  replace hz_ := hz_.on b
  replace hu := hu.on b
  replace hi := hi.on b
  replace hv := hv.on b
  replace hd := hd.on b
  replace he := he.on b
  replace ka0 := cK b ka0 kal
  replace ka1 := cK b ka1 kal
  replace ka2 := cK b ka2 kal
  replace kal := lK b kal
  replace xa0 := cK b xa0 xal
  replace xa1 := cK b xa1 xal
  replace xa2 := cK b xa2 xal
  replace xal := lK b xal
  replace xb0 := cK b xb0 xbl
  replace xb1 := cK b xb1 xbl
  replace xb2 := cK b xb2 xbl
  replace xbl := lK b xbl
  replace cc := bK cc b
  clear b
  refine hK.out _ _ ?_ (fun hHeld => ?_)
  · exact ⟨ka0, ka1, ka2, xa0, xa1, xa2, xb0, xb1, xb2⟩
  clear hK K
  try simp only [Act.put, List.getElem_toArray, List.getElem_cons_zero, List.getElem_cons_succ, List.setIfInBounds_toArray, List.set_cons_zero, List.set_cons_succ]
  refine wpAnyH_take (i := 6) (v := ?_) rfl (by kernel_rfl) (by kernel_rfl) (by kernel_rfl) (fun _ _ _ h => h) (Or.inl ⟨by rfl, ?_⟩) hHeld ?_
  rotate_left
  · (intro w hSw; (try dsimp only at hSw); go_simp; (try with_reducible rfl))
  try simp only [Act.put, List.getElem_toArray, List.getElem_cons_zero, List.getElem_cons_succ, List.setIfInBounds_toArray, List.set_cons_zero, List.set_cons_succ]
  refine wpAnyH_take (i := 7) (v := ?_) rfl (by kernel_rfl) (by kernel_rfl) (by kernel_rfl) (fun _ _ _ h => h) (Or.inl ⟨by rfl, ?_⟩) hHeld ?_
  rotate_left
  · (intro w hSw; (try dsimp only at hSw); go_simp; (try with_reducible rfl))
  try simp only [Act.put, List.getElem_toArray, List.getElem_cons_zero, List.getElem_cons_succ, List.setIfInBounds_toArray, List.set_cons_zero, List.set_cons_succ]
  refine wpAnyH_done (by kernel_rfl) ?_ _
  clear hHeld
  go_wp2_with fail
  go_ret
  exact ⟨rfl, cc⟩

set_option maxRecDepth 100000 in
set_option maxHeartbeats 8000000 in
theorem FixHalf_n0 {w : World} {a b j : Int} (hj : j < 0) (A0 : ∀ W : World, Calls Try.prog 13 #[.int .i64 a, .int .i64 b, .int .i64 j] W (GotV W (.tuple #[.int .i64 (0), .int .i64 (1)]))) (A1 : ∀ W : World, Calls Try.prog 14 #[.int .i64 a, .int .i64 b, .int .i64 j] W (GotV W (.tuple #[.int .i64 (0), .int .i64 (1)]))) :
    Calls Try.prog 4 #[.int .i64 a, .int .i64 b, .int .i64 j] w (fun e w' => e = .returned (.bool true) ∧ Below w.heap.size w w') := by
  have t1 : decide (j < 0) = true := decide_eq_true hj
  have cc := Below.refl w.heap.size w
  go_enter Try.func4, Try.ntmps4
  go_wp2_with fail
  refine (A0 _).mono ?_
  rintro e w1 ⟨rfl, b⟩
  replace cc := bK cc b
  clear b
  go_wp2_with fail
  refine (A1 _).mono ?_
  rintro e w2 ⟨rfl, b⟩
  replace cc := bK cc b
  clear b
  go_wp2_with fail
  refine (alive8_any _).mono ?_
  rintro e w3 ⟨rfl, b⟩
  replace cc := bK cc b
  clear b
  go_wp2_with fail
  go_ret
  exact ⟨rfl, cc⟩

set_option maxRecDepth 100000 in
set_option maxHeartbeats 8000000 in
theorem FixHalf_n1 {w : World} {a b j : Int} (hj0 : ¬ j < 0) (hj : 40 < j) (A0 : ∀ W : World, Calls Try.prog 13 #[.int .i64 a, .int .i64 b, .int .i64 j] W (GotV W (.tuple #[.int .i64 (0), .int .i64 (1)]))) (A1 : ∀ W : World, Calls Try.prog 14 #[.int .i64 a, .int .i64 b, .int .i64 j] W (GotV W (.tuple #[.int .i64 (0), .int .i64 (1)]))) :
    Calls Try.prog 4 #[.int .i64 a, .int .i64 b, .int .i64 j] w (fun e w' => e = .returned (.bool true) ∧ Below w.heap.size w w') := by
  have t1 : decide (j < 0) = false := decide_eq_false hj0
  have t2 : decide (40 < j) = true := decide_eq_true hj
  have cc := Below.refl w.heap.size w
  go_enter Try.func4, Try.ntmps4
  go_wp2_with fail
  refine (A0 _).mono ?_
  rintro e w1 ⟨rfl, b⟩
  replace cc := bK cc b
  clear b
  go_wp2_with fail
  refine (A1 _).mono ?_
  rintro e w2 ⟨rfl, b⟩
  replace cc := bK cc b
  clear b
  go_wp2_with fail
  refine (alive8_any _).mono ?_
  rintro e w3 ⟨rfl, b⟩
  replace cc := bK cc b
  clear b
  go_wp2_with fail
  go_ret
  exact ⟨rfl, cc⟩

set_option maxRecDepth 100000 in
set_option maxHeartbeats 8000000 in
theorem FixHalf_ok_zero {w : World} {a b j p q : Int} (ha : I64 a) (hb : I64 b) (j0 : 0 ≤ j) (j1 : j ≤ 40) (hm : nea (bak a j.toNat * bak b j.toNat) j.toNat = p) (hp : I64 p) (A0 : ∀ W : World, Calls Try.prog 13 #[.int .i64 a, .int .i64 b, .int .i64 j] W (GotV W (.tuple #[.int .i64 (p), .int .i64 (0)]))) (A1 : ∀ W : World, Calls Try.prog 14 #[.int .i64 a, .int .i64 b, .int .i64 j] W (GotV W (.tuple #[.int .i64 (0), .int .i64 (4)]))) (hb0 : b = 0) :
    Calls Try.prog 4 #[.int .i64 a, .int .i64 b, .int .i64 j] w (fun e w' => e = .returned (.bool true) ∧ Below w.heap.size w w') := by
  have t1 : decide (j < 0) = false := decide_eq_false (by omega)
  have t2 : decide (40 < j) = false := decide_eq_false (by omega)
  have sx := bak_sz8 ha (show j.toNat ≤ 500 by omega)
  have sy := bak_sz8 hb (show j.toNat ≤ 500 by omega)
  have sxy := prod_sz ha hb (show j.toNat ≤ 40 by omega)
  subst hb0
  obtain ⟨x, ex⟩ : ∃ v, bak a j.toNat = v := ⟨_, rfl⟩
  obtain ⟨y, ey⟩ : ∃ v, bak 0 j.toNat = v := ⟨_, rfl⟩
  have CX : ∀ {W : World} {b_ : Bool} {A : Option Addr} {n c : Nat}, Zn W b_ A n c a → Calls Try.prog 15 #[.agg #[.bool b_, .slice A n c], .int .i64 j] W (GotRp W x 0) := fun h => by rw [← ex]; exact rback_N h (Nat.le_trans (len_one ha.abs) (by omega)) j0 (by omega)
  have CY : ∀ {W : World} {b_ : Bool} {A : Option Addr} {n c : Nat}, Zn W b_ A n c 0 → Calls Try.prog 15 #[.agg #[.bool b_, .slice A n c], .int .i64 j] W (GotRp W y 0) := fun h => by rw [← ey]; exact rback_N h (Nat.le_trans (len_one hb.abs) (by omega)) j0 (by omega)
  have HM : Hid (∀ {W : World} {b0 : Bool} {A0 B0 : Option Addr} {n0 c0 m0 d0 : Nat}, Rt W b0 A0 n0 c0 B0 m0 d0 (x * y) → Calls Try.prog 17 #[.int .i64 p, .agg #[.bool b0, .slice A0 n0 c0, .slice B0 m0 d0], .int .i64 j] W (GotV W (.bool true))) := Lib.hid (fun h => within_N h (by rw [← ex, ← ey]; exact sxy.le (by omega)) hp j0 j1 (by rw [← ex, ← ey]; exact decide_eq_true (within_math hm)))
  rw [ex, ey] at sxy
  rw [ex] at sx
  rw [ey] at sy
  clear ex ey hm
  have cc := Below.refl w.heap.size w
  go_enter Try.func4, Try.ntmps4
  go_wp2_with fail
  refine (rzof_N _ a ha).mono ?_
  rintro e w1 ⟨bz, Az, nz, cz, rfl, hz, b⟩
  replace cc := bK cc b
  clear b
  go_wp2_with fail
  refine (CX hz).mono ?_
  rintro e w2 ⟨bu, Au, nu, cu, Bu, mu, du, rfl, hu, b⟩
  replace hz := hz.on b
  replace cc := bK cc b
  clear b
  go_wp2_with fail
  have bA := below_one w2 (.cells #[.bool bu, .slice Au nu cu, .slice Bu mu du] 35)
  replace hz := hz.on bA
  replace hu := hu.on bA
  replace cc := bK cc bA
  clear bA
  have xa0 : (w2.alloc (.cells #[.bool bu, .slice Au nu cu, .slice Bu mu du] 35)).cell? ⟨w2.heap.size, 0, none⟩ = some (.bool bu) := by simp [go_sem]
  have xa1 : (w2.alloc (.cells #[.bool bu, .slice Au nu cu, .slice Bu mu du] 35)).cell? ⟨w2.heap.size, 1, none⟩ = some (.slice Au nu cu) := by simp [go_sem]
  have xa2 : (w2.alloc (.cells #[.bool bu, .slice Au nu cu, .slice Bu mu du] 35)).cell? ⟨w2.heap.size, 2, none⟩ = some (.slice Bu mu du) := by simp [go_sem]
  have xal : w2.heap.size < (w2.alloc (.cells #[.bool bu, .slice Au nu cu, .slice Bu mu du] 35)).heap.size := by simp
  generalize w2.alloc (.cells #[.bool bu, .slice Au nu cu, .slice Bu mu du] 35) = v3 at *
  go_wp2_with fail
  refine (rzof_N _ 0 hb).mono ?_
  rintro e w4 ⟨bi, Ai, ni, ci, rfl, hi, b⟩
  replace hz := hz.on b
  replace hu := hu.on b
  replace xa0 := cK b xa0 xal
  replace xa1 := cK b xa1 xal
  replace xa2 := cK b xa2 xal
  replace xal := lK b xal
  replace cc := bK cc b
  clear b
  go_wp2_with fail
  refine (CY hi).mono ?_
  rintro e w5 ⟨bv, Av, nv, cv, Bv, mv, dv, rfl, hv, b⟩
  replace hz := hz.on b
  replace hu := hu.on b
  replace hi := hi.on b
  replace xa0 := cK b xa0 xal
  replace xa1 := cK b xa1 xal
  replace xa2 := cK b xa2 xal
  replace xal := lK b xal
  replace cc := bK cc b
  clear b
  go_wp2_with fail
  have bA := below_one w5 (.cells #[.bool bv, .slice Av nv cv, .slice Bv mv dv] 35)
  replace hz := hz.on bA
  replace hu := hu.on bA
  replace hi := hi.on bA
  replace hv := hv.on bA
  replace xa0 := cK bA xa0 xal
  replace xa1 := cK bA xa1 xal
  replace xa2 := cK bA xa2 xal
  replace xal := lK bA xal
  replace cc := bK cc bA
  clear bA
  have xb0 : (w5.alloc (.cells #[.bool bv, .slice Av nv cv, .slice Bv mv dv] 35)).cell? ⟨w5.heap.size, 0, none⟩ = some (.bool bv) := by simp [go_sem]
  have xb1 : (w5.alloc (.cells #[.bool bv, .slice Av nv cv, .slice Bv mv dv] 35)).cell? ⟨w5.heap.size, 1, none⟩ = some (.slice Av nv cv) := by simp [go_sem]
  have xb2 : (w5.alloc (.cells #[.bool bv, .slice Av nv cv, .slice Bv mv dv] 35)).cell? ⟨w5.heap.size, 2, none⟩ = some (.slice Bv mv dv) := by simp [go_sem]
  have xbl : w5.heap.size < (w5.alloc (.cells #[.bool bv, .slice Av nv cv, .slice Bv mv dv] 35)).heap.size := by simp
  generalize w5.alloc (.cells #[.bool bv, .slice Av nv cv, .slice Bv mv dv] 35) = v6 at *
  go_wp2_with fail
  refine (A0 _).mono ?_
  rintro e w7 ⟨rfl, b⟩
  replace hz := hz.on b
  replace hu := hu.on b
  replace hi := hi.on b
  replace hv := hv.on b
  replace xa0 := cK b xa0 xal
  replace xa1 := cK b xa1 xal
  replace xa2 := cK b xa2 xal
  replace xal := lK b xal
  replace xb0 := cK b xb0 xbl
  replace xb1 := cK b xb1 xbl
  replace xb2 := cK b xb2 xbl
  replace xbl := lK b xbl
  replace cc := bK cc b
  clear b
  go_wp2_with fail
  refine (rtmul_N hu (sx.le (by omega)) hv (sy.le (by omega))).mono ?_
  rintro e w8 ⟨bl, Al, nl, cl, Bl, ml, dl, rfl, hl, b⟩
  replace hz := hz.on b
  replace hu := hu.on b
  replace hi := hi.on b
  replace hv := hv.on b
  replace xa0 := cK b xa0 xal
  replace xa1 := cK b xa1 xal
  replace xa2 := cK b xa2 xal
  replace xal := lK b xal
  replace xb0 := cK b xb0 xbl
  replace xb1 := cK b xb1 xbl
  replace xb2 := cK b xb2 xbl
  replace xbl := lK b xbl
  replace cc := bK cc b
  clear b
  go_wp2_with fail
  refine (HM.out hl).mono ?_
  rintro e w9 ⟨rfl, b⟩
  replace hz := hz.on b
  replace hu := hu.on b
  replace hi := hi.on b
  replace hv := hv.on b
  replace hl := hl.on b
  replace xa0 := cK b xa0 xal
  replace xa1 := cK b xa1 xal
  replace xa2 := cK b xa2 xal
  replace xal := lK b xal
  replace xb0 := cK b xb0 xbl
  replace xb1 := cK b xb1 xbl
  replace xb2 := cK b xb2 xbl
  replace xbl := lK b xbl
  replace cc := bK cc b
  clear b
  go_wp2_with fail
  refine (A1 _).mono ?_
  rintro e w10 ⟨rfl, b⟩
  replace hz := hz.on b
  replace hu := hu.on b
  replace hi := hi.on b
  replace hv := hv.on b
  replace hl := hl.on b
  replace xa0 := cK b xa0 xal
  replace xa1 := cK b xa1 xal
  replace xa2 := cK b xa2 xal
  replace xal := lK b xal
  replace xb0 := cK b xb0 xbl
  replace xb1 := cK b xb1 xbl
  replace xb2 := cK b xb2 xbl
  replace xbl := lK b xbl
  replace cc := bK cc b
  clear b
  go_wp2_with fail
  refine (alive8_any _).mono ?_
  rintro e w11 ⟨rfl, b⟩
  replace hz := hz.on b
  replace hu := hu.on b
  replace hi := hi.on b
  replace hv := hv.on b
  replace hl := hl.on b
  replace xa0 := cK b xa0 xal
  replace xa1 := cK b xa1 xal
  replace xa2 := cK b xa2 xal
  replace xal := lK b xal
  replace xb0 := cK b xb0 xbl
  replace xb1 := cK b xb1 xbl
  replace xb2 := cK b xb2 xbl
  replace xbl := lK b xbl
  replace cc := bK cc b
  clear b
  go_wp2_with fail
  go_ret
  exact ⟨rfl, cc⟩

set_option maxRecDepth 100000 in
set_option maxHeartbeats 8000000 in
theorem FixHalf_ok_ok {w : World} {a b j p q : Int} (ha : I64 a) (hb : I64 b) (j0 : 0 ≤ j) (j1 : j ≤ 40) (hm : nea (bak a j.toNat * bak b j.toNat) j.toNat = p) (hp : I64 p) (hb0 : b ≠ 0) (hd : nea (((a : Int) : Rat) / ((b : Int) : Rat)) j.toNat = q) (hq : I64 q) (A0 : ∀ W : World, Calls Try.prog 13 #[.int .i64 a, .int .i64 b, .int .i64 j] W (GotV W (.tuple #[.int .i64 (p), .int .i64 (0)]))) (A1 : ∀ W : World, Calls Try.prog 14 #[.int .i64 a, .int .i64 b, .int .i64 j] W (GotV W (.tuple #[.int .i64 (q), .int .i64 (0)]))) :
    Calls Try.prog 4 #[.int .i64 a, .int .i64 b, .int .i64 j] w (fun e w' => e = .returned (.bool true) ∧ Below w.heap.size w w') := by
  have t1 : decide (j < 0) = false := decide_eq_false (by omega)
  have t2 : decide (40 < j) = false := decide_eq_false (by omega)
  have sx := bak_sz8 ha (show j.toNat ≤ 500 by omega)
  have sy := bak_sz8 hb (show j.toNat ≤ 500 by omega)
  have sxy := prod_sz ha hb (show j.toNat ≤ 40 by omega)
  have tb : ((b : Int) == 0) = false := beq_eq_false_iff_ne.2 hb0
  obtain ⟨x, ex⟩ : ∃ v, bak a j.toNat = v := ⟨_, rfl⟩
  obtain ⟨y, ey⟩ : ∃ v, bak b j.toNat = v := ⟨_, rfl⟩
  have CX : ∀ {W : World} {b_ : Bool} {A : Option Addr} {n c : Nat}, Zn W b_ A n c a → Calls Try.prog 15 #[.agg #[.bool b_, .slice A n c], .int .i64 j] W (GotRp W x 0) := fun h => by rw [← ex]; exact rback_N h (Nat.le_trans (len_one ha.abs) (by omega)) j0 (by omega)
  have CY : ∀ {W : World} {b_ : Bool} {A : Option Addr} {n c : Nat}, Zn W b_ A n c b → Calls Try.prog 15 #[.agg #[.bool b_, .slice A n c], .int .i64 j] W (GotRp W y 0) := fun h => by rw [← ey]; exact rback_N h (Nat.le_trans (len_one hb.abs) (by omega)) j0 (by omega)
  have HM : Hid (∀ {W : World} {b0 : Bool} {A0 B0 : Option Addr} {n0 c0 m0 d0 : Nat}, Rt W b0 A0 n0 c0 B0 m0 d0 (x * y) → Calls Try.prog 17 #[.int .i64 p, .agg #[.bool b0, .slice A0 n0 c0, .slice B0 m0 d0], .int .i64 j] W (GotV W (.bool true))) := Lib.hid (fun h => within_N h (by rw [← ex, ← ey]; exact sxy.le (by omega)) hp j0 j1 (by rw [← ex, ← ey]; exact decide_eq_true (within_math hm)))
  have hn : y.num ≠ 0 := by rw [← ey]; exact bak_num hb0
  have sq := (prod_half ha (show j.toNat ≤ 40 by omega)).div (prod_half hb (show j.toNat ≤ 40 by omega)) (by rw [ey]; exact hn)
  have eq_ := bak_quot (a := a) (b := b) j.toNat hb0
  rw [ex, ey] at sq eq_
  have CD : ∀ {W : World} {b0 : Bool} {A0 B0 : Option Addr} {n0 c0 m0 d0 : Nat} {b1 : Bool} {A1 B1 : Option Addr} {n1 c1 m1 d1 : Nat}, Rt W b0 A0 n0 c0 B0 m0 d0 x → Rt W b1 A1 n1 c1 B1 m1 d1 y → Calls Try.prog 19 #[.agg #[.bool b0, .slice A0 n0 c0, .slice B0 m0 d0], .agg #[.bool b1, .slice A1 n1 c1, .slice B1 m1 d1]] W (GotRp W (x / y) 0) := fun h k => rtdiv_N h (by rw [← ex]; exact sx.le (by omega)) k (by rw [← ey]; exact sy.le (by omega)) hn
  have HD : Hid (∀ {W : World} {b0 : Bool} {A0 B0 : Option Addr} {n0 c0 m0 d0 : Nat}, Rt W b0 A0 n0 c0 B0 m0 d0 (x / y) → Calls Try.prog 17 #[.int .i64 q, .agg #[.bool b0, .slice A0 n0 c0, .slice B0 m0 d0], .int .i64 j] W (GotV W (.bool true))) := Lib.hid (fun h => within_N h (sq.le (by omega)) hq j0 j1 (by rw [eq_]; exact decide_eq_true (within_math hd)))
  rw [ex, ey] at sxy
  rw [ex] at sx
  rw [ey] at sy
  clear ex ey eq_ hm hd
  have cc := Below.refl w.heap.size w
  go_enter Try.func4, Try.ntmps4
  go_wp2_with fail
  refine (rzof_N _ a ha).mono ?_
  rintro e w1 ⟨bz, Az, nz, cz, rfl, hz, b⟩
  replace cc := bK cc b
  clear b
  go_wp2_with fail
  refine (CX hz).mono ?_
  rintro e w2 ⟨bu, Au, nu, cu, Bu, mu, du, rfl, hu, b⟩
  replace hz := hz.on b
  replace cc := bK cc b
  clear b
  go_wp2_with fail
  have bA := below_one w2 (.cells #[.bool bu, .slice Au nu cu, .slice Bu mu du] 35)
  replace hz := hz.on bA
  replace hu := hu.on bA
  replace cc := bK cc bA
  clear bA
  have xa0 : (w2.alloc (.cells #[.bool bu, .slice Au nu cu, .slice Bu mu du] 35)).cell? ⟨w2.heap.size, 0, none⟩ = some (.bool bu) := by simp [go_sem]
  have xa1 : (w2.alloc (.cells #[.bool bu, .slice Au nu cu, .slice Bu mu du] 35)).cell? ⟨w2.heap.size, 1, none⟩ = some (.slice Au nu cu) := by simp [go_sem]
  have xa2 : (w2.alloc (.cells #[.bool bu, .slice Au nu cu, .slice Bu mu du] 35)).cell? ⟨w2.heap.size, 2, none⟩ = some (.slice Bu mu du) := by simp [go_sem]
  have xal : w2.heap.size < (w2.alloc (.cells #[.bool bu, .slice Au nu cu, .slice Bu mu du] 35)).heap.size := by simp
  generalize w2.alloc (.cells #[.bool bu, .slice Au nu cu, .slice Bu mu du] 35) = v3 at *
  go_wp2_with fail
  refine (rzof_N _ b hb).mono ?_
  rintro e w4 ⟨bi, Ai, ni, ci, rfl, hi, b⟩
  replace hz := hz.on b
  replace hu := hu.on b
  replace xa0 := cK b xa0 xal
  replace xa1 := cK b xa1 xal
  replace xa2 := cK b xa2 xal
  replace xal := lK b xal
  replace cc := bK cc b
  clear b
  go_wp2_with fail
  refine (CY hi).mono ?_
  rintro e w5 ⟨bv, Av, nv, cv, Bv, mv, dv, rfl, hv, b⟩
  replace hz := hz.on b
  replace hu := hu.on b
  replace hi := hi.on b
  replace xa0 := cK b xa0 xal
  replace xa1 := cK b xa1 xal
  replace xa2 := cK b xa2 xal
  replace xal := lK b xal
  replace cc := bK cc b
  clear b
  go_wp2_with fail
  have bA := below_one w5 (.cells #[.bool bv, .slice Av nv cv, .slice Bv mv dv] 35)
  replace hz := hz.on bA
  replace hu := hu.on bA
  replace hi := hi.on bA
  replace hv := hv.on bA
  replace xa0 := cK bA xa0 xal
  replace xa1 := cK bA xa1 xal
  replace xa2 := cK bA xa2 xal
  replace xal := lK bA xal
  replace cc := bK cc bA
  clear bA
  have xb0 : (w5.alloc (.cells #[.bool bv, .slice Av nv cv, .slice Bv mv dv] 35)).cell? ⟨w5.heap.size, 0, none⟩ = some (.bool bv) := by simp [go_sem]
  have xb1 : (w5.alloc (.cells #[.bool bv, .slice Av nv cv, .slice Bv mv dv] 35)).cell? ⟨w5.heap.size, 1, none⟩ = some (.slice Av nv cv) := by simp [go_sem]
  have xb2 : (w5.alloc (.cells #[.bool bv, .slice Av nv cv, .slice Bv mv dv] 35)).cell? ⟨w5.heap.size, 2, none⟩ = some (.slice Bv mv dv) := by simp [go_sem]
  have xbl : w5.heap.size < (w5.alloc (.cells #[.bool bv, .slice Av nv cv, .slice Bv mv dv] 35)).heap.size := by simp
  generalize w5.alloc (.cells #[.bool bv, .slice Av nv cv, .slice Bv mv dv] 35) = v6 at *
  go_wp2_with fail
  refine (A0 _).mono ?_
  rintro e w7 ⟨rfl, b⟩
  replace hz := hz.on b
  replace hu := hu.on b
  replace hi := hi.on b
  replace hv := hv.on b
  replace xa0 := cK b xa0 xal
  replace xa1 := cK b xa1 xal
  replace xa2 := cK b xa2 xal
  replace xal := lK b xal
  replace xb0 := cK b xb0 xbl
  replace xb1 := cK b xb1 xbl
  replace xb2 := cK b xb2 xbl
  replace xbl := lK b xbl
  replace cc := bK cc b
  clear b
  go_wp2_with fail
  refine (rtmul_N hu (sx.le (by omega)) hv (sy.le (by omega))).mono ?_
  rintro e w8 ⟨bl, Al, nl, cl, Bl, ml, dl, rfl, hl, b⟩
  replace hz := hz.on b
  replace hu := hu.on b
  replace hi := hi.on b
  replace hv := hv.on b
  replace xa0 := cK b xa0 xal
  replace xa1 := cK b xa1 xal
  replace xa2 := cK b xa2 xal
  replace xal := lK b xal
  replace xb0 := cK b xb0 xbl
  replace xb1 := cK b xb1 xbl
  replace xb2 := cK b xb2 xbl
  replace xbl := lK b xbl
  replace cc := bK cc b
  clear b
  go_wp2_with fail
  refine (HM.out hl).mono ?_
  rintro e w9 ⟨rfl, b⟩
  replace hz := hz.on b
  replace hu := hu.on b
  replace hi := hi.on b
  replace hv := hv.on b
  replace hl := hl.on b
  replace xa0 := cK b xa0 xal
  replace xa1 := cK b xa1 xal
  replace xa2 := cK b xa2 xal
  replace xal := lK b xal
  replace xb0 := cK b xb0 xbl
  replace xb1 := cK b xb1 xbl
  replace xb2 := cK b xb2 xbl
  replace xbl := lK b xbl
  replace cc := bK cc b
  clear b
  go_wp2_with fail
  refine (A1 _).mono ?_
  rintro e w10 ⟨rfl, b⟩
  replace hz := hz.on b
  replace hu := hu.on b
  replace hi := hi.on b
  replace hv := hv.on b
  replace hl := hl.on b
  replace xa0 := cK b xa0 xal
  replace xa1 := cK b xa1 xal
  replace xa2 := cK b xa2 xal
  replace xal := lK b xal
  replace xb0 := cK b xb0 xbl
  replace xb1 := cK b xb1 xbl
  replace xb2 := cK b xb2 xbl
  replace xbl := lK b xbl
  replace cc := bK cc b
  clear b
  go_wp2_with fail
  refine (CD hu hv).mono ?_
  rintro e w11 ⟨br, Ar, nr, cr, Br, mr, dr, rfl, hr, b⟩
  replace hz := hz.on b
  replace hu := hu.on b
  replace hi := hi.on b
  replace hv := hv.on b
  replace hl := hl.on b
  replace xa0 := cK b xa0 xal
  replace xa1 := cK b xa1 xal
  replace xa2 := cK b xa2 xal
  replace xal := lK b xal
  replace xb0 := cK b xb0 xbl
  replace xb1 := cK b xb1 xbl
  replace xb2 := cK b xb2 xbl
  replace xbl := lK b xbl
  replace cc := bK cc b
  clear b
  go_wp2_with fail
  have bA := below_one w11 (.cells #[.bool br, .slice Ar nr cr, .slice Br mr dr] 35)
  replace hz := hz.on bA
  replace hu := hu.on bA
  replace hi := hi.on bA
  replace hv := hv.on bA
  replace hl := hl.on bA
  replace hr := hr.on bA
  replace xa0 := cK bA xa0 xal
  replace xa1 := cK bA xa1 xal
  replace xa2 := cK bA xa2 xal
  replace xal := lK bA xal
  replace xb0 := cK bA xb0 xbl
  replace xb1 := cK bA xb1 xbl
  replace xb2 := cK bA xb2 xbl
  replace xbl := lK bA xbl
  replace cc := bK cc bA
  clear bA
  have xq0 : (w11.alloc (.cells #[.bool br, .slice Ar nr cr, .slice Br mr dr] 35)).cell? ⟨w11.heap.size, 0, none⟩ = some (.bool br) := by simp [go_sem]
  have xq1 : (w11.alloc (.cells #[.bool br, .slice Ar nr cr, .slice Br mr dr] 35)).cell? ⟨w11.heap.size, 1, none⟩ = some (.slice Ar nr cr) := by simp [go_sem]
  have xq2 : (w11.alloc (.cells #[.bool br, .slice Ar nr cr, .slice Br mr dr] 35)).cell? ⟨w11.heap.size, 2, none⟩ = some (.slice Br mr dr) := by simp [go_sem]
  have xql : w11.heap.size < (w11.alloc (.cells #[.bool br, .slice Ar nr cr, .slice Br mr dr] 35)).heap.size := by simp
  generalize w11.alloc (.cells #[.bool br, .slice Ar nr cr, .slice Br mr dr] 35) = v12 at *
  go_wp2_with fail
  refine (alive8_any _).mono ?_
  rintro e w13 ⟨rfl, b⟩
  replace hz := hz.on b
  replace hu := hu.on b
  replace hi := hi.on b
  replace hv := hv.on b
  replace hl := hl.on b
  replace hr := hr.on b
  replace xa0 := cK b xa0 xal
  replace xa1 := cK b xa1 xal
  replace xa2 := cK b xa2 xal
  replace xal := lK b xal
  replace xb0 := cK b xb0 xbl
  replace xb1 := cK b xb1 xbl
  replace xb2 := cK b xb2 xbl
  replace xbl := lK b xbl
  replace xq0 := cK b xq0 xql
  replace xq1 := cK b xq1 xql
  replace xq2 := cK b xq2 xql
  replace xql := lK b xql
  replace cc := bK cc b
  clear b
  go_wp2_with fail
  refine (HD.out hr).mono ?_
  rintro e w14 ⟨rfl, b⟩
  replace hz := hz.on b
  replace hu := hu.on b
  replace hi := hi.on b
  replace hv := hv.on b
  replace hl := hl.on b
  replace hr := hr.on b
  replace xa0 := cK b xa0 xal
  replace xa1 := cK b xa1 xal
  replace xa2 := cK b xa2 xal
  replace xal := lK b xal
  replace xb0 := cK b xb0 xbl
  replace xb1 := cK b xb1 xbl
  replace xb2 := cK b xb2 xbl
  replace xbl := lK b xbl
  replace xq0 := cK b xq0 xql
  replace xq1 := cK b xq1 xql
  replace xq2 := cK b xq2 xql
  replace xql := lK b xql
  replace cc := bK cc b
  clear b
  go_wp2_with fail
  go_ret
  exact ⟨rfl, cc⟩

set_option maxRecDepth 100000 in
set_option maxHeartbeats 8000000 in
theorem FixHalf_ok_no {w : World} {a b j p q : Int} (ha : I64 a) (hb : I64 b) (j0 : 0 ≤ j) (j1 : j ≤ 40) (hm : nea (bak a j.toNat * bak b j.toNat) j.toNat = p) (hp : I64 p) (hb0 : b ≠ 0) (hd : ¬ I64 (nea (((a : Int) : Rat) / ((b : Int) : Rat)) j.toNat)) (A0 : ∀ W : World, Calls Try.prog 13 #[.int .i64 a, .int .i64 b, .int .i64 j] W (GotV W (.tuple #[.int .i64 (p), .int .i64 (0)]))) (A1 : ∀ W : World, Calls Try.prog 14 #[.int .i64 a, .int .i64 b, .int .i64 j] W (GotV W (.tuple #[.int .i64 (0), .int .i64 (2)]))) :
    Calls Try.prog 4 #[.int .i64 a, .int .i64 b, .int .i64 j] w (fun e w' => e = .returned (.bool true) ∧ Below w.heap.size w w') := by
  have t1 : decide (j < 0) = false := decide_eq_false (by omega)
  have t2 : decide (40 < j) = false := decide_eq_false (by omega)
  have sx := bak_sz8 ha (show j.toNat ≤ 500 by omega)
  have sy := bak_sz8 hb (show j.toNat ≤ 500 by omega)
  have sxy := prod_sz ha hb (show j.toNat ≤ 40 by omega)
  have tb : ((b : Int) == 0) = false := beq_eq_false_iff_ne.2 hb0
  obtain ⟨x, ex⟩ : ∃ v, bak a j.toNat = v := ⟨_, rfl⟩
  obtain ⟨y, ey⟩ : ∃ v, bak b j.toNat = v := ⟨_, rfl⟩
  have CX : ∀ {W : World} {b_ : Bool} {A : Option Addr} {n c : Nat}, Zn W b_ A n c a → Calls Try.prog 15 #[.agg #[.bool b_, .slice A n c], .int .i64 j] W (GotRp W x 0) := fun h => by rw [← ex]; exact rback_N h (Nat.le_trans (len_one ha.abs) (by omega)) j0 (by omega)
  have CY : ∀ {W : World} {b_ : Bool} {A : Option Addr} {n c : Nat}, Zn W b_ A n c b → Calls Try.prog 15 #[.agg #[.bool b_, .slice A n c], .int .i64 j] W (GotRp W y 0) := fun h => by rw [← ey]; exact rback_N h (Nat.le_trans (len_one hb.abs) (by omega)) j0 (by omega)
  have HM : Hid (∀ {W : World} {b0 : Bool} {A0 B0 : Option Addr} {n0 c0 m0 d0 : Nat}, Rt W b0 A0 n0 c0 B0 m0 d0 (x * y) → Calls Try.prog 17 #[.int .i64 p, .agg #[.bool b0, .slice A0 n0 c0, .slice B0 m0 d0], .int .i64 j] W (GotV W (.bool true))) := Lib.hid (fun h => within_N h (by rw [← ex, ← ey]; exact sxy.le (by omega)) hp j0 j1 (by rw [← ex, ← ey]; exact decide_eq_true (within_math hm)))
  have hn : y.num ≠ 0 := by rw [← ey]; exact bak_num hb0
  have sq := (prod_half ha (show j.toNat ≤ 40 by omega)).div (prod_half hb (show j.toNat ≤ 40 by omega)) (by rw [ey]; exact hn)
  have eq_ := bak_quot (a := a) (b := b) j.toNat hb0
  rw [ex, ey] at sq eq_
  have CD : ∀ {W : World} {b0 : Bool} {A0 B0 : Option Addr} {n0 c0 m0 d0 : Nat} {b1 : Bool} {A1 B1 : Option Addr} {n1 c1 m1 d1 : Nat}, Rt W b0 A0 n0 c0 B0 m0 d0 x → Rt W b1 A1 n1 c1 B1 m1 d1 y → Calls Try.prog 19 #[.agg #[.bool b0, .slice A0 n0 c0, .slice B0 m0 d0], .agg #[.bool b1, .slice A1 n1 c1, .slice B1 m1 d1]] W (GotRp W (x / y) 0) := fun h k => rtdiv_N h (by rw [← ex]; exact sx.le (by omega)) k (by rw [← ey]; exact sy.le (by omega)) hn
  have hx_ : I64 9223372036854775807 := by unfold I64; omega
  have so := bak_sz8 hx_ (show j.toNat ≤ 500 by omega)
  have ov := over_math hd
  rw [← eq_] at ov
  obtain ⟨o_, eo⟩ : ∃ v, bak 9223372036854775807 j.toNat = v := ⟨_, rfl⟩
  rw [eo] at so ov
  obtain ⟨c_, ec⟩ : ∃ v, cmpQ (absQ (x / y)) o_ = v := ⟨_, rfl⟩
  have HC := Lib.hid ec
  rw [ec] at ov
  have tc : decide (0 < c_) = true := decide_eq_true ov
  have sa := absQ_sz sq
  have CO : ∀ {W : World} {b_ : Bool} {A : Option Addr} {n c : Nat}, Zn W b_ A n c 9223372036854775807 → Calls Try.prog 15 #[.agg #[.bool b_, .slice A n c], .int .i64 j] W (GotRp W o_ 0) := fun h => by rw [← eo]; exact rback_N h (Nat.le_trans (len_one hx_.abs) (by omega)) j0 (by omega)
  clear eo ec
  rw [ex, ey] at sxy
  rw [ex] at sx
  rw [ey] at sy
  clear ex ey eq_ hm hd
  have cc := Below.refl w.heap.size w
  go_enter Try.func4, Try.ntmps4
  go_wp2_with fail
  refine (rzof_N _ a ha).mono ?_
  rintro e w1 ⟨bz, Az, nz, cz, rfl, hz, b⟩
  replace cc := bK cc b
  clear b
  go_wp2_with fail
  refine (CX hz).mono ?_
  rintro e w2 ⟨bu, Au, nu, cu, Bu, mu, du, rfl, hu, b⟩
  replace hz := hz.on b
  replace cc := bK cc b
  clear b
  go_wp2_with fail
  have bA := below_one w2 (.cells #[.bool bu, .slice Au nu cu, .slice Bu mu du] 35)
  replace hz := hz.on bA
  replace hu := hu.on bA
  replace cc := bK cc bA
  clear bA
  have xa0 : (w2.alloc (.cells #[.bool bu, .slice Au nu cu, .slice Bu mu du] 35)).cell? ⟨w2.heap.size, 0, none⟩ = some (.bool bu) := by simp [go_sem]
  have xa1 : (w2.alloc (.cells #[.bool bu, .slice Au nu cu, .slice Bu mu du] 35)).cell? ⟨w2.heap.size, 1, none⟩ = some (.slice Au nu cu) := by simp [go_sem]
  have xa2 : (w2.alloc (.cells #[.bool bu, .slice Au nu cu, .slice Bu mu du] 35)).cell? ⟨w2.heap.size, 2, none⟩ = some (.slice Bu mu du) := by simp [go_sem]
  have xal : w2.heap.size < (w2.alloc (.cells #[.bool bu, .slice Au nu cu, .slice Bu mu du] 35)).heap.size := by simp
  generalize w2.alloc (.cells #[.bool bu, .slice Au nu cu, .slice Bu mu du] 35) = v3 at *
  go_wp2_with fail
  refine (rzof_N _ b hb).mono ?_
  rintro e w4 ⟨bi, Ai, ni, ci, rfl, hi, b⟩
  replace hz := hz.on b
  replace hu := hu.on b
  replace xa0 := cK b xa0 xal
  replace xa1 := cK b xa1 xal
  replace xa2 := cK b xa2 xal
  replace xal := lK b xal
  replace cc := bK cc b
  clear b
  go_wp2_with fail
  refine (CY hi).mono ?_
  rintro e w5 ⟨bv, Av, nv, cv, Bv, mv, dv, rfl, hv, b⟩
  replace hz := hz.on b
  replace hu := hu.on b
  replace hi := hi.on b
  replace xa0 := cK b xa0 xal
  replace xa1 := cK b xa1 xal
  replace xa2 := cK b xa2 xal
  replace xal := lK b xal
  replace cc := bK cc b
  clear b
  go_wp2_with fail
  have bA := below_one w5 (.cells #[.bool bv, .slice Av nv cv, .slice Bv mv dv] 35)
  replace hz := hz.on bA
  replace hu := hu.on bA
  replace hi := hi.on bA
  replace hv := hv.on bA
  replace xa0 := cK bA xa0 xal
  replace xa1 := cK bA xa1 xal
  replace xa2 := cK bA xa2 xal
  replace xal := lK bA xal
  replace cc := bK cc bA
  clear bA
  have xb0 : (w5.alloc (.cells #[.bool bv, .slice Av nv cv, .slice Bv mv dv] 35)).cell? ⟨w5.heap.size, 0, none⟩ = some (.bool bv) := by simp [go_sem]
  have xb1 : (w5.alloc (.cells #[.bool bv, .slice Av nv cv, .slice Bv mv dv] 35)).cell? ⟨w5.heap.size, 1, none⟩ = some (.slice Av nv cv) := by simp [go_sem]
  have xb2 : (w5.alloc (.cells #[.bool bv, .slice Av nv cv, .slice Bv mv dv] 35)).cell? ⟨w5.heap.size, 2, none⟩ = some (.slice Bv mv dv) := by simp [go_sem]
  have xbl : w5.heap.size < (w5.alloc (.cells #[.bool bv, .slice Av nv cv, .slice Bv mv dv] 35)).heap.size := by simp
  generalize w5.alloc (.cells #[.bool bv, .slice Av nv cv, .slice Bv mv dv] 35) = v6 at *
  go_wp2_with fail
  refine (A0 _).mono ?_
  rintro e w7 ⟨rfl, b⟩
  replace hz := hz.on b
  replace hu := hu.on b
  replace hi := hi.on b
  replace hv := hv.on b
  replace xa0 := cK b xa0 xal
  replace xa1 := cK b xa1 xal
  replace xa2 := cK b xa2 xal
  replace xal := lK b xal
  replace xb0 := cK b xb0 xbl
  replace xb1 := cK b xb1 xbl
  replace xb2 := cK b xb2 xbl
  replace xbl := lK b xbl
  replace cc := bK cc b
  clear b
  go_wp2_with fail
  refine (rtmul_N hu (sx.le (by omega)) hv (sy.le (by omega))).mono ?_
  rintro e w8 ⟨bl, Al, nl, cl, Bl, ml, dl, rfl, hl, b⟩
  replace hz := hz.on b
  replace hu := hu.on b
  replace hi := hi.on b
  replace hv := hv.on b
  replace xa0 := cK b xa0 xal
  replace xa1 := cK b xa1 xal
  replace xa2 := cK b xa2 xal
  replace xal := lK b xal
  replace xb0 := cK b xb0 xbl
  replace xb1 := cK b xb1 xbl
  replace xb2 := cK b xb2 xbl
  replace xbl := lK b xbl
  replace cc := bK cc b
  clear b
  go_wp2_with fail
  refine (HM.out hl).mono ?_
  rintro e w9 ⟨rfl, b⟩
  replace hz := hz.on b
  replace hu := hu.on b
  replace hi := hi.on b
  replace hv := hv.on b
  replace hl := hl.on b
  replace xa0 := cK b xa0 xal
  replace xa1 := cK b xa1 xal
  replace xa2 := cK b xa2 xal
  replace xal := lK b xal
  replace xb0 := cK b xb0 xbl
  replace xb1 := cK b xb1 xbl
  replace xb2 := cK b xb2 xbl
  replace xbl := lK b xbl
  replace cc := bK cc b
  clear b
  go_wp2_with fail
  refine (A1 _).mono ?_
  rintro e w10 ⟨rfl, b⟩
  replace hz := hz.on b
  replace hu := hu.on b
  replace hi := hi.on b
  replace hv := hv.on b
  replace hl := hl.on b
  replace xa0 := cK b xa0 xal
  replace xa1 := cK b xa1 xal
  replace xa2 := cK b xa2 xal
  replace xal := lK b xal
  replace xb0 := cK b xb0 xbl
  replace xb1 := cK b xb1 xbl
  replace xb2 := cK b xb2 xbl
  replace xbl := lK b xbl
  replace cc := bK cc b
  clear b
  go_wp2_with fail
  refine (CD hu hv).mono ?_
  rintro e w11 ⟨br, Ar, nr, cr, Br, mr, dr, rfl, hr, b⟩
  replace hz := hz.on b
  replace hu := hu.on b
  replace hi := hi.on b
  replace hv := hv.on b
  replace hl := hl.on b
  replace xa0 := cK b xa0 xal
  replace xa1 := cK b xa1 xal
  replace xa2 := cK b xa2 xal
  replace xal := lK b xal
  replace xb0 := cK b xb0 xbl
  replace xb1 := cK b xb1 xbl
  replace xb2 := cK b xb2 xbl
  replace xbl := lK b xbl
  replace cc := bK cc b
  clear b
  go_wp2_with fail
  have bA := below_one w11 (.cells #[.bool br, .slice Ar nr cr, .slice Br mr dr] 35)
  replace hz := hz.on bA
  replace hu := hu.on bA
  replace hi := hi.on bA
  replace hv := hv.on bA
  replace hl := hl.on bA
  replace hr := hr.on bA
  replace xa0 := cK bA xa0 xal
  replace xa1 := cK bA xa1 xal
  replace xa2 := cK bA xa2 xal
  replace xal := lK bA xal
  replace xb0 := cK bA xb0 xbl
  replace xb1 := cK bA xb1 xbl
  replace xb2 := cK bA xb2 xbl
  replace xbl := lK bA xbl
  replace cc := bK cc bA
  clear bA
  have xq0 : (w11.alloc (.cells #[.bool br, .slice Ar nr cr, .slice Br mr dr] 35)).cell? ⟨w11.heap.size, 0, none⟩ = some (.bool br) := by simp [go_sem]
  have xq1 : (w11.alloc (.cells #[.bool br, .slice Ar nr cr, .slice Br mr dr] 35)).cell? ⟨w11.heap.size, 1, none⟩ = some (.slice Ar nr cr) := by simp [go_sem]
  have xq2 : (w11.alloc (.cells #[.bool br, .slice Ar nr cr, .slice Br mr dr] 35)).cell? ⟨w11.heap.size, 2, none⟩ = some (.slice Br mr dr) := by simp [go_sem]
  have xql : w11.heap.size < (w11.alloc (.cells #[.bool br, .slice Ar nr cr, .slice Br mr dr] 35)).heap.size := by simp
  generalize w11.alloc (.cells #[.bool br, .slice Ar nr cr, .slice Br mr dr] 35) = v12 at *
  go_wp2_with fail
  refine (rzof_N _ 9223372036854775807 hx_).mono ?_
  rintro e w13 ⟨be, Ae, ne, ce, rfl, he, b⟩
  replace hz := hz.on b
  replace hu := hu.on b
  replace hi := hi.on b
  replace hv := hv.on b
  replace hl := hl.on b
  replace hr := hr.on b
  replace xa0 := cK b xa0 xal
  replace xa1 := cK b xa1 xal
  replace xa2 := cK b xa2 xal
  replace xal := lK b xal
  replace xb0 := cK b xb0 xbl
  replace xb1 := cK b xb1 xbl
  replace xb2 := cK b xb2 xbl
  replace xbl := lK b xbl
  replace xq0 := cK b xq0 xql
  replace xq1 := cK b xq1 xql
  replace xq2 := cK b xq2 xql
  replace xql := lK b xql
  replace cc := bK cc b
  clear b
  go_wp2_with fail
  refine (CO he).mono ?_
  rintro e w14 ⟨bk, Ak, nk, ck, Bk, mk, dk, rfl, hk, b⟩
  replace hz := hz.on b
  replace hu := hu.on b
  replace hi := hi.on b
  replace hv := hv.on b
  replace hl := hl.on b
  replace hr := hr.on b
  replace he := he.on b
  replace xa0 := cK b xa0 xal
  replace xa1 := cK b xa1 xal
  replace xa2 := cK b xa2 xal
  replace xal := lK b xal
  replace xb0 := cK b xb0 xbl
  replace xb1 := cK b xb1 xbl
  replace xb2 := cK b xb2 xbl
  replace xbl := lK b xbl
  replace xq0 := cK b xq0 xql
  replace xq1 := cK b xq1 xql
  replace xq2 := cK b xq2 xql
  replace xql := lK b xql
  replace cc := bK cc b
  clear b
  go_wp2_with fail
  have bA := below_one w14 (.cells #[.bool bk, .slice Ak nk ck, .slice Bk mk dk] 35)
  replace hz := hz.on bA
  replace hu := hu.on bA
  replace hi := hi.on bA
  replace hv := hv.on bA
  replace hl := hl.on bA
  replace hr := hr.on bA
  replace he := he.on bA
  replace hk := hk.on bA
  replace xa0 := cK bA xa0 xal
  replace xa1 := cK bA xa1 xal
  replace xa2 := cK bA xa2 xal
  replace xal := lK bA xal
  replace xb0 := cK bA xb0 xbl
  replace xb1 := cK bA xb1 xbl
  replace xb2 := cK bA xb2 xbl
  replace xbl := lK bA xbl
  replace xq0 := cK bA xq0 xql
  replace xq1 := cK bA xq1 xql
  replace xq2 := cK bA xq2 xql
  replace xql := lK bA xql
  replace cc := bK cc bA
  clear bA
  have xo0 : (w14.alloc (.cells #[.bool bk, .slice Ak nk ck, .slice Bk mk dk] 35)).cell? ⟨w14.heap.size, 0, none⟩ = some (.bool bk) := by simp [go_sem]
  have xo1 : (w14.alloc (.cells #[.bool bk, .slice Ak nk ck, .slice Bk mk dk] 35)).cell? ⟨w14.heap.size, 1, none⟩ = some (.slice Ak nk ck) := by simp [go_sem]
  have xo2 : (w14.alloc (.cells #[.bool bk, .slice Ak nk ck, .slice Bk mk dk] 35)).cell? ⟨w14.heap.size, 2, none⟩ = some (.slice Bk mk dk) := by simp [go_sem]
  have xol : w14.heap.size < (w14.alloc (.cells #[.bool bk, .slice Ak nk ck, .slice Bk mk dk] 35)).heap.size := by simp
  generalize w14.alloc (.cells #[.bool bk, .slice Ak nk ck, .slice Bk mk dk] 35) = v15 at *
  go_wp2_with fail
  have bD : Below v15.heap.size v15 v15.drew := below_drewN (Below.refl _ v15) 1
  replace hz := hz.on bD
  replace hu := hu.on bD
  replace hi := hi.on bD
  replace hv := hv.on bD
  replace hl := hl.on bD
  replace hr := hr.on bD
  replace he := he.on bD
  replace hk := hk.on bD
  replace xa0 := cK bD xa0 xal
  replace xa1 := cK bD xa1 xal
  replace xa2 := cK bD xa2 xal
  replace xal := lK bD xal
  replace xb0 := cK bD xb0 xbl
  replace xb1 := cK bD xb1 xbl
  replace xb2 := cK bD xb2 xbl
  replace xbl := lK bD xbl
  replace xq0 := cK bD xq0 xql
  replace xq1 := cK bD xq1 xql
  replace xq2 := cK bD xq2 xql
  replace xql := lK bD xql
  replace xo0 := cK bD xo0 xol
  replace xo1 := cK bD xo1 xol
  replace xo2 := cK bD xo2 xol
  replace xol := lK bD xol
  replace cc := bK cc bD
  clear bD
  refine wp_region_held_drew (S := fun w' => w'.cell? ⟨w2.heap.size, 0, none⟩ = some (.bool bu) ∧ w'.cell? ⟨w2.heap.size, 1, none⟩ = some (.slice Au nu cu) ∧ w'.cell? ⟨w2.heap.size, 2, none⟩ = some (.slice Bu mu du) ∧ w'.cell? ⟨w5.heap.size, 0, none⟩ = some (.bool bv) ∧ w'.cell? ⟨w5.heap.size, 1, none⟩ = some (.slice Av nv cv) ∧ w'.cell? ⟨w5.heap.size, 2, none⟩ = some (.slice Bv mv dv) ∧ w'.cell? ⟨w11.heap.size, 0, none⟩ = some (.bool br) ∧ w'.cell? ⟨w11.heap.size, 1, none⟩ = some (.slice Ar nr cr) ∧ w'.cell? ⟨w11.heap.size, 2, none⟩ = some (.slice Br mr dr) ∧ w'.cell? ⟨w14.heap.size, 0, none⟩ = some (.bool bk) ∧ w'.cell? ⟨w14.heap.size, 1, none⟩ = some (.slice Ak nk ck) ∧ w'.cell? ⟨w14.heap.size, 2, none⟩ = some (.slice Bk mk dk)) (by kernel_rfl) ?_ (fun hHeld => ?_)
  · exact ⟨xa0, xa1, xa2, xb0, xb1, xb2, xq0, xq1, xq2, xo0, xo1, xo2⟩
  refine wpAnyH_ready (rs := [0]) (by kernel_rfl) (by simp) ?_
  refine AllReadyH.cons rfl (fun K hK => ?_) AllReadyH.nil
  (try simp only [List.getElem_toArray, List.getElem_cons_zero, List.getElem_cons_succ])
  rw [if_pos (by rfl)]
  go_simp
  go_at_call 12
  refine (alive8_any _).mono ?_
  rintro e w16 ⟨rfl, b⟩
  replace hz := hz.on b
  replace hu := hu.on b
  replace hi := hi.on b
  replace hv := hv.on b
  replace hl := hl.on b
  replace hr := hr.on b
  replace he := he.on b
  replace hk := hk.on b
  replace xa0 := cK b xa0 xal
  replace xa1 := cK b xa1 xal
  replace xa2 := cK b xa2 xal
  replace xal := lK b xal
  replace xb0 := cK b xb0 xbl
  replace xb1 := cK b xb1 xbl
  replace xb2 := cK b xb2 xbl
  replace xbl := lK b xbl
  replace xq0 := cK b xq0 xql
  replace xq1 := cK b xq1 xql
  replace xq2 := cK b xq2 xql
  replace xql := lK b xql
  replace xo0 := cK b xo0 xol
  replace xo1 := cK b xo1 xol
  replace xo2 := cK b xo2 xol
  replace xol := lK b xol
  replace cc := bK cc b
  clear b
  refine hK.out _ _ ?_ (fun hHeld => ?_)
  · exact ⟨xa0, xa1, xa2, xb0, xb1, xb2, xq0, xq1, xq2, xo0, xo1, xo2⟩
  clear hK K
  try simp only [Act.put, List.getElem_toArray, List.getElem_cons_zero, List.getElem_cons_succ, List.setIfInBounds_toArray, List.set_cons_zero, List.set_cons_succ]
  refine wpAnyH_take (i := 1) (v := ?_) rfl (by kernel_rfl) (by kernel_rfl) (by kernel_rfl) (fun _ _ _ h => h) (Or.inl ⟨by rfl, ?_⟩) hHeld ?_
  rotate_left
  · (intro w hSw; (try dsimp only at hSw); go_simp; (try with_reducible rfl))
  try simp only [Act.put, List.getElem_toArray, List.getElem_cons_zero, List.getElem_cons_succ, List.setIfInBounds_toArray, List.set_cons_zero, List.set_cons_succ]
  refine wpAnyH_take (i := 2) (v := ?_) rfl (by kernel_rfl) (by kernel_rfl) (by kernel_rfl) (fun _ _ _ h => h) (Or.inl ⟨by rfl, ?_⟩) hHeld ?_
  rotate_left
  · (intro w hSw; (try dsimp only at hSw); go_simp; (try with_reducible rfl))
  try simp only [Act.put, List.getElem_toArray, List.getElem_cons_zero, List.getElem_cons_succ, List.setIfInBounds_toArray, List.set_cons_zero, List.set_cons_succ]
  refine wpAnyH_take (i := 3) (v := ?_) rfl (by kernel_rfl) (by kernel_rfl) (by kernel_rfl) (fun _ _ _ h => h) (Or.inl ⟨by rfl, ?_⟩) hHeld ?_
  rotate_left
  · (intro w hSw; (try dsimp only at hSw); go_simp; (try with_reducible rfl))
  try simp only [Act.put, List.getElem_toArray, List.getElem_cons_zero, List.getElem_cons_succ, List.setIfInBounds_toArray, List.set_cons_zero, List.set_cons_succ]
  refine wpAnyH_take (i := 4) (v := ?_) rfl (by kernel_rfl) (by kernel_rfl) (by kernel_rfl) (fun _ _ _ h => h) (Or.inl ⟨by rfl, ?_⟩) hHeld ?_
  rotate_left
  · (intro w hSw; (try dsimp only at hSw); go_simp; (try with_reducible rfl))
  try simp only [Act.put, List.getElem_toArray, List.getElem_cons_zero, List.getElem_cons_succ, List.setIfInBounds_toArray, List.set_cons_zero, List.set_cons_succ]
  refine wpAnyH_take (i := 5) (v := ?_) rfl (by kernel_rfl) (by kernel_rfl) (by kernel_rfl) (fun _ _ _ h => h) (Or.inl ⟨by rfl, ?_⟩) hHeld ?_
  rotate_left
  · (intro w hSw; (try dsimp only at hSw); go_simp; (try with_reducible rfl))
  try simp only [Act.put, List.getElem_toArray, List.getElem_cons_zero, List.getElem_cons_succ, List.setIfInBounds_toArray, List.set_cons_zero, List.set_cons_succ]
  refine wpAnyH_take (i := 6) (v := ?_) rfl (by kernel_rfl) (by kernel_rfl) (by kernel_rfl) (fun _ _ _ h => h) (Or.inl ⟨by rfl, ?_⟩) hHeld ?_
  rotate_left
  · (intro w hSw; (try dsimp only at hSw); go_simp; (try with_reducible rfl))
  try simp only [Act.put, List.getElem_toArray, List.getElem_cons_zero, List.getElem_cons_succ, List.setIfInBounds_toArray, List.set_cons_zero, List.set_cons_succ]
  refine wpAnyH_take (i := 7) (v := ?_) rfl (by kernel_rfl) (by kernel_rfl) (by kernel_rfl) (fun _ _ _ h => h) (Or.inl ⟨by rfl, ?_⟩) hHeld ?_
  rotate_left
  · (intro w hSw; (try dsimp only at hSw); go_simp; (try with_reducible rfl))
  try simp only [Act.put, List.getElem_toArray, List.getElem_cons_zero, List.getElem_cons_succ, List.setIfInBounds_toArray, List.set_cons_zero, List.set_cons_succ]
  refine wpAnyH_take (i := 8) (v := ?_) rfl (by kernel_rfl) (by kernel_rfl) (by kernel_rfl) (fun _ _ _ h => h) (Or.inl ⟨by rfl, ?_⟩) hHeld ?_
  rotate_left
  · (intro w hSw; (try dsimp only at hSw); go_simp; (try with_reducible rfl))
  try simp only [Act.put, List.getElem_toArray, List.getElem_cons_zero, List.getElem_cons_succ, List.setIfInBounds_toArray, List.set_cons_zero, List.set_cons_succ]
  refine wpAnyH_take (i := 9) (v := ?_) rfl (by kernel_rfl) (by kernel_rfl) (by kernel_rfl) (fun _ _ _ h => h) (Or.inl ⟨by rfl, ?_⟩) hHeld ?_
  rotate_left
  · (intro w hSw; (try dsimp only at hSw); go_simp; (try with_reducible rfl))
  try simp only [Act.put, List.getElem_toArray, List.getElem_cons_zero, List.getElem_cons_succ, List.setIfInBounds_toArray, List.set_cons_zero, List.set_cons_succ]
  refine wpAnyH_take (i := 10) (v := ?_) rfl (by kernel_rfl) (by kernel_rfl) (by kernel_rfl) (fun _ _ _ h => h) (Or.inl ⟨by rfl, ?_⟩) hHeld ?_
  rotate_left
  · (intro w hSw; (try dsimp only at hSw); go_simp; (try with_reducible rfl))
  try simp only [Act.put, List.getElem_toArray, List.getElem_cons_zero, List.getElem_cons_succ, List.setIfInBounds_toArray, List.set_cons_zero, List.set_cons_succ]
  refine wpAnyH_take (i := 12) (v := ?_) rfl (by kernel_rfl) (by kernel_rfl) (by kernel_rfl) (fun _ _ _ h => h) (Or.inl ⟨by rfl, ?_⟩) hHeld ?_
  rotate_left
  · (intro w hSw; (try dsimp only at hSw); go_simp; (try with_reducible rfl))
  try simp only [Act.put, List.getElem_toArray, List.getElem_cons_zero, List.getElem_cons_succ, List.setIfInBounds_toArray, List.set_cons_zero, List.set_cons_succ]
  refine wpAnyH_ready (rs := [11]) (by kernel_rfl) (by simp) ?_
  refine AllReadyH.cons rfl (fun K hK => ?_) AllReadyH.nil
  (try simp only [List.getElem_toArray, List.getElem_cons_zero, List.getElem_cons_succ])
  rw [if_pos (by rfl)]
  go_simp
  go_at_call 21
  refine (rtabs_N hr).mono ?_
  rintro e w17 ⟨bs, As, ns, cs, Bs, ms, ds, rfl, hs, b⟩
  replace hz := hz.on b
  replace hu := hu.on b
  replace hi := hi.on b
  replace hv := hv.on b
  replace hl := hl.on b
  replace hr := hr.on b
  replace he := he.on b
  replace hk := hk.on b
  replace xa0 := cK b xa0 xal
  replace xa1 := cK b xa1 xal
  replace xa2 := cK b xa2 xal
  replace xal := lK b xal
  replace xb0 := cK b xb0 xbl
  replace xb1 := cK b xb1 xbl
  replace xb2 := cK b xb2 xbl
  replace xbl := lK b xbl
  replace xq0 := cK b xq0 xql
  replace xq1 := cK b xq1 xql
  replace xq2 := cK b xq2 xql
  replace xql := lK b xql
  replace xo0 := cK b xo0 xol
  replace xo1 := cK b xo1 xol
  replace xo2 := cK b xo2 xol
  replace xol := lK b xol
  replace cc := bK cc b
  clear b
  refine hK.out _ _ ?_ (fun hHeld => ?_)
  · exact ⟨xa0, xa1, xa2, xb0, xb1, xb2, xq0, xq1, xq2, xo0, xo1, xo2⟩
  clear hK K
  try simp only [Act.put, List.getElem_toArray, List.getElem_cons_zero, List.getElem_cons_succ, List.setIfInBounds_toArray, List.set_cons_zero, List.set_cons_succ]
  refine wpAnyH_ready (rs := [13]) (by kernel_rfl) (by simp) ?_
  refine AllReadyH.cons rfl (fun K hK => ?_) AllReadyH.nil
  (try simp only [List.getElem_toArray, List.getElem_cons_zero, List.getElem_cons_succ])
  rw [if_pos (by rfl)]
  go_simp
  go_at_call 20
  refine (rtcmp_v c_ hs (sa.le (by omega)) hk (so.le (by omega)) HC.out).mono ?_
  rintro e w18 ⟨rfl, b⟩
  replace hz := hz.on b
  replace hu := hu.on b
  replace hi := hi.on b
  replace hv := hv.on b
  replace hl := hl.on b
  replace hr := hr.on b
  replace he := he.on b
  replace hk := hk.on b
  replace hs := hs.on b
  replace xa0 := cK b xa0 xal
  replace xa1 := cK b xa1 xal
  replace xa2 := cK b xa2 xal
  replace xal := lK b xal
  replace xb0 := cK b xb0 xbl
  replace xb1 := cK b xb1 xbl
  replace xb2 := cK b xb2 xbl
  replace xbl := lK b xbl
  replace xq0 := cK b xq0 xql
  replace xq1 := cK b xq1 xql
  replace xq2 := cK b xq2 xql
  replace xql := lK b xql
  replace xo0 := cK b xo0 xol
  replace xo1 := cK b xo1 xol
  replace xo2 := cK b xo2 xol
  replace xol := lK b xol
  replace cc := bK cc b
  clear b
  refine hK.out _ _ ?_ (fun hHeld => ?_)
  · exact ⟨xa0, xa1, xa2, xb0, xb1, xb2, xq0, xq1, xq2, xo0, xo1, xo2⟩
  clear hK K
  try simp only [Act.put, List.getElem_toArray, List.getElem_cons_zero, List.getElem_cons_succ, List.setIfInBounds_toArray, List.set_cons_zero, List.set_cons_succ]
  refine wpAnyH_take (i := 14) (v := ?_) rfl (by kernel_rfl) (by kernel_rfl) (by kernel_rfl) (fun _ _ _ h => h) (Or.inl ⟨by rfl, ?_⟩) hHeld ?_
  rotate_left
  · (intro w hSw; (try dsimp only at hSw); go_simp; (try with_reducible rfl))
  try simp only [Act.put, List.getElem_toArray, List.getElem_cons_zero, List.getElem_cons_succ, List.setIfInBounds_toArray, List.set_cons_zero, List.set_cons_succ]
  refine wpAnyH_take (i := 15) (v := ?_) rfl (by kernel_rfl) (by kernel_rfl) (by kernel_rfl) (fun _ _ _ h => h) (Or.inl ⟨by rfl, ?_⟩) hHeld ?_
  rotate_left
  · (intro w hSw; (try dsimp only at hSw); go_simp; (try with_reducible rfl))
  try simp only [Act.put, List.getElem_toArray, List.getElem_cons_zero, List.getElem_cons_succ, List.setIfInBounds_toArray, List.set_cons_zero, List.set_cons_succ]
  refine wpAnyH_take (i := 16) (v := ?_) rfl (by kernel_rfl) (by kernel_rfl) (by kernel_rfl) (fun _ _ _ h => h) (Or.inl ⟨by rfl, ?_⟩) hHeld ?_
  rotate_left
  · (intro w hSw; (try dsimp only at hSw); go_simp; (try with_reducible rfl))
  try simp only [Act.put, List.getElem_toArray, List.getElem_cons_zero, List.getElem_cons_succ, List.setIfInBounds_toArray, List.set_cons_zero, List.set_cons_succ]
  refine wpAnyH_done (by kernel_rfl) ?_ _
  clear hHeld
  go_wp2_with fail
  go_ret
  exact ⟨rfl, cc⟩

set_option maxRecDepth 100000 in
set_option maxHeartbeats 8000000 in
theorem FixHalf_no_zero {w : World} {a b j p q : Int} (ha : I64 a) (hb : I64 b) (j0 : 0 ≤ j) (j1 : j ≤ 40) (A0 : ∀ W : World, Calls Try.prog 13 #[.int .i64 a, .int .i64 b, .int .i64 j] W (GotV W (.tuple #[.int .i64 (0), .int .i64 (2)]))) (A1 : ∀ W : World, Calls Try.prog 14 #[.int .i64 a, .int .i64 b, .int .i64 j] W (GotV W (.tuple #[.int .i64 (0), .int .i64 (4)]))) (hb0 : b = 0) :
    Calls Try.prog 4 #[.int .i64 a, .int .i64 b, .int .i64 j] w (fun e w' => e = .returned (.bool true) ∧ Below w.heap.size w w') := by
  have t1 : decide (j < 0) = false := decide_eq_false (by omega)
  have t2 : decide (40 < j) = false := decide_eq_false (by omega)
  have sx := bak_sz8 ha (show j.toNat ≤ 500 by omega)
  have sy := bak_sz8 hb (show j.toNat ≤ 500 by omega)
  have sxy := prod_sz ha hb (show j.toNat ≤ 40 by omega)
  subst hb0
  obtain ⟨x, ex⟩ : ∃ v, bak a j.toNat = v := ⟨_, rfl⟩
  obtain ⟨y, ey⟩ : ∃ v, bak 0 j.toNat = v := ⟨_, rfl⟩
  have CX : ∀ {W : World} {b_ : Bool} {A : Option Addr} {n c : Nat}, Zn W b_ A n c a → Calls Try.prog 15 #[.agg #[.bool b_, .slice A n c], .int .i64 j] W (GotRp W x 0) := fun h => by rw [← ex]; exact rback_N h (Nat.le_trans (len_one ha.abs) (by omega)) j0 (by omega)
  have CY : ∀ {W : World} {b_ : Bool} {A : Option Addr} {n c : Nat}, Zn W b_ A n c 0 → Calls Try.prog 15 #[.agg #[.bool b_, .slice A n c], .int .i64 j] W (GotRp W y 0) := fun h => by rw [← ey]; exact rback_N h (Nat.le_trans (len_one hb.abs) (by omega)) j0 (by omega)
  rw [ex, ey] at sxy
  rw [ex] at sx
  rw [ey] at sy
  clear ex ey
  have cc := Below.refl w.heap.size w
  go_enter Try.func4, Try.ntmps4
  go_wp2_with fail
  refine (rzof_N _ a ha).mono ?_
  rintro e w1 ⟨bz, Az, nz, cz, rfl, hz, b⟩
  replace cc := bK cc b
  clear b
  go_wp2_with fail
  refine (CX hz).mono ?_
  rintro e w2 ⟨bu, Au, nu, cu, Bu, mu, du, rfl, hu, b⟩
  replace hz := hz.on b
  replace cc := bK cc b
  clear b
  go_wp2_with fail
  have bA := below_one w2 (.cells #[.bool bu, .slice Au nu cu, .slice Bu mu du] 35)
  replace hz := hz.on bA
  replace hu := hu.on bA
  replace cc := bK cc bA
  clear bA
  have xa0 : (w2.alloc (.cells #[.bool bu, .slice Au nu cu, .slice Bu mu du] 35)).cell? ⟨w2.heap.size, 0, none⟩ = some (.bool bu) := by simp [go_sem]
  have xa1 : (w2.alloc (.cells #[.bool bu, .slice Au nu cu, .slice Bu mu du] 35)).cell? ⟨w2.heap.size, 1, none⟩ = some (.slice Au nu cu) := by simp [go_sem]
  have xa2 : (w2.alloc (.cells #[.bool bu, .slice Au nu cu, .slice Bu mu du] 35)).cell? ⟨w2.heap.size, 2, none⟩ = some (.slice Bu mu du) := by simp [go_sem]
  have xal : w2.heap.size < (w2.alloc (.cells #[.bool bu, .slice Au nu cu, .slice Bu mu du] 35)).heap.size := by simp
  generalize w2.alloc (.cells #[.bool bu, .slice Au nu cu, .slice Bu mu du] 35) = v3 at *
  go_wp2_with fail
  refine (rzof_N _ 0 hb).mono ?_
  rintro e w4 ⟨bi, Ai, ni, ci, rfl, hi, b⟩
  replace hz := hz.on b
  replace hu := hu.on b
  replace xa0 := cK b xa0 xal
  replace xa1 := cK b xa1 xal
  replace xa2 := cK b xa2 xal
  replace xal := lK b xal
  replace cc := bK cc b
  clear b
  go_wp2_with fail
  refine (CY hi).mono ?_
  rintro e w5 ⟨bv, Av, nv, cv, Bv, mv, dv, rfl, hv, b⟩
  replace hz := hz.on b
  replace hu := hu.on b
  replace hi := hi.on b
  replace xa0 := cK b xa0 xal
  replace xa1 := cK b xa1 xal
  replace xa2 := cK b xa2 xal
  replace xal := lK b xal
  replace cc := bK cc b
  clear b
  go_wp2_with fail
  have bA := below_one w5 (.cells #[.bool bv, .slice Av nv cv, .slice Bv mv dv] 35)
  replace hz := hz.on bA
  replace hu := hu.on bA
  replace hi := hi.on bA
  replace hv := hv.on bA
  replace xa0 := cK bA xa0 xal
  replace xa1 := cK bA xa1 xal
  replace xa2 := cK bA xa2 xal
  replace xal := lK bA xal
  replace cc := bK cc bA
  clear bA
  have xb0 : (w5.alloc (.cells #[.bool bv, .slice Av nv cv, .slice Bv mv dv] 35)).cell? ⟨w5.heap.size, 0, none⟩ = some (.bool bv) := by simp [go_sem]
  have xb1 : (w5.alloc (.cells #[.bool bv, .slice Av nv cv, .slice Bv mv dv] 35)).cell? ⟨w5.heap.size, 1, none⟩ = some (.slice Av nv cv) := by simp [go_sem]
  have xb2 : (w5.alloc (.cells #[.bool bv, .slice Av nv cv, .slice Bv mv dv] 35)).cell? ⟨w5.heap.size, 2, none⟩ = some (.slice Bv mv dv) := by simp [go_sem]
  have xbl : w5.heap.size < (w5.alloc (.cells #[.bool bv, .slice Av nv cv, .slice Bv mv dv] 35)).heap.size := by simp
  generalize w5.alloc (.cells #[.bool bv, .slice Av nv cv, .slice Bv mv dv] 35) = v6 at *
  go_wp2_with fail
  refine (A0 _).mono ?_
  rintro e w7 ⟨rfl, b⟩
  replace hz := hz.on b
  replace hu := hu.on b
  replace hi := hi.on b
  replace hv := hv.on b
  replace xa0 := cK b xa0 xal
  replace xa1 := cK b xa1 xal
  replace xa2 := cK b xa2 xal
  replace xal := lK b xal
  replace xb0 := cK b xb0 xbl
  replace xb1 := cK b xb1 xbl
  replace xb2 := cK b xb2 xbl
  replace xbl := lK b xbl
  replace cc := bK cc b
  clear b
  go_wp2_with fail
  refine (A1 _).mono ?_
  rintro e w8 ⟨rfl, b⟩
  replace hz := hz.on b
  replace hu := hu.on b
  replace hi := hi.on b
  replace hv := hv.on b
  replace xa0 := cK b xa0 xal
  replace xa1 := cK b xa1 xal
  replace xa2 := cK b xa2 xal
  replace xal := lK b xal
  replace xb0 := cK b xb0 xbl
  replace xb1 := cK b xb1 xbl
  replace xb2 := cK b xb2 xbl
  replace xbl := lK b xbl
  replace cc := bK cc b
  clear b
  go_wp2_with fail
  refine (alive8_any _).mono ?_
  rintro e w9 ⟨rfl, b⟩
  replace hz := hz.on b
  replace hu := hu.on b
  replace hi := hi.on b
  replace hv := hv.on b
  replace xa0 := cK b xa0 xal
  replace xa1 := cK b xa1 xal
  replace xa2 := cK b xa2 xal
  replace xal := lK b xal
  replace xb0 := cK b xb0 xbl
  replace xb1 := cK b xb1 xbl
  replace xb2 := cK b xb2 xbl
  replace xbl := lK b xbl
  replace cc := bK cc b
  clear b
  go_wp2_with fail
  go_ret
  exact ⟨rfl, cc⟩

set_option maxRecDepth 100000 in
set_option maxHeartbeats 8000000 in
theorem FixHalf_no_ok {w : World} {a b j p q : Int} (ha : I64 a) (hb : I64 b) (j0 : 0 ≤ j) (j1 : j ≤ 40) (hb0 : b ≠ 0) (hd : nea (((a : Int) : Rat) / ((b : Int) : Rat)) j.toNat = q) (hq : I64 q) (A0 : ∀ W : World, Calls Try.prog 13 #[.int .i64 a, .int .i64 b, .int .i64 j] W (GotV W (.tuple #[.int .i64 (0), .int .i64 (2)]))) (A1 : ∀ W : World, Calls Try.prog 14 #[.int .i64 a, .int .i64 b, .int .i64 j] W (GotV W (.tuple #[.int .i64 (q), .int .i64 (0)]))) :
    Calls Try.prog 4 #[.int .i64 a, .int .i64 b, .int .i64 j] w (fun e w' => e = .returned (.bool true) ∧ Below w.heap.size w w') := by
  have t1 : decide (j < 0) = false := decide_eq_false (by omega)
  have t2 : decide (40 < j) = false := decide_eq_false (by omega)
  have sx := bak_sz8 ha (show j.toNat ≤ 500 by omega)
  have sy := bak_sz8 hb (show j.toNat ≤ 500 by omega)
  have sxy := prod_sz ha hb (show j.toNat ≤ 40 by omega)
  have tb : ((b : Int) == 0) = false := beq_eq_false_iff_ne.2 hb0
  obtain ⟨x, ex⟩ : ∃ v, bak a j.toNat = v := ⟨_, rfl⟩
  obtain ⟨y, ey⟩ : ∃ v, bak b j.toNat = v := ⟨_, rfl⟩
  have CX : ∀ {W : World} {b_ : Bool} {A : Option Addr} {n c : Nat}, Zn W b_ A n c a → Calls Try.prog 15 #[.agg #[.bool b_, .slice A n c], .int .i64 j] W (GotRp W x 0) := fun h => by rw [← ex]; exact rback_N h (Nat.le_trans (len_one ha.abs) (by omega)) j0 (by omega)
  have CY : ∀ {W : World} {b_ : Bool} {A : Option Addr} {n c : Nat}, Zn W b_ A n c b → Calls Try.prog 15 #[.agg #[.bool b_, .slice A n c], .int .i64 j] W (GotRp W y 0) := fun h => by rw [← ey]; exact rback_N h (Nat.le_trans (len_one hb.abs) (by omega)) j0 (by omega)
  have hn : y.num ≠ 0 := by rw [← ey]; exact bak_num hb0
  have sq := (prod_half ha (show j.toNat ≤ 40 by omega)).div (prod_half hb (show j.toNat ≤ 40 by omega)) (by rw [ey]; exact hn)
  have eq_ := bak_quot (a := a) (b := b) j.toNat hb0
  rw [ex, ey] at sq eq_
  have CD : ∀ {W : World} {b0 : Bool} {A0 B0 : Option Addr} {n0 c0 m0 d0 : Nat} {b1 : Bool} {A1 B1 : Option Addr} {n1 c1 m1 d1 : Nat}, Rt W b0 A0 n0 c0 B0 m0 d0 x → Rt W b1 A1 n1 c1 B1 m1 d1 y → Calls Try.prog 19 #[.agg #[.bool b0, .slice A0 n0 c0, .slice B0 m0 d0], .agg #[.bool b1, .slice A1 n1 c1, .slice B1 m1 d1]] W (GotRp W (x / y) 0) := fun h k => rtdiv_N h (by rw [← ex]; exact sx.le (by omega)) k (by rw [← ey]; exact sy.le (by omega)) hn
  have HD : Hid (∀ {W : World} {b0 : Bool} {A0 B0 : Option Addr} {n0 c0 m0 d0 : Nat}, Rt W b0 A0 n0 c0 B0 m0 d0 (x / y) → Calls Try.prog 17 #[.int .i64 q, .agg #[.bool b0, .slice A0 n0 c0, .slice B0 m0 d0], .int .i64 j] W (GotV W (.bool true))) := Lib.hid (fun h => within_N h (sq.le (by omega)) hq j0 j1 (by rw [eq_]; exact decide_eq_true (within_math hd)))
  rw [ex, ey] at sxy
  rw [ex] at sx
  rw [ey] at sy
  clear ex ey eq_ hd
  have cc := Below.refl w.heap.size w
  go_enter Try.func4, Try.ntmps4
  go_wp2_with fail
  refine (rzof_N _ a ha).mono ?_
  rintro e w1 ⟨bz, Az, nz, cz, rfl, hz, b⟩
  replace cc := bK cc b
  clear b
  go_wp2_with fail
  refine (CX hz).mono ?_
  rintro e w2 ⟨bu, Au, nu, cu, Bu, mu, du, rfl, hu, b⟩
  replace hz := hz.on b
  replace cc := bK cc b
  clear b
  go_wp2_with fail
  have bA := below_one w2 (.cells #[.bool bu, .slice Au nu cu, .slice Bu mu du] 35)
  replace hz := hz.on bA
  replace hu := hu.on bA
  replace cc := bK cc bA
  clear bA
  have xa0 : (w2.alloc (.cells #[.bool bu, .slice Au nu cu, .slice Bu mu du] 35)).cell? ⟨w2.heap.size, 0, none⟩ = some (.bool bu) := by simp [go_sem]
  have xa1 : (w2.alloc (.cells #[.bool bu, .slice Au nu cu, .slice Bu mu du] 35)).cell? ⟨w2.heap.size, 1, none⟩ = some (.slice Au nu cu) := by simp [go_sem]
  have xa2 : (w2.alloc (.cells #[.bool bu, .slice Au nu cu, .slice Bu mu du] 35)).cell? ⟨w2.heap.size, 2, none⟩ = some (.slice Bu mu du) := by simp [go_sem]
  have xal : w2.heap.size < (w2.alloc (.cells #[.bool bu, .slice Au nu cu, .slice Bu mu du] 35)).heap.size := by simp
  generalize w2.alloc (.cells #[.bool bu, .slice Au nu cu, .slice Bu mu du] 35) = v3 at *
  go_wp2_with fail
  refine (rzof_N _ b hb).mono ?_
  rintro e w4 ⟨bi, Ai, ni, ci, rfl, hi, b⟩
  replace hz := hz.on b
  replace hu := hu.on b
  replace xa0 := cK b xa0 xal
  replace xa1 := cK b xa1 xal
  replace xa2 := cK b xa2 xal
  replace xal := lK b xal
  replace cc := bK cc b
  clear b
  go_wp2_with fail
  refine (CY hi).mono ?_
  rintro e w5 ⟨bv, Av, nv, cv, Bv, mv, dv, rfl, hv, b⟩
  replace hz := hz.on b
  replace hu := hu.on b
  replace hi := hi.on b
  replace xa0 := cK b xa0 xal
  replace xa1 := cK b xa1 xal
  replace xa2 := cK b xa2 xal
  replace xal := lK b xal
  replace cc := bK cc b
  clear b
  go_wp2_with fail
  have bA := below_one w5 (.cells #[.bool bv, .slice Av nv cv, .slice Bv mv dv] 35)
  replace hz := hz.on bA
  replace hu := hu.on bA
  replace hi := hi.on bA
  replace hv := hv.on bA
  replace xa0 := cK bA xa0 xal
  replace xa1 := cK bA xa1 xal
  replace xa2 := cK bA xa2 xal
  replace xal := lK bA xal
  replace cc := bK cc bA
  clear bA
  have xb0 : (w5.alloc (.cells #[.bool bv, .slice Av nv cv, .slice Bv mv dv] 35)).cell? ⟨w5.heap.size, 0, none⟩ = some (.bool bv) := by simp [go_sem]
  have xb1 : (w5.alloc (.cells #[.bool bv, .slice Av nv cv, .slice Bv mv dv] 35)).cell? ⟨w5.heap.size, 1, none⟩ = some (.slice Av nv cv) := by simp [go_sem]
  have xb2 : (w5.alloc (.cells #[.bool bv, .slice Av nv cv, .slice Bv mv dv] 35)).cell? ⟨w5.heap.size, 2, none⟩ = some (.slice Bv mv dv) := by simp [go_sem]
  have xbl : w5.heap.size < (w5.alloc (.cells #[.bool bv, .slice Av nv cv, .slice Bv mv dv] 35)).heap.size := by simp
  generalize w5.alloc (.cells #[.bool bv, .slice Av nv cv, .slice Bv mv dv] 35) = v6 at *
  go_wp2_with fail
  refine (A0 _).mono ?_
  rintro e w7 ⟨rfl, b⟩
  replace hz := hz.on b
  replace hu := hu.on b
  replace hi := hi.on b
  replace hv := hv.on b
  replace xa0 := cK b xa0 xal
  replace xa1 := cK b xa1 xal
  replace xa2 := cK b xa2 xal
  replace xal := lK b xal
  replace xb0 := cK b xb0 xbl
  replace xb1 := cK b xb1 xbl
  replace xb2 := cK b xb2 xbl
  replace xbl := lK b xbl
  replace cc := bK cc b
  clear b
  go_wp2_with fail
  refine (A1 _).mono ?_
  rintro e w8 ⟨rfl, b⟩
  replace hz := hz.on b
  replace hu := hu.on b
  replace hi := hi.on b
  replace hv := hv.on b
  replace xa0 := cK b xa0 xal
  replace xa1 := cK b xa1 xal
  replace xa2 := cK b xa2 xal
  replace xal := lK b xal
  replace xb0 := cK b xb0 xbl
  replace xb1 := cK b xb1 xbl
  replace xb2 := cK b xb2 xbl
  replace xbl := lK b xbl
  replace cc := bK cc b
  clear b
  go_wp2_with fail
  refine (CD hu hv).mono ?_
  rintro e w9 ⟨br, Ar, nr, cr, Br, mr, dr, rfl, hr, b⟩
  replace hz := hz.on b
  replace hu := hu.on b
  replace hi := hi.on b
  replace hv := hv.on b
  replace xa0 := cK b xa0 xal
  replace xa1 := cK b xa1 xal
  replace xa2 := cK b xa2 xal
  replace xal := lK b xal
  replace xb0 := cK b xb0 xbl
  replace xb1 := cK b xb1 xbl
  replace xb2 := cK b xb2 xbl
  replace xbl := lK b xbl
  replace cc := bK cc b
  clear b
  go_wp2_with fail
  have bA := below_one w9 (.cells #[.bool br, .slice Ar nr cr, .slice Br mr dr] 35)
  replace hz := hz.on bA
  replace hu := hu.on bA
  replace hi := hi.on bA
  replace hv := hv.on bA
  replace hr := hr.on bA
  replace xa0 := cK bA xa0 xal
  replace xa1 := cK bA xa1 xal
  replace xa2 := cK bA xa2 xal
  replace xal := lK bA xal
  replace xb0 := cK bA xb0 xbl
  replace xb1 := cK bA xb1 xbl
  replace xb2 := cK bA xb2 xbl
  replace xbl := lK bA xbl
  replace cc := bK cc bA
  clear bA
  have xq0 : (w9.alloc (.cells #[.bool br, .slice Ar nr cr, .slice Br mr dr] 35)).cell? ⟨w9.heap.size, 0, none⟩ = some (.bool br) := by simp [go_sem]
  have xq1 : (w9.alloc (.cells #[.bool br, .slice Ar nr cr, .slice Br mr dr] 35)).cell? ⟨w9.heap.size, 1, none⟩ = some (.slice Ar nr cr) := by simp [go_sem]
  have xq2 : (w9.alloc (.cells #[.bool br, .slice Ar nr cr, .slice Br mr dr] 35)).cell? ⟨w9.heap.size, 2, none⟩ = some (.slice Br mr dr) := by simp [go_sem]
  have xql : w9.heap.size < (w9.alloc (.cells #[.bool br, .slice Ar nr cr, .slice Br mr dr] 35)).heap.size := by simp
  generalize w9.alloc (.cells #[.bool br, .slice Ar nr cr, .slice Br mr dr] 35) = v10 at *
  go_wp2_with fail
  refine (alive8_any _).mono ?_
  rintro e w11 ⟨rfl, b⟩
  replace hz := hz.on b
  replace hu := hu.on b
  replace hi := hi.on b
  replace hv := hv.on b
  replace hr := hr.on b
  replace xa0 := cK b xa0 xal
  replace xa1 := cK b xa1 xal
  replace xa2 := cK b xa2 xal
  replace xal := lK b xal
  replace xb0 := cK b xb0 xbl
  replace xb1 := cK b xb1 xbl
  replace xb2 := cK b xb2 xbl
  replace xbl := lK b xbl
  replace xq0 := cK b xq0 xql
  replace xq1 := cK b xq1 xql
  replace xq2 := cK b xq2 xql
  replace xql := lK b xql
  replace cc := bK cc b
  clear b
  go_wp2_with fail
  refine (HD.out hr).mono ?_
  rintro e w12 ⟨rfl, b⟩
  replace hz := hz.on b
  replace hu := hu.on b
  replace hi := hi.on b
  replace hv := hv.on b
  replace hr := hr.on b
  replace xa0 := cK b xa0 xal
  replace xa1 := cK b xa1 xal
  replace xa2 := cK b xa2 xal
  replace xal := lK b xal
  replace xb0 := cK b xb0 xbl
  replace xb1 := cK b xb1 xbl
  replace xb2 := cK b xb2 xbl
  replace xbl := lK b xbl
  replace xq0 := cK b xq0 xql
  replace xq1 := cK b xq1 xql
  replace xq2 := cK b xq2 xql
  replace xql := lK b xql
  replace cc := bK cc b
  clear b
  go_wp2_with fail
  go_ret
  exact ⟨rfl, cc⟩

set_option maxRecDepth 100000 in
set_option maxHeartbeats 8000000 in
theorem FixHalf_no_no {w : World} {a b j p q : Int} (ha : I64 a) (hb : I64 b) (j0 : 0 ≤ j) (j1 : j ≤ 40) (hb0 : b ≠ 0) (hd : ¬ I64 (nea (((a : Int) : Rat) / ((b : Int) : Rat)) j.toNat)) (A0 : ∀ W : World, Calls Try.prog 13 #[.int .i64 a, .int .i64 b, .int .i64 j] W (GotV W (.tuple #[.int .i64 (0), .int .i64 (2)]))) (A1 : ∀ W : World, Calls Try.prog 14 #[.int .i64 a, .int .i64 b, .int .i64 j] W (GotV W (.tuple #[.int .i64 (0), .int .i64 (2)]))) :
    Calls Try.prog 4 #[.int .i64 a, .int .i64 b, .int .i64 j] w (fun e w' => e = .returned (.bool true) ∧ Below w.heap.size w w') := by
  have t1 : decide (j < 0) = false := decide_eq_false (by omega)
  have t2 : decide (40 < j) = false := decide_eq_false (by omega)
  have sx := bak_sz8 ha (show j.toNat ≤ 500 by omega)
  have sy := bak_sz8 hb (show j.toNat ≤ 500 by omega)
  have sxy := prod_sz ha hb (show j.toNat ≤ 40 by omega)
  have tb : ((b : Int) == 0) = false := beq_eq_false_iff_ne.2 hb0
  obtain ⟨x, ex⟩ : ∃ v, bak a j.toNat = v := ⟨_, rfl⟩
  obtain ⟨y, ey⟩ : ∃ v, bak b j.toNat = v := ⟨_, rfl⟩
  have CX : ∀ {W : World} {b_ : Bool} {A : Option Addr} {n c : Nat}, Zn W b_ A n c a → Calls Try.prog 15 #[.agg #[.bool b_, .slice A n c], .int .i64 j] W (GotRp W x 0) := fun h => by rw [← ex]; exact rback_N h (Nat.le_trans (len_one ha.abs) (by omega)) j0 (by omega)
  have CY : ∀ {W : World} {b_ : Bool} {A : Option Addr} {n c : Nat}, Zn W b_ A n c b → Calls Try.prog 15 #[.agg #[.bool b_, .slice A n c], .int .i64 j] W (GotRp W y 0) := fun h => by rw [← ey]; exact rback_N h (Nat.le_trans (len_one hb.abs) (by omega)) j0 (by omega)
  have hn : y.num ≠ 0 := by rw [← ey]; exact bak_num hb0
  have sq := (prod_half ha (show j.toNat ≤ 40 by omega)).div (prod_half hb (show j.toNat ≤ 40 by omega)) (by rw [ey]; exact hn)
  have eq_ := bak_quot (a := a) (b := b) j.toNat hb0
  rw [ex, ey] at sq eq_
  have CD : ∀ {W : World} {b0 : Bool} {A0 B0 : Option Addr} {n0 c0 m0 d0 : Nat} {b1 : Bool} {A1 B1 : Option Addr} {n1 c1 m1 d1 : Nat}, Rt W b0 A0 n0 c0 B0 m0 d0 x → Rt W b1 A1 n1 c1 B1 m1 d1 y → Calls Try.prog 19 #[.agg #[.bool b0, .slice A0 n0 c0, .slice B0 m0 d0], .agg #[.bool b1, .slice A1 n1 c1, .slice B1 m1 d1]] W (GotRp W (x / y) 0) := fun h k => rtdiv_N h (by rw [← ex]; exact sx.le (by omega)) k (by rw [← ey]; exact sy.le (by omega)) hn
  have hx_ : I64 9223372036854775807 := by unfold I64; omega
  have so := bak_sz8 hx_ (show j.toNat ≤ 500 by omega)
  have ov := over_math hd
  rw [← eq_] at ov
  obtain ⟨o_, eo⟩ : ∃ v, bak 9223372036854775807 j.toNat = v := ⟨_, rfl⟩
  rw [eo] at so ov
  obtain ⟨c_, ec⟩ : ∃ v, cmpQ (absQ (x / y)) o_ = v := ⟨_, rfl⟩
  have HC := Lib.hid ec
  rw [ec] at ov
  have tc : decide (0 < c_) = true := decide_eq_true ov
  have sa := absQ_sz sq
  have CO : ∀ {W : World} {b_ : Bool} {A : Option Addr} {n c : Nat}, Zn W b_ A n c 9223372036854775807 → Calls Try.prog 15 #[.agg #[.bool b_, .slice A n c], .int .i64 j] W (GotRp W o_ 0) := fun h => by rw [← eo]; exact rback_N h (Nat.le_trans (len_one hx_.abs) (by omega)) j0 (by omega)
  clear eo ec
  rw [ex, ey] at sxy
  rw [ex] at sx
  rw [ey] at sy
  clear ex ey eq_ hd
  have cc := Below.refl w.heap.size w
  go_enter Try.func4, Try.ntmps4
  go_wp2_with fail
  refine (rzof_N _ a ha).mono ?_
  rintro e w1 ⟨bz, Az, nz, cz, rfl, hz, b⟩
  replace cc := bK cc b
  clear b
  go_wp2_with fail
  refine (CX hz).mono ?_
  rintro e w2 ⟨bu, Au, nu, cu, Bu, mu, du, rfl, hu, b⟩
  replace hz := hz.on b
  replace cc := bK cc b
  clear b
  go_wp2_with fail
  have bA := below_one w2 (.cells #[.bool bu, .slice Au nu cu, .slice Bu mu du] 35)
  replace hz := hz.on bA
  replace hu := hu.on bA
  replace cc := bK cc bA
  clear bA
  have xa0 : (w2.alloc (.cells #[.bool bu, .slice Au nu cu, .slice Bu mu du] 35)).cell? ⟨w2.heap.size, 0, none⟩ = some (.bool bu) := by simp [go_sem]
  have xa1 : (w2.alloc (.cells #[.bool bu, .slice Au nu cu, .slice Bu mu du] 35)).cell? ⟨w2.heap.size, 1, none⟩ = some (.slice Au nu cu) := by simp [go_sem]
  have xa2 : (w2.alloc (.cells #[.bool bu, .slice Au nu cu, .slice Bu mu du] 35)).cell? ⟨w2.heap.size, 2, none⟩ = some (.slice Bu mu du) := by simp [go_sem]
  have xal : w2.heap.size < (w2.alloc (.cells #[.bool bu, .slice Au nu cu, .slice Bu mu du] 35)).heap.size := by simp
  generalize w2.alloc (.cells #[.bool bu, .slice Au nu cu, .slice Bu mu du] 35) = v3 at *
  go_wp2_with fail
  refine (rzof_N _ b hb).mono ?_
  rintro e w4 ⟨bi, Ai, ni, ci, rfl, hi, b⟩
  replace hz := hz.on b
  replace hu := hu.on b
  replace xa0 := cK b xa0 xal
  replace xa1 := cK b xa1 xal
  replace xa2 := cK b xa2 xal
  replace xal := lK b xal
  replace cc := bK cc b
  clear b
  go_wp2_with fail
  refine (CY hi).mono ?_
  rintro e w5 ⟨bv, Av, nv, cv, Bv, mv, dv, rfl, hv, b⟩
  replace hz := hz.on b
  replace hu := hu.on b
  replace hi := hi.on b
  replace xa0 := cK b xa0 xal
  replace xa1 := cK b xa1 xal
  replace xa2 := cK b xa2 xal
  replace xal := lK b xal
  replace cc := bK cc b
  clear b
  go_wp2_with fail
  have bA := below_one w5 (.cells #[.bool bv, .slice Av nv cv, .slice Bv mv dv] 35)
  replace hz := hz.on bA
  replace hu := hu.on bA
  replace hi := hi.on bA
  replace hv := hv.on bA
  replace xa0 := cK bA xa0 xal
  replace xa1 := cK bA xa1 xal
  replace xa2 := cK bA xa2 xal
  replace xal := lK bA xal
  replace cc := bK cc bA
  clear bA
  have xb0 : (w5.alloc (.cells #[.bool bv, .slice Av nv cv, .slice Bv mv dv] 35)).cell? ⟨w5.heap.size, 0, none⟩ = some (.bool bv) := by simp [go_sem]
  have xb1 : (w5.alloc (.cells #[.bool bv, .slice Av nv cv, .slice Bv mv dv] 35)).cell? ⟨w5.heap.size, 1, none⟩ = some (.slice Av nv cv) := by simp [go_sem]
  have xb2 : (w5.alloc (.cells #[.bool bv, .slice Av nv cv, .slice Bv mv dv] 35)).cell? ⟨w5.heap.size, 2, none⟩ = some (.slice Bv mv dv) := by simp [go_sem]
  have xbl : w5.heap.size < (w5.alloc (.cells #[.bool bv, .slice Av nv cv, .slice Bv mv dv] 35)).heap.size := by simp
  generalize w5.alloc (.cells #[.bool bv, .slice Av nv cv, .slice Bv mv dv] 35) = v6 at *
  go_wp2_with fail
  refine (A0 _).mono ?_
  rintro e w7 ⟨rfl, b⟩
  replace hz := hz.on b
  replace hu := hu.on b
  replace hi := hi.on b
  replace hv := hv.on b
  replace xa0 := cK b xa0 xal
  replace xa1 := cK b xa1 xal
  replace xa2 := cK b xa2 xal
  replace xal := lK b xal
  replace xb0 := cK b xb0 xbl
  replace xb1 := cK b xb1 xbl
  replace xb2 := cK b xb2 xbl
  replace xbl := lK b xbl
  replace cc := bK cc b
  clear b
  go_wp2_with fail
  refine (A1 _).mono ?_
  rintro e w8 ⟨rfl, b⟩
  replace hz := hz.on b
  replace hu := hu.on b
  replace hi := hi.on b
  replace hv := hv.on b
  replace xa0 := cK b xa0 xal
  replace xa1 := cK b xa1 xal
  replace xa2 := cK b xa2 xal
  replace xal := lK b xal
  replace xb0 := cK b xb0 xbl
  replace xb1 := cK b xb1 xbl
  replace xb2 := cK b xb2 xbl
  replace xbl := lK b xbl
  replace cc := bK cc b
  clear b
  go_wp2_with fail
  refine (CD hu hv).mono ?_
  rintro e w9 ⟨br, Ar, nr, cr, Br, mr, dr, rfl, hr, b⟩
  replace hz := hz.on b
  replace hu := hu.on b
  replace hi := hi.on b
  replace hv := hv.on b
  replace xa0 := cK b xa0 xal
  replace xa1 := cK b xa1 xal
  replace xa2 := cK b xa2 xal
  replace xal := lK b xal
  replace xb0 := cK b xb0 xbl
  replace xb1 := cK b xb1 xbl
  replace xb2 := cK b xb2 xbl
  replace xbl := lK b xbl
  replace cc := bK cc b
  clear b
  go_wp2_with fail
  have bA := below_one w9 (.cells #[.bool br, .slice Ar nr cr, .slice Br mr dr] 35)
  replace hz := hz.on bA
  replace hu := hu.on bA
  replace hi := hi.on bA
  replace hv := hv.on bA
  replace hr := hr.on bA
  replace xa0 := cK bA xa0 xal
  replace xa1 := cK bA xa1 xal
  replace xa2 := cK bA xa2 xal
  replace xal := lK bA xal
  replace xb0 := cK bA xb0 xbl
  replace xb1 := cK bA xb1 xbl
  replace xb2 := cK bA xb2 xbl
  replace xbl := lK bA xbl
  replace cc := bK cc bA
  clear bA
  have xq0 : (w9.alloc (.cells #[.bool br, .slice Ar nr cr, .slice Br mr dr] 35)).cell? ⟨w9.heap.size, 0, none⟩ = some (.bool br) := by simp [go_sem]
  have xq1 : (w9.alloc (.cells #[.bool br, .slice Ar nr cr, .slice Br mr dr] 35)).cell? ⟨w9.heap.size, 1, none⟩ = some (.slice Ar nr cr) := by simp [go_sem]
  have xq2 : (w9.alloc (.cells #[.bool br, .slice Ar nr cr, .slice Br mr dr] 35)).cell? ⟨w9.heap.size, 2, none⟩ = some (.slice Br mr dr) := by simp [go_sem]
  have xql : w9.heap.size < (w9.alloc (.cells #[.bool br, .slice Ar nr cr, .slice Br mr dr] 35)).heap.size := by simp
  generalize w9.alloc (.cells #[.bool br, .slice Ar nr cr, .slice Br mr dr] 35) = v10 at *
  go_wp2_with fail
  refine (rzof_N _ 9223372036854775807 hx_).mono ?_
  rintro e w11 ⟨be, Ae, ne, ce, rfl, he, b⟩
  replace hz := hz.on b
  replace hu := hu.on b
  replace hi := hi.on b
  replace hv := hv.on b
  replace hr := hr.on b
  replace xa0 := cK b xa0 xal
  replace xa1 := cK b xa1 xal
  replace xa2 := cK b xa2 xal
  replace xal := lK b xal
  replace xb0 := cK b xb0 xbl
  replace xb1 := cK b xb1 xbl
  replace xb2 := cK b xb2 xbl
  replace xbl := lK b xbl
  replace xq0 := cK b xq0 xql
  replace xq1 := cK b xq1 xql
  replace xq2 := cK b xq2 xql
  replace xql := lK b xql
  replace cc := bK cc b
  clear b
  go_wp2_with fail
  refine (CO he).mono ?_
  rintro e w12 ⟨bk, Ak, nk, ck, Bk, mk, dk, rfl, hk, b⟩
  replace hz := hz.on b
  replace hu := hu.on b
  replace hi := hi.on b
  replace hv := hv.on b
  replace hr := hr.on b
  replace he := he.on b
  replace xa0 := cK b xa0 xal
  replace xa1 := cK b xa1 xal
  replace xa2 := cK b xa2 xal
  replace xal := lK b xal
  replace xb0 := cK b xb0 xbl
  replace xb1 := cK b xb1 xbl
  replace xb2 := cK b xb2 xbl
  replace xbl := lK b xbl
  replace xq0 := cK b xq0 xql
  replace xq1 := cK b xq1 xql
  replace xq2 := cK b xq2 xql
  replace xql := lK b xql
  replace cc := bK cc b
  clear b
  go_wp2_with fail
  have bA := below_one w12 (.cells #[.bool bk, .slice Ak nk ck, .slice Bk mk dk] 35)
  replace hz := hz.on bA
  replace hu := hu.on bA
  replace hi := hi.on bA
  replace hv := hv.on bA
  replace hr := hr.on bA
  replace he := he.on bA
  replace hk := hk.on bA
  replace xa0 := cK bA xa0 xal
  replace xa1 := cK bA xa1 xal
  replace xa2 := cK bA xa2 xal
  replace xal := lK bA xal
  replace xb0 := cK bA xb0 xbl
  replace xb1 := cK bA xb1 xbl
  replace xb2 := cK bA xb2 xbl
  replace xbl := lK bA xbl
  replace xq0 := cK bA xq0 xql
  replace xq1 := cK bA xq1 xql
  replace xq2 := cK bA xq2 xql
  replace xql := lK bA xql
  replace cc := bK cc bA
  clear bA
  have xo0 : (w12.alloc (.cells #[.bool bk, .slice Ak nk ck, .slice Bk mk dk] 35)).cell? ⟨w12.heap.size, 0, none⟩ = some (.bool bk) := by simp [go_sem]
  have xo1 : (w12.alloc (.cells #[.bool bk, .slice Ak nk ck, .slice Bk mk dk] 35)).cell? ⟨w12.heap.size, 1, none⟩ = some (.slice Ak nk ck) := by simp [go_sem]
  have xo2 : (w12.alloc (.cells #[.bool bk, .slice Ak nk ck, .slice Bk mk dk] 35)).cell? ⟨w12.heap.size, 2, none⟩ = some (.slice Bk mk dk) := by simp [go_sem]
  have xol : w12.heap.size < (w12.alloc (.cells #[.bool bk, .slice Ak nk ck, .slice Bk mk dk] 35)).heap.size := by simp
  generalize w12.alloc (.cells #[.bool bk, .slice Ak nk ck, .slice Bk mk dk] 35) = v13 at *
  go_wp2_with fail
  have bD : Below v13.heap.size v13 v13.drew := below_drewN (Below.refl _ v13) 1
  replace hz := hz.on bD
  replace hu := hu.on bD
  replace hi := hi.on bD
  replace hv := hv.on bD
  replace hr := hr.on bD
  replace he := he.on bD
  replace hk := hk.on bD
  replace xa0 := cK bD xa0 xal
  replace xa1 := cK bD xa1 xal
  replace xa2 := cK bD xa2 xal
  replace xal := lK bD xal
  replace xb0 := cK bD xb0 xbl
  replace xb1 := cK bD xb1 xbl
  replace xb2 := cK bD xb2 xbl
  replace xbl := lK bD xbl
  replace xq0 := cK bD xq0 xql
  replace xq1 := cK bD xq1 xql
  replace xq2 := cK bD xq2 xql
  replace xql := lK bD xql
  replace xo0 := cK bD xo0 xol
  replace xo1 := cK bD xo1 xol
  replace xo2 := cK bD xo2 xol
  replace xol := lK bD xol
  replace cc := bK cc bD
  clear bD
  refine wp_region_held_drew (S := fun w' => w'.cell? ⟨w2.heap.size, 0, none⟩ = some (.bool bu) ∧ w'.cell? ⟨w2.heap.size, 1, none⟩ = some (.slice Au nu cu) ∧ w'.cell? ⟨w2.heap.size, 2, none⟩ = some (.slice Bu mu du) ∧ w'.cell? ⟨w5.heap.size, 0, none⟩ = some (.bool bv) ∧ w'.cell? ⟨w5.heap.size, 1, none⟩ = some (.slice Av nv cv) ∧ w'.cell? ⟨w5.heap.size, 2, none⟩ = some (.slice Bv mv dv) ∧ w'.cell? ⟨w9.heap.size, 0, none⟩ = some (.bool br) ∧ w'.cell? ⟨w9.heap.size, 1, none⟩ = some (.slice Ar nr cr) ∧ w'.cell? ⟨w9.heap.size, 2, none⟩ = some (.slice Br mr dr) ∧ w'.cell? ⟨w12.heap.size, 0, none⟩ = some (.bool bk) ∧ w'.cell? ⟨w12.heap.size, 1, none⟩ = some (.slice Ak nk ck) ∧ w'.cell? ⟨w12.heap.size, 2, none⟩ = some (.slice Bk mk dk)) (by kernel_rfl) ?_ (fun hHeld => ?_)
  · exact ⟨xa0, xa1, xa2, xb0, xb1, xb2, xq0, xq1, xq2, xo0, xo1, xo2⟩
  refine wpAnyH_ready (rs := [0]) (by kernel_rfl) (by simp) ?_
  refine AllReadyH.cons rfl (fun K hK => ?_) AllReadyH.nil
  (try simp only [List.getElem_toArray, List.getElem_cons_zero, List.getElem_cons_succ])
  rw [if_pos (by rfl)]
  go_simp
  go_at_call 12
  refine (alive8_any _).mono ?_
  rintro e w14 ⟨rfl, b⟩
  replace hz := hz.on b
  replace hu := hu.on b
  replace hi := hi.on b
  replace hv := hv.on b
  replace hr := hr.on b
  replace he := he.on b
  replace hk := hk.on b
  replace xa0 := cK b xa0 xal
  replace xa1 := cK b xa1 xal
  replace xa2 := cK b xa2 xal
  replace xal := lK b xal
  replace xb0 := cK b xb0 xbl
  replace xb1 := cK b xb1 xbl
  replace xb2 := cK b xb2 xbl
  replace xbl := lK b xbl
  replace xq0 := cK b xq0 xql
  replace xq1 := cK b xq1 xql
  replace xq2 := cK b xq2 xql
  replace xql := lK b xql
  replace xo0 := cK b xo0 xol
  replace xo1 := cK b xo1 xol
  replace xo2 := cK b xo2 xol
  replace xol := lK b xol
  replace cc := bK cc b
  clear b
  refine hK.out _ _ ?_ (fun hHeld => ?_)
  · exact ⟨xa0, xa1, xa2, xb0, xb1, xb2, xq0, xq1, xq2, xo0, xo1, xo2⟩
  clear hK K
  try simp only [Act.put, List.getElem_toArray, List.getElem_cons_zero, List.getElem_cons_succ, List.setIfInBounds_toArray, List.set_cons_zero, List.set_cons_succ]
  refine wpAnyH_take (i := 1) (v := ?_) rfl (by kernel_rfl) (by kernel_rfl) (by kernel_rfl) (fun _ _ _ h => h) (Or.inl ⟨by rfl, ?_⟩) hHeld ?_
  rotate_left
  · (intro w hSw; (try dsimp only at hSw); go_simp; (try with_reducible rfl))
  try simp only [Act.put, List.getElem_toArray, List.getElem_cons_zero, List.getElem_cons_succ, List.setIfInBounds_toArray, List.set_cons_zero, List.set_cons_succ]
  refine wpAnyH_take (i := 2) (v := ?_) rfl (by kernel_rfl) (by kernel_rfl) (by kernel_rfl) (fun _ _ _ h => h) (Or.inl ⟨by rfl, ?_⟩) hHeld ?_
  rotate_left
  · (intro w hSw; (try dsimp only at hSw); go_simp; (try with_reducible rfl))
  try simp only [Act.put, List.getElem_toArray, List.getElem_cons_zero, List.getElem_cons_succ, List.setIfInBounds_toArray, List.set_cons_zero, List.set_cons_succ]
  refine wpAnyH_take (i := 3) (v := ?_) rfl (by kernel_rfl) (by kernel_rfl) (by kernel_rfl) (fun _ _ _ h => h) (Or.inl ⟨by rfl, ?_⟩) hHeld ?_
  rotate_left
  · (intro w hSw; (try dsimp only at hSw); go_simp; (try with_reducible rfl))
  try simp only [Act.put, List.getElem_toArray, List.getElem_cons_zero, List.getElem_cons_succ, List.setIfInBounds_toArray, List.set_cons_zero, List.set_cons_succ]
  refine wpAnyH_take (i := 4) (v := ?_) rfl (by kernel_rfl) (by kernel_rfl) (by kernel_rfl) (fun _ _ _ h => h) (Or.inl ⟨by rfl, ?_⟩) hHeld ?_
  rotate_left
  · (intro w hSw; (try dsimp only at hSw); go_simp; (try with_reducible rfl))
  try simp only [Act.put, List.getElem_toArray, List.getElem_cons_zero, List.getElem_cons_succ, List.setIfInBounds_toArray, List.set_cons_zero, List.set_cons_succ]
  refine wpAnyH_take (i := 5) (v := ?_) rfl (by kernel_rfl) (by kernel_rfl) (by kernel_rfl) (fun _ _ _ h => h) (Or.inl ⟨by rfl, ?_⟩) hHeld ?_
  rotate_left
  · (intro w hSw; (try dsimp only at hSw); go_simp; (try with_reducible rfl))
  try simp only [Act.put, List.getElem_toArray, List.getElem_cons_zero, List.getElem_cons_succ, List.setIfInBounds_toArray, List.set_cons_zero, List.set_cons_succ]
  refine wpAnyH_take (i := 6) (v := ?_) rfl (by kernel_rfl) (by kernel_rfl) (by kernel_rfl) (fun _ _ _ h => h) (Or.inl ⟨by rfl, ?_⟩) hHeld ?_
  rotate_left
  · (intro w hSw; (try dsimp only at hSw); go_simp; (try with_reducible rfl))
  try simp only [Act.put, List.getElem_toArray, List.getElem_cons_zero, List.getElem_cons_succ, List.setIfInBounds_toArray, List.set_cons_zero, List.set_cons_succ]
  refine wpAnyH_take (i := 7) (v := ?_) rfl (by kernel_rfl) (by kernel_rfl) (by kernel_rfl) (fun _ _ _ h => h) (Or.inl ⟨by rfl, ?_⟩) hHeld ?_
  rotate_left
  · (intro w hSw; (try dsimp only at hSw); go_simp; (try with_reducible rfl))
  try simp only [Act.put, List.getElem_toArray, List.getElem_cons_zero, List.getElem_cons_succ, List.setIfInBounds_toArray, List.set_cons_zero, List.set_cons_succ]
  refine wpAnyH_take (i := 8) (v := ?_) rfl (by kernel_rfl) (by kernel_rfl) (by kernel_rfl) (fun _ _ _ h => h) (Or.inl ⟨by rfl, ?_⟩) hHeld ?_
  rotate_left
  · (intro w hSw; (try dsimp only at hSw); go_simp; (try with_reducible rfl))
  try simp only [Act.put, List.getElem_toArray, List.getElem_cons_zero, List.getElem_cons_succ, List.setIfInBounds_toArray, List.set_cons_zero, List.set_cons_succ]
  refine wpAnyH_take (i := 9) (v := ?_) rfl (by kernel_rfl) (by kernel_rfl) (by kernel_rfl) (fun _ _ _ h => h) (Or.inl ⟨by rfl, ?_⟩) hHeld ?_
  rotate_left
  · (intro w hSw; (try dsimp only at hSw); go_simp; (try with_reducible rfl))
  try simp only [Act.put, List.getElem_toArray, List.getElem_cons_zero, List.getElem_cons_succ, List.setIfInBounds_toArray, List.set_cons_zero, List.set_cons_succ]
  refine wpAnyH_take (i := 10) (v := ?_) rfl (by kernel_rfl) (by kernel_rfl) (by kernel_rfl) (fun _ _ _ h => h) (Or.inl ⟨by rfl, ?_⟩) hHeld ?_
  rotate_left
  · (intro w hSw; (try dsimp only at hSw); go_simp; (try with_reducible rfl))
  try simp only [Act.put, List.getElem_toArray, List.getElem_cons_zero, List.getElem_cons_succ, List.setIfInBounds_toArray, List.set_cons_zero, List.set_cons_succ]
  refine wpAnyH_take (i := 12) (v := ?_) rfl (by kernel_rfl) (by kernel_rfl) (by kernel_rfl) (fun _ _ _ h => h) (Or.inl ⟨by rfl, ?_⟩) hHeld ?_
  rotate_left
  · (intro w hSw; (try dsimp only at hSw); go_simp; (try with_reducible rfl))
  try simp only [Act.put, List.getElem_toArray, List.getElem_cons_zero, List.getElem_cons_succ, List.setIfInBounds_toArray, List.set_cons_zero, List.set_cons_succ]
  refine wpAnyH_ready (rs := [11]) (by kernel_rfl) (by simp) ?_
  refine AllReadyH.cons rfl (fun K hK => ?_) AllReadyH.nil
  (try simp only [List.getElem_toArray, List.getElem_cons_zero, List.getElem_cons_succ])
  rw [if_pos (by rfl)]
  go_simp
  go_at_call 21
  refine (rtabs_N hr).mono ?_
  rintro e w15 ⟨bs, As, ns, cs, Bs, ms, ds, rfl, hs, b⟩
  replace hz := hz.on b
  replace hu := hu.on b
  replace hi := hi.on b
  replace hv := hv.on b
  replace hr := hr.on b
  replace he := he.on b
  replace hk := hk.on b
  replace xa0 := cK b xa0 xal
  replace xa1 := cK b xa1 xal
  replace xa2 := cK b xa2 xal
  replace xal := lK b xal
  replace xb0 := cK b xb0 xbl
  replace xb1 := cK b xb1 xbl
  replace xb2 := cK b xb2 xbl
  replace xbl := lK b xbl
  replace xq0 := cK b xq0 xql
  replace xq1 := cK b xq1 xql
  replace xq2 := cK b xq2 xql
  replace xql := lK b xql
  replace xo0 := cK b xo0 xol
  replace xo1 := cK b xo1 xol
  replace xo2 := cK b xo2 xol
  replace xol := lK b xol
  replace cc := bK cc b
  clear b
  refine hK.out _ _ ?_ (fun hHeld => ?_)
  · exact ⟨xa0, xa1, xa2, xb0, xb1, xb2, xq0, xq1, xq2, xo0, xo1, xo2⟩
  clear hK K
  try simp only [Act.put, List.getElem_toArray, List.getElem_cons_zero, List.getElem_cons_succ, List.setIfInBounds_toArray, List.set_cons_zero, List.set_cons_succ]
  refine wpAnyH_ready (rs := [13]) (by kernel_rfl) (by simp) ?_
  refine AllReadyH.cons rfl (fun K hK => ?_) AllReadyH.nil
  (try simp only [List.getElem_toArray, List.getElem_cons_zero, List.getElem_cons_succ])
  rw [if_pos (by rfl)]
  go_simp
  go_at_call 20
  refine (rtcmp_v c_ hs (sa.le (by omega)) hk (so.le (by omega)) HC.out).mono ?_
  rintro e w16 ⟨rfl, b⟩
  replace hz := hz.on b
  replace hu := hu.on b
  replace hi := hi.on b
  replace hv := hv.on b
  replace hr := hr.on b
  replace he := he.on b
  replace hk := hk.on b
  replace hs := hs.on b
  replace xa0 := cK b xa0 xal
  replace xa1 := cK b xa1 xal
  replace xa2 := cK b xa2 xal
  replace xal := lK b xal
  replace xb0 := cK b xb0 xbl
  replace xb1 := cK b xb1 xbl
  replace xb2 := cK b xb2 xbl
  replace xbl := lK b xbl
  replace xq0 := cK b xq0 xql
  replace xq1 := cK b xq1 xql
  replace xq2 := cK b xq2 xql
  replace xql := lK b xql
  replace xo0 := cK b xo0 xol
  replace xo1 := cK b xo1 xol
  replace xo2 := cK b xo2 xol
  replace xol := lK b xol
  replace cc := bK cc b
  clear b
  refine hK.out _ _ ?_ (fun hHeld => ?_)
  · exact ⟨xa0, xa1, xa2, xb0, xb1, xb2, xq0, xq1, xq2, xo0, xo1, xo2⟩
  clear hK K
  try simp only [Act.put, List.getElem_toArray, List.getElem_cons_zero, List.getElem_cons_succ, List.setIfInBounds_toArray, List.set_cons_zero, List.set_cons_succ]
  refine wpAnyH_take (i := 14) (v := ?_) rfl (by kernel_rfl) (by kernel_rfl) (by kernel_rfl) (fun _ _ _ h => h) (Or.inl ⟨by rfl, ?_⟩) hHeld ?_
  rotate_left
  · (intro w hSw; (try dsimp only at hSw); go_simp; (try with_reducible rfl))
  try simp only [Act.put, List.getElem_toArray, List.getElem_cons_zero, List.getElem_cons_succ, List.setIfInBounds_toArray, List.set_cons_zero, List.set_cons_succ]
  refine wpAnyH_take (i := 15) (v := ?_) rfl (by kernel_rfl) (by kernel_rfl) (by kernel_rfl) (fun _ _ _ h => h) (Or.inl ⟨by rfl, ?_⟩) hHeld ?_
  rotate_left
  · (intro w hSw; (try dsimp only at hSw); go_simp; (try with_reducible rfl))
  try simp only [Act.put, List.getElem_toArray, List.getElem_cons_zero, List.getElem_cons_succ, List.setIfInBounds_toArray, List.set_cons_zero, List.set_cons_succ]
  refine wpAnyH_take (i := 16) (v := ?_) rfl (by kernel_rfl) (by kernel_rfl) (by kernel_rfl) (fun _ _ _ h => h) (Or.inl ⟨by rfl, ?_⟩) hHeld ?_
  rotate_left
  · (intro w hSw; (try dsimp only at hSw); go_simp; (try with_reducible rfl))
  try simp only [Act.put, List.getElem_toArray, List.getElem_cons_zero, List.getElem_cons_succ, List.setIfInBounds_toArray, List.set_cons_zero, List.set_cons_succ]
  refine wpAnyH_done (by kernel_rfl) ?_ _
  clear hHeld
  go_wp2_with fail
  go_ret
  exact ⟨rfl, cc⟩

set_option maxRecDepth 100000 in
set_option maxHeartbeats 8000000 in
theorem FixHalf_walk {w : World} (a : Int) (wa : (Lit.int .i64 a).wf = true) (b : Int) (wb : (Lit.int .i64 b).wf = true) (j : Int) (wj : (Lit.int .i64 j).wf = true) :
    Calls Try.prog 4 #[.int .i64 a, .int .i64 b, .int .i64 j] w (fun e w' => e = .returned (.bool true) ∧ Below w.heap.size w w') := by
  have ha := i64_wf wa
  have hb := i64_wf wb
  by_cases hj : j < 0
  · exact FixHalf_n0 hj (fun W => fmul_no ha hb (Or.inl hj)) (fun W => fdiv_no ha hb (Or.inl hj))
  by_cases hk : 40 < j
  · exact FixHalf_n1 hj hk (fun W => fmul_no ha hb (Or.inr hk)) (fun W => fdiv_no ha hb (Or.inr hk))
  have j0 : 0 ≤ j := by omega
  have j1 : j ≤ 40 := by omega
  have CM := fun W : World => fmul_N (w := W) ha hb j0 j1
  rw [← nea_prod a b j.toNat] at CM
  by_cases hb0 : b = 0
  · have CD := fun W : World => fdiv_zero (w := W) ha j0 j1
    by_cases hp : I64 (nea (bak a j.toNat * bak b j.toNat) j.toNat)
    · rw [(nI_yes hp).1, (nI_yes hp).2] at CM; exact FixHalf_ok_zero (q := 0) ha hb j0 j1 rfl hp CM (by rw [hb0]; exact CD) hb0
    · rw [(nI_no hp).1, (nI_no hp).2] at CM; exact FixHalf_no_zero (p := 0) (q := 0) ha hb j0 j1 CM (by rw [hb0]; exact CD) hb0
  · have CD := fun W : World => fdiv_N (w := W) ha hb hb0 j0 j1
    rw [← nea_quot a b j.toNat hb0] at CD
    by_cases hp : I64 (nea (bak a j.toNat * bak b j.toNat) j.toNat)
    · rw [(nI_yes hp).1, (nI_yes hp).2] at CM
      by_cases hq : I64 (nea (((a : Int) : Rat) / ((b : Int) : Rat)) j.toNat)
      · rw [(nI_yes hq).1, (nI_yes hq).2] at CD; exact FixHalf_ok_ok ha hb j0 j1 rfl hp hb0 rfl hq CM CD
      · rw [(nI_no hq).1, (nI_no hq).2] at CD; exact FixHalf_ok_no (q := 0) ha hb j0 j1 rfl hp hb0 hq CM CD
    · rw [(nI_no hp).1, (nI_no hp).2] at CM
      by_cases hq : I64 (nea (((a : Int) : Rat) / ((b : Int) : Rat)) j.toNat)
      · rw [(nI_yes hq).1, (nI_yes hq).2] at CD; exact FixHalf_no_ok (p := 0) ha hb j0 j1 hb0 rfl hq CM CD
      · rw [(nI_no hq).1, (nI_no hq).2] at CD; exact FixHalf_no_no (p := 0) (q := 0) ha hb j0 j1 hb0 hq CM CD

end Go.Proofs.Ytccigpnebejbiaa
