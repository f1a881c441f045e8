/-
  Several texts in one: C14e.
-/
import Derived.Test.YtpidpebgeblenaaGreatA12
import Derived.Test.YtpidpebgeblenaaGreatA11
import Derived.Test.YtpidpebgeblenaaGreatA3

/-
  The contracts of the fourteenth reference: Right.
-/
namespace Go.Proofs.YtpidpebgeblenaaGreat
set_option maxRecDepth 100000
set_option maxHeartbeats 8000000
open Go.RowKit
set_option linter.unusedVariables false
set_option linter.unusedSimpArgs false

/-- Is a block right, at its place in a Store? Is a Store right? -/
def OkAt (kk ks km ko lg : Int) (i : Nat) (x : Bk) : Prop := OkX x ∧ ((x.2.2.1.length : Int) + (x.2.2.2.length : Int)) = min ks (lg - i * ks) ∧ (if x.1 = 4 then Wd km ko lg (gr x.2.2.2) else x.1 = kk ∧ ¬ Wd km ko lg x.2.1)
instance (kk ks km ko lg : Int) (i : Nat) (x : Bk) : Decidable (OkAt kk ks km ko lg i x) := by unfold OkAt; infer_instance
def Bl (V U : World) : Prop := Below V.heap.size V U
theorem Bl.on {V U W : World} (h : Bl V U) (b : Below U.heap.size U W) : Bl V W := Below.trans h (b.mono (Below.size h))
def allAt (kk ks km ko lg : Int) (L : List Bk) (i : Nat) : Bool := (List.range i).all fun j => decide (OkAt kk ks km ko lg j (L[j]?.getD bk0))
def OkS (kk ks km ko lg : Int) (L : List Bk) : Prop := OkK kk ks km ko ∧ (0 ≤ lg ∧ lg ≤ 4096) ∧ (L.length : Int) = (lg + ks - 1) / ks ∧ allAt kk ks km ko lg L L.length = true
instance (kk ks km ko lg : Int) (L : List Bk) : Decidable (OkS kk ks km ko lg L) := by unfold OkS; infer_instance

theorem rRight14_k {w : World} {kk ks km ko lg : Int} {A : Option Addr} {n c : Nat} (hK : ¬ OkK kk ks km ko) :
    Calls Tryz.prog 8 #[.agg #[.int .i64 kk, .int .i64 ks, .int .i64 km, .int .i64 ko, .int .i64 lg, .slice A n c]] w (GotV w (.bool false)) := by
  have CM : ∀ W : World, Calls Tryz.prog 10 #[.agg #[.int .i64 kk, .int .i64 ks, .int .i64 km, .int .i64 ko]] W (GotV W (.bool false)) := fun W => by have h := rMay14_N W (kk := kk) (ks := ks) (km := km) (ko := ko); rw [decide_eq_false hK] at h; exact h
  clear hK
  have cc := Below.refl w.heap.size w
  go_enter Tryz.func8, Tryz.ntmps8
  go_upto_region 1 with fail
  generalize hv_ : w.alloc (.cells #[.int .i64 kk, .int .i64 ks, .int .i64 km, .int .i64 ko, .int .i64 lg, .slice A n c] 26) = v1
  have bA : Below w.heap.size w v1 := by rw [← hv_]; exact ((Below.refl _ w).alloc (by simp) _)
  replace cc := bK cc bA
  clear bA
  obtain ⟨pa0, pa1, pa2, pa3, pa4, pa5⟩ : Cs6 v1 w.heap.size (.int .i64 kk) (.int .i64 ks) (.int .i64 km) (.int .i64 ko) (.int .i64 lg) (.slice A n c) := by simp [Cs6, ← hv_, go_sem]
  have pal : w.heap.size < v1.heap.size := by simp [← hv_] <;> omega
  clear hv_
  have bD : Below v1.heap.size v1 v1.drew := below_drewN (Below.refl _ v1) 1
  rewrite [cR bD pal] at pa0 pa1 pa2 pa3 pa4 pa5
  replace pal := lK bD pal
  replace cc := bK cc bD
  clear bD
  refine wp_region_held_drew (S := fun w' => w'.cell? ⟨w.heap.size, 0, none⟩ = some (.int .i64 kk) ∧ w'.cell? ⟨w.heap.size, 1, none⟩ = some (.int .i64 ks) ∧ w'.cell? ⟨w.heap.size, 2, none⟩ = some (.int .i64 km) ∧ w'.cell? ⟨w.heap.size, 3, none⟩ = some (.int .i64 ko) ∧ w'.cell? ⟨w.heap.size, 4, none⟩ = some (.int .i64 lg) ∧ w'.cell? ⟨w.heap.size, 5, none⟩ = some (.slice A n c)) (by kernel_rfl) ?_ (fun hHeld => ?_)
  · exact ⟨pa0, pa1, pa2, pa3, pa4, pa5⟩
  refine tY (i := 0) (v := ?_) rfl ?_ hHeld ?_
  rotate_left
  · (intro w hSw; (try dsimp only at hSw); go_simp; (try with_reducible rfl))
  try simp only [Act.put, pT]
  refine tY (i := 1) (v := ?_) rfl ?_ hHeld ?_
  rotate_left
  · (intro w hSw; (try dsimp only at hSw); go_simp; (try with_reducible rfl))
  try simp only [Act.put, pT]
  refine wpAnyH_ready (rs := [2]) (by kernel_rfl) (by simp) ?_
  refine AllReadyH.cons rfl (fun K hK => ?_) AllReadyH.nil
  (try simp only [pT])
  rw [if_pos (by rfl)]
  go_simp
  go_at_call 10
  refine (CM _).mono ?_
  rintro e w2 ⟨rfl, b⟩
  rewrite [cR b pal] at pa0 pa1 pa2 pa3 pa4 pa5
  replace pal := lK b pal
  replace cc := bK cc b
  clear b
  refine hK.out _ _ ?_ (fun hHeld => ?_)
  · exact ⟨pa0, pa1, pa2, pa3, pa4, pa5⟩
  clear hK K
  try simp only [Act.put, pT]
  refine tY (i := 3) (v := ?_) rfl ?_ hHeld ?_
  rotate_left
  · (intro w hSw; (try dsimp only at hSw); go_simp; (try with_reducible rfl))
  try simp only [Act.put, pT]
  refine tY (i := 4) (v := ?_) rfl ?_ hHeld ?_
  rotate_left
  · (intro w hSw; (try dsimp only at hSw); go_simp; (try with_reducible rfl))
  try simp only [Act.put, pT]
  refine tU (i := 5) rfl hHeld ?_
  try simp only [Act.put, pT]
  refine tU (i := 6) rfl hHeld ?_
  try simp only [Act.put, pT]
  refine tU (i := 7) rfl hHeld ?_
  try simp only [Act.put, pT]
  refine tY (i := 8) (v := ?_) rfl ?_ hHeld ?_
  rotate_left
  · (intro w hSw; (try dsimp only at hSw); go_simp; (try with_reducible rfl))
  try simp only [Act.put, pT]
  refine tY (i := 9) (v := ?_) rfl ?_ hHeld ?_
  rotate_left
  · (intro w hSw; (try dsimp only at hSw); go_simp; (try with_reducible rfl))
  try simp only [Act.put, pT]
  refine tU (i := 10) rfl hHeld ?_
  try simp only [Act.put, pT]
  refine tU (i := 11) rfl hHeld ?_
  try simp only [Act.put, pT]
  refine tU (i := 12) rfl hHeld ?_
  try simp only [Act.put, pT]
  refine tY (i := 13) (v := ?_) rfl ?_ hHeld ?_
  rotate_left
  · (intro w hSw; (try dsimp only at hSw); go_simp; (try with_reducible rfl))
  try simp only [Act.put, pT]
  refine tY (i := 14) (v := ?_) rfl ?_ hHeld ?_
  rotate_left
  · (intro w hSw; (try dsimp only at hSw); go_simp; (try with_reducible rfl))
  try simp only [Act.put, pT]
  refine tU (i := 15) rfl hHeld ?_
  try simp only [Act.put, pT]
  refine tU (i := 16) rfl hHeld ?_
  try simp only [Act.put, pT]
  refine tU (i := 17) rfl hHeld ?_
  try simp only [Act.put, pT]
  refine tU (i := 18) rfl hHeld ?_
  try simp only [Act.put, pT]
  refine tU (i := 19) rfl hHeld ?_
  try simp only [Act.put, pT]
  refine tU (i := 20) rfl hHeld ?_
  try simp only [Act.put, pT]
  refine tU (i := 21) rfl hHeld ?_
  try simp only [Act.put, pT]
  refine tU (i := 22) rfl hHeld ?_
  try simp only [Act.put, pT]
  refine tU (i := 23) rfl hHeld ?_
  try simp only [Act.put, pT]
  refine tU (i := 24) rfl hHeld ?_
  try simp only [Act.put, pT]
  refine tU (i := 25) rfl hHeld ?_
  try simp only [Act.put, pT]
  refine tU (i := 26) rfl hHeld ?_
  try simp only [Act.put, pT]
  refine tU (i := 27) rfl hHeld ?_
  try simp only [Act.put, pT]
  refine tU (i := 28) rfl hHeld ?_
  try simp only [Act.put, pT]
  refine tU (i := 29) rfl hHeld ?_
  try simp only [Act.put, pT]
  refine tY (i := 30) (v := ?_) rfl ?_ hHeld ?_
  rotate_left
  · (intro w hSw; (try dsimp only at hSw); go_simp; (try with_reducible rfl))
  try simp only [Act.put, pT]
  refine wpAnyH_done (by kernel_rfl) ?_ _
  clear hHeld
  go_wp2_with fail
  go_ret
  exact ⟨rfl, cc⟩

theorem rRight14_neg {w : World} {kk ks km ko lg : Int} {A : Option Addr} {n c : Nat} (hK : OkK kk ks km ko) (h0 : lg < 0) :
    Calls Tryz.prog 8 #[.agg #[.int .i64 kk, .int .i64 ks, .int .i64 km, .int .i64 ko, .int .i64 lg, .slice A n c]] w (GotV w (.bool false)) := by
  have CM : ∀ W : World, Calls Tryz.prog 10 #[.agg #[.int .i64 kk, .int .i64 ks, .int .i64 km, .int .i64 ko]] W (GotV W (.bool true)) := fun W => by have h := rMay14_N W (kk := kk) (ks := ks) (km := km) (ko := ko); rw [decide_eq_true hK] at h; exact h
  have t0 : decide (lg < 0) = true := decide_eq_true h0
  clear hK h0
  have cc := Below.refl w.heap.size w
  go_enter Tryz.func8, Tryz.ntmps8
  go_upto_region 1 with fail
  generalize hv_ : w.alloc (.cells #[.int .i64 kk, .int .i64 ks, .int .i64 km, .int .i64 ko, .int .i64 lg, .slice A n c] 26) = v1
  have bA : Below w.heap.size w v1 := by rw [← hv_]; exact ((Below.refl _ w).alloc (by simp) _)
  replace cc := bK cc bA
  clear bA
  obtain ⟨pa0, pa1, pa2, pa3, pa4, pa5⟩ : Cs6 v1 w.heap.size (.int .i64 kk) (.int .i64 ks) (.int .i64 km) (.int .i64 ko) (.int .i64 lg) (.slice A n c) := by simp [Cs6, ← hv_, go_sem]
  have pal : w.heap.size < v1.heap.size := by simp [← hv_] <;> omega
  clear hv_
  have bD : Below v1.heap.size v1 v1.drew := below_drewN (Below.refl _ v1) 1
  rewrite [cR bD pal] at pa0 pa1 pa2 pa3 pa4 pa5
  replace pal := lK bD pal
  replace cc := bK cc bD
  clear bD
  refine wp_region_held_drew (S := fun w' => w'.cell? ⟨w.heap.size, 0, none⟩ = some (.int .i64 kk) ∧ w'.cell? ⟨w.heap.size, 1, none⟩ = some (.int .i64 ks) ∧ w'.cell? ⟨w.heap.size, 2, none⟩ = some (.int .i64 km) ∧ w'.cell? ⟨w.heap.size, 3, none⟩ = some (.int .i64 ko) ∧ w'.cell? ⟨w.heap.size, 4, none⟩ = some (.int .i64 lg) ∧ w'.cell? ⟨w.heap.size, 5, none⟩ = some (.slice A n c)) (by kernel_rfl) ?_ (fun hHeld => ?_)
  · exact ⟨pa0, pa1, pa2, pa3, pa4, pa5⟩
  refine tY (i := 0) (v := ?_) rfl ?_ hHeld ?_
  rotate_left
  · (intro w hSw; (try dsimp only at hSw); go_simp; (try with_reducible rfl))
  try simp only [Act.put, pT]
  refine tY (i := 1) (v := ?_) rfl ?_ hHeld ?_
  rotate_left
  · (intro w hSw; (try dsimp only at hSw); go_simp; (try with_reducible rfl))
  try simp only [Act.put, pT]
  refine wpAnyH_ready (rs := [2]) (by kernel_rfl) (by simp) ?_
  refine AllReadyH.cons rfl (fun K hK => ?_) AllReadyH.nil
  (try simp only [pT])
  rw [if_pos (by rfl)]
  go_simp
  go_at_call 10
  refine (CM _).mono ?_
  rintro e w2 ⟨rfl, b⟩
  rewrite [cR b pal] at pa0 pa1 pa2 pa3 pa4 pa5
  replace pal := lK b pal
  replace cc := bK cc b
  clear b
  refine hK.out _ _ ?_ (fun hHeld => ?_)
  · exact ⟨pa0, pa1, pa2, pa3, pa4, pa5⟩
  clear hK K
  try simp only [Act.put, pT]
  refine tY (i := 3) (v := ?_) rfl ?_ hHeld ?_
  rotate_left
  · (intro w hSw; (try dsimp only at hSw); go_simp; (try with_reducible rfl))
  try simp only [Act.put, pT]
  refine tY (i := 4) (v := ?_) rfl ?_ hHeld ?_
  rotate_left
  · (intro w hSw; (try dsimp only at hSw); go_simp; (try with_reducible rfl))
  try simp only [Act.put, pT]
  refine tY (i := 5) (v := ?_) rfl ?_ hHeld ?_
  rotate_left
  · (intro w hSw; (try dsimp only at hSw); go_simp; (try with_reducible rfl))
  try simp only [Act.put, pT]
  refine tY (i := 6) (v := ?_) rfl ?_ hHeld ?_
  rotate_left
  · (intro w hSw; (try dsimp only at hSw); go_simp; (try with_reducible rfl))
  try simp only [Act.put, pT]
  refine tY (i := 7) (v := ?_) rfl ?_ hHeld ?_
  rotate_left
  · (intro w hSw; (try dsimp only at hSw); go_simp; (try with_reducible rfl))
  try simp only [Act.put, pT]
  refine tY (i := 8) (v := ?_) rfl ?_ hHeld ?_
  rotate_left
  · (intro w hSw; (try dsimp only at hSw); go_simp; (try with_reducible rfl))
  try simp only [Act.put, pT]
  refine tY (i := 9) (v := ?_) rfl ?_ hHeld ?_
  rotate_left
  · (intro w hSw; (try dsimp only at hSw); go_simp; (try with_reducible rfl))
  try simp only [Act.put, pT]
  refine tU (i := 10) rfl hHeld ?_
  try simp only [Act.put, pT]
  refine tU (i := 11) rfl hHeld ?_
  try simp only [Act.put, pT]
  refine tU (i := 12) rfl hHeld ?_
  try simp only [Act.put, pT]
  refine tY (i := 13) (v := ?_) rfl ?_ hHeld ?_
  rotate_left
  · (intro w hSw; (try dsimp only at hSw); go_simp; (try with_reducible rfl))
  try simp only [Act.put, pT]
  refine tY (i := 14) (v := ?_) rfl ?_ hHeld ?_
  rotate_left
  · (intro w hSw; (try dsimp only at hSw); go_simp; (try with_reducible rfl))
  try simp only [Act.put, pT]
  refine tU (i := 15) rfl hHeld ?_
  try simp only [Act.put, pT]
  refine tU (i := 16) rfl hHeld ?_
  try simp only [Act.put, pT]
  refine tU (i := 17) rfl hHeld ?_
  try simp only [Act.put, pT]
  refine tU (i := 18) rfl hHeld ?_
  try simp only [Act.put, pT]
  refine tU (i := 19) rfl hHeld ?_
  try simp only [Act.put, pT]
  refine tU (i := 20) rfl hHeld ?_
  try simp only [Act.put, pT]
  refine tU (i := 21) rfl hHeld ?_
  try simp only [Act.put, pT]
  refine tU (i := 22) rfl hHeld ?_
  try simp only [Act.put, pT]
  refine tU (i := 23) rfl hHeld ?_
  try simp only [Act.put, pT]
  refine tU (i := 24) rfl hHeld ?_
  try simp only [Act.put, pT]
  refine tU (i := 25) rfl hHeld ?_
  try simp only [Act.put, pT]
  refine tU (i := 26) rfl hHeld ?_
  try simp only [Act.put, pT]
  refine tU (i := 27) rfl hHeld ?_
  try simp only [Act.put, pT]
  refine tU (i := 28) rfl hHeld ?_
  try simp only [Act.put, pT]
  refine tU (i := 29) rfl hHeld ?_
  try simp only [Act.put, pT]
  refine tY (i := 30) (v := ?_) rfl ?_ hHeld ?_
  rotate_left
  · (intro w hSw; (try dsimp only at hSw); go_simp; (try with_reducible rfl))
  try simp only [Act.put, pT]
  refine wpAnyH_done (by kernel_rfl) ?_ _
  clear hHeld
  go_wp2_with fail
  go_ret
  exact ⟨rfl, cc⟩

theorem rRight14_big {w : World} {kk ks km ko lg : Int} {A : Option Addr} {n c : Nat} (hK : OkK kk ks km ko) (h0 : ¬ lg < 0) (h1 : 4096 < lg) :
    Calls Tryz.prog 8 #[.agg #[.int .i64 kk, .int .i64 ks, .int .i64 km, .int .i64 ko, .int .i64 lg, .slice A n c]] w (GotV w (.bool false)) := by
  have CM : ∀ W : World, Calls Tryz.prog 10 #[.agg #[.int .i64 kk, .int .i64 ks, .int .i64 km, .int .i64 ko]] W (GotV W (.bool true)) := fun W => by have h := rMay14_N W (kk := kk) (ks := ks) (km := km) (ko := ko); rw [decide_eq_true hK] at h; exact h
  have t0 : decide (lg < 0) = false := decide_eq_false (by omega)
  have t1 : decide (4096 < lg) = true := decide_eq_true h1
  clear hK h0 h1
  have cc := Below.refl w.heap.size w
  go_enter Tryz.func8, Tryz.ntmps8
  go_upto_region 1 with fail
  generalize hv_ : w.alloc (.cells #[.int .i64 kk, .int .i64 ks, .int .i64 km, .int .i64 ko, .int .i64 lg, .slice A n c] 26) = v1
  have bA : Below w.heap.size w v1 := by rw [← hv_]; exact ((Below.refl _ w).alloc (by simp) _)
  replace cc := bK cc bA
  clear bA
  obtain ⟨pa0, pa1, pa2, pa3, pa4, pa5⟩ : Cs6 v1 w.heap.size (.int .i64 kk) (.int .i64 ks) (.int .i64 km) (.int .i64 ko) (.int .i64 lg) (.slice A n c) := by simp [Cs6, ← hv_, go_sem]
  have pal : w.heap.size < v1.heap.size := by simp [← hv_] <;> omega
  clear hv_
  have bD : Below v1.heap.size v1 v1.drew := below_drewN (Below.refl _ v1) 1
  rewrite [cR bD pal] at pa0 pa1 pa2 pa3 pa4 pa5
  replace pal := lK bD pal
  replace cc := bK cc bD
  clear bD
  refine wp_region_held_drew (S := fun w' => w'.cell? ⟨w.heap.size, 0, none⟩ = some (.int .i64 kk) ∧ w'.cell? ⟨w.heap.size, 1, none⟩ = some (.int .i64 ks) ∧ w'.cell? ⟨w.heap.size, 2, none⟩ = some (.int .i64 km) ∧ w'.cell? ⟨w.heap.size, 3, none⟩ = some (.int .i64 ko) ∧ w'.cell? ⟨w.heap.size, 4, none⟩ = some (.int .i64 lg) ∧ w'.cell? ⟨w.heap.size, 5, none⟩ = some (.slice A n c)) (by kernel_rfl) ?_ (fun hHeld => ?_)
  · exact ⟨pa0, pa1, pa2, pa3, pa4, pa5⟩
  refine tY (i := 0) (v := ?_) rfl ?_ hHeld ?_
  rotate_left
  · (intro w hSw; (try dsimp only at hSw); go_simp; (try with_reducible rfl))
  try simp only [Act.put, pT]
  refine tY (i := 1) (v := ?_) rfl ?_ hHeld ?_
  rotate_left
  · (intro w hSw; (try dsimp only at hSw); go_simp; (try with_reducible rfl))
  try simp only [Act.put, pT]
  refine wpAnyH_ready (rs := [2]) (by kernel_rfl) (by simp) ?_
  refine AllReadyH.cons rfl (fun K hK => ?_) AllReadyH.nil
  (try simp only [pT])
  rw [if_pos (by rfl)]
  go_simp
  go_at_call 10
  refine (CM _).mono ?_
  rintro e w2 ⟨rfl, b⟩
  rewrite [cR b pal] at pa0 pa1 pa2 pa3 pa4 pa5
  replace pal := lK b pal
  replace cc := bK cc b
  clear b
  refine hK.out _ _ ?_ (fun hHeld => ?_)
  · exact ⟨pa0, pa1, pa2, pa3, pa4, pa5⟩
  clear hK K
  try simp only [Act.put, pT]
  refine tY (i := 3) (v := ?_) rfl ?_ hHeld ?_
  rotate_left
  · (intro w hSw; (try dsimp only at hSw); go_simp; (try with_reducible rfl))
  try simp only [Act.put, pT]
  refine tY (i := 4) (v := ?_) rfl ?_ hHeld ?_
  rotate_left
  · (intro w hSw; (try dsimp only at hSw); go_simp; (try with_reducible rfl))
  try simp only [Act.put, pT]
  refine tY (i := 5) (v := ?_) rfl ?_ hHeld ?_
  rotate_left
  · (intro w hSw; (try dsimp only at hSw); go_simp; (try with_reducible rfl))
  try simp only [Act.put, pT]
  refine tY (i := 6) (v := ?_) rfl ?_ hHeld ?_
  rotate_left
  · (intro w hSw; (try dsimp only at hSw); go_simp; (try with_reducible rfl))
  try simp only [Act.put, pT]
  refine tY (i := 7) (v := ?_) rfl ?_ hHeld ?_
  rotate_left
  · (intro w hSw; (try dsimp only at hSw); go_simp; (try with_reducible rfl))
  try simp only [Act.put, pT]
  refine tY (i := 8) (v := ?_) rfl ?_ hHeld ?_
  rotate_left
  · (intro w hSw; (try dsimp only at hSw); go_simp; (try with_reducible rfl))
  try simp only [Act.put, pT]
  refine tY (i := 9) (v := ?_) rfl ?_ hHeld ?_
  rotate_left
  · (intro w hSw; (try dsimp only at hSw); go_simp; (try with_reducible rfl))
  try simp only [Act.put, pT]
  refine tY (i := 10) (v := ?_) rfl ?_ hHeld ?_
  rotate_left
  · (intro w hSw; (try dsimp only at hSw); go_simp; (try with_reducible rfl))
  try simp only [Act.put, pT]
  refine tY (i := 11) (v := ?_) rfl ?_ hHeld ?_
  rotate_left
  · (intro w hSw; (try dsimp only at hSw); go_simp; (try with_reducible rfl))
  try simp only [Act.put, pT]
  refine tY (i := 12) (v := ?_) rfl ?_ hHeld ?_
  rotate_left
  · (intro w hSw; (try dsimp only at hSw); go_simp; (try with_reducible rfl))
  try simp only [Act.put, pT]
  refine tY (i := 13) (v := ?_) rfl ?_ hHeld ?_
  rotate_left
  · (intro w hSw; (try dsimp only at hSw); go_simp; (try with_reducible rfl))
  try simp only [Act.put, pT]
  refine tY (i := 14) (v := ?_) rfl ?_ hHeld ?_
  rotate_left
  · (intro w hSw; (try dsimp only at hSw); go_simp; (try with_reducible rfl))
  try simp only [Act.put, pT]
  refine tU (i := 15) rfl hHeld ?_
  try simp only [Act.put, pT]
  refine tU (i := 16) rfl hHeld ?_
  try simp only [Act.put, pT]
  refine tU (i := 17) rfl hHeld ?_
  try simp only [Act.put, pT]
  refine tU (i := 18) rfl hHeld ?_
  try simp only [Act.put, pT]
  refine tU (i := 19) rfl hHeld ?_
  try simp only [Act.put, pT]
  refine tU (i := 20) rfl hHeld ?_
  try simp only [Act.put, pT]
  refine tU (i := 21) rfl hHeld ?_
  try simp only [Act.put, pT]
  refine tU (i := 22) rfl hHeld ?_
  try simp only [Act.put, pT]
  refine tU (i := 23) rfl hHeld ?_
  try simp only [Act.put, pT]
  refine tU (i := 24) rfl hHeld ?_
  try simp only [Act.put, pT]
  refine tU (i := 25) rfl hHeld ?_
  try simp only [Act.put, pT]
  refine tU (i := 26) rfl hHeld ?_
  try simp only [Act.put, pT]
  refine tU (i := 27) rfl hHeld ?_
  try simp only [Act.put, pT]
  refine tU (i := 28) rfl hHeld ?_
  try simp only [Act.put, pT]
  refine tU (i := 29) rfl hHeld ?_
  try simp only [Act.put, pT]
  refine tY (i := 30) (v := ?_) rfl ?_ hHeld ?_
  rotate_left
  · (intro w hSw; (try dsimp only at hSw); go_simp; (try with_reducible rfl))
  try simp only [Act.put, pT]
  refine wpAnyH_done (by kernel_rfl) ?_ _
  clear hHeld
  go_wp2_with fail
  go_ret
  exact ⟨rfl, cc⟩

theorem rRight14_len {w : World} {kk ks km ko lg : Int} {A : Option Addr} {n c : Nat} (hK : OkK kk ks km ko) (h0 : ¬ lg < 0) (h1 : ¬ 4096 < lg) (h2 : (n : Int) ≠ (lg + ks - 1) / ks) :
    Calls Tryz.prog 8 #[.agg #[.int .i64 kk, .int .i64 ks, .int .i64 km, .int .i64 ko, .int .i64 lg, .slice A n c]] w (GotV w (.bool false)) := by
  have CM : ∀ W : World, Calls Tryz.prog 10 #[.agg #[.int .i64 kk, .int .i64 ks, .int .i64 km, .int .i64 ko]] W (GotV W (.bool true)) := fun W => by have h := rMay14_N W (kk := kk) (ks := ks) (km := km) (ko := ko); rw [decide_eq_true hK] at h; exact h
  have t0 : decide (lg < 0) = false := decide_eq_false (by omega)
  have t1 : decide (4096 < lg) = false := decide_eq_false (by omega)
  have hks : 1 ≤ ks ∧ ks ≤ 4096 := hK.2.1
  obtain ⟨a1, e1⟩ : ∃ a, lg + ks = a := ⟨_, rfl⟩
  have k1 : IntKind.i64.wrap (lg + ks) = a1 := by rw [IntWalk.i64_in _ (by omega)]; exact e1
  obtain ⟨a2, e2⟩ : ∃ a, a1 - 1 = a := ⟨_, rfl⟩
  have k2 : IntKind.i64.wrap (a1 - 1) = a2 := by rw [IntWalk.i64_in _ (by omega)]; exact e2
  obtain ⟨nb, e3⟩ : ∃ a, a2 / ks = a := ⟨_, rfl⟩
  have hb0 : 0 ≤ nb := by rw [← e3]; exact Int.ediv_nonneg (by omega) (by omega)
  have hb1 : nb ≤ 8192 := by rw [← e3]; exact Int.le_trans (Int.ediv_le_self _ (by omega)) (by omega)
  have k3 : Int.tdiv a2 ks = nb := by rw [Int.tdiv_eq_ediv_of_nonneg (by omega)]; exact e3
  have k4 : IntKind.i64.wrap nb = nb := IntWalk.i64_in _ (by omega)
  have k5 : (ks == 0) = false := beq_eq_false_iff_ne.2 (by omega)
  have k7 : ¬ ks = 0 := by omega
  have k6 : IntKind.i64.wrap (a2 / ks) = nb := by rw [e3]; exact k4
  have hnb : (lg + ks - 1) / ks = nb := by rw [e1, e2, e3]
  rw [hnb] at h2
  have t2 : ((n : Int) == nb) = false := beq_eq_false_iff_ne.2 h2
  have t3 : ((n : Int) != nb) = true := by simp; exact h2
  clear hK h0 h1 h2 e1 e2 hnb hb0 hb1
  have cc := Below.refl w.heap.size w
  go_enter Tryz.func8, Tryz.ntmps8
  go_upto_region 1 with fail
  generalize hv_ : w.alloc (.cells #[.int .i64 kk, .int .i64 ks, .int .i64 km, .int .i64 ko, .int .i64 lg, .slice A n c] 26) = v1
  have bA : Below w.heap.size w v1 := by rw [← hv_]; exact ((Below.refl _ w).alloc (by simp) _)
  replace cc := bK cc bA
  clear bA
  obtain ⟨pa0, pa1, pa2, pa3, pa4, pa5⟩ : Cs6 v1 w.heap.size (.int .i64 kk) (.int .i64 ks) (.int .i64 km) (.int .i64 ko) (.int .i64 lg) (.slice A n c) := by simp [Cs6, ← hv_, go_sem]
  have pal : w.heap.size < v1.heap.size := by simp [← hv_] <;> omega
  clear hv_
  have bD : Below v1.heap.size v1 v1.drew := below_drewN (Below.refl _ v1) 1
  rewrite [cR bD pal] at pa0 pa1 pa2 pa3 pa4 pa5
  replace pal := lK bD pal
  replace cc := bK cc bD
  clear bD
  refine wp_region_held_drew (S := fun w' => w'.cell? ⟨w.heap.size, 0, none⟩ = some (.int .i64 kk) ∧ w'.cell? ⟨w.heap.size, 1, none⟩ = some (.int .i64 ks) ∧ w'.cell? ⟨w.heap.size, 2, none⟩ = some (.int .i64 km) ∧ w'.cell? ⟨w.heap.size, 3, none⟩ = some (.int .i64 ko) ∧ w'.cell? ⟨w.heap.size, 4, none⟩ = some (.int .i64 lg) ∧ w'.cell? ⟨w.heap.size, 5, none⟩ = some (.slice A n c)) (by kernel_rfl) ?_ (fun hHeld => ?_)
  · exact ⟨pa0, pa1, pa2, pa3, pa4, pa5⟩
  refine tY (i := 0) (v := ?_) rfl ?_ hHeld ?_
  rotate_left
  · (intro w hSw; (try dsimp only at hSw); go_simp; (try with_reducible rfl))
  try simp only [Act.put, pT]
  refine tY (i := 1) (v := ?_) rfl ?_ hHeld ?_
  rotate_left
  · (intro w hSw; (try dsimp only at hSw); go_simp; (try with_reducible rfl))
  try simp only [Act.put, pT]
  refine wpAnyH_ready (rs := [2]) (by kernel_rfl) (by simp) ?_
  refine AllReadyH.cons rfl (fun K hK => ?_) AllReadyH.nil
  (try simp only [pT])
  rw [if_pos (by rfl)]
  go_simp
  go_at_call 10
  refine (CM _).mono ?_
  rintro e w2 ⟨rfl, b⟩
  rewrite [cR b pal] at pa0 pa1 pa2 pa3 pa4 pa5
  replace pal := lK b pal
  replace cc := bK cc b
  clear b
  refine hK.out _ _ ?_ (fun hHeld => ?_)
  · exact ⟨pa0, pa1, pa2, pa3, pa4, pa5⟩
  clear hK K
  try simp only [Act.put, pT]
  refine tY (i := 3) (v := ?_) rfl ?_ hHeld ?_
  rotate_left
  · (intro w hSw; (try dsimp only at hSw); go_simp; (try with_reducible rfl))
  try simp only [Act.put, pT]
  refine tY (i := 4) (v := ?_) rfl ?_ hHeld ?_
  rotate_left
  · (intro w hSw; (try dsimp only at hSw); go_simp; (try with_reducible rfl))
  try simp only [Act.put, pT]
  refine tY (i := 5) (v := ?_) rfl ?_ hHeld ?_
  rotate_left
  · (intro w hSw; (try dsimp only at hSw); go_simp; (try with_reducible rfl))
  try simp only [Act.put, pT]
  refine tY (i := 6) (v := ?_) rfl ?_ hHeld ?_
  rotate_left
  · (intro w hSw; (try dsimp only at hSw); go_simp; (try with_reducible rfl))
  try simp only [Act.put, pT]
  refine tY (i := 7) (v := ?_) rfl ?_ hHeld ?_
  rotate_left
  · (intro w hSw; (try dsimp only at hSw); go_simp; (try with_reducible rfl))
  try simp only [Act.put, pT]
  refine tY (i := 8) (v := ?_) rfl ?_ hHeld ?_
  rotate_left
  · (intro w hSw; (try dsimp only at hSw); go_simp; (try with_reducible rfl))
  try simp only [Act.put, pT]
  refine tY (i := 9) (v := ?_) rfl ?_ hHeld ?_
  rotate_left
  · (intro w hSw; (try dsimp only at hSw); go_simp; (try with_reducible rfl))
  try simp only [Act.put, pT]
  refine tY (i := 10) (v := ?_) rfl ?_ hHeld ?_
  rotate_left
  · (intro w hSw; (try dsimp only at hSw); go_simp; (try with_reducible rfl))
  try simp only [Act.put, pT]
  refine tY (i := 11) (v := ?_) rfl ?_ hHeld ?_
  rotate_left
  · (intro w hSw; (try dsimp only at hSw); go_simp; (try with_reducible rfl))
  try simp only [Act.put, pT]
  refine tY (i := 12) (v := ?_) rfl ?_ hHeld ?_
  rotate_left
  · (intro w hSw; (try dsimp only at hSw); go_simp; (try with_reducible rfl))
  try simp only [Act.put, pT]
  refine tY (i := 13) (v := ?_) rfl ?_ hHeld ?_
  rotate_left
  · (intro w hSw; (try dsimp only at hSw); go_simp; (try with_reducible rfl))
  try simp only [Act.put, pT]
  refine tY (i := 14) (v := ?_) rfl ?_ hHeld ?_
  rotate_left
  · (intro w hSw; (try dsimp only at hSw); go_simp; (try with_reducible rfl))
  try simp only [Act.put, pT]
  refine tY (i := 15) (v := ?_) rfl ?_ hHeld ?_
  rotate_left
  · (intro w hSw; (try dsimp only at hSw); go_simp; (try with_reducible rfl))
  try simp only [Act.put, pT]
  refine tY (i := 16) (v := ?_) rfl ?_ hHeld ?_
  rotate_left
  · (intro w hSw; (try dsimp only at hSw); go_simp; (try with_reducible rfl))
  try simp only [Act.put, pT]
  refine tY (i := 17) (v := ?_) rfl ?_ hHeld ?_
  rotate_left
  · (intro w hSw; (try dsimp only at hSw); go_simp; (try with_reducible rfl))
  try simp only [Act.put, pT]
  refine tY (i := 18) (v := ?_) rfl ?_ hHeld ?_
  rotate_left
  · (intro w hSw; (try dsimp only at hSw); go_simp; (try with_reducible rfl))
  try simp only [Act.put, pT]
  refine tY (i := 19) (v := ?_) rfl ?_ hHeld ?_
  rotate_left
  · (intro w hSw; (try dsimp only at hSw); go_simp; (try with_reducible rfl))
  try simp only [Act.put, pT]
  refine tY (i := 20) (v := ?_) rfl ?_ hHeld ?_
  rotate_left
  · (intro w hSw; (try dsimp only at hSw); go_simp; (try with_reducible rfl))
  try simp only [Act.put, pT]
  refine tY (i := 21) (v := ?_) rfl ?_ hHeld ?_
  rotate_left
  · (intro w hSw; (try dsimp only at hSw); go_simp; (try with_reducible rfl))
  try simp only [Act.put, pT]
  refine tY (i := 22) (v := ?_) rfl ?_ hHeld ?_
  rotate_left
  · (intro w hSw; (try dsimp only at hSw); go_simp; (try with_reducible rfl))
  try simp only [Act.put, pT]
  refine tY (i := 23) (v := ?_) rfl ?_ hHeld ?_
  rotate_left
  · (intro w hSw; (try dsimp only at hSw); go_simp; (try with_reducible rfl))
  try simp only [Act.put, pT]
  refine tY (i := 24) (v := ?_) rfl ?_ hHeld ?_
  rotate_left
  · (intro w hSw; (try dsimp only at hSw); go_simp; (try with_reducible rfl))
  try simp only [Act.put, pT]
  refine tY (i := 25) (v := ?_) rfl ?_ hHeld ?_
  rotate_left
  · (intro w hSw; (try dsimp only at hSw); go_simp; (try with_reducible rfl))
  try simp only [Act.put, pT]
  refine tY (i := 26) (v := ?_) rfl ?_ hHeld ?_
  rotate_left
  · (intro w hSw; (try dsimp only at hSw); go_simp; (try with_reducible rfl))
  try simp only [Act.put, pT]
  refine tY (i := 27) (v := ?_) rfl ?_ hHeld ?_
  rotate_left
  · (intro w hSw; (try dsimp only at hSw); go_simp; (try with_reducible rfl))
  try simp only [Act.put, pT]
  refine tY (i := 28) (v := ?_) rfl ?_ hHeld ?_
  rotate_left
  · (intro w hSw; (try dsimp only at hSw); go_simp; (try with_reducible rfl))
  try simp only [Act.put, pT]
  refine tY (i := 29) (v := ?_) rfl ?_ hHeld ?_
  rotate_left
  · (intro w hSw; (try dsimp only at hSw); go_simp; (try with_reducible rfl))
  try simp only [Act.put, pT]
  refine tY (i := 30) (v := ?_) rfl ?_ hHeld ?_
  rotate_left
  · (intro w hSw; (try dsimp only at hSw); go_simp; (try with_reducible rfl))
  try simp only [Act.put, pT]
  refine wpAnyH_done (by kernel_rfl) ?_ _
  clear hHeld
  go_wp2_with fail
  go_ret
  exact ⟨rfl, cc⟩

theorem allAt_succ {kk ks km ko lg : Int} {L : List Bk} {i : Nat} : allAt kk ks km ko lg L (i + 1) = (allAt kk ks km ko lg L i && decide (OkAt kk ks km ko lg i (L[i]?.getD bk0))) := by
  unfold allAt; rw [List.range_succ, List.all_append]; simp
theorem allAt_no {kk ks km ko lg : Int} {L : List Bk} {i m : Nat} (h : i < m) (hn : ¬ OkAt kk ks km ko lg i (L[i]?.getD bk0)) : allAt kk ks km ko lg L m = false := by
  rw [Bool.eq_false_iff]
  intro h2
  exact hn (of_decide_eq_true (List.all_eq_true.1 h2 i (List.mem_range.2 h)))
theorem okX_len {x : Bk} (h : OkX x) : x.2.2.1.length + x.2.2.2.length ≤ 4096 := (ldB_len h).2

theorem wide_at {x : Bk} (h : OkX x) (h4 : x.1 = 4) (hz : ∀ z ∈ x.2.2.2, I64 z) : ∀ j : Nat, I64 (x.2.2.2[j]?.getD 0) ∧ x.2.2.2[j]?.getD 0 ≠ -9223372036854775808 := by
  intro j
  rcases Nat.lt_or_ge j x.2.2.2.length with e | e
  · have hm := mem_at (d := 0) e
    refine ⟨hz _ hm, ?_⟩
    rcases h with ⟨hk, _⟩ | ⟨_, _, h3, _⟩
    · unfold Kind9 at hk; omega
    · exact h3 _ hm
  · rw [List.getElem?_eq_none e]; exact ⟨by unfold I64; simp, by simp⟩

theorem rRight14_main {w : World} {kk ks km ko lg : Int} {A : Option Addr} {n c : Nat} {L : List Bk} (hA : KR w A n c L) (hK : OkK kk ks km ko) (h0 : ¬ lg < 0) (h1 : ¬ 4096 < lg) (h2 : (n : Int) = (lg + ks - 1) / ks) :
    Calls Tryz.prog 8 #[.agg #[.int .i64 kk, .int .i64 ks, .int .i64 km, .int .i64 ko, .int .i64 lg, .slice A n c]] w (GotV w (.bool (allAt kk ks km ko lg L n))) := by
  have CM : ∀ W : World, Calls Tryz.prog 10 #[.agg #[.int .i64 kk, .int .i64 ks, .int .i64 km, .int .i64 ko]] W (GotV W (.bool true)) := fun W => by have h := rMay14_N W (kk := kk) (ks := ks) (km := km) (ko := ko); rw [decide_eq_true hK] at h; exact h
  have t0 : decide (lg < 0) = false := decide_eq_false (by omega)
  have t1 : decide (4096 < lg) = false := decide_eq_false (by omega)
  have hks : 1 ≤ ks ∧ ks ≤ 4096 := hK.2.1
  obtain ⟨a1, e1⟩ : ∃ a, lg + ks = a := ⟨_, rfl⟩
  have k1 : IntKind.i64.wrap (lg + ks) = a1 := by rw [IntWalk.i64_in _ (by omega)]; exact e1
  obtain ⟨a2, e2⟩ : ∃ a, a1 - 1 = a := ⟨_, rfl⟩
  have k2 : IntKind.i64.wrap (a1 - 1) = a2 := by rw [IntWalk.i64_in _ (by omega)]; exact e2
  obtain ⟨nb, e3⟩ : ∃ a, a2 / ks = a := ⟨_, rfl⟩
  have hb0 : 0 ≤ nb := by rw [← e3]; exact Int.ediv_nonneg (by omega) (by omega)
  have hb1 : nb ≤ 8192 := by rw [← e3]; exact Int.le_trans (Int.ediv_le_self _ (by omega)) (by omega)
  have k3 : Int.tdiv a2 ks = nb := by rw [Int.tdiv_eq_ediv_of_nonneg (by omega)]; exact e3
  have k4 : IntKind.i64.wrap nb = nb := IntWalk.i64_in _ (by omega)
  have k5 : (ks == 0) = false := beq_eq_false_iff_ne.2 (by omega)
  have k7 : ¬ ks = 0 := by omega
  have k6 : IntKind.i64.wrap (a2 / ks) = nb := by rw [e3]; exact k4
  have hnb : (lg + ks - 1) / ks = nb := by rw [e1, e2, e3]
  rw [hnb] at h2
  have t2 : ((n : Int) == nb) = true := beq_iff_eq.2 h2
  have t3 : ((n : Int) != nb) = false := by simp; exact h2
  have hn5 : n ≤ 8192 := by omega
  obtain ⟨S, eS⟩ : ∃ S, allAt kk ks km ko lg L = S := ⟨_, rfl⟩
  obtain ⟨R, eR⟩ : ∃ R, S n = R := ⟨_, rfl⟩
  rw [eS, eR]
  have HES := Lib.hid eS
  have HER := Lib.hid eR
  have HN5 := Lib.hid hn5
  have HKS := Lib.hid hks
  have H0 := Lib.hid h0
  have H1 := Lib.hid h1
  have H2 := Lib.hid h2
  have HLN := Lib.hid hA.1
  clear hK h0 h1 h2 e1 e2 hnb hb0 hb1 eS eR hn5
  have cc := Below.refl w.heap.size w
  go_enter Tryz.func8, Tryz.ntmps8
  go_upto_region 1 with fail
  generalize hv_ : w.alloc (.cells #[.int .i64 kk, .int .i64 ks, .int .i64 km, .int .i64 ko, .int .i64 lg, .slice A n c] 26) = v1
  have bA : Below w.heap.size w v1 := by rw [← hv_]; exact ((Below.refl _ w).alloc (by simp) _)
  replace hA := hA.on bA
  replace cc := bK cc bA
  clear bA
  obtain ⟨pa0, pa1, pa2, pa3, pa4, pa5⟩ : Cs6 v1 w.heap.size (.int .i64 kk) (.int .i64 ks) (.int .i64 km) (.int .i64 ko) (.int .i64 lg) (.slice A n c) := by simp [Cs6, ← hv_, go_sem]
  have pal : w.heap.size < v1.heap.size := by simp [← hv_] <;> omega
  clear hv_
  have bD : Below v1.heap.size v1 v1.drew := below_drewN (Below.refl _ v1) 1
  replace hA := hA.on bD
  rewrite [cR bD pal] at pa0 pa1 pa2 pa3 pa4 pa5
  replace pal := lK bD pal
  replace cc := bK cc bD
  clear bD
  refine wp_region_held_drew (S := fun w' => w'.cell? ⟨w.heap.size, 0, none⟩ = some (.int .i64 kk) ∧ w'.cell? ⟨w.heap.size, 1, none⟩ = some (.int .i64 ks) ∧ w'.cell? ⟨w.heap.size, 2, none⟩ = some (.int .i64 km) ∧ w'.cell? ⟨w.heap.size, 3, none⟩ = some (.int .i64 ko) ∧ w'.cell? ⟨w.heap.size, 4, none⟩ = some (.int .i64 lg) ∧ w'.cell? ⟨w.heap.size, 5, none⟩ = some (.slice A n c)) (by kernel_rfl) ?_ (fun hHeld => ?_)
  · exact ⟨pa0, pa1, pa2, pa3, pa4, pa5⟩
  refine tY (i := 0) (v := ?_) rfl ?_ hHeld ?_
  rotate_left
  · (intro w hSw; (try dsimp only at hSw); go_simp; (try with_reducible rfl))
  try simp only [Act.put, pT]
  refine tY (i := 1) (v := ?_) rfl ?_ hHeld ?_
  rotate_left
  · (intro w hSw; (try dsimp only at hSw); go_simp; (try with_reducible rfl))
  try simp only [Act.put, pT]
  refine wpAnyH_ready (rs := [2]) (by kernel_rfl) (by simp) ?_
  refine AllReadyH.cons rfl (fun K hK => ?_) AllReadyH.nil
  (try simp only [pT])
  rw [if_pos (by rfl)]
  go_simp
  go_at_call 10
  refine (CM _).mono ?_
  rintro e w2 ⟨rfl, b⟩
  replace hA := hA.on b
  rewrite [cR b pal] at pa0 pa1 pa2 pa3 pa4 pa5
  replace pal := lK b pal
  replace cc := bK cc b
  clear b
  refine hK.out _ _ ?_ (fun hHeld => ?_)
  · exact ⟨pa0, pa1, pa2, pa3, pa4, pa5⟩
  clear hK K
  try simp only [Act.put, pT]
  refine tY (i := 3) (v := ?_) rfl ?_ hHeld ?_
  rotate_left
  · (intro w hSw; (try dsimp only at hSw); go_simp; (try with_reducible rfl))
  try simp only [Act.put, pT]
  refine tY (i := 4) (v := ?_) rfl ?_ hHeld ?_
  rotate_left
  · (intro w hSw; (try dsimp only at hSw); go_simp; (try with_reducible rfl))
  try simp only [Act.put, pT]
  refine tY (i := 5) (v := ?_) rfl ?_ hHeld ?_
  rotate_left
  · (intro w hSw; (try dsimp only at hSw); go_simp; (try with_reducible rfl))
  try simp only [Act.put, pT]
  refine tY (i := 6) (v := ?_) rfl ?_ hHeld ?_
  rotate_left
  · (intro w hSw; (try dsimp only at hSw); go_simp; (try with_reducible rfl))
  try simp only [Act.put, pT]
  refine tY (i := 7) (v := ?_) rfl ?_ hHeld ?_
  rotate_left
  · (intro w hSw; (try dsimp only at hSw); go_simp; (try with_reducible rfl))
  try simp only [Act.put, pT]
  refine tY (i := 8) (v := ?_) rfl ?_ hHeld ?_
  rotate_left
  · (intro w hSw; (try dsimp only at hSw); go_simp; (try with_reducible rfl))
  try simp only [Act.put, pT]
  refine tY (i := 9) (v := ?_) rfl ?_ hHeld ?_
  rotate_left
  · (intro w hSw; (try dsimp only at hSw); go_simp; (try with_reducible rfl))
  try simp only [Act.put, pT]
  refine tY (i := 10) (v := ?_) rfl ?_ hHeld ?_
  rotate_left
  · (intro w hSw; (try dsimp only at hSw); go_simp; (try with_reducible rfl))
  try simp only [Act.put, pT]
  refine tY (i := 11) (v := ?_) rfl ?_ hHeld ?_
  rotate_left
  · (intro w hSw; (try dsimp only at hSw); go_simp; (try with_reducible rfl))
  try simp only [Act.put, pT]
  refine tY (i := 12) (v := ?_) rfl ?_ hHeld ?_
  rotate_left
  · (intro w hSw; (try dsimp only at hSw); go_simp; (try with_reducible rfl))
  try simp only [Act.put, pT]
  refine tY (i := 13) (v := ?_) rfl ?_ hHeld ?_
  rotate_left
  · (intro w hSw; (try dsimp only at hSw); go_simp; (try with_reducible rfl))
  try simp only [Act.put, pT]
  refine tY (i := 14) (v := ?_) rfl ?_ hHeld ?_
  rotate_left
  · (intro w hSw; (try dsimp only at hSw); go_simp; (try with_reducible rfl))
  try simp only [Act.put, pT]
  refine tY (i := 15) (v := ?_) rfl ?_ hHeld ?_
  rotate_left
  · (intro w hSw; (try dsimp only at hSw); go_simp; (try with_reducible rfl))
  try simp only [Act.put, pT]
  refine tY (i := 16) (v := ?_) rfl ?_ hHeld ?_
  rotate_left
  · (intro w hSw; (try dsimp only at hSw); go_simp; (try with_reducible rfl))
  try simp only [Act.put, pT]
  refine tY (i := 17) (v := ?_) rfl ?_ hHeld ?_
  rotate_left
  · (intro w hSw; (try dsimp only at hSw); go_simp; (try with_reducible rfl))
  try simp only [Act.put, pT]
  refine tY (i := 18) (v := ?_) rfl ?_ hHeld ?_
  rotate_left
  · (intro w hSw; (try dsimp only at hSw); go_simp; (try with_reducible rfl))
  try simp only [Act.put, pT]
  refine tY (i := 19) (v := ?_) rfl ?_ hHeld ?_
  rotate_left
  · (intro w hSw; (try dsimp only at hSw); go_simp; (try with_reducible rfl))
  try simp only [Act.put, pT]
  refine tY (i := 20) (v := ?_) rfl ?_ hHeld ?_
  rotate_left
  · (intro w hSw; (try dsimp only at hSw); go_simp; (try with_reducible rfl))
  try simp only [Act.put, pT]
  refine tY (i := 21) (v := ?_) rfl ?_ hHeld ?_
  rotate_left
  · (intro w hSw; (try dsimp only at hSw); go_simp; (try with_reducible rfl))
  try simp only [Act.put, pT]
  refine tY (i := 22) (v := ?_) rfl ?_ hHeld ?_
  rotate_left
  · (intro w hSw; (try dsimp only at hSw); go_simp; (try with_reducible rfl))
  try simp only [Act.put, pT]
  refine tY (i := 23) (v := ?_) rfl ?_ hHeld ?_
  rotate_left
  · (intro w hSw; (try dsimp only at hSw); go_simp; (try with_reducible rfl))
  try simp only [Act.put, pT]
  refine tY (i := 24) (v := ?_) rfl ?_ hHeld ?_
  rotate_left
  · (intro w hSw; (try dsimp only at hSw); go_simp; (try with_reducible rfl))
  try simp only [Act.put, pT]
  refine tY (i := 25) (v := ?_) rfl ?_ hHeld ?_
  rotate_left
  · (intro w hSw; (try dsimp only at hSw); go_simp; (try with_reducible rfl))
  try simp only [Act.put, pT]
  refine tY (i := 26) (v := ?_) rfl ?_ hHeld ?_
  rotate_left
  · (intro w hSw; (try dsimp only at hSw); go_simp; (try with_reducible rfl))
  try simp only [Act.put, pT]
  refine tY (i := 27) (v := ?_) rfl ?_ hHeld ?_
  rotate_left
  · (intro w hSw; (try dsimp only at hSw); go_simp; (try with_reducible rfl))
  try simp only [Act.put, pT]
  refine tY (i := 28) (v := ?_) rfl ?_ hHeld ?_
  rotate_left
  · (intro w hSw; (try dsimp only at hSw); go_simp; (try with_reducible rfl))
  try simp only [Act.put, pT]
  refine tY (i := 29) (v := ?_) rfl ?_ hHeld ?_
  rotate_left
  · (intro w hSw; (try dsimp only at hSw); go_simp; (try with_reducible rfl))
  try simp only [Act.put, pT]
  refine tY (i := 30) (v := ?_) rfl ?_ hHeld ?_
  rotate_left
  · (intro w hSw; (try dsimp only at hSw); go_simp; (try with_reducible rfl))
  try simp only [Act.put, pT]
  refine wpAnyH_done (by kernel_rfl) ?_ _
  clear hHeld
  have PA0 := Lib.hid pa0
  have PA1 := Lib.hid pa1
  have PA2 := Lib.hid pa2
  have PA3 := Lib.hid pa3
  have PA4 := Lib.hid pa4
  have PA5 := Lib.hid pa5
  have PAL := Lib.hid pal
  have HAV := Lib.hid hA
  have CCV := Lib.hid cc
  clear pa0 pa1 pa2 pa3 pa4 pa5 pal hA cc t0 t1 t2 t3 k1 k2 k3 k4 k5 k6 k7 e3 hks CM
  go_wp2_with fail
  go_loopw [3] (fun iv wr => ∃ i : Nat, i ≤ n ∧ iv = .int .i64 (i : Int) ∧ Hid (S i = true) ∧ Below w2.heap.size w2 wr) (fun iv _ => n - (intOf iv).toNat)
  case atStart => exact ⟨0, by omega, rfl, Lib.hid (by rw [← HES.out]; rfl), Below.refl _ _⟩
  case round =>
    obtain ⟨i, hi_, rfl, HI, hbl⟩ := hrel
    have pa0 := (hbl.cell (p := ⟨w.heap.size, 0, none⟩) PAL.out).trans PA0.out
    have pa1 := (hbl.cell (p := ⟨w.heap.size, 1, none⟩) PAL.out).trans PA1.out
    have pa2 := (hbl.cell (p := ⟨w.heap.size, 2, none⟩) PAL.out).trans PA2.out
    have pa3 := (hbl.cell (p := ⟨w.heap.size, 3, none⟩) PAL.out).trans PA3.out
    have pa4 := (hbl.cell (p := ⟨w.heap.size, 4, none⟩) PAL.out).trans PA4.out
    have pa5 := (hbl.cell (p := ⟨w.heap.size, 5, none⟩) PAL.out).trans PA5.out
    have pal := Nat.lt_of_lt_of_le PAL.out hbl.size
    have cc := CCV.out.trans (hbl.mono CCV.out.size)
    by_cases hlt : i < n
    · skip
      obtain ⟨bb, off, rfl, hb⟩ := HAV.out.some (by omega)
      obtain ⟨A1, n1, c1, B1, m1, d1, h0, h1, h2, h3, hC, hW, hn1, hm1, hs1, hz1_⟩ := kr_at (HAV.out.on hbl) hlt
      obtain ⟨x, ex⟩ : ∃ x, L[i]?.getD bk0 = x := ⟨_, rfl⟩
      rw [ex] at h0 h1 hC hW hs1 hz1_
      have HX := Lib.hid ex
      have hbz : Bl w2 wr := hbl
      obtain ⟨z1, ez1⟩ : ∃ z, x.1 = z := ⟨_, rfl⟩
      obtain ⟨z2, ez2⟩ : ∃ z, x.2.1 = z := ⟨_, rfl⟩
      rw [ez1] at h0
      rw [ez2] at h1
      have HZ1 := Lib.hid ez1
      have HZ2 := Lib.hid ez2
      have HF : Hid (¬ OkAt kk ks km ko lg i x → R = false) := Lib.hid (fun h => by rw [← HER.out, ← HES.out]; exact allAt_no hlt (by rw [HX.out]; exact h))
      have HT : Hid (OkAt kk ks km ko lg i x → S (i + 1) = true) := Lib.hid (fun h => by rw [← HES.out, allAt_succ, HX.out, decide_eq_true h, Bool.and_true, HES.out]; exact HI.out)
      have k8 : IntKind.i64.wrap ((i : Int) + 1) = ((i + 1 : Nat) : Int) := by rw [IntWalk.i64_in _ (by have := HN5.out; omega)]; omega
      have jl : (i : Int) < (n : Int) := by omega
      have hpi : (i : Int) * ks ≤ 8192 * 4096 := Int.mul_le_mul (by have := HN5.out; omega) HKS.out.2 (by have := HKS.out; omega) (by omega)
      have hp0 : 0 ≤ (i : Int) * ks := Int.mul_nonneg (by omega) (by have := HKS.out; omega)
      obtain ⟨p1, ep1⟩ : ∃ p, (i : Int) * ks = p := ⟨_, rfl⟩
      rw [ep1] at hpi hp0
      have k9 : IntKind.i64.wrap ((i : Int) * ks) = p1 := by rw [ep1]; exact IntWalk.i64_in _ (by omega)
      obtain ⟨p2, ep2⟩ : ∃ p, lg - p1 = p := ⟨_, rfl⟩
      have k10 : IntKind.i64.wrap (lg - p1) = p2 := by rw [IntWalk.i64_in _ (by have := H0.out; have := H1.out; omega)]; exact ep2
      obtain ⟨mn, emn⟩ : ∃ m, (if p2 < ks then p2 else ks) = m := ⟨_, rfl⟩
      have HMN : Hid (min ks (lg - i * ks) = mn) := Lib.hid (by rw [ep1, ep2, ← emn]; split <;> omega)
      have CR : ∀ {W : World}, BR W A1 n1 c1 x.2.2.1 → IR W B1 m1 d1 x.2.2.2 → Calls Tryz.prog 23 #[.agg #[.int .i64 z1, .int .i64 z2, .slice A1 n1 c1, .slice B1 m1 d1]] W (GotV W (.bool (decide (OkX x)))) := fun h h2 => by have e := rRight_N (k := x.1) (s := x.2.1) h h2 hn1 hm1; rw [show decide (OkB x.1 x.2.1 x.2.2.1 x.2.2.2) = decide (OkX x) from decide_eq_decide.2 Iff.rfl] at e; rw [← ez1, ← ez2]; exact e
      have HCl := Lib.hid hC.1
      have HWl := Lib.hid hW.1
      clear ex ep1 ep2 hpi hp0 ez1 ez2 hn1 hm1 hs1
      by_cases hok : OkX x
      · rw [decide_eq_true hok] at CR
        have hxl := okX_len hok
        rw [← HCl.out, ← HWl.out] at hxl
        obtain ⟨q, eq⟩ : ∃ q, (n1 : Int) + (m1 : Int) = q := ⟨_, rfl⟩
        have CL := fun W : World => rLen_N W (k := z1) (s := z2) (A := A1) (B := B1) (n := n1) (c := c1) (m := m1) (d := d1)
        rw [show IntKind.i64.wrap ((n1 : Int) + (m1 : Int)) = q by rw [eq]; exact IntWalk.i64_in _ (by omega)] at CL
        have HQ : Hid ((x.2.2.1.length : Int) + (x.2.2.2.length : Int) = q) := Lib.hid (by rw [← HCl.out, ← HWl.out]; exact eq)
        clear eq
        by_cases hqm : q = mn
        · subst hqm
          by_cases hw4 : z1 = 4
          · subst hw4
            obtain ⟨g, eg⟩ : ∃ g, gr x.2.2.2 = g := ⟨_, rfl⟩
            have CG : ∀ {W : World}, IR W B1 m1 d1 x.2.2.2 → Calls Tryz.prog 21 #[.slice B1 m1 d1] W (GotV W (.int .i64 g)) := fun h => by have e := rgreat_N h (by omega) (wide_at hok HZ1.out hz1_); rw [eg] at e; exact e
            have HG := Lib.hid eg
            clear eg
            by_cases hwd : Wd km ko lg g
            · have CW : ∀ W : World, Calls Tryz.prog 24 #[.agg #[.int .i64 kk, .int .i64 ks, .int .i64 km, .int .i64 ko], .int .i64 lg, .int .i64 g] W (GotV W (.bool true)) := fun W => by have h := rwide14_N W (kk := kk) (ks := ks) (km := km) (ko := ko) (lg := lg) (g := g); rw [decide_eq_true hwd] at h; exact h
              have HN1 : Hid (S (i + 1) = true) := Lib.hid (HT.out ⟨hok, by rw [HQ.out, HMN.out], by rw [if_pos HZ1.out, HG.out]; exact hwd⟩)
              clear HF HT
              clear hwd
              go_upto_region 7 with fail
              have bqpa : w.heap.size < wr.heap.size := pal
              generalize hv_ : wr.alloc (.cells #[.int .i64 4, .int .i64 z2, .slice A1 n1 c1, .slice B1 m1 d1] 43) = v3
              have bA : Below wr.heap.size wr v3 := by rw [← hv_]; exact below_one _ _
              replace hC := hC.on bA
              replace hW := hW.on bA
              replace hbz := hbz.on bA
              rewrite [cR bA pal] at pa0 pa1 pa2 pa3 pa4 pa5
              replace pal := lK bA pal
              replace cc := bK cc bA
              clear bA
              have b0 : v3.cell? ⟨wr.heap.size, 0, none⟩ = some (.int .i64 4) := by simp [← hv_, go_sem]
              have b1 : v3.cell? ⟨wr.heap.size, 1, none⟩ = some (.int .i64 z2) := by simp [← hv_, go_sem]
              have b2 : v3.cell? ⟨wr.heap.size, 2, none⟩ = some (.slice A1 n1 c1) := by simp [← hv_, go_sem]
              have b3 : v3.cell? ⟨wr.heap.size, 3, none⟩ = some (.slice B1 m1 d1) := by simp [← hv_, go_sem]
              have bl : wr.heap.size < v3.heap.size := by simp [← hv_]
              clear hv_
              have bD : Below v3.heap.size v3 v3.drew := below_drewN (Below.refl _ v3) 1
              replace hC := hC.on bD
              replace hW := hW.on bD
              replace hbz := hbz.on bD
              rewrite [cR bD pal] at pa0 pa1 pa2 pa3 pa4 pa5
              replace pal := lK bD pal
              rewrite [cR bD bl] at b0 b1 b2 b3
              replace bl := lK bD bl
              replace cc := bK cc bD
              clear bD
              refine wp_region_held_drew (S := fun w' => w'.cell? ⟨w.heap.size, 0, none⟩ = some (.int .i64 kk) ∧ w'.cell? ⟨w.heap.size, 1, none⟩ = some (.int .i64 ks) ∧ w'.cell? ⟨w.heap.size, 2, none⟩ = some (.int .i64 km) ∧ w'.cell? ⟨w.heap.size, 3, none⟩ = some (.int .i64 ko) ∧ w'.cell? ⟨w.heap.size, 4, none⟩ = some (.int .i64 lg) ∧ w'.cell? ⟨w.heap.size, 5, none⟩ = some (.slice (some ⟨bb, off, none⟩) n c) ∧ w'.cell? ⟨wr.heap.size, 0, none⟩ = some (.int .i64 4) ∧ w'.cell? ⟨wr.heap.size, 1, none⟩ = some (.int .i64 z2) ∧ w'.cell? ⟨wr.heap.size, 2, none⟩ = some (.slice A1 n1 c1) ∧ w'.cell? ⟨wr.heap.size, 3, none⟩ = some (.slice B1 m1 d1)) (by kernel_rfl) ?_ (fun hHeld => ?_)
              · exact ⟨pa0, pa1, pa2, pa3, pa4, pa5, b0, b1, b2, b3⟩
              refine tY (i := 0) (v := ?_) rfl ?_ hHeld ?_
              rotate_left
              · (intro w hSw; (try dsimp only at hSw); go_simp; (try with_reducible rfl))
              try simp only [Act.put, pT]
              refine wpAnyH_ready (rs := [1]) (by kernel_rfl) (by simp) ?_
              refine AllReadyH.cons rfl (fun K hK => ?_) AllReadyH.nil
              (try simp only [pT])
              rw [if_pos (by rfl)]
              go_simp
              go_at_call 23
              refine (CR hC hW).mono ?_
              rintro e w4 ⟨rfl, b⟩
              replace hC := hC.on b
              replace hW := hW.on b
              replace hbz := hbz.on b
              rewrite [cR b pal] at pa0 pa1 pa2 pa3 pa4 pa5
              replace pal := lK b pal
              rewrite [cR b bl] at b0 b1 b2 b3
              replace bl := lK b bl
              replace cc := bK cc b
              clear b
              refine hK.out _ _ ?_ (fun hHeld => ?_)
              · exact ⟨pa0, pa1, pa2, pa3, pa4, pa5, b0, b1, b2, b3⟩
              clear hK K
              try simp only [Act.put, pT]
              refine tY (i := 2) (v := ?_) rfl ?_ hHeld ?_
              rotate_left
              · (intro w hSw; (try dsimp only at hSw); go_simp; (try with_reducible rfl))
              try simp only [Act.put, pT]
              refine tY (i := 3) (v := ?_) rfl ?_ hHeld ?_
              rotate_left
              · (intro w hSw; (try dsimp only at hSw); go_simp; (try with_reducible rfl))
              try simp only [Act.put, pT]
              refine tY (i := 4) (v := ?_) rfl ?_ hHeld ?_
              rotate_left
              · (intro w hSw; (try dsimp only at hSw); go_simp; (try with_reducible rfl))
              try simp only [Act.put, pT]
              refine tY (i := 6) (v := ?_) rfl ?_ hHeld ?_
              rotate_left
              · (intro w hSw; (try dsimp only at hSw); go_simp; (try with_reducible rfl))
              try simp only [Act.put, pT]
              refine tY (i := 7) (v := ?_) rfl ?_ hHeld ?_
              rotate_left
              · (intro w hSw; (try dsimp only at hSw); go_simp; (try with_reducible rfl))
              try simp only [Act.put, pT]
              refine tY (i := 8) (v := ?_) rfl ?_ hHeld ?_
              rotate_left
              · (intro w hSw; (try dsimp only at hSw); go_simp; (try with_reducible rfl))
              try simp only [Act.put, pT]
              refine tY (i := 9) (v := ?_) rfl ?_ hHeld ?_
              rotate_left
              · (intro w hSw; (try dsimp only at hSw); go_simp; (try with_reducible rfl))
              try simp only [Act.put, pT]
              refine tY (i := 10) (v := ?_) rfl ?_ hHeld ?_
              rotate_left
              · (intro w hSw; (try dsimp only at hSw); go_simp; (try with_reducible rfl))
              try simp only [Act.put, pT]
              refine tY (i := 11) (v := ?_) rfl ?_ hHeld ?_
              rotate_left
              · (intro w hSw; (try dsimp only at hSw); go_simp; (try with_reducible rfl))
              try simp only [Act.put, pT]
              refine tY (i := 12) (v := ?_) rfl ?_ hHeld ?_
              rotate_left
              · (intro w hSw; (try dsimp only at hSw); go_simp; (try with_reducible rfl))
              try simp only [Act.put, pT]
              refine tY (i := 13) (v := ?_) rfl ?_ hHeld ?_
              rotate_left
              · (intro w hSw; (try dsimp only at hSw); go_simp; (try with_reducible rfl))
              try simp only [Act.put, pT]
              refine tY (i := 14) (v := ?_) rfl ?_ hHeld ?_
              rotate_left
              · (intro w hSw; (try dsimp only at hSw); go_simp; (try with_reducible rfl))
              try simp only [Act.put, pT]
              refine tY (i := 15) (v := ?_) rfl ?_ hHeld ?_
              rotate_left
              · (intro w hSw; (try dsimp only at hSw); go_simp; (try with_reducible rfl))
              try simp only [Act.put, pT]
              refine tY (i := 16) (v := ?_) rfl ?_ hHeld ?_
              rotate_left
              · (intro w hSw; (try dsimp only at hSw); go_simp; (try with_reducible rfl))
              try simp only [Act.put, pT]
              refine tY (i := 17) (v := ?_) rfl ?_ hHeld ?_
              rotate_left
              · (intro w hSw; (try dsimp only at hSw); go_simp; (try with_reducible rfl))
              try simp only [Act.put, pT]
              refine wpAnyH_ready (rs := [5]) (by kernel_rfl) (by simp) ?_
              refine AllReadyH.cons rfl (fun K hK => ?_) AllReadyH.nil
              (try simp only [pT])
              rw [if_pos (by rfl)]
              go_simp
              go_at_call 22
              refine (CL _).mono ?_
              rintro e w5 ⟨rfl, b⟩
              replace hC := hC.on b
              replace hW := hW.on b
              replace hbz := hbz.on b
              rewrite [cR b pal] at pa0 pa1 pa2 pa3 pa4 pa5
              replace pal := lK b pal
              rewrite [cR b bl] at b0 b1 b2 b3
              replace bl := lK b bl
              replace cc := bK cc b
              clear b
              refine hK.out _ _ ?_ (fun hHeld => ?_)
              · exact ⟨pa0, pa1, pa2, pa3, pa4, pa5, b0, b1, b2, b3⟩
              clear hK K
              try simp only [Act.put, pT]
              refine tY (i := 18) (v := ?_) rfl ?_ hHeld ?_
              rotate_left
              · (intro w hSw; (try dsimp only at hSw); go_simp; (try with_reducible rfl))
              try simp only [Act.put, pT]
              refine tY (i := 19) (v := ?_) rfl ?_ hHeld ?_
              rotate_left
              · (intro w hSw; (try dsimp only at hSw); go_simp; (try with_reducible rfl))
              try simp only [Act.put, pT]
              refine wpAnyH_done (by kernel_rfl) ?_ _
              clear hHeld
              go_wp2_with fail
              have bD : Below w5.heap.size w5 w5.drew := below_drewN (Below.refl _ w5) 1
              replace hC := hC.on bD
              replace hW := hW.on bD
              replace hbz := hbz.on bD
              rewrite [cR bD pal] at pa0 pa1 pa2 pa3 pa4 pa5
              replace pal := lK bD pal
              rewrite [cR bD bl] at b0 b1 b2 b3
              replace bl := lK bD bl
              replace cc := bK cc bD
              clear bD
              refine wp_region_held_drew (S := fun w' => w'.cell? ⟨w.heap.size, 0, none⟩ = some (.int .i64 kk) ∧ w'.cell? ⟨w.heap.size, 1, none⟩ = some (.int .i64 ks) ∧ w'.cell? ⟨w.heap.size, 2, none⟩ = some (.int .i64 km) ∧ w'.cell? ⟨w.heap.size, 3, none⟩ = some (.int .i64 ko) ∧ w'.cell? ⟨w.heap.size, 4, none⟩ = some (.int .i64 lg) ∧ w'.cell? ⟨w.heap.size, 5, none⟩ = some (.slice (some ⟨bb, off, none⟩) n c) ∧ w'.cell? ⟨wr.heap.size, 0, none⟩ = some (.int .i64 4) ∧ w'.cell? ⟨wr.heap.size, 1, none⟩ = some (.int .i64 z2) ∧ w'.cell? ⟨wr.heap.size, 2, none⟩ = some (.slice A1 n1 c1) ∧ w'.cell? ⟨wr.heap.size, 3, none⟩ = some (.slice B1 m1 d1)) (by kernel_rfl) ?_ (fun hHeld => ?_)
              · exact ⟨pa0, pa1, pa2, pa3, pa4, pa5, b0, b1, b2, b3⟩
              refine tY (i := 0) (v := ?_) rfl ?_ hHeld ?_
              rotate_left
              · (intro w hSw; (try dsimp only at hSw); go_simp; (try with_reducible rfl))
              try simp only [Act.put, pT]
              refine tY (i := 1) (v := ?_) rfl ?_ hHeld ?_
              rotate_left
              · (intro w hSw; (try dsimp only at hSw); go_simp; (try with_reducible rfl))
              try simp only [Act.put, pT]
              refine tY (i := 2) (v := ?_) rfl ?_ hHeld ?_
              rotate_left
              · (intro w hSw; (try dsimp only at hSw); go_simp; (try with_reducible rfl))
              try simp only [Act.put, pT]
              refine tY (i := 3) (v := ?_) rfl ?_ hHeld ?_
              rotate_left
              · (intro w hSw; (try dsimp only at hSw); go_simp; (try with_reducible rfl))
              try simp only [Act.put, pT]
              refine tY (i := 4) (v := ?_) rfl ?_ hHeld ?_
              rotate_left
              · (intro w hSw; (try dsimp only at hSw); go_simp; (try with_reducible rfl))
              try simp only [Act.put, pT]
              refine tY (i := 5) (v := ?_) rfl ?_ hHeld ?_
              rotate_left
              · (intro w hSw; (try dsimp only at hSw); go_simp; (try with_reducible rfl))
              try simp only [Act.put, pT]
              refine wpAnyH_ready (rs := [6]) (by kernel_rfl) (by simp) ?_
              refine AllReadyH.cons rfl (fun K hK => ?_) AllReadyH.nil
              (try simp only [pT])
              rw [if_pos (by rfl)]
              go_simp
              go_at_call 21
              refine (CG hW).mono ?_
              rintro e w6 ⟨rfl, b⟩
              replace hC := hC.on b
              replace hW := hW.on b
              replace hbz := hbz.on b
              rewrite [cR b pal] at pa0 pa1 pa2 pa3 pa4 pa5
              replace pal := lK b pal
              rewrite [cR b bl] at b0 b1 b2 b3
              replace bl := lK b bl
              replace cc := bK cc b
              clear b
              refine hK.out _ _ ?_ (fun hHeld => ?_)
              · exact ⟨pa0, pa1, pa2, pa3, pa4, pa5, b0, b1, b2, b3⟩
              clear hK K
              try simp only [Act.put, pT]
              refine wpAnyH_ready (rs := [7]) (by kernel_rfl) (by simp) ?_
              refine AllReadyH.cons rfl (fun K hK => ?_) AllReadyH.nil
              (try simp only [pT])
              rw [if_pos (by rfl)]
              go_simp
              go_at_call 24
              refine (CW _).mono ?_
              rintro e w7 ⟨rfl, b⟩
              replace hC := hC.on b
              replace hW := hW.on b
              replace hbz := hbz.on b
              rewrite [cR b pal] at pa0 pa1 pa2 pa3 pa4 pa5
              replace pal := lK b pal
              rewrite [cR b bl] at b0 b1 b2 b3
              replace bl := lK b bl
              replace cc := bK cc b
              clear b
              refine hK.out _ _ ?_ (fun hHeld => ?_)
              · exact ⟨pa0, pa1, pa2, pa3, pa4, pa5, b0, b1, b2, b3⟩
              clear hK K
              try simp only [Act.put, pT]
              refine tY (i := 8) (v := ?_) rfl ?_ hHeld ?_
              rotate_left
              · (intro w hSw; (try dsimp only at hSw); go_simp; (try with_reducible rfl))
              try simp only [Act.put, pT]
              refine wpAnyH_done (by kernel_rfl) ?_ _
              clear hHeld
              go_wp2_with fail
              go_roundw
              case rel => exact ⟨i + 1, by omega, by go_num, HN1, hbz⟩
              case measure => simp [intOf] <;> omega
            · have CW : ∀ W : World, Calls Tryz.prog 24 #[.agg #[.int .i64 kk, .int .i64 ks, .int .i64 km, .int .i64 ko], .int .i64 lg, .int .i64 g] W (GotV W (.bool false)) := fun W => by have h := rwide14_N W (kk := kk) (ks := ks) (km := km) (ko := ko) (lg := lg) (g := g); rw [decide_eq_false hwd] at h; exact h
              have hRF : R = false := HF.out (fun h => hwd (by have h3 := h.2.2; rw [if_pos HZ1.out, HG.out] at h3; exact h3))
              subst hRF
              clear HF HT
              clear hwd
              go_upto_region 7 with fail
              have bqpa : w.heap.size < wr.heap.size := pal
              have bA := below_one wr (.cells #[.int .i64 4, .int .i64 z2, .slice A1 n1 c1, .slice B1 m1 d1] 43)
              replace hC := hC.on bA
              replace hW := hW.on bA
              replace hbz := hbz.on bA
              rewrite [cR bA pal] at pa0 pa1 pa2 pa3 pa4 pa5
              replace pal := lK bA pal
              replace cc := bK cc bA
              clear bA
              have b0 : (wr.alloc (.cells #[.int .i64 4, .int .i64 z2, .slice A1 n1 c1, .slice B1 m1 d1] 43)).cell? ⟨wr.heap.size, 0, none⟩ = some (.int .i64 4) := by simp [go_sem]
              have b1 : (wr.alloc (.cells #[.int .i64 4, .int .i64 z2, .slice A1 n1 c1, .slice B1 m1 d1] 43)).cell? ⟨wr.heap.size, 1, none⟩ = some (.int .i64 z2) := by simp [go_sem]
              have b2 : (wr.alloc (.cells #[.int .i64 4, .int .i64 z2, .slice A1 n1 c1, .slice B1 m1 d1] 43)).cell? ⟨wr.heap.size, 2, none⟩ = some (.slice A1 n1 c1) := by simp [go_sem]
              have b3 : (wr.alloc (.cells #[.int .i64 4, .int .i64 z2, .slice A1 n1 c1, .slice B1 m1 d1] 43)).cell? ⟨wr.heap.size, 3, none⟩ = some (.slice B1 m1 d1) := by simp [go_sem]
              have bl : wr.heap.size < (wr.alloc (.cells #[.int .i64 4, .int .i64 z2, .slice A1 n1 c1, .slice B1 m1 d1] 43)).heap.size := by simp
              generalize wr.alloc (.cells #[.int .i64 4, .int .i64 z2, .slice A1 n1 c1, .slice B1 m1 d1] 43) = v3 at *
              have bD : Below v3.heap.size v3 v3.drew := below_drewN (Below.refl _ v3) 1
              replace hC := hC.on bD
              replace hW := hW.on bD
              replace hbz := hbz.on bD
              rewrite [cR bD pal] at pa0 pa1 pa2 pa3 pa4 pa5
              replace pal := lK bD pal
              rewrite [cR bD bl] at b0 b1 b2 b3
              replace bl := lK bD bl
              replace cc := bK cc bD
              clear bD
              refine wp_region_held_drew (S := fun w' => w'.cell? ⟨w.heap.size, 0, none⟩ = some (.int .i64 kk) ∧ w'.cell? ⟨w.heap.size, 1, none⟩ = some (.int .i64 ks) ∧ w'.cell? ⟨w.heap.size, 2, none⟩ = some (.int .i64 km) ∧ w'.cell? ⟨w.heap.size, 3, none⟩ = some (.int .i64 ko) ∧ w'.cell? ⟨w.heap.size, 4, none⟩ = some (.int .i64 lg) ∧ w'.cell? ⟨w.heap.size, 5, none⟩ = some (.slice (some ⟨bb, off, none⟩) n c) ∧ w'.cell? ⟨wr.heap.size, 0, none⟩ = some (.int .i64 4) ∧ w'.cell? ⟨wr.heap.size, 1, none⟩ = some (.int .i64 z2) ∧ w'.cell? ⟨wr.heap.size, 2, none⟩ = some (.slice A1 n1 c1) ∧ w'.cell? ⟨wr.heap.size, 3, none⟩ = some (.slice B1 m1 d1)) (by kernel_rfl) ?_ (fun hHeld => ?_)
              · exact ⟨pa0, pa1, pa2, pa3, pa4, pa5, b0, b1, b2, b3⟩
              refine tY (i := 0) (v := ?_) rfl ?_ hHeld ?_
              rotate_left
              · (intro w hSw; (try dsimp only at hSw); go_simp; (try with_reducible rfl))
              try simp only [Act.put, pT]
              refine wpAnyH_ready (rs := [1]) (by kernel_rfl) (by simp) ?_
              refine AllReadyH.cons rfl (fun K hK => ?_) AllReadyH.nil
              (try simp only [pT])
              rw [if_pos (by rfl)]
              go_simp
              go_at_call 23
              refine (CR hC hW).mono ?_
              rintro e w4 ⟨rfl, b⟩
              replace hC := hC.on b
              replace hW := hW.on b
              replace hbz := hbz.on b
              rewrite [cR b pal] at pa0 pa1 pa2 pa3 pa4 pa5
              replace pal := lK b pal
              rewrite [cR b bl] at b0 b1 b2 b3
              replace bl := lK b bl
              replace cc := bK cc b
              clear b
              refine hK.out _ _ ?_ (fun hHeld => ?_)
              · exact ⟨pa0, pa1, pa2, pa3, pa4, pa5, b0, b1, b2, b3⟩
              clear hK K
              try simp only [Act.put, pT]
              refine tY (i := 2) (v := ?_) rfl ?_ hHeld ?_
              rotate_left
              · (intro w hSw; (try dsimp only at hSw); go_simp; (try with_reducible rfl))
              try simp only [Act.put, pT]
              refine tY (i := 3) (v := ?_) rfl ?_ hHeld ?_
              rotate_left
              · (intro w hSw; (try dsimp only at hSw); go_simp; (try with_reducible rfl))
              try simp only [Act.put, pT]
              refine tY (i := 4) (v := ?_) rfl ?_ hHeld ?_
              rotate_left
              · (intro w hSw; (try dsimp only at hSw); go_simp; (try with_reducible rfl))
              try simp only [Act.put, pT]
              refine tY (i := 6) (v := ?_) rfl ?_ hHeld ?_
              rotate_left
              · (intro w hSw; (try dsimp only at hSw); go_simp; (try with_reducible rfl))
              try simp only [Act.put, pT]
              refine tY (i := 7) (v := ?_) rfl ?_ hHeld ?_
              rotate_left
              · (intro w hSw; (try dsimp only at hSw); go_simp; (try with_reducible rfl))
              try simp only [Act.put, pT]
              refine tY (i := 8) (v := ?_) rfl ?_ hHeld ?_
              rotate_left
              · (intro w hSw; (try dsimp only at hSw); go_simp; (try with_reducible rfl))
              try simp only [Act.put, pT]
              refine tY (i := 9) (v := ?_) rfl ?_ hHeld ?_
              rotate_left
              · (intro w hSw; (try dsimp only at hSw); go_simp; (try with_reducible rfl))
              try simp only [Act.put, pT]
              refine tY (i := 10) (v := ?_) rfl ?_ hHeld ?_
              rotate_left
              · (intro w hSw; (try dsimp only at hSw); go_simp; (try with_reducible rfl))
              try simp only [Act.put, pT]
              refine tY (i := 11) (v := ?_) rfl ?_ hHeld ?_
              rotate_left
              · (intro w hSw; (try dsimp only at hSw); go_simp; (try with_reducible rfl))
              try simp only [Act.put, pT]
              refine tY (i := 12) (v := ?_) rfl ?_ hHeld ?_
              rotate_left
              · (intro w hSw; (try dsimp only at hSw); go_simp; (try with_reducible rfl))
              try simp only [Act.put, pT]
              refine tY (i := 13) (v := ?_) rfl ?_ hHeld ?_
              rotate_left
              · (intro w hSw; (try dsimp only at hSw); go_simp; (try with_reducible rfl))
              try simp only [Act.put, pT]
              refine tY (i := 14) (v := ?_) rfl ?_ hHeld ?_
              rotate_left
              · (intro w hSw; (try dsimp only at hSw); go_simp; (try with_reducible rfl))
              try simp only [Act.put, pT]
              refine tY (i := 15) (v := ?_) rfl ?_ hHeld ?_
              rotate_left
              · (intro w hSw; (try dsimp only at hSw); go_simp; (try with_reducible rfl))
              try simp only [Act.put, pT]
              refine tY (i := 16) (v := ?_) rfl ?_ hHeld ?_
              rotate_left
              · (intro w hSw; (try dsimp only at hSw); go_simp; (try with_reducible rfl))
              try simp only [Act.put, pT]
              refine tY (i := 17) (v := ?_) rfl ?_ hHeld ?_
              rotate_left
              · (intro w hSw; (try dsimp only at hSw); go_simp; (try with_reducible rfl))
              try simp only [Act.put, pT]
              refine wpAnyH_ready (rs := [5]) (by kernel_rfl) (by simp) ?_
              refine AllReadyH.cons rfl (fun K hK => ?_) AllReadyH.nil
              (try simp only [pT])
              rw [if_pos (by rfl)]
              go_simp
              go_at_call 22
              refine (CL _).mono ?_
              rintro e w5 ⟨rfl, b⟩
              replace hC := hC.on b
              replace hW := hW.on b
              replace hbz := hbz.on b
              rewrite [cR b pal] at pa0 pa1 pa2 pa3 pa4 pa5
              replace pal := lK b pal
              rewrite [cR b bl] at b0 b1 b2 b3
              replace bl := lK b bl
              replace cc := bK cc b
              clear b
              refine hK.out _ _ ?_ (fun hHeld => ?_)
              · exact ⟨pa0, pa1, pa2, pa3, pa4, pa5, b0, b1, b2, b3⟩
              clear hK K
              try simp only [Act.put, pT]
              refine tY (i := 18) (v := ?_) rfl ?_ hHeld ?_
              rotate_left
              · (intro w hSw; (try dsimp only at hSw); go_simp; (try with_reducible rfl))
              try simp only [Act.put, pT]
              refine tY (i := 19) (v := ?_) rfl ?_ hHeld ?_
              rotate_left
              · (intro w hSw; (try dsimp only at hSw); go_simp; (try with_reducible rfl))
              try simp only [Act.put, pT]
              refine wpAnyH_done (by kernel_rfl) ?_ _
              clear hHeld
              go_wp2_with fail
              have bD : Below w5.heap.size w5 w5.drew := below_drewN (Below.refl _ w5) 1
              replace hC := hC.on bD
              replace hW := hW.on bD
              replace hbz := hbz.on bD
              rewrite [cR bD pal] at pa0 pa1 pa2 pa3 pa4 pa5
              replace pal := lK bD pal
              rewrite [cR bD bl] at b0 b1 b2 b3
              replace bl := lK bD bl
              replace cc := bK cc bD
              clear bD
              refine wp_region_held_drew (S := fun w' => w'.cell? ⟨w.heap.size, 0, none⟩ = some (.int .i64 kk) ∧ w'.cell? ⟨w.heap.size, 1, none⟩ = some (.int .i64 ks) ∧ w'.cell? ⟨w.heap.size, 2, none⟩ = some (.int .i64 km) ∧ w'.cell? ⟨w.heap.size, 3, none⟩ = some (.int .i64 ko) ∧ w'.cell? ⟨w.heap.size, 4, none⟩ = some (.int .i64 lg) ∧ w'.cell? ⟨w.heap.size, 5, none⟩ = some (.slice (some ⟨bb, off, none⟩) n c) ∧ w'.cell? ⟨wr.heap.size, 0, none⟩ = some (.int .i64 4) ∧ w'.cell? ⟨wr.heap.size, 1, none⟩ = some (.int .i64 z2) ∧ w'.cell? ⟨wr.heap.size, 2, none⟩ = some (.slice A1 n1 c1) ∧ w'.cell? ⟨wr.heap.size, 3, none⟩ = some (.slice B1 m1 d1)) (by kernel_rfl) ?_ (fun hHeld => ?_)
              · exact ⟨pa0, pa1, pa2, pa3, pa4, pa5, b0, b1, b2, b3⟩
              refine tY (i := 0) (v := ?_) rfl ?_ hHeld ?_
              rotate_left
              · (intro w hSw; (try dsimp only at hSw); go_simp; (try with_reducible rfl))
              try simp only [Act.put, pT]
              refine tY (i := 1) (v := ?_) rfl ?_ hHeld ?_
              rotate_left
              · (intro w hSw; (try dsimp only at hSw); go_simp; (try with_reducible rfl))
              try simp only [Act.put, pT]
              refine tY (i := 2) (v := ?_) rfl ?_ hHeld ?_
              rotate_left
              · (intro w hSw; (try dsimp only at hSw); go_simp; (try with_reducible rfl))
              try simp only [Act.put, pT]
              refine tY (i := 3) (v := ?_) rfl ?_ hHeld ?_
              rotate_left
              · (intro w hSw; (try dsimp only at hSw); go_simp; (try with_reducible rfl))
              try simp only [Act.put, pT]
              refine tY (i := 4) (v := ?_) rfl ?_ hHeld ?_
              rotate_left
              · (intro w hSw; (try dsimp only at hSw); go_simp; (try with_reducible rfl))
              try simp only [Act.put, pT]
              refine tY (i := 5) (v := ?_) rfl ?_ hHeld ?_
              rotate_left
              · (intro w hSw; (try dsimp only at hSw); go_simp; (try with_reducible rfl))
              try simp only [Act.put, pT]
              refine wpAnyH_ready (rs := [6]) (by kernel_rfl) (by simp) ?_
              refine AllReadyH.cons rfl (fun K hK => ?_) AllReadyH.nil
              (try simp only [pT])
              rw [if_pos (by rfl)]
              go_simp
              go_at_call 21
              refine (CG hW).mono ?_
              rintro e w6 ⟨rfl, b⟩
              replace hC := hC.on b
              replace hW := hW.on b
              replace hbz := hbz.on b
              rewrite [cR b pal] at pa0 pa1 pa2 pa3 pa4 pa5
              replace pal := lK b pal
              rewrite [cR b bl] at b0 b1 b2 b3
              replace bl := lK b bl
              replace cc := bK cc b
              clear b
              refine hK.out _ _ ?_ (fun hHeld => ?_)
              · exact ⟨pa0, pa1, pa2, pa3, pa4, pa5, b0, b1, b2, b3⟩
              clear hK K
              try simp only [Act.put, pT]
              refine wpAnyH_ready (rs := [7]) (by kernel_rfl) (by simp) ?_
              refine AllReadyH.cons rfl (fun K hK => ?_) AllReadyH.nil
              (try simp only [pT])
              rw [if_pos (by rfl)]
              go_simp
              go_at_call 24
              refine (CW _).mono ?_
              rintro e w7 ⟨rfl, b⟩
              replace hC := hC.on b
              replace hW := hW.on b
              replace hbz := hbz.on b
              rewrite [cR b pal] at pa0 pa1 pa2 pa3 pa4 pa5
              replace pal := lK b pal
              rewrite [cR b bl] at b0 b1 b2 b3
              replace bl := lK b bl
              replace cc := bK cc b
              clear b
              refine hK.out _ _ ?_ (fun hHeld => ?_)
              · exact ⟨pa0, pa1, pa2, pa3, pa4, pa5, b0, b1, b2, b3⟩
              clear hK K
              try simp only [Act.put, pT]
              refine tY (i := 8) (v := ?_) rfl ?_ hHeld ?_
              rotate_left
              · (intro w hSw; (try dsimp only at hSw); go_simp; (try with_reducible rfl))
              try simp only [Act.put, pT]
              refine wpAnyH_done (by kernel_rfl) ?_ _
              clear hHeld
              go_wp2_with fail
              go_ret
              exact ⟨rfl, cc⟩
          · have t4 : (z1 == 4) = false := beq_eq_false_iff_ne.2 hw4
            by_cases hkk : z1 = kk
            · subst hkk
              by_cases hwd : Wd km ko lg z2
              · have CW : ∀ W : World, Calls Tryz.prog 24 #[.agg #[.int .i64 z1, .int .i64 ks, .int .i64 km, .int .i64 ko], .int .i64 lg, .int .i64 z2] W (GotV W (.bool true)) := fun W => by have h := rwide14_N W (kk := z1) (ks := ks) (km := km) (ko := ko) (lg := lg) (g := z2); rw [decide_eq_true hwd] at h; exact h
                have hRF : R = false := HF.out (fun h => by have h3 := h.2.2; rw [if_neg (by rw [HZ1.out]; exact hw4), HZ1.out, HZ2.out] at h3; exact h3.2 hwd)
                subst hRF
                clear HF HT
                clear hwd hw4
                go_upto_region 7 with fail
                have bqpa : w.heap.size < wr.heap.size := pal
                generalize hv_ : wr.alloc (.cells #[.int .i64 z1, .int .i64 z2, .slice A1 n1 c1, .slice B1 m1 d1] 43) = v3
                have bA : Below wr.heap.size wr v3 := by rw [← hv_]; exact below_one _ _
                replace hC := hC.on bA
                replace hW := hW.on bA
                replace hbz := hbz.on bA
                rewrite [cR bA pal] at pa0 pa1 pa2 pa3 pa4 pa5
                replace pal := lK bA pal
                replace cc := bK cc bA
                clear bA
                have b0 : v3.cell? ⟨wr.heap.size, 0, none⟩ = some (.int .i64 z1) := by simp [← hv_, go_sem]
                have b1 : v3.cell? ⟨wr.heap.size, 1, none⟩ = some (.int .i64 z2) := by simp [← hv_, go_sem]
                have b2 : v3.cell? ⟨wr.heap.size, 2, none⟩ = some (.slice A1 n1 c1) := by simp [← hv_, go_sem]
                have b3 : v3.cell? ⟨wr.heap.size, 3, none⟩ = some (.slice B1 m1 d1) := by simp [← hv_, go_sem]
                have bl : wr.heap.size < v3.heap.size := by simp [← hv_]
                clear hv_
                have bD : Below v3.heap.size v3 v3.drew := below_drewN (Below.refl _ v3) 1
                replace hC := hC.on bD
                replace hW := hW.on bD
                replace hbz := hbz.on bD
                rewrite [cR bD pal] at pa0 pa1 pa2 pa3 pa4 pa5
                replace pal := lK bD pal
                rewrite [cR bD bl] at b0 b1 b2 b3
                replace bl := lK bD bl
                replace cc := bK cc bD
                clear bD
                refine wp_region_held_drew (S := fun w' => w'.cell? ⟨w.heap.size, 0, none⟩ = some (.int .i64 z1) ∧ w'.cell? ⟨w.heap.size, 1, none⟩ = some (.int .i64 ks) ∧ w'.cell? ⟨w.heap.size, 2, none⟩ = some (.int .i64 km) ∧ w'.cell? ⟨w.heap.size, 3, none⟩ = some (.int .i64 ko) ∧ w'.cell? ⟨w.heap.size, 4, none⟩ = some (.int .i64 lg) ∧ w'.cell? ⟨w.heap.size, 5, none⟩ = some (.slice (some ⟨bb, off, none⟩) n c) ∧ w'.cell? ⟨wr.heap.size, 0, none⟩ = some (.int .i64 z1) ∧ w'.cell? ⟨wr.heap.size, 1, none⟩ = some (.int .i64 z2) ∧ w'.cell? ⟨wr.heap.size, 2, none⟩ = some (.slice A1 n1 c1) ∧ w'.cell? ⟨wr.heap.size, 3, none⟩ = some (.slice B1 m1 d1)) (by kernel_rfl) ?_ (fun hHeld => ?_)
                · exact ⟨pa0, pa1, pa2, pa3, pa4, pa5, b0, b1, b2, b3⟩
                refine tY (i := 0) (v := ?_) rfl ?_ hHeld ?_
                rotate_left
                · (intro w hSw; (try dsimp only at hSw); go_simp; (try with_reducible rfl))
                try simp only [Act.put, pT]
                refine wpAnyH_ready (rs := [1]) (by kernel_rfl) (by simp) ?_
                refine AllReadyH.cons rfl (fun K hK => ?_) AllReadyH.nil
                (try simp only [pT])
                rw [if_pos (by rfl)]
                go_simp
                go_at_call 23
                refine (CR hC hW).mono ?_
                rintro e w4 ⟨rfl, b⟩
                replace hC := hC.on b
                replace hW := hW.on b
                replace hbz := hbz.on b
                rewrite [cR b pal] at pa0 pa1 pa2 pa3 pa4 pa5
                replace pal := lK b pal
                rewrite [cR b bl] at b0 b1 b2 b3
                replace bl := lK b bl
                replace cc := bK cc b
                clear b
                refine hK.out _ _ ?_ (fun hHeld => ?_)
                · exact ⟨pa0, pa1, pa2, pa3, pa4, pa5, b0, b1, b2, b3⟩
                clear hK K
                try simp only [Act.put, pT]
                refine tY (i := 2) (v := ?_) rfl ?_ hHeld ?_
                rotate_left
                · (intro w hSw; (try dsimp only at hSw); go_simp; (try with_reducible rfl))
                try simp only [Act.put, pT]
                refine tY (i := 3) (v := ?_) rfl ?_ hHeld ?_
                rotate_left
                · (intro w hSw; (try dsimp only at hSw); go_simp; (try with_reducible rfl))
                try simp only [Act.put, pT]
                refine tY (i := 4) (v := ?_) rfl ?_ hHeld ?_
                rotate_left
                · (intro w hSw; (try dsimp only at hSw); go_simp; (try with_reducible rfl))
                try simp only [Act.put, pT]
                refine tY (i := 6) (v := ?_) rfl ?_ hHeld ?_
                rotate_left
                · (intro w hSw; (try dsimp only at hSw); go_simp; (try with_reducible rfl))
                try simp only [Act.put, pT]
                refine tY (i := 7) (v := ?_) rfl ?_ hHeld ?_
                rotate_left
                · (intro w hSw; (try dsimp only at hSw); go_simp; (try with_reducible rfl))
                try simp only [Act.put, pT]
                refine tY (i := 8) (v := ?_) rfl ?_ hHeld ?_
                rotate_left
                · (intro w hSw; (try dsimp only at hSw); go_simp; (try with_reducible rfl))
                try simp only [Act.put, pT]
                refine tY (i := 9) (v := ?_) rfl ?_ hHeld ?_
                rotate_left
                · (intro w hSw; (try dsimp only at hSw); go_simp; (try with_reducible rfl))
                try simp only [Act.put, pT]
                refine tY (i := 10) (v := ?_) rfl ?_ hHeld ?_
                rotate_left
                · (intro w hSw; (try dsimp only at hSw); go_simp; (try with_reducible rfl))
                try simp only [Act.put, pT]
                refine tY (i := 11) (v := ?_) rfl ?_ hHeld ?_
                rotate_left
                · (intro w hSw; (try dsimp only at hSw); go_simp; (try with_reducible rfl))
                try simp only [Act.put, pT]
                refine tY (i := 12) (v := ?_) rfl ?_ hHeld ?_
                rotate_left
                · (intro w hSw; (try dsimp only at hSw); go_simp; (try with_reducible rfl))
                try simp only [Act.put, pT]
                refine tY (i := 13) (v := ?_) rfl ?_ hHeld ?_
                rotate_left
                · (intro w hSw; (try dsimp only at hSw); go_simp; (try with_reducible rfl))
                try simp only [Act.put, pT]
                refine tY (i := 14) (v := ?_) rfl ?_ hHeld ?_
                rotate_left
                · (intro w hSw; (try dsimp only at hSw); go_simp; (try with_reducible rfl))
                try simp only [Act.put, pT]
                refine tY (i := 15) (v := ?_) rfl ?_ hHeld ?_
                rotate_left
                · (intro w hSw; (try dsimp only at hSw); go_simp; (try with_reducible rfl))
                try simp only [Act.put, pT]
                refine tY (i := 16) (v := ?_) rfl ?_ hHeld ?_
                rotate_left
                · (intro w hSw; (try dsimp only at hSw); go_simp; (try with_reducible rfl))
                try simp only [Act.put, pT]
                refine tY (i := 17) (v := ?_) rfl ?_ hHeld ?_
                rotate_left
                · (intro w hSw; (try dsimp only at hSw); go_simp; (try with_reducible rfl))
                try simp only [Act.put, pT]
                refine wpAnyH_ready (rs := [5]) (by kernel_rfl) (by simp) ?_
                refine AllReadyH.cons rfl (fun K hK => ?_) AllReadyH.nil
                (try simp only [pT])
                rw [if_pos (by rfl)]
                go_simp
                go_at_call 22
                refine (CL _).mono ?_
                rintro e w5 ⟨rfl, b⟩
                replace hC := hC.on b
                replace hW := hW.on b
                replace hbz := hbz.on b
                rewrite [cR b pal] at pa0 pa1 pa2 pa3 pa4 pa5
                replace pal := lK b pal
                rewrite [cR b bl] at b0 b1 b2 b3
                replace bl := lK b bl
                replace cc := bK cc b
                clear b
                refine hK.out _ _ ?_ (fun hHeld => ?_)
                · exact ⟨pa0, pa1, pa2, pa3, pa4, pa5, b0, b1, b2, b3⟩
                clear hK K
                try simp only [Act.put, pT]
                refine tY (i := 18) (v := ?_) rfl ?_ hHeld ?_
                rotate_left
                · (intro w hSw; (try dsimp only at hSw); go_simp; (try with_reducible rfl))
                try simp only [Act.put, pT]
                refine tY (i := 19) (v := ?_) rfl ?_ hHeld ?_
                rotate_left
                · (intro w hSw; (try dsimp only at hSw); go_simp; (try with_reducible rfl))
                try simp only [Act.put, pT]
                refine wpAnyH_done (by kernel_rfl) ?_ _
                clear hHeld
                go_wp2_with fail
                refine (CW _).mono ?_
                rintro e w6 ⟨rfl, b⟩
                replace hC := hC.on b
                replace hW := hW.on b
                replace hbz := hbz.on b
                rewrite [cR b pal] at pa0 pa1 pa2 pa3 pa4 pa5
                replace pal := lK b pal
                rewrite [cR b bl] at b0 b1 b2 b3
                replace bl := lK b bl
                replace cc := bK cc b
                clear b
                go_wp2_with fail
                go_ret
                exact ⟨rfl, cc⟩
              · have CW : ∀ W : World, Calls Tryz.prog 24 #[.agg #[.int .i64 z1, .int .i64 ks, .int .i64 km, .int .i64 ko], .int .i64 lg, .int .i64 z2] W (GotV W (.bool false)) := fun W => by have h := rwide14_N W (kk := z1) (ks := ks) (km := km) (ko := ko) (lg := lg) (g := z2); rw [decide_eq_false hwd] at h; exact h
                have HN1 : Hid (S (i + 1) = true) := Lib.hid (HT.out ⟨hok, by rw [HQ.out, HMN.out], by rw [if_neg (by rw [HZ1.out]; exact hw4), HZ1.out, HZ2.out]; exact ⟨rfl, hwd⟩⟩)
                clear HF HT
                clear hwd hw4
                go_upto_region 7 with fail
                have bqpa : w.heap.size < wr.heap.size := pal
                have bA := below_one wr (.cells #[.int .i64 z1, .int .i64 z2, .slice A1 n1 c1, .slice B1 m1 d1] 43)
                replace hC := hC.on bA
                replace hW := hW.on bA
                replace hbz := hbz.on bA
                rewrite [cR bA pal] at pa0 pa1 pa2 pa3 pa4 pa5
                replace pal := lK bA pal
                replace cc := bK cc bA
                clear bA
                have b0 : (wr.alloc (.cells #[.int .i64 z1, .int .i64 z2, .slice A1 n1 c1, .slice B1 m1 d1] 43)).cell? ⟨wr.heap.size, 0, none⟩ = some (.int .i64 z1) := by simp [go_sem]
                have b1 : (wr.alloc (.cells #[.int .i64 z1, .int .i64 z2, .slice A1 n1 c1, .slice B1 m1 d1] 43)).cell? ⟨wr.heap.size, 1, none⟩ = some (.int .i64 z2) := by simp [go_sem]
                have b2 : (wr.alloc (.cells #[.int .i64 z1, .int .i64 z2, .slice A1 n1 c1, .slice B1 m1 d1] 43)).cell? ⟨wr.heap.size, 2, none⟩ = some (.slice A1 n1 c1) := by simp [go_sem]
                have b3 : (wr.alloc (.cells #[.int .i64 z1, .int .i64 z2, .slice A1 n1 c1, .slice B1 m1 d1] 43)).cell? ⟨wr.heap.size, 3, none⟩ = some (.slice B1 m1 d1) := by simp [go_sem]
                have bl : wr.heap.size < (wr.alloc (.cells #[.int .i64 z1, .int .i64 z2, .slice A1 n1 c1, .slice B1 m1 d1] 43)).heap.size := by simp
                generalize wr.alloc (.cells #[.int .i64 z1, .int .i64 z2, .slice A1 n1 c1, .slice B1 m1 d1] 43) = v3 at *
                have bD : Below v3.heap.size v3 v3.drew := below_drewN (Below.refl _ v3) 1
                replace hC := hC.on bD
                replace hW := hW.on bD
                replace hbz := hbz.on bD
                rewrite [cR bD pal] at pa0 pa1 pa2 pa3 pa4 pa5
                replace pal := lK bD pal
                rewrite [cR bD bl] at b0 b1 b2 b3
                replace bl := lK bD bl
                replace cc := bK cc bD
                clear bD
                refine wp_region_held_drew (S := fun w' => w'.cell? ⟨w.heap.size, 0, none⟩ = some (.int .i64 z1) ∧ w'.cell? ⟨w.heap.size, 1, none⟩ = some (.int .i64 ks) ∧ w'.cell? ⟨w.heap.size, 2, none⟩ = some (.int .i64 km) ∧ w'.cell? ⟨w.heap.size, 3, none⟩ = some (.int .i64 ko) ∧ w'.cell? ⟨w.heap.size, 4, none⟩ = some (.int .i64 lg) ∧ w'.cell? ⟨w.heap.size, 5, none⟩ = some (.slice (some ⟨bb, off, none⟩) n c) ∧ w'.cell? ⟨wr.heap.size, 0, none⟩ = some (.int .i64 z1) ∧ w'.cell? ⟨wr.heap.size, 1, none⟩ = some (.int .i64 z2) ∧ w'.cell? ⟨wr.heap.size, 2, none⟩ = some (.slice A1 n1 c1) ∧ w'.cell? ⟨wr.heap.size, 3, none⟩ = some (.slice B1 m1 d1)) (by kernel_rfl) ?_ (fun hHeld => ?_)
                · exact ⟨pa0, pa1, pa2, pa3, pa4, pa5, b0, b1, b2, b3⟩
                refine tY (i := 0) (v := ?_) rfl ?_ hHeld ?_
                rotate_left
                · (intro w hSw; (try dsimp only at hSw); go_simp; (try with_reducible rfl))
                try simp only [Act.put, pT]
                refine wpAnyH_ready (rs := [1]) (by kernel_rfl) (by simp) ?_
                refine AllReadyH.cons rfl (fun K hK => ?_) AllReadyH.nil
                (try simp only [pT])
                rw [if_pos (by rfl)]
                go_simp
                go_at_call 23
                refine (CR hC hW).mono ?_
                rintro e w4 ⟨rfl, b⟩
                replace hC := hC.on b
                replace hW := hW.on b
                replace hbz := hbz.on b
                rewrite [cR b pal] at pa0 pa1 pa2 pa3 pa4 pa5
                replace pal := lK b pal
                rewrite [cR b bl] at b0 b1 b2 b3
                replace bl := lK b bl
                replace cc := bK cc b
                clear b
                refine hK.out _ _ ?_ (fun hHeld => ?_)
                · exact ⟨pa0, pa1, pa2, pa3, pa4, pa5, b0, b1, b2, b3⟩
                clear hK K
                try simp only [Act.put, pT]
                refine tY (i := 2) (v := ?_) rfl ?_ hHeld ?_
                rotate_left
                · (intro w hSw; (try dsimp only at hSw); go_simp; (try with_reducible rfl))
                try simp only [Act.put, pT]
                refine tY (i := 3) (v := ?_) rfl ?_ hHeld ?_
                rotate_left
                · (intro w hSw; (try dsimp only at hSw); go_simp; (try with_reducible rfl))
                try simp only [Act.put, pT]
                refine tY (i := 4) (v := ?_) rfl ?_ hHeld ?_
                rotate_left
                · (intro w hSw; (try dsimp only at hSw); go_simp; (try with_reducible rfl))
                try simp only [Act.put, pT]
                refine tY (i := 6) (v := ?_) rfl ?_ hHeld ?_
                rotate_left
                · (intro w hSw; (try dsimp only at hSw); go_simp; (try with_reducible rfl))
                try simp only [Act.put, pT]
                refine tY (i := 7) (v := ?_) rfl ?_ hHeld ?_
                rotate_left
                · (intro w hSw; (try dsimp only at hSw); go_simp; (try with_reducible rfl))
                try simp only [Act.put, pT]
                refine tY (i := 8) (v := ?_) rfl ?_ hHeld ?_
                rotate_left
                · (intro w hSw; (try dsimp only at hSw); go_simp; (try with_reducible rfl))
                try simp only [Act.put, pT]
                refine tY (i := 9) (v := ?_) rfl ?_ hHeld ?_
                rotate_left
                · (intro w hSw; (try dsimp only at hSw); go_simp; (try with_reducible rfl))
                try simp only [Act.put, pT]
                refine tY (i := 10) (v := ?_) rfl ?_ hHeld ?_
                rotate_left
                · (intro w hSw; (try dsimp only at hSw); go_simp; (try with_reducible rfl))
                try simp only [Act.put, pT]
                refine tY (i := 11) (v := ?_) rfl ?_ hHeld ?_
                rotate_left
                · (intro w hSw; (try dsimp only at hSw); go_simp; (try with_reducible rfl))
                try simp only [Act.put, pT]
                refine tY (i := 12) (v := ?_) rfl ?_ hHeld ?_
                rotate_left
                · (intro w hSw; (try dsimp only at hSw); go_simp; (try with_reducible rfl))
                try simp only [Act.put, pT]
                refine tY (i := 13) (v := ?_) rfl ?_ hHeld ?_
                rotate_left
                · (intro w hSw; (try dsimp only at hSw); go_simp; (try with_reducible rfl))
                try simp only [Act.put, pT]
                refine tY (i := 14) (v := ?_) rfl ?_ hHeld ?_
                rotate_left
                · (intro w hSw; (try dsimp only at hSw); go_simp; (try with_reducible rfl))
                try simp only [Act.put, pT]
                refine tY (i := 15) (v := ?_) rfl ?_ hHeld ?_
                rotate_left
                · (intro w hSw; (try dsimp only at hSw); go_simp; (try with_reducible rfl))
                try simp only [Act.put, pT]
                refine tY (i := 16) (v := ?_) rfl ?_ hHeld ?_
                rotate_left
                · (intro w hSw; (try dsimp only at hSw); go_simp; (try with_reducible rfl))
                try simp only [Act.put, pT]
                refine tY (i := 17) (v := ?_) rfl ?_ hHeld ?_
                rotate_left
                · (intro w hSw; (try dsimp only at hSw); go_simp; (try with_reducible rfl))
                try simp only [Act.put, pT]
                refine wpAnyH_ready (rs := [5]) (by kernel_rfl) (by simp) ?_
                refine AllReadyH.cons rfl (fun K hK => ?_) AllReadyH.nil
                (try simp only [pT])
                rw [if_pos (by rfl)]
                go_simp
                go_at_call 22
                refine (CL _).mono ?_
                rintro e w5 ⟨rfl, b⟩
                replace hC := hC.on b
                replace hW := hW.on b
                replace hbz := hbz.on b
                rewrite [cR b pal] at pa0 pa1 pa2 pa3 pa4 pa5
                replace pal := lK b pal
                rewrite [cR b bl] at b0 b1 b2 b3
                replace bl := lK b bl
                replace cc := bK cc b
                clear b
                refine hK.out _ _ ?_ (fun hHeld => ?_)
                · exact ⟨pa0, pa1, pa2, pa3, pa4, pa5, b0, b1, b2, b3⟩
                clear hK K
                try simp only [Act.put, pT]
                refine tY (i := 18) (v := ?_) rfl ?_ hHeld ?_
                rotate_left
                · (intro w hSw; (try dsimp only at hSw); go_simp; (try with_reducible rfl))
                try simp only [Act.put, pT]
                refine tY (i := 19) (v := ?_) rfl ?_ hHeld ?_
                rotate_left
                · (intro w hSw; (try dsimp only at hSw); go_simp; (try with_reducible rfl))
                try simp only [Act.put, pT]
                refine wpAnyH_done (by kernel_rfl) ?_ _
                clear hHeld
                go_wp2_with fail
                refine (CW _).mono ?_
                rintro e w6 ⟨rfl, b⟩
                replace hC := hC.on b
                replace hW := hW.on b
                replace hbz := hbz.on b
                rewrite [cR b pal] at pa0 pa1 pa2 pa3 pa4 pa5
                replace pal := lK b pal
                rewrite [cR b bl] at b0 b1 b2 b3
                replace bl := lK b bl
                replace cc := bK cc b
                clear b
                go_wp2_with fail
                go_roundw
                case rel => exact ⟨i + 1, by omega, by go_num, HN1, hbz⟩
                case measure => simp [intOf] <;> omega
            · have t5 : (z1 == kk) = false := beq_eq_false_iff_ne.2 hkk
              have t6 : (z1 != kk) = true := by simp; exact hkk
              have hRF : R = false := HF.out (fun h => by have h3 := h.2.2; rw [if_neg (by rw [HZ1.out]; exact hw4), HZ1.out, HZ2.out] at h3; exact hkk h3.1)
              subst hRF
              clear HF HT
              clear hkk hw4
              go_upto_region 7 with fail
              have bqpa : w.heap.size < wr.heap.size := pal
              have bA := below_one wr (.cells #[.int .i64 z1, .int .i64 z2, .slice A1 n1 c1, .slice B1 m1 d1] 43)
              replace hC := hC.on bA
              replace hW := hW.on bA
              replace hbz := hbz.on bA
              rewrite [cR bA pal] at pa0 pa1 pa2 pa3 pa4 pa5
              replace pal := lK bA pal
              replace cc := bK cc bA
              clear bA
              have b0 : (wr.alloc (.cells #[.int .i64 z1, .int .i64 z2, .slice A1 n1 c1, .slice B1 m1 d1] 43)).cell? ⟨wr.heap.size, 0, none⟩ = some (.int .i64 z1) := by simp [go_sem]
              have b1 : (wr.alloc (.cells #[.int .i64 z1, .int .i64 z2, .slice A1 n1 c1, .slice B1 m1 d1] 43)).cell? ⟨wr.heap.size, 1, none⟩ = some (.int .i64 z2) := by simp [go_sem]
              have b2 : (wr.alloc (.cells #[.int .i64 z1, .int .i64 z2, .slice A1 n1 c1, .slice B1 m1 d1] 43)).cell? ⟨wr.heap.size, 2, none⟩ = some (.slice A1 n1 c1) := by simp [go_sem]
              have b3 : (wr.alloc (.cells #[.int .i64 z1, .int .i64 z2, .slice A1 n1 c1, .slice B1 m1 d1] 43)).cell? ⟨wr.heap.size, 3, none⟩ = some (.slice B1 m1 d1) := by simp [go_sem]
              have bl : wr.heap.size < (wr.alloc (.cells #[.int .i64 z1, .int .i64 z2, .slice A1 n1 c1, .slice B1 m1 d1] 43)).heap.size := by simp
              generalize wr.alloc (.cells #[.int .i64 z1, .int .i64 z2, .slice A1 n1 c1, .slice B1 m1 d1] 43) = v3 at *
              have bD : Below v3.heap.size v3 v3.drew := below_drewN (Below.refl _ v3) 1
              replace hC := hC.on bD
              replace hW := hW.on bD
              replace hbz := hbz.on bD
              rewrite [cR bD pal] at pa0 pa1 pa2 pa3 pa4 pa5
              replace pal := lK bD pal
              rewrite [cR bD bl] at b0 b1 b2 b3
              replace bl := lK bD bl
              replace cc := bK cc bD
              clear bD
              refine wp_region_held_drew (S := fun w' => w'.cell? ⟨w.heap.size, 0, none⟩ = some (.int .i64 kk) ∧ w'.cell? ⟨w.heap.size, 1, none⟩ = some (.int .i64 ks) ∧ w'.cell? ⟨w.heap.size, 2, none⟩ = some (.int .i64 km) ∧ w'.cell? ⟨w.heap.size, 3, none⟩ = some (.int .i64 ko) ∧ w'.cell? ⟨w.heap.size, 4, none⟩ = some (.int .i64 lg) ∧ w'.cell? ⟨w.heap.size, 5, none⟩ = some (.slice (some ⟨bb, off, none⟩) n c) ∧ w'.cell? ⟨wr.heap.size, 0, none⟩ = some (.int .i64 z1) ∧ w'.cell? ⟨wr.heap.size, 1, none⟩ = some (.int .i64 z2) ∧ w'.cell? ⟨wr.heap.size, 2, none⟩ = some (.slice A1 n1 c1) ∧ w'.cell? ⟨wr.heap.size, 3, none⟩ = some (.slice B1 m1 d1)) (by kernel_rfl) ?_ (fun hHeld => ?_)
              · exact ⟨pa0, pa1, pa2, pa3, pa4, pa5, b0, b1, b2, b3⟩
              refine tY (i := 0) (v := ?_) rfl ?_ hHeld ?_
              rotate_left
              · (intro w hSw; (try dsimp only at hSw); go_simp; (try with_reducible rfl))
              try simp only [Act.put, pT]
              refine wpAnyH_ready (rs := [1]) (by kernel_rfl) (by simp) ?_
              refine AllReadyH.cons rfl (fun K hK => ?_) AllReadyH.nil
              (try simp only [pT])
              rw [if_pos (by rfl)]
              go_simp
              go_at_call 23
              refine (CR hC hW).mono ?_
              rintro e w4 ⟨rfl, b⟩
              replace hC := hC.on b
              replace hW := hW.on b
              replace hbz := hbz.on b
              rewrite [cR b pal] at pa0 pa1 pa2 pa3 pa4 pa5
              replace pal := lK b pal
              rewrite [cR b bl] at b0 b1 b2 b3
              replace bl := lK b bl
              replace cc := bK cc b
              clear b
              refine hK.out _ _ ?_ (fun hHeld => ?_)
              · exact ⟨pa0, pa1, pa2, pa3, pa4, pa5, b0, b1, b2, b3⟩
              clear hK K
              try simp only [Act.put, pT]
              refine tY (i := 2) (v := ?_) rfl ?_ hHeld ?_
              rotate_left
              · (intro w hSw; (try dsimp only at hSw); go_simp; (try with_reducible rfl))
              try simp only [Act.put, pT]
              refine tY (i := 3) (v := ?_) rfl ?_ hHeld ?_
              rotate_left
              · (intro w hSw; (try dsimp only at hSw); go_simp; (try with_reducible rfl))
              try simp only [Act.put, pT]
              refine tY (i := 4) (v := ?_) rfl ?_ hHeld ?_
              rotate_left
              · (intro w hSw; (try dsimp only at hSw); go_simp; (try with_reducible rfl))
              try simp only [Act.put, pT]
              refine tY (i := 6) (v := ?_) rfl ?_ hHeld ?_
              rotate_left
              · (intro w hSw; (try dsimp only at hSw); go_simp; (try with_reducible rfl))
              try simp only [Act.put, pT]
              refine tY (i := 7) (v := ?_) rfl ?_ hHeld ?_
              rotate_left
              · (intro w hSw; (try dsimp only at hSw); go_simp; (try with_reducible rfl))
              try simp only [Act.put, pT]
              refine tY (i := 8) (v := ?_) rfl ?_ hHeld ?_
              rotate_left
              · (intro w hSw; (try dsimp only at hSw); go_simp; (try with_reducible rfl))
              try simp only [Act.put, pT]
              refine tY (i := 9) (v := ?_) rfl ?_ hHeld ?_
              rotate_left
              · (intro w hSw; (try dsimp only at hSw); go_simp; (try with_reducible rfl))
              try simp only [Act.put, pT]
              refine tY (i := 10) (v := ?_) rfl ?_ hHeld ?_
              rotate_left
              · (intro w hSw; (try dsimp only at hSw); go_simp; (try with_reducible rfl))
              try simp only [Act.put, pT]
              refine tY (i := 11) (v := ?_) rfl ?_ hHeld ?_
              rotate_left
              · (intro w hSw; (try dsimp only at hSw); go_simp; (try with_reducible rfl))
              try simp only [Act.put, pT]
              refine tY (i := 12) (v := ?_) rfl ?_ hHeld ?_
              rotate_left
              · (intro w hSw; (try dsimp only at hSw); go_simp; (try with_reducible rfl))
              try simp only [Act.put, pT]
              refine tY (i := 13) (v := ?_) rfl ?_ hHeld ?_
              rotate_left
              · (intro w hSw; (try dsimp only at hSw); go_simp; (try with_reducible rfl))
              try simp only [Act.put, pT]
              refine tY (i := 14) (v := ?_) rfl ?_ hHeld ?_
              rotate_left
              · (intro w hSw; (try dsimp only at hSw); go_simp; (try with_reducible rfl))
              try simp only [Act.put, pT]
              refine tY (i := 15) (v := ?_) rfl ?_ hHeld ?_
              rotate_left
              · (intro w hSw; (try dsimp only at hSw); go_simp; (try with_reducible rfl))
              try simp only [Act.put, pT]
              refine tY (i := 16) (v := ?_) rfl ?_ hHeld ?_
              rotate_left
              · (intro w hSw; (try dsimp only at hSw); go_simp; (try with_reducible rfl))
              try simp only [Act.put, pT]
              refine tY (i := 17) (v := ?_) rfl ?_ hHeld ?_
              rotate_left
              · (intro w hSw; (try dsimp only at hSw); go_simp; (try with_reducible rfl))
              try simp only [Act.put, pT]
              refine wpAnyH_ready (rs := [5]) (by kernel_rfl) (by simp) ?_
              refine AllReadyH.cons rfl (fun K hK => ?_) AllReadyH.nil
              (try simp only [pT])
              rw [if_pos (by rfl)]
              go_simp
              go_at_call 22
              refine (CL _).mono ?_
              rintro e w5 ⟨rfl, b⟩
              replace hC := hC.on b
              replace hW := hW.on b
              replace hbz := hbz.on b
              rewrite [cR b pal] at pa0 pa1 pa2 pa3 pa4 pa5
              replace pal := lK b pal
              rewrite [cR b bl] at b0 b1 b2 b3
              replace bl := lK b bl
              replace cc := bK cc b
              clear b
              refine hK.out _ _ ?_ (fun hHeld => ?_)
              · exact ⟨pa0, pa1, pa2, pa3, pa4, pa5, b0, b1, b2, b3⟩
              clear hK K
              try simp only [Act.put, pT]
              refine tY (i := 18) (v := ?_) rfl ?_ hHeld ?_
              rotate_left
              · (intro w hSw; (try dsimp only at hSw); go_simp; (try with_reducible rfl))
              try simp only [Act.put, pT]
              refine tY (i := 19) (v := ?_) rfl ?_ hHeld ?_
              rotate_left
              · (intro w hSw; (try dsimp only at hSw); go_simp; (try with_reducible rfl))
              try simp only [Act.put, pT]
              refine wpAnyH_done (by kernel_rfl) ?_ _
              clear hHeld
              go_wp2_with fail
              go_ret
              exact ⟨rfl, cc⟩
        · have t5 : (q == mn) = false := beq_eq_false_iff_ne.2 hqm
          have t6 : (q != mn) = true := by simp; exact hqm
          have hRF : R = false := HF.out (fun h => hqm (by have h3 := h.2.1; rw [HQ.out, HMN.out] at h3; exact h3))
          subst hRF
          clear HF HT
          clear hqm
          go_upto_region 7 with fail
          have bqpa : w.heap.size < wr.heap.size := pal
          have bA := below_one wr (.cells #[.int .i64 z1, .int .i64 z2, .slice A1 n1 c1, .slice B1 m1 d1] 43)
          replace hC := hC.on bA
          replace hW := hW.on bA
          replace hbz := hbz.on bA
          rewrite [cR bA pal] at pa0 pa1 pa2 pa3 pa4 pa5
          replace pal := lK bA pal
          replace cc := bK cc bA
          clear bA
          have b0 : (wr.alloc (.cells #[.int .i64 z1, .int .i64 z2, .slice A1 n1 c1, .slice B1 m1 d1] 43)).cell? ⟨wr.heap.size, 0, none⟩ = some (.int .i64 z1) := by simp [go_sem]
          have b1 : (wr.alloc (.cells #[.int .i64 z1, .int .i64 z2, .slice A1 n1 c1, .slice B1 m1 d1] 43)).cell? ⟨wr.heap.size, 1, none⟩ = some (.int .i64 z2) := by simp [go_sem]
          have b2 : (wr.alloc (.cells #[.int .i64 z1, .int .i64 z2, .slice A1 n1 c1, .slice B1 m1 d1] 43)).cell? ⟨wr.heap.size, 2, none⟩ = some (.slice A1 n1 c1) := by simp [go_sem]
          have b3 : (wr.alloc (.cells #[.int .i64 z1, .int .i64 z2, .slice A1 n1 c1, .slice B1 m1 d1] 43)).cell? ⟨wr.heap.size, 3, none⟩ = some (.slice B1 m1 d1) := by simp [go_sem]
          have bl : wr.heap.size < (wr.alloc (.cells #[.int .i64 z1, .int .i64 z2, .slice A1 n1 c1, .slice B1 m1 d1] 43)).heap.size := by simp
          generalize wr.alloc (.cells #[.int .i64 z1, .int .i64 z2, .slice A1 n1 c1, .slice B1 m1 d1] 43) = v3 at *
          have bD : Below v3.heap.size v3 v3.drew := below_drewN (Below.refl _ v3) 1
          replace hC := hC.on bD
          replace hW := hW.on bD
          replace hbz := hbz.on bD
          rewrite [cR bD pal] at pa0 pa1 pa2 pa3 pa4 pa5
          replace pal := lK bD pal
          rewrite [cR bD bl] at b0 b1 b2 b3
          replace bl := lK bD bl
          replace cc := bK cc bD
          clear bD
          refine wp_region_held_drew (S := fun w' => w'.cell? ⟨w.heap.size, 0, none⟩ = some (.int .i64 kk) ∧ w'.cell? ⟨w.heap.size, 1, none⟩ = some (.int .i64 ks) ∧ w'.cell? ⟨w.heap.size, 2, none⟩ = some (.int .i64 km) ∧ w'.cell? ⟨w.heap.size, 3, none⟩ = some (.int .i64 ko) ∧ w'.cell? ⟨w.heap.size, 4, none⟩ = some (.int .i64 lg) ∧ w'.cell? ⟨w.heap.size, 5, none⟩ = some (.slice (some ⟨bb, off, none⟩) n c) ∧ w'.cell? ⟨wr.heap.size, 0, none⟩ = some (.int .i64 z1) ∧ w'.cell? ⟨wr.heap.size, 1, none⟩ = some (.int .i64 z2) ∧ w'.cell? ⟨wr.heap.size, 2, none⟩ = some (.slice A1 n1 c1) ∧ w'.cell? ⟨wr.heap.size, 3, none⟩ = some (.slice B1 m1 d1)) (by kernel_rfl) ?_ (fun hHeld => ?_)
          · exact ⟨pa0, pa1, pa2, pa3, pa4, pa5, b0, b1, b2, b3⟩
          refine tY (i := 0) (v := ?_) rfl ?_ hHeld ?_
          rotate_left
          · (intro w hSw; (try dsimp only at hSw); go_simp; (try with_reducible rfl))
          try simp only [Act.put, pT]
          refine wpAnyH_ready (rs := [1]) (by kernel_rfl) (by simp) ?_
          refine AllReadyH.cons rfl (fun K hK => ?_) AllReadyH.nil
          (try simp only [pT])
          rw [if_pos (by rfl)]
          go_simp
          go_at_call 23
          refine (CR hC hW).mono ?_
          rintro e w4 ⟨rfl, b⟩
          replace hC := hC.on b
          replace hW := hW.on b
          replace hbz := hbz.on b
          rewrite [cR b pal] at pa0 pa1 pa2 pa3 pa4 pa5
          replace pal := lK b pal
          rewrite [cR b bl] at b0 b1 b2 b3
          replace bl := lK b bl
          replace cc := bK cc b
          clear b
          refine hK.out _ _ ?_ (fun hHeld => ?_)
          · exact ⟨pa0, pa1, pa2, pa3, pa4, pa5, b0, b1, b2, b3⟩
          clear hK K
          try simp only [Act.put, pT]
          refine tY (i := 2) (v := ?_) rfl ?_ hHeld ?_
          rotate_left
          · (intro w hSw; (try dsimp only at hSw); go_simp; (try with_reducible rfl))
          try simp only [Act.put, pT]
          refine tY (i := 3) (v := ?_) rfl ?_ hHeld ?_
          rotate_left
          · (intro w hSw; (try dsimp only at hSw); go_simp; (try with_reducible rfl))
          try simp only [Act.put, pT]
          refine tY (i := 4) (v := ?_) rfl ?_ hHeld ?_
          rotate_left
          · (intro w hSw; (try dsimp only at hSw); go_simp; (try with_reducible rfl))
          try simp only [Act.put, pT]
          refine tY (i := 6) (v := ?_) rfl ?_ hHeld ?_
          rotate_left
          · (intro w hSw; (try dsimp only at hSw); go_simp; (try with_reducible rfl))
          try simp only [Act.put, pT]
          refine tY (i := 7) (v := ?_) rfl ?_ hHeld ?_
          rotate_left
          · (intro w hSw; (try dsimp only at hSw); go_simp; (try with_reducible rfl))
          try simp only [Act.put, pT]
          refine tY (i := 8) (v := ?_) rfl ?_ hHeld ?_
          rotate_left
          · (intro w hSw; (try dsimp only at hSw); go_simp; (try with_reducible rfl))
          try simp only [Act.put, pT]
          refine tY (i := 9) (v := ?_) rfl ?_ hHeld ?_
          rotate_left
          · (intro w hSw; (try dsimp only at hSw); go_simp; (try with_reducible rfl))
          try simp only [Act.put, pT]
          refine tY (i := 10) (v := ?_) rfl ?_ hHeld ?_
          rotate_left
          · (intro w hSw; (try dsimp only at hSw); go_simp; (try with_reducible rfl))
          try simp only [Act.put, pT]
          refine tY (i := 11) (v := ?_) rfl ?_ hHeld ?_
          rotate_left
          · (intro w hSw; (try dsimp only at hSw); go_simp; (try with_reducible rfl))
          try simp only [Act.put, pT]
          refine tY (i := 12) (v := ?_) rfl ?_ hHeld ?_
          rotate_left
          · (intro w hSw; (try dsimp only at hSw); go_simp; (try with_reducible rfl))
          try simp only [Act.put, pT]
          refine tY (i := 13) (v := ?_) rfl ?_ hHeld ?_
          rotate_left
          · (intro w hSw; (try dsimp only at hSw); go_simp; (try with_reducible rfl))
          try simp only [Act.put, pT]
          refine tY (i := 14) (v := ?_) rfl ?_ hHeld ?_
          rotate_left
          · (intro w hSw; (try dsimp only at hSw); go_simp; (try with_reducible rfl))
          try simp only [Act.put, pT]
          refine tY (i := 15) (v := ?_) rfl ?_ hHeld ?_
          rotate_left
          · (intro w hSw; (try dsimp only at hSw); go_simp; (try with_reducible rfl))
          try simp only [Act.put, pT]
          refine tY (i := 16) (v := ?_) rfl ?_ hHeld ?_
          rotate_left
          · (intro w hSw; (try dsimp only at hSw); go_simp; (try with_reducible rfl))
          try simp only [Act.put, pT]
          refine tY (i := 17) (v := ?_) rfl ?_ hHeld ?_
          rotate_left
          · (intro w hSw; (try dsimp only at hSw); go_simp; (try with_reducible rfl))
          try simp only [Act.put, pT]
          refine wpAnyH_ready (rs := [5]) (by kernel_rfl) (by simp) ?_
          refine AllReadyH.cons rfl (fun K hK => ?_) AllReadyH.nil
          (try simp only [pT])
          rw [if_pos (by rfl)]
          go_simp
          go_at_call 22
          refine (CL _).mono ?_
          rintro e w5 ⟨rfl, b⟩
          replace hC := hC.on b
          replace hW := hW.on b
          replace hbz := hbz.on b
          rewrite [cR b pal] at pa0 pa1 pa2 pa3 pa4 pa5
          replace pal := lK b pal
          rewrite [cR b bl] at b0 b1 b2 b3
          replace bl := lK b bl
          replace cc := bK cc b
          clear b
          refine hK.out _ _ ?_ (fun hHeld => ?_)
          · exact ⟨pa0, pa1, pa2, pa3, pa4, pa5, b0, b1, b2, b3⟩
          clear hK K
          try simp only [Act.put, pT]
          refine tY (i := 18) (v := ?_) rfl ?_ hHeld ?_
          rotate_left
          · (intro w hSw; (try dsimp only at hSw); go_simp; (try with_reducible rfl))
          try simp only [Act.put, pT]
          refine tY (i := 19) (v := ?_) rfl ?_ hHeld ?_
          rotate_left
          · (intro w hSw; (try dsimp only at hSw); go_simp; (try with_reducible rfl))
          try simp only [Act.put, pT]
          refine wpAnyH_done (by kernel_rfl) ?_ _
          clear hHeld
          go_wp2_with fail
          go_ret
          exact ⟨rfl, cc⟩
      · rw [decide_eq_false hok] at CR
        have hRF : R = false := HF.out (fun h => hok h.1)
        subst hRF
        clear HF HT
        clear hok
        go_upto_region 7 with fail
        have bqpa : w.heap.size < wr.heap.size := pal
        have bA := below_one wr (.cells #[.int .i64 z1, .int .i64 z2, .slice A1 n1 c1, .slice B1 m1 d1] 43)
        replace hC := hC.on bA
        replace hW := hW.on bA
        replace hbz := hbz.on bA
        rewrite [cR bA pal] at pa0 pa1 pa2 pa3 pa4 pa5
        replace pal := lK bA pal
        replace cc := bK cc bA
        clear bA
        have b0 : (wr.alloc (.cells #[.int .i64 z1, .int .i64 z2, .slice A1 n1 c1, .slice B1 m1 d1] 43)).cell? ⟨wr.heap.size, 0, none⟩ = some (.int .i64 z1) := by simp [go_sem]
        have b1 : (wr.alloc (.cells #[.int .i64 z1, .int .i64 z2, .slice A1 n1 c1, .slice B1 m1 d1] 43)).cell? ⟨wr.heap.size, 1, none⟩ = some (.int .i64 z2) := by simp [go_sem]
        have b2 : (wr.alloc (.cells #[.int .i64 z1, .int .i64 z2, .slice A1 n1 c1, .slice B1 m1 d1] 43)).cell? ⟨wr.heap.size, 2, none⟩ = some (.slice A1 n1 c1) := by simp [go_sem]
        have b3 : (wr.alloc (.cells #[.int .i64 z1, .int .i64 z2, .slice A1 n1 c1, .slice B1 m1 d1] 43)).cell? ⟨wr.heap.size, 3, none⟩ = some (.slice B1 m1 d1) := by simp [go_sem]
        have bl : wr.heap.size < (wr.alloc (.cells #[.int .i64 z1, .int .i64 z2, .slice A1 n1 c1, .slice B1 m1 d1] 43)).heap.size := by simp
        generalize wr.alloc (.cells #[.int .i64 z1, .int .i64 z2, .slice A1 n1 c1, .slice B1 m1 d1] 43) = v3 at *
        have bD : Below v3.heap.size v3 v3.drew := below_drewN (Below.refl _ v3) 1
        replace hC := hC.on bD
        replace hW := hW.on bD
        replace hbz := hbz.on bD
        rewrite [cR bD pal] at pa0 pa1 pa2 pa3 pa4 pa5
        replace pal := lK bD pal
        rewrite [cR bD bl] at b0 b1 b2 b3
        replace bl := lK bD bl
        replace cc := bK cc bD
        clear bD
        refine wp_region_held_drew (S := fun w' => w'.cell? ⟨w.heap.size, 0, none⟩ = some (.int .i64 kk) ∧ w'.cell? ⟨w.heap.size, 1, none⟩ = some (.int .i64 ks) ∧ w'.cell? ⟨w.heap.size, 2, none⟩ = some (.int .i64 km) ∧ w'.cell? ⟨w.heap.size, 3, none⟩ = some (.int .i64 ko) ∧ w'.cell? ⟨w.heap.size, 4, none⟩ = some (.int .i64 lg) ∧ w'.cell? ⟨w.heap.size, 5, none⟩ = some (.slice (some ⟨bb, off, none⟩) n c) ∧ w'.cell? ⟨wr.heap.size, 0, none⟩ = some (.int .i64 z1) ∧ w'.cell? ⟨wr.heap.size, 1, none⟩ = some (.int .i64 z2) ∧ w'.cell? ⟨wr.heap.size, 2, none⟩ = some (.slice A1 n1 c1) ∧ w'.cell? ⟨wr.heap.size, 3, none⟩ = some (.slice B1 m1 d1)) (by kernel_rfl) ?_ (fun hHeld => ?_)
        · exact ⟨pa0, pa1, pa2, pa3, pa4, pa5, b0, b1, b2, b3⟩
        refine tY (i := 0) (v := ?_) rfl ?_ hHeld ?_
        rotate_left
        · (intro w hSw; (try dsimp only at hSw); go_simp; (try with_reducible rfl))
        try simp only [Act.put, pT]
        refine wpAnyH_ready (rs := [1]) (by kernel_rfl) (by simp) ?_
        refine AllReadyH.cons rfl (fun K hK => ?_) AllReadyH.nil
        (try simp only [pT])
        rw [if_pos (by rfl)]
        go_simp
        go_at_call 23
        refine (CR hC hW).mono ?_
        rintro e w4 ⟨rfl, b⟩
        replace hC := hC.on b
        replace hW := hW.on b
        replace hbz := hbz.on b
        rewrite [cR b pal] at pa0 pa1 pa2 pa3 pa4 pa5
        replace pal := lK b pal
        rewrite [cR b bl] at b0 b1 b2 b3
        replace bl := lK b bl
        replace cc := bK cc b
        clear b
        refine hK.out _ _ ?_ (fun hHeld => ?_)
        · exact ⟨pa0, pa1, pa2, pa3, pa4, pa5, b0, b1, b2, b3⟩
        clear hK K
        try simp only [Act.put, pT]
        refine tY (i := 2) (v := ?_) rfl ?_ hHeld ?_
        rotate_left
        · (intro w hSw; (try dsimp only at hSw); go_simp; (try with_reducible rfl))
        try simp only [Act.put, pT]
        refine tY (i := 3) (v := ?_) rfl ?_ hHeld ?_
        rotate_left
        · (intro w hSw; (try dsimp only at hSw); go_simp; (try with_reducible rfl))
        try simp only [Act.put, pT]
        refine tU (i := 4) rfl hHeld ?_
        try simp only [Act.put, pT]
        refine tU (i := 5) rfl hHeld ?_
        try simp only [Act.put, pT]
        refine tU (i := 6) rfl hHeld ?_
        try simp only [Act.put, pT]
        refine tU (i := 7) rfl hHeld ?_
        try simp only [Act.put, pT]
        refine tU (i := 8) rfl hHeld ?_
        try simp only [Act.put, pT]
        refine tU (i := 9) rfl hHeld ?_
        try simp only [Act.put, pT]
        refine tU (i := 10) rfl hHeld ?_
        try simp only [Act.put, pT]
        refine tU (i := 11) rfl hHeld ?_
        try simp only [Act.put, pT]
        refine tU (i := 12) rfl hHeld ?_
        try simp only [Act.put, pT]
        refine tU (i := 13) rfl hHeld ?_
        try simp only [Act.put, pT]
        refine tU (i := 14) rfl hHeld ?_
        try simp only [Act.put, pT]
        refine tU (i := 15) rfl hHeld ?_
        try simp only [Act.put, pT]
        refine tU (i := 16) rfl hHeld ?_
        try simp only [Act.put, pT]
        refine tU (i := 17) rfl hHeld ?_
        try simp only [Act.put, pT]
        refine tU (i := 18) rfl hHeld ?_
        try simp only [Act.put, pT]
        refine tY (i := 19) (v := ?_) rfl ?_ hHeld ?_
        rotate_left
        · (intro w hSw; (try dsimp only at hSw); go_simp; (try with_reducible rfl))
        try simp only [Act.put, pT]
        refine wpAnyH_done (by kernel_rfl) ?_ _
        clear hHeld
        go_wp2_with fail
        go_ret
        exact ⟨rfl, cc⟩
    · obtain rfl : i = n := by omega
      have hRT : R = true := by rw [← HER.out]; exact HI.out
      subst hRT
      go_wp2_with fail
      go_ret
      exact ⟨rfl, cc⟩

theorem rRight14_N {w : World} {kk ks km ko lg : Int} {A : Option Addr} {n c : Nat} {L : List Bk} (hA : KR w A n c L) : Calls Tryz.prog 8 #[.agg #[.int .i64 kk, .int .i64 ks, .int .i64 km, .int .i64 ko, .int .i64 lg, .slice A n c]] w (GotV w (.bool (decide (OkS kk ks km ko lg L)))) := by
  by_cases hK : OkK kk ks km ko
  rotate_left
  · rw [decide_eq_false (fun h => hK h.1)]; exact rRight14_k hK
  by_cases h0 : lg < 0
  · rw [decide_eq_false (fun h => by have := h.2.1.1; omega)]; exact rRight14_neg hK h0
  by_cases h1 : 4096 < lg
  · rw [decide_eq_false (fun h => by have := h.2.1.2; omega)]; exact rRight14_big hK h0 h1
  by_cases h2 : (n : Int) = (lg + ks - 1) / ks
  · have h := rRight14_main hA hK h0 h1 h2
    rw [show decide (OkS kk ks km ko lg L) = allAt kk ks km ko lg L n from by
      rw [Bool.eq_iff_iff, decide_eq_true_eq]
      exact ⟨fun e => by have := e.2.2.2; rwa [← hA.1] at this, fun e => ⟨hK, ⟨by omega, by omega⟩, by rw [← hA.1]; exact h2, by rw [← hA.1]; exact e⟩⟩]
    exact h
  · rw [decide_eq_false (fun h => h2 (by rw [hA.1]; exact h.2.2.1))]; exact rRight14_len hK h0 h1 h2

end Go.Proofs.YtpidpebgeblenaaGreat
