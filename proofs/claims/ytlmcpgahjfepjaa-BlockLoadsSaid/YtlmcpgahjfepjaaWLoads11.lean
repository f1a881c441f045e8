/-
  The walk of BlockLoads.
-/
import Derived.Test.YtlmcpgahjfepjaaA10
namespace Go.Proofs.Ytlmcpgahjfepjaa
set_option maxRecDepth 100000
open Go.RowKit
set_option linter.unusedVariables false
set_option linter.unusedSimpArgs false

set_option maxRecDepth 100000 in
set_option maxHeartbeats 8000000 in
theorem BlockLoads_few {w : World} {k s : Int} {A B : Option Addr} {n c m d : Nat} (F0 : ∀ W : World, Calls Try.prog 21 #[.agg #[.int .i64 k, .int .i64 s, .slice A n c, .slice B m d], .int .i64 20] W (GotV W (.bool false))) :
    Calls Try.prog 4 #[.agg #[.int .i64 k, .int .i64 s, .slice A n c, .slice B m d]] w fun e w' => e = .returned (.bool true) ∧ Below w.heap.size w w' := by
  have cc := Below.refl w.heap.size w
  go_enter Try.func4, Try.ntmps4
  go_wp2_with fail
  have bA : Below w.heap.size w (w.alloc (.cells #[.int .i64 k, .int .i64 s, .slice A n c, .slice B m d] 26)) := ((Below.refl _ w).alloc (by simp) _)
  replace cc := cc.trans (bA.mono cc.size)
  clear bA
  have xa0 : (w.alloc (.cells #[.int .i64 k, .int .i64 s, .slice A n c, .slice B m d] 26)).cell? ⟨w.heap.size, 0, none⟩ = some (.int .i64 k) := by simp [go_sem]
  have xa1 : (w.alloc (.cells #[.int .i64 k, .int .i64 s, .slice A n c, .slice B m d] 26)).cell? ⟨w.heap.size, 1, none⟩ = some (.int .i64 s) := by simp [go_sem]
  have xa2 : (w.alloc (.cells #[.int .i64 k, .int .i64 s, .slice A n c, .slice B m d] 26)).cell? ⟨w.heap.size, 2, none⟩ = some (.slice A n c) := by simp [go_sem]
  have xa3 : (w.alloc (.cells #[.int .i64 k, .int .i64 s, .slice A n c, .slice B m d] 26)).cell? ⟨w.heap.size, 3, none⟩ = some (.slice B m d) := by simp [go_sem]
  have xal : w.heap.size < (w.alloc (.cells #[.int .i64 k, .int .i64 s, .slice A n c, .slice B m d] 26)).heap.size := by simp <;> omega
  generalize w.alloc (.cells #[.int .i64 k, .int .i64 s, .slice A n c, .slice B m d] 26) = v1 at *
  go_wp2_with fail
  refine (F0 _).mono ?_
  rintro e w2 ⟨rfl, b⟩
  replace xa0 := (b.cell (p := ⟨w.heap.size, 0, none⟩) xal).trans xa0
  replace xa1 := (b.cell (p := ⟨w.heap.size, 1, none⟩) xal).trans xa1
  replace xa2 := (b.cell (p := ⟨w.heap.size, 2, none⟩) xal).trans xa2
  replace xa3 := (b.cell (p := ⟨w.heap.size, 3, none⟩) xal).trans xa3
  replace xal := Nat.lt_of_lt_of_le xal b.size
  replace cc := cc.trans (b.mono cc.size)
  clear b
  go_wp2_with fail
  refine (alive11_any _).mono ?_
  rintro e w3 ⟨rfl, b⟩
  replace xa0 := (b.cell (p := ⟨w.heap.size, 0, none⟩) xal).trans xa0
  replace xa1 := (b.cell (p := ⟨w.heap.size, 1, none⟩) xal).trans xa1
  replace xa2 := (b.cell (p := ⟨w.heap.size, 2, none⟩) xal).trans xa2
  replace xa3 := (b.cell (p := ⟨w.heap.size, 3, none⟩) xal).trans xa3
  replace xal := Nat.lt_of_lt_of_le xal b.size
  replace cc := cc.trans (b.mono cc.size)
  clear b
  go_wp2_with fail
  go_ret
  exact ⟨rfl, cc⟩

set_option maxRecDepth 100000 in
set_option maxHeartbeats 8000000 in
theorem BlockLoads_no {w : World} {k s : Int} {A B : Option Addr} {n c m d : Nat} {C : List Nat} {E : List Int} (hC : BR w A n c C) (hW : IR w B m d E) (F0 : ∀ W : World, Calls Try.prog 21 #[.agg #[.int .i64 k, .int .i64 s, .slice A n c, .slice B m d], .int .i64 20] W (GotV W (.bool true))) (R0 : ∀ {W : World}, BR W A n c C → IR W B m d E → Calls Try.prog 22 #[.agg #[.int .i64 k, .int .i64 s, .slice A n c, .slice B m d]] W (GotV W (.bool false))) :
    Calls Try.prog 4 #[.agg #[.int .i64 k, .int .i64 s, .slice A n c, .slice B m d]] w fun e w' => e = .returned (.bool true) ∧ Below w.heap.size w w' := by
  have cc := Below.refl w.heap.size w
  go_enter Try.func4, Try.ntmps4
  go_wp2_with fail
  have bA : Below w.heap.size w (w.alloc (.cells #[.int .i64 k, .int .i64 s, .slice A n c, .slice B m d] 26)) := ((Below.refl _ w).alloc (by simp) _)
  replace hC := hC.on bA
  replace hW := hW.on bA
  replace cc := cc.trans (bA.mono cc.size)
  clear bA
  have xa0 : (w.alloc (.cells #[.int .i64 k, .int .i64 s, .slice A n c, .slice B m d] 26)).cell? ⟨w.heap.size, 0, none⟩ = some (.int .i64 k) := by simp [go_sem]
  have xa1 : (w.alloc (.cells #[.int .i64 k, .int .i64 s, .slice A n c, .slice B m d] 26)).cell? ⟨w.heap.size, 1, none⟩ = some (.int .i64 s) := by simp [go_sem]
  have xa2 : (w.alloc (.cells #[.int .i64 k, .int .i64 s, .slice A n c, .slice B m d] 26)).cell? ⟨w.heap.size, 2, none⟩ = some (.slice A n c) := by simp [go_sem]
  have xa3 : (w.alloc (.cells #[.int .i64 k, .int .i64 s, .slice A n c, .slice B m d] 26)).cell? ⟨w.heap.size, 3, none⟩ = some (.slice B m d) := by simp [go_sem]
  have xal : w.heap.size < (w.alloc (.cells #[.int .i64 k, .int .i64 s, .slice A n c, .slice B m d] 26)).heap.size := by simp <;> omega
  generalize w.alloc (.cells #[.int .i64 k, .int .i64 s, .slice A n c, .slice B m d] 26) = v1 at *
  go_wp2_with fail
  refine (F0 _).mono ?_
  rintro e w2 ⟨rfl, b⟩
  replace hC := hC.on b
  replace hW := hW.on b
  replace xa0 := (b.cell (p := ⟨w.heap.size, 0, none⟩) xal).trans xa0
  replace xa1 := (b.cell (p := ⟨w.heap.size, 1, none⟩) xal).trans xa1
  replace xa2 := (b.cell (p := ⟨w.heap.size, 2, none⟩) xal).trans xa2
  replace xa3 := (b.cell (p := ⟨w.heap.size, 3, none⟩) xal).trans xa3
  replace xal := Nat.lt_of_lt_of_le xal b.size
  replace cc := cc.trans (b.mono cc.size)
  clear b
  go_wp2_with fail
  refine (R0 hC hW).mono ?_
  rintro e w3 ⟨rfl, b⟩
  replace hC := hC.on b
  replace hW := hW.on b
  replace xa0 := (b.cell (p := ⟨w.heap.size, 0, none⟩) xal).trans xa0
  replace xa1 := (b.cell (p := ⟨w.heap.size, 1, none⟩) xal).trans xa1
  replace xa2 := (b.cell (p := ⟨w.heap.size, 2, none⟩) xal).trans xa2
  replace xa3 := (b.cell (p := ⟨w.heap.size, 3, none⟩) xal).trans xa3
  replace xal := Nat.lt_of_lt_of_le xal b.size
  replace cc := cc.trans (b.mono cc.size)
  clear b
  go_wp2_with fail
  refine (alive11_any _).mono ?_
  rintro e w4 ⟨rfl, b⟩
  replace hC := hC.on b
  replace hW := hW.on b
  replace xa0 := (b.cell (p := ⟨w.heap.size, 0, none⟩) xal).trans xa0
  replace xa1 := (b.cell (p := ⟨w.heap.size, 1, none⟩) xal).trans xa1
  replace xa2 := (b.cell (p := ⟨w.heap.size, 2, none⟩) xal).trans xa2
  replace xa3 := (b.cell (p := ⟨w.heap.size, 3, none⟩) xal).trans xa3
  replace xal := Nat.lt_of_lt_of_le xal b.size
  replace cc := cc.trans (b.mono cc.size)
  clear b
  go_wp2_with fail
  go_ret
  exact ⟨rfl, cc⟩

set_option maxRecDepth 100000 in
set_option maxHeartbeats 8000000 in
theorem BlockLoads_w {w : World} {k s : Int} {A B : Option Addr} {n c m d : Nat} {C : List Nat} {E : List Int} (hC : BR w A n c C) (hW : IR w B m d E) {L : List Int} {q : Int} {sg : Bool} (hq : q = ((L.length : Nat) : Int)) (hm20 : L.length ≤ 4096) (hk : k = 4) (F0 : ∀ W : World, Calls Try.prog 21 #[.agg #[.int .i64 k, .int .i64 s, .slice A n c, .slice B m d], .int .i64 20] W (GotV W (.bool true))) (R0 : ∀ {W : World}, BR W A n c C → IR W B m d E → Calls Try.prog 22 #[.agg #[.int .i64 k, .int .i64 s, .slice A n c, .slice B m d]] W (GotV W (.bool true))) (D0 : ∀ {W : World}, BR W A n c C → IR W B m d E → Calls Try.prog 10 #[.agg #[.int .i64 k, .int .i64 s, .slice A n c, .slice B m d]] W (GotI W L)) (L0 : ∀ W : World, Calls Try.prog 23 #[.agg #[.int .i64 k, .int .i64 s, .slice A n c, .slice B m d]] W (GotV W (.int .i64 q))) :
    Calls Try.prog 4 #[.agg #[.int .i64 k, .int .i64 s, .slice A n c, .slice B m d]] w fun e w' => e = .returned (.bool true) ∧ Below w.heap.size w w' := by
  obtain ⟨N, hN⟩ : ∃ N, N = L.length := ⟨_, rfl⟩
  have HN := Lib.hid hN
  rw [← hN] at hq hm20
  subst hq
  clear hN
  subst hk
  have cc := Below.refl w.heap.size w
  go_enter Try.func4, Try.ntmps4
  go_wp2_with fail
  have bA : Below w.heap.size w (w.alloc (.cells #[.int .i64 4, .int .i64 s, .slice A n c, .slice B m d] 26)) := ((Below.refl _ w).alloc (by simp) _)
  replace hC := hC.on bA
  replace hW := hW.on bA
  replace cc := cc.trans (bA.mono cc.size)
  clear bA
  have xa0 : (w.alloc (.cells #[.int .i64 4, .int .i64 s, .slice A n c, .slice B m d] 26)).cell? ⟨w.heap.size, 0, none⟩ = some (.int .i64 4) := by simp [go_sem]
  have xa1 : (w.alloc (.cells #[.int .i64 4, .int .i64 s, .slice A n c, .slice B m d] 26)).cell? ⟨w.heap.size, 1, none⟩ = some (.int .i64 s) := by simp [go_sem]
  have xa2 : (w.alloc (.cells #[.int .i64 4, .int .i64 s, .slice A n c, .slice B m d] 26)).cell? ⟨w.heap.size, 2, none⟩ = some (.slice A n c) := by simp [go_sem]
  have xa3 : (w.alloc (.cells #[.int .i64 4, .int .i64 s, .slice A n c, .slice B m d] 26)).cell? ⟨w.heap.size, 3, none⟩ = some (.slice B m d) := by simp [go_sem]
  have xal : w.heap.size < (w.alloc (.cells #[.int .i64 4, .int .i64 s, .slice A n c, .slice B m d] 26)).heap.size := by simp <;> omega
  generalize w.alloc (.cells #[.int .i64 4, .int .i64 s, .slice A n c, .slice B m d] 26) = v1 at *
  go_wp2_with fail
  refine (F0 _).mono ?_
  rintro e w2 ⟨rfl, b⟩
  replace hC := hC.on b
  replace hW := hW.on b
  replace xa0 := (b.cell (p := ⟨w.heap.size, 0, none⟩) xal).trans xa0
  replace xa1 := (b.cell (p := ⟨w.heap.size, 1, none⟩) xal).trans xa1
  replace xa2 := (b.cell (p := ⟨w.heap.size, 2, none⟩) xal).trans xa2
  replace xa3 := (b.cell (p := ⟨w.heap.size, 3, none⟩) xal).trans xa3
  replace xal := Nat.lt_of_lt_of_le xal b.size
  replace cc := cc.trans (b.mono cc.size)
  clear b
  go_wp2_with fail
  refine (R0 hC hW).mono ?_
  rintro e w3 ⟨rfl, b⟩
  replace hC := hC.on b
  replace hW := hW.on b
  replace xa0 := (b.cell (p := ⟨w.heap.size, 0, none⟩) xal).trans xa0
  replace xa1 := (b.cell (p := ⟨w.heap.size, 1, none⟩) xal).trans xa1
  replace xa2 := (b.cell (p := ⟨w.heap.size, 2, none⟩) xal).trans xa2
  replace xa3 := (b.cell (p := ⟨w.heap.size, 3, none⟩) xal).trans xa3
  replace xal := Nat.lt_of_lt_of_le xal b.size
  replace cc := cc.trans (b.mono cc.size)
  clear b
  go_wp2_with fail
  refine (D0 hC hW).mono ?_
  rintro e w4 ⟨Ax, nx, cx, rfl, hx, b⟩
  replace hC := hC.on b
  replace hW := hW.on b
  replace xa0 := (b.cell (p := ⟨w.heap.size, 0, none⟩) xal).trans xa0
  replace xa1 := (b.cell (p := ⟨w.heap.size, 1, none⟩) xal).trans xa1
  replace xa2 := (b.cell (p := ⟨w.heap.size, 2, none⟩) xal).trans xa2
  replace xa3 := (b.cell (p := ⟨w.heap.size, 3, none⟩) xal).trans xa3
  replace xal := Nat.lt_of_lt_of_le xal b.size
  replace cc := cc.trans (b.mono cc.size)
  clear b
  obtain rfl : nx = N := hx.1.trans HN.out.symm
  go_wp2_with fail
  refine (L0 _).mono ?_
  rintro e w5 ⟨rfl, b⟩
  replace hC := hC.on b
  replace hW := hW.on b
  replace hx := hx.on b
  replace xa0 := (b.cell (p := ⟨w.heap.size, 0, none⟩) xal).trans xa0
  replace xa1 := (b.cell (p := ⟨w.heap.size, 1, none⟩) xal).trans xa1
  replace xa2 := (b.cell (p := ⟨w.heap.size, 2, none⟩) xal).trans xa2
  replace xa3 := (b.cell (p := ⟨w.heap.size, 3, none⟩) xal).trans xa3
  replace xal := Nat.lt_of_lt_of_le xal b.size
  replace cc := cc.trans (b.mono cc.size)
  clear b
  have XA0 := Lib.hid xa0
  have XA1 := Lib.hid xa1
  have XAL := Lib.hid xal
  have CCV := Lib.hid cc
  have HXV := Lib.hid hx
  clear xa0 xa1 xa2 xa3 xal cc hx hC hW
  go_wp2_with fail
  go_loopw [4] (fun iv wr => ∃ i : Nat, i ≤ nx ∧ iv = .int .i64 (i : Int) ∧ Below w5.heap.size w5 wr) (fun iv _ => nx - (intOf iv).toNat)
  case atStart => exact ⟨0, by omega, rfl, Below.refl _ _⟩
  case round =>
    obtain ⟨i, hi, rfl, hbl⟩ := hrel
    have xa0 := (hbl.cell (p := ⟨w.heap.size, 0, none⟩) XAL.out).trans XA0.out
    have xa1 := (hbl.cell (p := ⟨w.heap.size, 1, none⟩) XAL.out).trans XA1.out
    have xal := Nat.lt_of_lt_of_le XAL.out hbl.size
    have cc := CCV.out.trans (hbl.mono CCV.out.size)
    by_cases hlt : i < nx
    · obtain ⟨bb, off, rfl, hb, hcell⟩ := (HXV.out.on hbl).2.2 (by omega)
      have e1 := hcell i hlt
      have k3 : IntKind.i64.wrap ((i : Int) + 1) = ((i + 1 : Nat) : Int) := by rw [IntWalk.i64_in _ (by omega)]; omega
      have hlen := HN.out
      obtain ⟨x, hx⟩ : ∃ x, L[i]?.getD 0 = x := ⟨_, rfl⟩
      rw [hx] at e1
      clear hcell hx hlen
      have hB1 := hbl
      go_wp2_with fail
      have bD : Below wr.heap.size wr wr.drew := below_drewN (Below.refl _ wr) 1
      replace hB1 := hB1.trans (bD.mono hB1.size)
      replace e1 := (bD.cell (p := ⟨bb, off + i, none⟩) hb).trans e1
      replace hb := Nat.lt_of_lt_of_le hb bD.size
      replace xa0 := (bD.cell (p := ⟨w.heap.size, 0, none⟩) xal).trans xa0
      replace xa1 := (bD.cell (p := ⟨w.heap.size, 1, none⟩) xal).trans xa1
      replace xal := Nat.lt_of_lt_of_le xal bD.size
      replace cc := cc.trans (bD.mono cc.size)
      clear bD
      refine wp_region_held_drew (S := fun w' => w'.cell? ⟨bb, off + i, none⟩ = some (.int .i64 x) ∧ w'.cell? ⟨w.heap.size, 0, none⟩ = some (.int .i64 4) ∧ w'.cell? ⟨w.heap.size, 1, none⟩ = some (.int .i64 s)) (by kernel_rfl) ?_ (fun hHeld => ?_)
      · exact ⟨e1, xa0, xa1⟩
      refine wpAnyH_take (i := 0) (v := ?_) rfl (by kernel_rfl) (by kernel_rfl) (by kernel_rfl) (fun _ _ _ h => h) (Or.inl ⟨by rfl, ?_⟩) hHeld ?_
      rotate_left
      · (intro w hSw; (try dsimp only at hSw); go_simp; (try with_reducible rfl))
      try simp only [Act.put, List.getElem_toArray, List.getElem_cons_zero, List.getElem_cons_succ, List.setIfInBounds_toArray, List.set_cons_zero, List.set_cons_succ]
      refine wpAnyH_take (i := 1) (v := ?_) rfl (by kernel_rfl) (by kernel_rfl) (by kernel_rfl) (fun _ _ _ h => h) (Or.inl ⟨by rfl, ?_⟩) hHeld ?_
      rotate_left
      · (intro w hSw; (try dsimp only at hSw); go_simp; (try with_reducible rfl))
      try simp only [Act.put, List.getElem_toArray, List.getElem_cons_zero, List.getElem_cons_succ, List.setIfInBounds_toArray, List.set_cons_zero, List.set_cons_succ]
      refine wpAnyH_take (i := 2) (v := ?_) rfl (by kernel_rfl) (by kernel_rfl) (by kernel_rfl) (fun _ _ _ h => h) (Or.inl ⟨by rfl, ?_⟩) hHeld ?_
      rotate_left
      · (intro w hSw; (try dsimp only at hSw); go_simp; (try with_reducible rfl))
      try simp only [Act.put, List.getElem_toArray, List.getElem_cons_zero, List.getElem_cons_succ, List.setIfInBounds_toArray, List.set_cons_zero, List.set_cons_succ]
      refine wpAnyH_take (i := 3) (v := ?_) rfl (by kernel_rfl) (by kernel_rfl) (by kernel_rfl) (fun _ _ _ h => h) (Or.inl ⟨by rfl, ?_⟩) hHeld ?_
      rotate_left
      · (intro w hSw; (try dsimp only at hSw); go_simp; (try with_reducible rfl))
      try simp only [Act.put, List.getElem_toArray, List.getElem_cons_zero, List.getElem_cons_succ, List.setIfInBounds_toArray, List.set_cons_zero, List.set_cons_succ]
      refine wpAnyH_take (i := 4) (v := undef) rfl (by kernel_rfl) (by kernel_rfl) (by kernel_rfl) (fun _ _ _ h => h) (Or.inr ⟨by rfl, rfl⟩) hHeld ?_
      try simp only [Act.put, List.getElem_toArray, List.getElem_cons_zero, List.getElem_cons_succ, List.setIfInBounds_toArray, List.set_cons_zero, List.set_cons_succ]
      refine wpAnyH_take (i := 5) (v := undef) rfl (by kernel_rfl) (by kernel_rfl) (by kernel_rfl) (fun _ _ _ h => h) (Or.inr ⟨by rfl, rfl⟩) hHeld ?_
      try simp only [Act.put, List.getElem_toArray, List.getElem_cons_zero, List.getElem_cons_succ, List.setIfInBounds_toArray, List.set_cons_zero, List.set_cons_succ]
      refine wpAnyH_take (i := 6) (v := undef) rfl (by kernel_rfl) (by kernel_rfl) (by kernel_rfl) (fun _ _ _ h => h) (Or.inr ⟨by rfl, rfl⟩) hHeld ?_
      try simp only [Act.put, List.getElem_toArray, List.getElem_cons_zero, List.getElem_cons_succ, List.setIfInBounds_toArray, List.set_cons_zero, List.set_cons_succ]
      refine wpAnyH_take (i := 7) (v := undef) rfl (by kernel_rfl) (by kernel_rfl) (by kernel_rfl) (fun _ _ _ h => h) (Or.inr ⟨by rfl, rfl⟩) hHeld ?_
      try simp only [Act.put, List.getElem_toArray, List.getElem_cons_zero, List.getElem_cons_succ, List.setIfInBounds_toArray, List.set_cons_zero, List.set_cons_succ]
      refine wpAnyH_take (i := 8) (v := undef) rfl (by kernel_rfl) (by kernel_rfl) (by kernel_rfl) (fun _ _ _ h => h) (Or.inr ⟨by rfl, rfl⟩) hHeld ?_
      try simp only [Act.put, List.getElem_toArray, List.getElem_cons_zero, List.getElem_cons_succ, List.setIfInBounds_toArray, List.set_cons_zero, List.set_cons_succ]
      refine wpAnyH_take (i := 9) (v := undef) rfl (by kernel_rfl) (by kernel_rfl) (by kernel_rfl) (fun _ _ _ h => h) (Or.inr ⟨by rfl, rfl⟩) hHeld ?_
      try simp only [Act.put, List.getElem_toArray, List.getElem_cons_zero, List.getElem_cons_succ, List.setIfInBounds_toArray, List.set_cons_zero, List.set_cons_succ]
      refine wpAnyH_take (i := 10) (v := undef) rfl (by kernel_rfl) (by kernel_rfl) (by kernel_rfl) (fun _ _ _ h => h) (Or.inr ⟨by rfl, rfl⟩) hHeld ?_
      try simp only [Act.put, List.getElem_toArray, List.getElem_cons_zero, List.getElem_cons_succ, List.setIfInBounds_toArray, List.set_cons_zero, List.set_cons_succ]
      refine wpAnyH_take (i := 11) (v := undef) rfl (by kernel_rfl) (by kernel_rfl) (by kernel_rfl) (fun _ _ _ h => h) (Or.inr ⟨by rfl, rfl⟩) hHeld ?_
      try simp only [Act.put, List.getElem_toArray, List.getElem_cons_zero, List.getElem_cons_succ, List.setIfInBounds_toArray, List.set_cons_zero, List.set_cons_succ]
      refine wpAnyH_take (i := 12) (v := undef) rfl (by kernel_rfl) (by kernel_rfl) (by kernel_rfl) (fun _ _ _ h => h) (Or.inr ⟨by rfl, rfl⟩) hHeld ?_
      try simp only [Act.put, List.getElem_toArray, List.getElem_cons_zero, List.getElem_cons_succ, List.setIfInBounds_toArray, List.set_cons_zero, List.set_cons_succ]
      refine wpAnyH_take (i := 13) (v := undef) rfl (by kernel_rfl) (by kernel_rfl) (by kernel_rfl) (fun _ _ _ h => h) (Or.inr ⟨by rfl, rfl⟩) hHeld ?_
      try simp only [Act.put, List.getElem_toArray, List.getElem_cons_zero, List.getElem_cons_succ, List.setIfInBounds_toArray, List.set_cons_zero, List.set_cons_succ]
      refine wpAnyH_take (i := 14) (v := undef) rfl (by kernel_rfl) (by kernel_rfl) (by kernel_rfl) (fun _ _ _ h => h) (Or.inr ⟨by rfl, rfl⟩) hHeld ?_
      try simp only [Act.put, List.getElem_toArray, List.getElem_cons_zero, List.getElem_cons_succ, List.setIfInBounds_toArray, List.set_cons_zero, List.set_cons_succ]
      refine wpAnyH_take (i := 15) (v := undef) rfl (by kernel_rfl) (by kernel_rfl) (by kernel_rfl) (fun _ _ _ h => h) (Or.inr ⟨by rfl, rfl⟩) hHeld ?_
      try simp only [Act.put, List.getElem_toArray, List.getElem_cons_zero, List.getElem_cons_succ, List.setIfInBounds_toArray, List.set_cons_zero, List.set_cons_succ]
      refine wpAnyH_take (i := 16) (v := undef) rfl (by kernel_rfl) (by kernel_rfl) (by kernel_rfl) (fun _ _ _ h => h) (Or.inr ⟨by rfl, rfl⟩) hHeld ?_
      try simp only [Act.put, List.getElem_toArray, List.getElem_cons_zero, List.getElem_cons_succ, List.setIfInBounds_toArray, List.set_cons_zero, List.set_cons_succ]
      refine wpAnyH_take (i := 17) (v := undef) rfl (by kernel_rfl) (by kernel_rfl) (by kernel_rfl) (fun _ _ _ h => h) (Or.inr ⟨by rfl, rfl⟩) hHeld ?_
      try simp only [Act.put, List.getElem_toArray, List.getElem_cons_zero, List.getElem_cons_succ, List.setIfInBounds_toArray, List.set_cons_zero, List.set_cons_succ]
      refine wpAnyH_take (i := 18) (v := undef) rfl (by kernel_rfl) (by kernel_rfl) (by kernel_rfl) (fun _ _ _ h => h) (Or.inr ⟨by rfl, rfl⟩) hHeld ?_
      try simp only [Act.put, List.getElem_toArray, List.getElem_cons_zero, List.getElem_cons_succ, List.setIfInBounds_toArray, List.set_cons_zero, List.set_cons_succ]
      refine wpAnyH_take (i := 19) (v := undef) rfl (by kernel_rfl) (by kernel_rfl) (by kernel_rfl) (fun _ _ _ h => h) (Or.inr ⟨by rfl, rfl⟩) hHeld ?_
      try simp only [Act.put, List.getElem_toArray, List.getElem_cons_zero, List.getElem_cons_succ, List.setIfInBounds_toArray, List.set_cons_zero, List.set_cons_succ]
      refine wpAnyH_take (i := 20) (v := undef) rfl (by kernel_rfl) (by kernel_rfl) (by kernel_rfl) (fun _ _ _ h => h) (Or.inr ⟨by rfl, rfl⟩) hHeld ?_
      try simp only [Act.put, List.getElem_toArray, List.getElem_cons_zero, List.getElem_cons_succ, List.setIfInBounds_toArray, List.set_cons_zero, List.set_cons_succ]
      refine wpAnyH_take (i := 21) (v := undef) rfl (by kernel_rfl) (by kernel_rfl) (by kernel_rfl) (fun _ _ _ h => h) (Or.inr ⟨by rfl, rfl⟩) hHeld ?_
      try simp only [Act.put, List.getElem_toArray, List.getElem_cons_zero, List.getElem_cons_succ, List.setIfInBounds_toArray, List.set_cons_zero, List.set_cons_succ]
      refine wpAnyH_take (i := 22) (v := undef) rfl (by kernel_rfl) (by kernel_rfl) (by kernel_rfl) (fun _ _ _ h => h) (Or.inr ⟨by rfl, rfl⟩) hHeld ?_
      try simp only [Act.put, List.getElem_toArray, List.getElem_cons_zero, List.getElem_cons_succ, List.setIfInBounds_toArray, List.set_cons_zero, List.set_cons_succ]
      refine wpAnyH_take (i := 23) (v := undef) rfl (by kernel_rfl) (by kernel_rfl) (by kernel_rfl) (fun _ _ _ h => h) (Or.inr ⟨by rfl, rfl⟩) hHeld ?_
      try simp only [Act.put, List.getElem_toArray, List.getElem_cons_zero, List.getElem_cons_succ, List.setIfInBounds_toArray, List.set_cons_zero, List.set_cons_succ]
      refine wpAnyH_take (i := 24) (v := undef) rfl (by kernel_rfl) (by kernel_rfl) (by kernel_rfl) (fun _ _ _ h => h) (Or.inr ⟨by rfl, rfl⟩) hHeld ?_
      try simp only [Act.put, List.getElem_toArray, List.getElem_cons_zero, List.getElem_cons_succ, List.setIfInBounds_toArray, List.set_cons_zero, List.set_cons_succ]
      refine wpAnyH_take (i := 25) (v := undef) rfl (by kernel_rfl) (by kernel_rfl) (by kernel_rfl) (fun _ _ _ h => h) (Or.inr ⟨by rfl, rfl⟩) hHeld ?_
      try simp only [Act.put, List.getElem_toArray, List.getElem_cons_zero, List.getElem_cons_succ, List.setIfInBounds_toArray, List.set_cons_zero, List.set_cons_succ]
      refine wpAnyH_take (i := 26) (v := undef) rfl (by kernel_rfl) (by kernel_rfl) (by kernel_rfl) (fun _ _ _ h => h) (Or.inr ⟨by rfl, rfl⟩) hHeld ?_
      try simp only [Act.put, List.getElem_toArray, List.getElem_cons_zero, List.getElem_cons_succ, List.setIfInBounds_toArray, List.set_cons_zero, List.set_cons_succ]
      refine wpAnyH_take (i := 27) (v := undef) rfl (by kernel_rfl) (by kernel_rfl) (by kernel_rfl) (fun _ _ _ h => h) (Or.inr ⟨by rfl, rfl⟩) hHeld ?_
      try simp only [Act.put, List.getElem_toArray, List.getElem_cons_zero, List.getElem_cons_succ, List.setIfInBounds_toArray, List.set_cons_zero, List.set_cons_succ]
      refine wpAnyH_take (i := 28) (v := undef) rfl (by kernel_rfl) (by kernel_rfl) (by kernel_rfl) (fun _ _ _ h => h) (Or.inr ⟨by rfl, rfl⟩) hHeld ?_
      try simp only [Act.put, List.getElem_toArray, List.getElem_cons_zero, List.getElem_cons_succ, List.setIfInBounds_toArray, List.set_cons_zero, List.set_cons_succ]
      refine wpAnyH_take (i := 29) (v := undef) rfl (by kernel_rfl) (by kernel_rfl) (by kernel_rfl) (fun _ _ _ h => h) (Or.inr ⟨by rfl, rfl⟩) hHeld ?_
      try simp only [Act.put, List.getElem_toArray, List.getElem_cons_zero, List.getElem_cons_succ, List.setIfInBounds_toArray, List.set_cons_zero, List.set_cons_succ]
      refine wpAnyH_take (i := 30) (v := undef) rfl (by kernel_rfl) (by kernel_rfl) (by kernel_rfl) (fun _ _ _ h => h) (Or.inr ⟨by rfl, rfl⟩) hHeld ?_
      try simp only [Act.put, List.getElem_toArray, List.getElem_cons_zero, List.getElem_cons_succ, List.setIfInBounds_toArray, List.set_cons_zero, List.set_cons_succ]
      refine wpAnyH_take (i := 31) (v := undef) rfl (by kernel_rfl) (by kernel_rfl) (by kernel_rfl) (fun _ _ _ h => h) (Or.inr ⟨by rfl, rfl⟩) hHeld ?_
      try simp only [Act.put, List.getElem_toArray, List.getElem_cons_zero, List.getElem_cons_succ, List.setIfInBounds_toArray, List.set_cons_zero, List.set_cons_succ]
      refine wpAnyH_take (i := 32) (v := undef) rfl (by kernel_rfl) (by kernel_rfl) (by kernel_rfl) (fun _ _ _ h => h) (Or.inr ⟨by rfl, rfl⟩) hHeld ?_
      try simp only [Act.put, List.getElem_toArray, List.getElem_cons_zero, List.getElem_cons_succ, List.setIfInBounds_toArray, List.set_cons_zero, List.set_cons_succ]
      refine wpAnyH_take (i := 33) (v := undef) rfl (by kernel_rfl) (by kernel_rfl) (by kernel_rfl) (fun _ _ _ h => h) (Or.inr ⟨by rfl, rfl⟩) hHeld ?_
      try simp only [Act.put, List.getElem_toArray, List.getElem_cons_zero, List.getElem_cons_succ, List.setIfInBounds_toArray, List.set_cons_zero, List.set_cons_succ]
      refine wpAnyH_take (i := 34) (v := ?_) rfl (by kernel_rfl) (by kernel_rfl) (by kernel_rfl) (fun _ _ _ h => h) (Or.inl ⟨by rfl, ?_⟩) hHeld ?_
      rotate_left
      · (intro w hSw; (try dsimp only at hSw); go_simp; (try with_reducible rfl))
      try simp only [Act.put, List.getElem_toArray, List.getElem_cons_zero, List.getElem_cons_succ, List.setIfInBounds_toArray, List.set_cons_zero, List.set_cons_succ]
      refine wpAnyH_done (by kernel_rfl) ?_ _
      clear hHeld
      go_wp2_with fail
      go_roundw
      case rel => exact ⟨i + 1, by omega, rfl, hB1⟩
      case measure => simp [intOf] <;> omega
    · obtain rfl : i = nx := by omega
      clear xa0 xa1 xal
      go_wp2_with fail
      refine (alive11_any _).mono ?_
      rintro e w6 ⟨rfl, b⟩
      replace cc := cc.trans (b.mono cc.size)
      clear b
      go_wp2_with fail
      go_ret
      exact ⟨rfl, cc⟩

set_option maxRecDepth 100000 in
set_option maxHeartbeats 8000000 in
theorem BlockLoads_c {w : World} {k s : Int} {A B : Option Addr} {n c m d : Nat} {C : List Nat} {E : List Int} (hC : BR w A n c C) (hW : IR w B m d E) {L : List Int} {q : Int} {sg : Bool} (hq : q = ((L.length : Nat) : Int)) (hm20 : L.length ≤ 4096) (hk : k ≠ 4) (hs0 : 0 ≤ s) (hs : I64 s) (hb : ∀ j, j < L.length → -s ≤ L[j]?.getD 0 ∧ L[j]?.getD 0 ≤ s ∧ (L[j]?.getD 0 < 0 → sg = true)) (CS : ∀ W : World, Calls Try.prog 24 #[.int .i64 k] W (GotV W (.bool sg))) (F0 : ∀ W : World, Calls Try.prog 21 #[.agg #[.int .i64 k, .int .i64 s, .slice A n c, .slice B m d], .int .i64 20] W (GotV W (.bool true))) (R0 : ∀ {W : World}, BR W A n c C → IR W B m d E → Calls Try.prog 22 #[.agg #[.int .i64 k, .int .i64 s, .slice A n c, .slice B m d]] W (GotV W (.bool true))) (D0 : ∀ {W : World}, BR W A n c C → IR W B m d E → Calls Try.prog 10 #[.agg #[.int .i64 k, .int .i64 s, .slice A n c, .slice B m d]] W (GotI W L)) (L0 : ∀ W : World, Calls Try.prog 23 #[.agg #[.int .i64 k, .int .i64 s, .slice A n c, .slice B m d]] W (GotV W (.int .i64 q))) :
    Calls Try.prog 4 #[.agg #[.int .i64 k, .int .i64 s, .slice A n c, .slice B m d]] w fun e w' => e = .returned (.bool true) ∧ Below w.heap.size w w' := by
  obtain ⟨N, hN⟩ : ∃ N, N = L.length := ⟨_, rfl⟩
  have HN := Lib.hid hN
  rw [← hN] at hq hm20
  subst hq
  clear hN
  have k4 : (k == 4) = false := beq_eq_false_iff_ne.2 hk
  have k5 : (k != 4) = true := by simp; exact hk
  have hs2 : IntKind.i64.wrap (-s) = -s := IntWalk.i64_in _ (by unfold I64 at hs; omega)
  have HB := Lib.hid hb
  clear hb hk
  have cc := Below.refl w.heap.size w
  go_enter Try.func4, Try.ntmps4
  go_wp2_with fail
  have bA : Below w.heap.size w (w.alloc (.cells #[.int .i64 k, .int .i64 s, .slice A n c, .slice B m d] 26)) := ((Below.refl _ w).alloc (by simp) _)
  replace hC := hC.on bA
  replace hW := hW.on bA
  replace cc := cc.trans (bA.mono cc.size)
  clear bA
  have xa0 : (w.alloc (.cells #[.int .i64 k, .int .i64 s, .slice A n c, .slice B m d] 26)).cell? ⟨w.heap.size, 0, none⟩ = some (.int .i64 k) := by simp [go_sem]
  have xa1 : (w.alloc (.cells #[.int .i64 k, .int .i64 s, .slice A n c, .slice B m d] 26)).cell? ⟨w.heap.size, 1, none⟩ = some (.int .i64 s) := by simp [go_sem]
  have xa2 : (w.alloc (.cells #[.int .i64 k, .int .i64 s, .slice A n c, .slice B m d] 26)).cell? ⟨w.heap.size, 2, none⟩ = some (.slice A n c) := by simp [go_sem]
  have xa3 : (w.alloc (.cells #[.int .i64 k, .int .i64 s, .slice A n c, .slice B m d] 26)).cell? ⟨w.heap.size, 3, none⟩ = some (.slice B m d) := by simp [go_sem]
  have xal : w.heap.size < (w.alloc (.cells #[.int .i64 k, .int .i64 s, .slice A n c, .slice B m d] 26)).heap.size := by simp <;> omega
  generalize w.alloc (.cells #[.int .i64 k, .int .i64 s, .slice A n c, .slice B m d] 26) = v1 at *
  go_wp2_with fail
  refine (F0 _).mono ?_
  rintro e w2 ⟨rfl, b⟩
  replace hC := hC.on b
  replace hW := hW.on b
  replace xa0 := (b.cell (p := ⟨w.heap.size, 0, none⟩) xal).trans xa0
  replace xa1 := (b.cell (p := ⟨w.heap.size, 1, none⟩) xal).trans xa1
  replace xa2 := (b.cell (p := ⟨w.heap.size, 2, none⟩) xal).trans xa2
  replace xa3 := (b.cell (p := ⟨w.heap.size, 3, none⟩) xal).trans xa3
  replace xal := Nat.lt_of_lt_of_le xal b.size
  replace cc := cc.trans (b.mono cc.size)
  clear b
  go_wp2_with fail
  refine (R0 hC hW).mono ?_
  rintro e w3 ⟨rfl, b⟩
  replace hC := hC.on b
  replace hW := hW.on b
  replace xa0 := (b.cell (p := ⟨w.heap.size, 0, none⟩) xal).trans xa0
  replace xa1 := (b.cell (p := ⟨w.heap.size, 1, none⟩) xal).trans xa1
  replace xa2 := (b.cell (p := ⟨w.heap.size, 2, none⟩) xal).trans xa2
  replace xa3 := (b.cell (p := ⟨w.heap.size, 3, none⟩) xal).trans xa3
  replace xal := Nat.lt_of_lt_of_le xal b.size
  replace cc := cc.trans (b.mono cc.size)
  clear b
  go_wp2_with fail
  refine (D0 hC hW).mono ?_
  rintro e w4 ⟨Ax, nx, cx, rfl, hx, b⟩
  replace hC := hC.on b
  replace hW := hW.on b
  replace xa0 := (b.cell (p := ⟨w.heap.size, 0, none⟩) xal).trans xa0
  replace xa1 := (b.cell (p := ⟨w.heap.size, 1, none⟩) xal).trans xa1
  replace xa2 := (b.cell (p := ⟨w.heap.size, 2, none⟩) xal).trans xa2
  replace xa3 := (b.cell (p := ⟨w.heap.size, 3, none⟩) xal).trans xa3
  replace xal := Nat.lt_of_lt_of_le xal b.size
  replace cc := cc.trans (b.mono cc.size)
  clear b
  obtain rfl : nx = N := hx.1.trans HN.out.symm
  go_wp2_with fail
  refine (L0 _).mono ?_
  rintro e w5 ⟨rfl, b⟩
  replace hC := hC.on b
  replace hW := hW.on b
  replace hx := hx.on b
  replace xa0 := (b.cell (p := ⟨w.heap.size, 0, none⟩) xal).trans xa0
  replace xa1 := (b.cell (p := ⟨w.heap.size, 1, none⟩) xal).trans xa1
  replace xa2 := (b.cell (p := ⟨w.heap.size, 2, none⟩) xal).trans xa2
  replace xa3 := (b.cell (p := ⟨w.heap.size, 3, none⟩) xal).trans xa3
  replace xal := Nat.lt_of_lt_of_le xal b.size
  replace cc := cc.trans (b.mono cc.size)
  clear b
  have XA0 := Lib.hid xa0
  have XA1 := Lib.hid xa1
  have XAL := Lib.hid xal
  have CCV := Lib.hid cc
  have HXV := Lib.hid hx
  clear xa0 xa1 xa2 xa3 xal cc hx hC hW
  go_wp2_with fail
  go_loopw [4] (fun iv wr => ∃ i : Nat, i ≤ nx ∧ iv = .int .i64 (i : Int) ∧ Below w5.heap.size w5 wr) (fun iv _ => nx - (intOf iv).toNat)
  case atStart => exact ⟨0, by omega, rfl, Below.refl _ _⟩
  case round =>
    obtain ⟨i, hi, rfl, hbl⟩ := hrel
    have xa0 := (hbl.cell (p := ⟨w.heap.size, 0, none⟩) XAL.out).trans XA0.out
    have xa1 := (hbl.cell (p := ⟨w.heap.size, 1, none⟩) XAL.out).trans XA1.out
    have xal := Nat.lt_of_lt_of_le XAL.out hbl.size
    have cc := CCV.out.trans (hbl.mono CCV.out.size)
    by_cases hlt : i < nx
    · obtain ⟨bb, off, rfl, hb, hcell⟩ := (HXV.out.on hbl).2.2 (by omega)
      have e1 := hcell i hlt
      have k3 : IntKind.i64.wrap ((i : Int) + 1) = ((i + 1 : Nat) : Int) := by rw [IntWalk.i64_in _ (by omega)]; omega
      have hlen := HN.out
      have hbb := HB.out i (by omega)
      obtain ⟨x, hx⟩ : ∃ x, L[i]?.getD 0 = x := ⟨_, rfl⟩
      rw [hx] at e1 hbb
      clear hcell hx hlen
      have t1 : decide (s < x) = false := decide_eq_false (by omega)
      have t2 : decide (x < -s) = false := decide_eq_false (by omega)
      by_cases hneg : x < 0
      · have t3 : decide (x < 0) = true := decide_eq_true hneg
        obtain rfl : sg = true := hbb.2.2 hneg
        clear hneg hbb
        have hB1 := hbl
        go_wp2_with fail
        have bD : Below wr.heap.size wr wr.drew := below_drewN (Below.refl _ wr) 1
        replace hB1 := hB1.trans (bD.mono hB1.size)
        replace e1 := (bD.cell (p := ⟨bb, off + i, none⟩) hb).trans e1
        replace hb := Nat.lt_of_lt_of_le hb bD.size
        replace xa0 := (bD.cell (p := ⟨w.heap.size, 0, none⟩) xal).trans xa0
        replace xa1 := (bD.cell (p := ⟨w.heap.size, 1, none⟩) xal).trans xa1
        replace xal := Nat.lt_of_lt_of_le xal bD.size
        replace cc := cc.trans (bD.mono cc.size)
        clear bD
        refine wp_region_held_drew (S := fun w' => w'.cell? ⟨bb, off + i, none⟩ = some (.int .i64 x) ∧ w'.cell? ⟨w.heap.size, 0, none⟩ = some (.int .i64 k) ∧ w'.cell? ⟨w.heap.size, 1, none⟩ = some (.int .i64 s)) (by kernel_rfl) ?_ (fun hHeld => ?_)
        · exact ⟨e1, xa0, xa1⟩
        refine wpAnyH_take (i := 0) (v := ?_) rfl (by kernel_rfl) (by kernel_rfl) (by kernel_rfl) (fun _ _ _ h => h) (Or.inl ⟨by rfl, ?_⟩) hHeld ?_
        rotate_left
        · (intro w hSw; (try dsimp only at hSw); go_simp; (try with_reducible rfl))
        try simp only [Act.put, List.getElem_toArray, List.getElem_cons_zero, List.getElem_cons_succ, List.setIfInBounds_toArray, List.set_cons_zero, List.set_cons_succ]
        refine wpAnyH_take (i := 1) (v := ?_) rfl (by kernel_rfl) (by kernel_rfl) (by kernel_rfl) (fun _ _ _ h => h) (Or.inl ⟨by rfl, ?_⟩) hHeld ?_
        rotate_left
        · (intro w hSw; (try dsimp only at hSw); go_simp; (try with_reducible rfl))
        try simp only [Act.put, List.getElem_toArray, List.getElem_cons_zero, List.getElem_cons_succ, List.setIfInBounds_toArray, List.set_cons_zero, List.set_cons_succ]
        refine wpAnyH_take (i := 2) (v := ?_) rfl (by kernel_rfl) (by kernel_rfl) (by kernel_rfl) (fun _ _ _ h => h) (Or.inl ⟨by rfl, ?_⟩) hHeld ?_
        rotate_left
        · (intro w hSw; (try dsimp only at hSw); go_simp; (try with_reducible rfl))
        try simp only [Act.put, List.getElem_toArray, List.getElem_cons_zero, List.getElem_cons_succ, List.setIfInBounds_toArray, List.set_cons_zero, List.set_cons_succ]
        refine wpAnyH_take (i := 3) (v := ?_) rfl (by kernel_rfl) (by kernel_rfl) (by kernel_rfl) (fun _ _ _ h => h) (Or.inl ⟨by rfl, ?_⟩) hHeld ?_
        rotate_left
        · (intro w hSw; (try dsimp only at hSw); go_simp; (try with_reducible rfl))
        try simp only [Act.put, List.getElem_toArray, List.getElem_cons_zero, List.getElem_cons_succ, List.setIfInBounds_toArray, List.set_cons_zero, List.set_cons_succ]
        refine wpAnyH_take (i := 4) (v := ?_) rfl (by kernel_rfl) (by kernel_rfl) (by kernel_rfl) (fun _ _ _ h => h) (Or.inl ⟨by rfl, ?_⟩) hHeld ?_
        rotate_left
        · (intro w hSw; (try dsimp only at hSw); go_simp; (try with_reducible rfl))
        try simp only [Act.put, List.getElem_toArray, List.getElem_cons_zero, List.getElem_cons_succ, List.setIfInBounds_toArray, List.set_cons_zero, List.set_cons_succ]
        refine wpAnyH_take (i := 5) (v := ?_) rfl (by kernel_rfl) (by kernel_rfl) (by kernel_rfl) (fun _ _ _ h => h) (Or.inl ⟨by rfl, ?_⟩) hHeld ?_
        rotate_left
        · (intro w hSw; (try dsimp only at hSw); go_simp; (try with_reducible rfl))
        try simp only [Act.put, List.getElem_toArray, List.getElem_cons_zero, List.getElem_cons_succ, List.setIfInBounds_toArray, List.set_cons_zero, List.set_cons_succ]
        refine wpAnyH_take (i := 6) (v := ?_) rfl (by kernel_rfl) (by kernel_rfl) (by kernel_rfl) (fun _ _ _ h => h) (Or.inl ⟨by rfl, ?_⟩) hHeld ?_
        rotate_left
        · (intro w hSw; (try dsimp only at hSw); go_simp; (try with_reducible rfl))
        try simp only [Act.put, List.getElem_toArray, List.getElem_cons_zero, List.getElem_cons_succ, List.setIfInBounds_toArray, List.set_cons_zero, List.set_cons_succ]
        refine wpAnyH_take (i := 7) (v := ?_) rfl (by kernel_rfl) (by kernel_rfl) (by kernel_rfl) (fun _ _ _ h => h) (Or.inl ⟨by rfl, ?_⟩) hHeld ?_
        rotate_left
        · (intro w hSw; (try dsimp only at hSw); go_simp; (try with_reducible rfl))
        try simp only [Act.put, List.getElem_toArray, List.getElem_cons_zero, List.getElem_cons_succ, List.setIfInBounds_toArray, List.set_cons_zero, List.set_cons_succ]
        refine wpAnyH_take (i := 8) (v := ?_) rfl (by kernel_rfl) (by kernel_rfl) (by kernel_rfl) (fun _ _ _ h => h) (Or.inl ⟨by rfl, ?_⟩) hHeld ?_
        rotate_left
        · (intro w hSw; (try dsimp only at hSw); go_simp; (try with_reducible rfl))
        try simp only [Act.put, List.getElem_toArray, List.getElem_cons_zero, List.getElem_cons_succ, List.setIfInBounds_toArray, List.set_cons_zero, List.set_cons_succ]
        refine wpAnyH_take (i := 9) (v := ?_) rfl (by kernel_rfl) (by kernel_rfl) (by kernel_rfl) (fun _ _ _ h => h) (Or.inl ⟨by rfl, ?_⟩) hHeld ?_
        rotate_left
        · (intro w hSw; (try dsimp only at hSw); go_simp; (try with_reducible rfl))
        try simp only [Act.put, List.getElem_toArray, List.getElem_cons_zero, List.getElem_cons_succ, List.setIfInBounds_toArray, List.set_cons_zero, List.set_cons_succ]
        refine wpAnyH_take (i := 10) (v := ?_) rfl (by kernel_rfl) (by kernel_rfl) (by kernel_rfl) (fun _ _ _ h => h) (Or.inl ⟨by rfl, ?_⟩) hHeld ?_
        rotate_left
        · (intro w hSw; (try dsimp only at hSw); go_simp; (try with_reducible rfl))
        try simp only [Act.put, List.getElem_toArray, List.getElem_cons_zero, List.getElem_cons_succ, List.setIfInBounds_toArray, List.set_cons_zero, List.set_cons_succ]
        refine wpAnyH_take (i := 11) (v := ?_) rfl (by kernel_rfl) (by kernel_rfl) (by kernel_rfl) (fun _ _ _ h => h) (Or.inl ⟨by rfl, ?_⟩) hHeld ?_
        rotate_left
        · (intro w hSw; (try dsimp only at hSw); go_simp; (try with_reducible rfl))
        try simp only [Act.put, List.getElem_toArray, List.getElem_cons_zero, List.getElem_cons_succ, List.setIfInBounds_toArray, List.set_cons_zero, List.set_cons_succ]
        refine wpAnyH_take (i := 12) (v := ?_) rfl (by kernel_rfl) (by kernel_rfl) (by kernel_rfl) (fun _ _ _ h => h) (Or.inl ⟨by rfl, ?_⟩) hHeld ?_
        rotate_left
        · (intro w hSw; (try dsimp only at hSw); go_simp; (try with_reducible rfl))
        try simp only [Act.put, List.getElem_toArray, List.getElem_cons_zero, List.getElem_cons_succ, List.setIfInBounds_toArray, List.set_cons_zero, List.set_cons_succ]
        refine wpAnyH_take (i := 13) (v := ?_) rfl (by kernel_rfl) (by kernel_rfl) (by kernel_rfl) (fun _ _ _ h => h) (Or.inl ⟨by rfl, ?_⟩) hHeld ?_
        rotate_left
        · (intro w hSw; (try dsimp only at hSw); go_simp; (try with_reducible rfl))
        try simp only [Act.put, List.getElem_toArray, List.getElem_cons_zero, List.getElem_cons_succ, List.setIfInBounds_toArray, List.set_cons_zero, List.set_cons_succ]
        refine wpAnyH_take (i := 14) (v := ?_) rfl (by kernel_rfl) (by kernel_rfl) (by kernel_rfl) (fun _ _ _ h => h) (Or.inl ⟨by rfl, ?_⟩) hHeld ?_
        rotate_left
        · (intro w hSw; (try dsimp only at hSw); go_simp; (try with_reducible rfl))
        try simp only [Act.put, List.getElem_toArray, List.getElem_cons_zero, List.getElem_cons_succ, List.setIfInBounds_toArray, List.set_cons_zero, List.set_cons_succ]
        refine wpAnyH_take (i := 15) (v := ?_) rfl (by kernel_rfl) (by kernel_rfl) (by kernel_rfl) (fun _ _ _ h => h) (Or.inl ⟨by rfl, ?_⟩) hHeld ?_
        rotate_left
        · (intro w hSw; (try dsimp only at hSw); go_simp; (try with_reducible rfl))
        try simp only [Act.put, List.getElem_toArray, List.getElem_cons_zero, List.getElem_cons_succ, List.setIfInBounds_toArray, List.set_cons_zero, List.set_cons_succ]
        refine wpAnyH_take (i := 16) (v := ?_) rfl (by kernel_rfl) (by kernel_rfl) (by kernel_rfl) (fun _ _ _ h => h) (Or.inl ⟨by rfl, ?_⟩) hHeld ?_
        rotate_left
        · (intro w hSw; (try dsimp only at hSw); go_simp; (try with_reducible rfl))
        try simp only [Act.put, List.getElem_toArray, List.getElem_cons_zero, List.getElem_cons_succ, List.setIfInBounds_toArray, List.set_cons_zero, List.set_cons_succ]
        refine wpAnyH_take (i := 17) (v := ?_) rfl (by kernel_rfl) (by kernel_rfl) (by kernel_rfl) (fun _ _ _ h => h) (Or.inl ⟨by rfl, ?_⟩) hHeld ?_
        rotate_left
        · (intro w hSw; (try dsimp only at hSw); go_simp; (try with_reducible rfl))
        try simp only [Act.put, List.getElem_toArray, List.getElem_cons_zero, List.getElem_cons_succ, List.setIfInBounds_toArray, List.set_cons_zero, List.set_cons_succ]
        refine wpAnyH_take (i := 18) (v := ?_) rfl (by kernel_rfl) (by kernel_rfl) (by kernel_rfl) (fun _ _ _ h => h) (Or.inl ⟨by rfl, ?_⟩) hHeld ?_
        rotate_left
        · (intro w hSw; (try dsimp only at hSw); go_simp; (try with_reducible rfl))
        try simp only [Act.put, List.getElem_toArray, List.getElem_cons_zero, List.getElem_cons_succ, List.setIfInBounds_toArray, List.set_cons_zero, List.set_cons_succ]
        refine wpAnyH_take (i := 19) (v := ?_) rfl (by kernel_rfl) (by kernel_rfl) (by kernel_rfl) (fun _ _ _ h => h) (Or.inl ⟨by rfl, ?_⟩) hHeld ?_
        rotate_left
        · (intro w hSw; (try dsimp only at hSw); go_simp; (try with_reducible rfl))
        try simp only [Act.put, List.getElem_toArray, List.getElem_cons_zero, List.getElem_cons_succ, List.setIfInBounds_toArray, List.set_cons_zero, List.set_cons_succ]
        refine wpAnyH_take (i := 20) (v := ?_) rfl (by kernel_rfl) (by kernel_rfl) (by kernel_rfl) (fun _ _ _ h => h) (Or.inl ⟨by rfl, ?_⟩) hHeld ?_
        rotate_left
        · (intro w hSw; (try dsimp only at hSw); go_simp; (try with_reducible rfl))
        try simp only [Act.put, List.getElem_toArray, List.getElem_cons_zero, List.getElem_cons_succ, List.setIfInBounds_toArray, List.set_cons_zero, List.set_cons_succ]
        refine wpAnyH_take (i := 21) (v := ?_) rfl (by kernel_rfl) (by kernel_rfl) (by kernel_rfl) (fun _ _ _ h => h) (Or.inl ⟨by rfl, ?_⟩) hHeld ?_
        rotate_left
        · (intro w hSw; (try dsimp only at hSw); go_simp; (try with_reducible rfl))
        try simp only [Act.put, List.getElem_toArray, List.getElem_cons_zero, List.getElem_cons_succ, List.setIfInBounds_toArray, List.set_cons_zero, List.set_cons_succ]
        refine wpAnyH_take (i := 22) (v := ?_) rfl (by kernel_rfl) (by kernel_rfl) (by kernel_rfl) (fun _ _ _ h => h) (Or.inl ⟨by rfl, ?_⟩) hHeld ?_
        rotate_left
        · (intro w hSw; (try dsimp only at hSw); go_simp; (try with_reducible rfl))
        try simp only [Act.put, List.getElem_toArray, List.getElem_cons_zero, List.getElem_cons_succ, List.setIfInBounds_toArray, List.set_cons_zero, List.set_cons_succ]
        refine wpAnyH_take (i := 23) (v := ?_) rfl (by kernel_rfl) (by kernel_rfl) (by kernel_rfl) (fun _ _ _ h => h) (Or.inl ⟨by rfl, ?_⟩) hHeld ?_
        rotate_left
        · (intro w hSw; (try dsimp only at hSw); go_simp; (try with_reducible rfl))
        try simp only [Act.put, List.getElem_toArray, List.getElem_cons_zero, List.getElem_cons_succ, List.setIfInBounds_toArray, List.set_cons_zero, List.set_cons_succ]
        refine wpAnyH_take (i := 24) (v := ?_) rfl (by kernel_rfl) (by kernel_rfl) (by kernel_rfl) (fun _ _ _ h => h) (Or.inl ⟨by rfl, ?_⟩) hHeld ?_
        rotate_left
        · (intro w hSw; (try dsimp only at hSw); go_simp; (try with_reducible rfl))
        try simp only [Act.put, List.getElem_toArray, List.getElem_cons_zero, List.getElem_cons_succ, List.setIfInBounds_toArray, List.set_cons_zero, List.set_cons_succ]
        refine wpAnyH_take (i := 25) (v := ?_) rfl (by kernel_rfl) (by kernel_rfl) (by kernel_rfl) (fun _ _ _ h => h) (Or.inl ⟨by rfl, ?_⟩) hHeld ?_
        rotate_left
        · (intro w hSw; (try dsimp only at hSw); go_simp; (try with_reducible rfl))
        try simp only [Act.put, List.getElem_toArray, List.getElem_cons_zero, List.getElem_cons_succ, List.setIfInBounds_toArray, List.set_cons_zero, List.set_cons_succ]
        refine wpAnyH_take (i := 26) (v := ?_) rfl (by kernel_rfl) (by kernel_rfl) (by kernel_rfl) (fun _ _ _ h => h) (Or.inl ⟨by rfl, ?_⟩) hHeld ?_
        rotate_left
        · (intro w hSw; (try dsimp only at hSw); go_simp; (try with_reducible rfl))
        try simp only [Act.put, List.getElem_toArray, List.getElem_cons_zero, List.getElem_cons_succ, List.setIfInBounds_toArray, List.set_cons_zero, List.set_cons_succ]
        refine wpAnyH_take (i := 27) (v := ?_) rfl (by kernel_rfl) (by kernel_rfl) (by kernel_rfl) (fun _ _ _ h => h) (Or.inl ⟨by rfl, ?_⟩) hHeld ?_
        rotate_left
        · (intro w hSw; (try dsimp only at hSw); go_simp; (try with_reducible rfl))
        try simp only [Act.put, List.getElem_toArray, List.getElem_cons_zero, List.getElem_cons_succ, List.setIfInBounds_toArray, List.set_cons_zero, List.set_cons_succ]
        refine wpAnyH_take (i := 28) (v := ?_) rfl (by kernel_rfl) (by kernel_rfl) (by kernel_rfl) (fun _ _ _ h => h) (Or.inl ⟨by rfl, ?_⟩) hHeld ?_
        rotate_left
        · (intro w hSw; (try dsimp only at hSw); go_simp; (try with_reducible rfl))
        try simp only [Act.put, List.getElem_toArray, List.getElem_cons_zero, List.getElem_cons_succ, List.setIfInBounds_toArray, List.set_cons_zero, List.set_cons_succ]
        refine wpAnyH_take (i := 29) (v := ?_) rfl (by kernel_rfl) (by kernel_rfl) (by kernel_rfl) (fun _ _ _ h => h) (Or.inl ⟨by rfl, ?_⟩) hHeld ?_
        rotate_left
        · (intro w hSw; (try dsimp only at hSw); go_simp; (try with_reducible rfl))
        try simp only [Act.put, List.getElem_toArray, List.getElem_cons_zero, List.getElem_cons_succ, List.setIfInBounds_toArray, List.set_cons_zero, List.set_cons_succ]
        refine wpAnyH_ready (rs := [30]) (by kernel_rfl) (by simp) ?_
        refine AllReadyH.cons rfl (fun K hK => ?_) AllReadyH.nil
        (try simp only [List.getElem_toArray, List.getElem_cons_zero, List.getElem_cons_succ])
        rw [if_pos (by rfl)]
        go_simp
        go_at_call 24
        refine (CS _).mono ?_
        rintro e w61 ⟨rfl, b⟩
        replace hB1 := hB1.trans (b.mono hB1.size)
        replace e1 := (b.cell (p := ⟨bb, off + i, none⟩) hb).trans e1
        replace hb := Nat.lt_of_lt_of_le hb b.size
        replace xa0 := (b.cell (p := ⟨w.heap.size, 0, none⟩) xal).trans xa0
        replace xa1 := (b.cell (p := ⟨w.heap.size, 1, none⟩) xal).trans xa1
        replace xal := Nat.lt_of_lt_of_le xal b.size
        replace cc := cc.trans (b.mono cc.size)
        clear b
        refine hK.out _ _ ?_ (fun hHeld => ?_)
        · exact ⟨e1, xa0, xa1⟩
        clear hK K
        try simp only [Act.put, List.getElem_toArray, List.getElem_cons_zero, List.getElem_cons_succ, List.setIfInBounds_toArray, List.set_cons_zero, List.set_cons_succ]
        refine wpAnyH_take (i := 31) (v := ?_) rfl (by kernel_rfl) (by kernel_rfl) (by kernel_rfl) (fun _ _ _ h => h) (Or.inl ⟨by rfl, ?_⟩) hHeld ?_
        rotate_left
        · (intro w hSw; (try dsimp only at hSw); go_simp; (try with_reducible rfl))
        try simp only [Act.put, List.getElem_toArray, List.getElem_cons_zero, List.getElem_cons_succ, List.setIfInBounds_toArray, List.set_cons_zero, List.set_cons_succ]
        refine wpAnyH_take (i := 32) (v := ?_) rfl (by kernel_rfl) (by kernel_rfl) (by kernel_rfl) (fun _ _ _ h => h) (Or.inl ⟨by rfl, ?_⟩) hHeld ?_
        rotate_left
        · (intro w hSw; (try dsimp only at hSw); go_simp; (try with_reducible rfl))
        try simp only [Act.put, List.getElem_toArray, List.getElem_cons_zero, List.getElem_cons_succ, List.setIfInBounds_toArray, List.set_cons_zero, List.set_cons_succ]
        refine wpAnyH_take (i := 33) (v := ?_) rfl (by kernel_rfl) (by kernel_rfl) (by kernel_rfl) (fun _ _ _ h => h) (Or.inl ⟨by rfl, ?_⟩) hHeld ?_
        rotate_left
        · (intro w hSw; (try dsimp only at hSw); go_simp; (try with_reducible rfl))
        try simp only [Act.put, List.getElem_toArray, List.getElem_cons_zero, List.getElem_cons_succ, List.setIfInBounds_toArray, List.set_cons_zero, List.set_cons_succ]
        refine wpAnyH_take (i := 34) (v := ?_) rfl (by kernel_rfl) (by kernel_rfl) (by kernel_rfl) (fun _ _ _ h => h) (Or.inl ⟨by rfl, ?_⟩) hHeld ?_
        rotate_left
        · (intro w hSw; (try dsimp only at hSw); go_simp; (try with_reducible rfl))
        try simp only [Act.put, List.getElem_toArray, List.getElem_cons_zero, List.getElem_cons_succ, List.setIfInBounds_toArray, List.set_cons_zero, List.set_cons_succ]
        refine wpAnyH_done (by kernel_rfl) ?_ _
        clear hHeld
        go_wp2_with fail
        go_roundw
        case rel => exact ⟨i + 1, by omega, rfl, hB1⟩
        case measure => simp [intOf] <;> omega
      · have t3 : decide (x < 0) = false := decide_eq_false hneg
        clear hneg hbb
        have hB1 := hbl
        go_wp2_with fail
        have bD : Below wr.heap.size wr wr.drew := below_drewN (Below.refl _ wr) 1
        replace hB1 := hB1.trans (bD.mono hB1.size)
        replace e1 := (bD.cell (p := ⟨bb, off + i, none⟩) hb).trans e1
        replace hb := Nat.lt_of_lt_of_le hb bD.size
        replace xa0 := (bD.cell (p := ⟨w.heap.size, 0, none⟩) xal).trans xa0
        replace xa1 := (bD.cell (p := ⟨w.heap.size, 1, none⟩) xal).trans xa1
        replace xal := Nat.lt_of_lt_of_le xal bD.size
        replace cc := cc.trans (bD.mono cc.size)
        clear bD
        refine wp_region_held_drew (S := fun w' => w'.cell? ⟨bb, off + i, none⟩ = some (.int .i64 x) ∧ w'.cell? ⟨w.heap.size, 0, none⟩ = some (.int .i64 k) ∧ w'.cell? ⟨w.heap.size, 1, none⟩ = some (.int .i64 s)) (by kernel_rfl) ?_ (fun hHeld => ?_)
        · exact ⟨e1, xa0, xa1⟩
        refine wpAnyH_take (i := 0) (v := ?_) rfl (by kernel_rfl) (by kernel_rfl) (by kernel_rfl) (fun _ _ _ h => h) (Or.inl ⟨by rfl, ?_⟩) hHeld ?_
        rotate_left
        · (intro w hSw; (try dsimp only at hSw); go_simp; (try with_reducible rfl))
        try simp only [Act.put, List.getElem_toArray, List.getElem_cons_zero, List.getElem_cons_succ, List.setIfInBounds_toArray, List.set_cons_zero, List.set_cons_succ]
        refine wpAnyH_take (i := 1) (v := ?_) rfl (by kernel_rfl) (by kernel_rfl) (by kernel_rfl) (fun _ _ _ h => h) (Or.inl ⟨by rfl, ?_⟩) hHeld ?_
        rotate_left
        · (intro w hSw; (try dsimp only at hSw); go_simp; (try with_reducible rfl))
        try simp only [Act.put, List.getElem_toArray, List.getElem_cons_zero, List.getElem_cons_succ, List.setIfInBounds_toArray, List.set_cons_zero, List.set_cons_succ]
        refine wpAnyH_take (i := 2) (v := ?_) rfl (by kernel_rfl) (by kernel_rfl) (by kernel_rfl) (fun _ _ _ h => h) (Or.inl ⟨by rfl, ?_⟩) hHeld ?_
        rotate_left
        · (intro w hSw; (try dsimp only at hSw); go_simp; (try with_reducible rfl))
        try simp only [Act.put, List.getElem_toArray, List.getElem_cons_zero, List.getElem_cons_succ, List.setIfInBounds_toArray, List.set_cons_zero, List.set_cons_succ]
        refine wpAnyH_take (i := 3) (v := ?_) rfl (by kernel_rfl) (by kernel_rfl) (by kernel_rfl) (fun _ _ _ h => h) (Or.inl ⟨by rfl, ?_⟩) hHeld ?_
        rotate_left
        · (intro w hSw; (try dsimp only at hSw); go_simp; (try with_reducible rfl))
        try simp only [Act.put, List.getElem_toArray, List.getElem_cons_zero, List.getElem_cons_succ, List.setIfInBounds_toArray, List.set_cons_zero, List.set_cons_succ]
        refine wpAnyH_take (i := 4) (v := ?_) rfl (by kernel_rfl) (by kernel_rfl) (by kernel_rfl) (fun _ _ _ h => h) (Or.inl ⟨by rfl, ?_⟩) hHeld ?_
        rotate_left
        · (intro w hSw; (try dsimp only at hSw); go_simp; (try with_reducible rfl))
        try simp only [Act.put, List.getElem_toArray, List.getElem_cons_zero, List.getElem_cons_succ, List.setIfInBounds_toArray, List.set_cons_zero, List.set_cons_succ]
        refine wpAnyH_take (i := 5) (v := ?_) rfl (by kernel_rfl) (by kernel_rfl) (by kernel_rfl) (fun _ _ _ h => h) (Or.inl ⟨by rfl, ?_⟩) hHeld ?_
        rotate_left
        · (intro w hSw; (try dsimp only at hSw); go_simp; (try with_reducible rfl))
        try simp only [Act.put, List.getElem_toArray, List.getElem_cons_zero, List.getElem_cons_succ, List.setIfInBounds_toArray, List.set_cons_zero, List.set_cons_succ]
        refine wpAnyH_take (i := 6) (v := ?_) rfl (by kernel_rfl) (by kernel_rfl) (by kernel_rfl) (fun _ _ _ h => h) (Or.inl ⟨by rfl, ?_⟩) hHeld ?_
        rotate_left
        · (intro w hSw; (try dsimp only at hSw); go_simp; (try with_reducible rfl))
        try simp only [Act.put, List.getElem_toArray, List.getElem_cons_zero, List.getElem_cons_succ, List.setIfInBounds_toArray, List.set_cons_zero, List.set_cons_succ]
        refine wpAnyH_take (i := 7) (v := ?_) rfl (by kernel_rfl) (by kernel_rfl) (by kernel_rfl) (fun _ _ _ h => h) (Or.inl ⟨by rfl, ?_⟩) hHeld ?_
        rotate_left
        · (intro w hSw; (try dsimp only at hSw); go_simp; (try with_reducible rfl))
        try simp only [Act.put, List.getElem_toArray, List.getElem_cons_zero, List.getElem_cons_succ, List.setIfInBounds_toArray, List.set_cons_zero, List.set_cons_succ]
        refine wpAnyH_take (i := 8) (v := ?_) rfl (by kernel_rfl) (by kernel_rfl) (by kernel_rfl) (fun _ _ _ h => h) (Or.inl ⟨by rfl, ?_⟩) hHeld ?_
        rotate_left
        · (intro w hSw; (try dsimp only at hSw); go_simp; (try with_reducible rfl))
        try simp only [Act.put, List.getElem_toArray, List.getElem_cons_zero, List.getElem_cons_succ, List.setIfInBounds_toArray, List.set_cons_zero, List.set_cons_succ]
        refine wpAnyH_take (i := 9) (v := ?_) rfl (by kernel_rfl) (by kernel_rfl) (by kernel_rfl) (fun _ _ _ h => h) (Or.inl ⟨by rfl, ?_⟩) hHeld ?_
        rotate_left
        · (intro w hSw; (try dsimp only at hSw); go_simp; (try with_reducible rfl))
        try simp only [Act.put, List.getElem_toArray, List.getElem_cons_zero, List.getElem_cons_succ, List.setIfInBounds_toArray, List.set_cons_zero, List.set_cons_succ]
        refine wpAnyH_take (i := 10) (v := ?_) rfl (by kernel_rfl) (by kernel_rfl) (by kernel_rfl) (fun _ _ _ h => h) (Or.inl ⟨by rfl, ?_⟩) hHeld ?_
        rotate_left
        · (intro w hSw; (try dsimp only at hSw); go_simp; (try with_reducible rfl))
        try simp only [Act.put, List.getElem_toArray, List.getElem_cons_zero, List.getElem_cons_succ, List.setIfInBounds_toArray, List.set_cons_zero, List.set_cons_succ]
        refine wpAnyH_take (i := 11) (v := ?_) rfl (by kernel_rfl) (by kernel_rfl) (by kernel_rfl) (fun _ _ _ h => h) (Or.inl ⟨by rfl, ?_⟩) hHeld ?_
        rotate_left
        · (intro w hSw; (try dsimp only at hSw); go_simp; (try with_reducible rfl))
        try simp only [Act.put, List.getElem_toArray, List.getElem_cons_zero, List.getElem_cons_succ, List.setIfInBounds_toArray, List.set_cons_zero, List.set_cons_succ]
        refine wpAnyH_take (i := 12) (v := ?_) rfl (by kernel_rfl) (by kernel_rfl) (by kernel_rfl) (fun _ _ _ h => h) (Or.inl ⟨by rfl, ?_⟩) hHeld ?_
        rotate_left
        · (intro w hSw; (try dsimp only at hSw); go_simp; (try with_reducible rfl))
        try simp only [Act.put, List.getElem_toArray, List.getElem_cons_zero, List.getElem_cons_succ, List.setIfInBounds_toArray, List.set_cons_zero, List.set_cons_succ]
        refine wpAnyH_take (i := 13) (v := ?_) rfl (by kernel_rfl) (by kernel_rfl) (by kernel_rfl) (fun _ _ _ h => h) (Or.inl ⟨by rfl, ?_⟩) hHeld ?_
        rotate_left
        · (intro w hSw; (try dsimp only at hSw); go_simp; (try with_reducible rfl))
        try simp only [Act.put, List.getElem_toArray, List.getElem_cons_zero, List.getElem_cons_succ, List.setIfInBounds_toArray, List.set_cons_zero, List.set_cons_succ]
        refine wpAnyH_take (i := 14) (v := ?_) rfl (by kernel_rfl) (by kernel_rfl) (by kernel_rfl) (fun _ _ _ h => h) (Or.inl ⟨by rfl, ?_⟩) hHeld ?_
        rotate_left
        · (intro w hSw; (try dsimp only at hSw); go_simp; (try with_reducible rfl))
        try simp only [Act.put, List.getElem_toArray, List.getElem_cons_zero, List.getElem_cons_succ, List.setIfInBounds_toArray, List.set_cons_zero, List.set_cons_succ]
        refine wpAnyH_take (i := 15) (v := ?_) rfl (by kernel_rfl) (by kernel_rfl) (by kernel_rfl) (fun _ _ _ h => h) (Or.inl ⟨by rfl, ?_⟩) hHeld ?_
        rotate_left
        · (intro w hSw; (try dsimp only at hSw); go_simp; (try with_reducible rfl))
        try simp only [Act.put, List.getElem_toArray, List.getElem_cons_zero, List.getElem_cons_succ, List.setIfInBounds_toArray, List.set_cons_zero, List.set_cons_succ]
        refine wpAnyH_take (i := 16) (v := ?_) rfl (by kernel_rfl) (by kernel_rfl) (by kernel_rfl) (fun _ _ _ h => h) (Or.inl ⟨by rfl, ?_⟩) hHeld ?_
        rotate_left
        · (intro w hSw; (try dsimp only at hSw); go_simp; (try with_reducible rfl))
        try simp only [Act.put, List.getElem_toArray, List.getElem_cons_zero, List.getElem_cons_succ, List.setIfInBounds_toArray, List.set_cons_zero, List.set_cons_succ]
        refine wpAnyH_take (i := 17) (v := ?_) rfl (by kernel_rfl) (by kernel_rfl) (by kernel_rfl) (fun _ _ _ h => h) (Or.inl ⟨by rfl, ?_⟩) hHeld ?_
        rotate_left
        · (intro w hSw; (try dsimp only at hSw); go_simp; (try with_reducible rfl))
        try simp only [Act.put, List.getElem_toArray, List.getElem_cons_zero, List.getElem_cons_succ, List.setIfInBounds_toArray, List.set_cons_zero, List.set_cons_succ]
        refine wpAnyH_take (i := 18) (v := ?_) rfl (by kernel_rfl) (by kernel_rfl) (by kernel_rfl) (fun _ _ _ h => h) (Or.inl ⟨by rfl, ?_⟩) hHeld ?_
        rotate_left
        · (intro w hSw; (try dsimp only at hSw); go_simp; (try with_reducible rfl))
        try simp only [Act.put, List.getElem_toArray, List.getElem_cons_zero, List.getElem_cons_succ, List.setIfInBounds_toArray, List.set_cons_zero, List.set_cons_succ]
        refine wpAnyH_take (i := 19) (v := ?_) rfl (by kernel_rfl) (by kernel_rfl) (by kernel_rfl) (fun _ _ _ h => h) (Or.inl ⟨by rfl, ?_⟩) hHeld ?_
        rotate_left
        · (intro w hSw; (try dsimp only at hSw); go_simp; (try with_reducible rfl))
        try simp only [Act.put, List.getElem_toArray, List.getElem_cons_zero, List.getElem_cons_succ, List.setIfInBounds_toArray, List.set_cons_zero, List.set_cons_succ]
        refine wpAnyH_take (i := 20) (v := ?_) rfl (by kernel_rfl) (by kernel_rfl) (by kernel_rfl) (fun _ _ _ h => h) (Or.inl ⟨by rfl, ?_⟩) hHeld ?_
        rotate_left
        · (intro w hSw; (try dsimp only at hSw); go_simp; (try with_reducible rfl))
        try simp only [Act.put, List.getElem_toArray, List.getElem_cons_zero, List.getElem_cons_succ, List.setIfInBounds_toArray, List.set_cons_zero, List.set_cons_succ]
        refine wpAnyH_take (i := 21) (v := ?_) rfl (by kernel_rfl) (by kernel_rfl) (by kernel_rfl) (fun _ _ _ h => h) (Or.inl ⟨by rfl, ?_⟩) hHeld ?_
        rotate_left
        · (intro w hSw; (try dsimp only at hSw); go_simp; (try with_reducible rfl))
        try simp only [Act.put, List.getElem_toArray, List.getElem_cons_zero, List.getElem_cons_succ, List.setIfInBounds_toArray, List.set_cons_zero, List.set_cons_succ]
        refine wpAnyH_take (i := 22) (v := ?_) rfl (by kernel_rfl) (by kernel_rfl) (by kernel_rfl) (fun _ _ _ h => h) (Or.inl ⟨by rfl, ?_⟩) hHeld ?_
        rotate_left
        · (intro w hSw; (try dsimp only at hSw); go_simp; (try with_reducible rfl))
        try simp only [Act.put, List.getElem_toArray, List.getElem_cons_zero, List.getElem_cons_succ, List.setIfInBounds_toArray, List.set_cons_zero, List.set_cons_succ]
        refine wpAnyH_take (i := 23) (v := ?_) rfl (by kernel_rfl) (by kernel_rfl) (by kernel_rfl) (fun _ _ _ h => h) (Or.inl ⟨by rfl, ?_⟩) hHeld ?_
        rotate_left
        · (intro w hSw; (try dsimp only at hSw); go_simp; (try with_reducible rfl))
        try simp only [Act.put, List.getElem_toArray, List.getElem_cons_zero, List.getElem_cons_succ, List.setIfInBounds_toArray, List.set_cons_zero, List.set_cons_succ]
        refine wpAnyH_take (i := 24) (v := ?_) rfl (by kernel_rfl) (by kernel_rfl) (by kernel_rfl) (fun _ _ _ h => h) (Or.inl ⟨by rfl, ?_⟩) hHeld ?_
        rotate_left
        · (intro w hSw; (try dsimp only at hSw); go_simp; (try with_reducible rfl))
        try simp only [Act.put, List.getElem_toArray, List.getElem_cons_zero, List.getElem_cons_succ, List.setIfInBounds_toArray, List.set_cons_zero, List.set_cons_succ]
        refine wpAnyH_take (i := 25) (v := ?_) rfl (by kernel_rfl) (by kernel_rfl) (by kernel_rfl) (fun _ _ _ h => h) (Or.inl ⟨by rfl, ?_⟩) hHeld ?_
        rotate_left
        · (intro w hSw; (try dsimp only at hSw); go_simp; (try with_reducible rfl))
        try simp only [Act.put, List.getElem_toArray, List.getElem_cons_zero, List.getElem_cons_succ, List.setIfInBounds_toArray, List.set_cons_zero, List.set_cons_succ]
        refine wpAnyH_take (i := 26) (v := ?_) rfl (by kernel_rfl) (by kernel_rfl) (by kernel_rfl) (fun _ _ _ h => h) (Or.inl ⟨by rfl, ?_⟩) hHeld ?_
        rotate_left
        · (intro w hSw; (try dsimp only at hSw); go_simp; (try with_reducible rfl))
        try simp only [Act.put, List.getElem_toArray, List.getElem_cons_zero, List.getElem_cons_succ, List.setIfInBounds_toArray, List.set_cons_zero, List.set_cons_succ]
        refine wpAnyH_take (i := 27) (v := ?_) rfl (by kernel_rfl) (by kernel_rfl) (by kernel_rfl) (fun _ _ _ h => h) (Or.inl ⟨by rfl, ?_⟩) hHeld ?_
        rotate_left
        · (intro w hSw; (try dsimp only at hSw); go_simp; (try with_reducible rfl))
        try simp only [Act.put, List.getElem_toArray, List.getElem_cons_zero, List.getElem_cons_succ, List.setIfInBounds_toArray, List.set_cons_zero, List.set_cons_succ]
        refine wpAnyH_take (i := 28) (v := undef) rfl (by kernel_rfl) (by kernel_rfl) (by kernel_rfl) (fun _ _ _ h => h) (Or.inr ⟨by rfl, rfl⟩) hHeld ?_
        try simp only [Act.put, List.getElem_toArray, List.getElem_cons_zero, List.getElem_cons_succ, List.setIfInBounds_toArray, List.set_cons_zero, List.set_cons_succ]
        refine wpAnyH_take (i := 29) (v := undef) rfl (by kernel_rfl) (by kernel_rfl) (by kernel_rfl) (fun _ _ _ h => h) (Or.inr ⟨by rfl, rfl⟩) hHeld ?_
        try simp only [Act.put, List.getElem_toArray, List.getElem_cons_zero, List.getElem_cons_succ, List.setIfInBounds_toArray, List.set_cons_zero, List.set_cons_succ]
        refine wpAnyH_take (i := 30) (v := undef) rfl (by kernel_rfl) (by kernel_rfl) (by kernel_rfl) (fun _ _ _ h => h) (Or.inr ⟨by rfl, rfl⟩) hHeld ?_
        try simp only [Act.put, List.getElem_toArray, List.getElem_cons_zero, List.getElem_cons_succ, List.setIfInBounds_toArray, List.set_cons_zero, List.set_cons_succ]
        refine wpAnyH_take (i := 31) (v := undef) rfl (by kernel_rfl) (by kernel_rfl) (by kernel_rfl) (fun _ _ _ h => h) (Or.inr ⟨by rfl, rfl⟩) hHeld ?_
        try simp only [Act.put, List.getElem_toArray, List.getElem_cons_zero, List.getElem_cons_succ, List.setIfInBounds_toArray, List.set_cons_zero, List.set_cons_succ]
        refine wpAnyH_take (i := 32) (v := ?_) rfl (by kernel_rfl) (by kernel_rfl) (by kernel_rfl) (fun _ _ _ h => h) (Or.inl ⟨by rfl, ?_⟩) hHeld ?_
        rotate_left
        · (intro w hSw; (try dsimp only at hSw); go_simp; (try with_reducible rfl))
        try simp only [Act.put, List.getElem_toArray, List.getElem_cons_zero, List.getElem_cons_succ, List.setIfInBounds_toArray, List.set_cons_zero, List.set_cons_succ]
        refine wpAnyH_take (i := 33) (v := ?_) rfl (by kernel_rfl) (by kernel_rfl) (by kernel_rfl) (fun _ _ _ h => h) (Or.inl ⟨by rfl, ?_⟩) hHeld ?_
        rotate_left
        · (intro w hSw; (try dsimp only at hSw); go_simp; (try with_reducible rfl))
        try simp only [Act.put, List.getElem_toArray, List.getElem_cons_zero, List.getElem_cons_succ, List.setIfInBounds_toArray, List.set_cons_zero, List.set_cons_succ]
        refine wpAnyH_take (i := 34) (v := ?_) rfl (by kernel_rfl) (by kernel_rfl) (by kernel_rfl) (fun _ _ _ h => h) (Or.inl ⟨by rfl, ?_⟩) hHeld ?_
        rotate_left
        · (intro w hSw; (try dsimp only at hSw); go_simp; (try with_reducible rfl))
        try simp only [Act.put, List.getElem_toArray, List.getElem_cons_zero, List.getElem_cons_succ, List.setIfInBounds_toArray, List.set_cons_zero, List.set_cons_succ]
        refine wpAnyH_done (by kernel_rfl) ?_ _
        clear hHeld
        go_wp2_with fail
        go_roundw
        case rel => exact ⟨i + 1, by omega, rfl, hB1⟩
        case measure => simp [intOf] <;> omega
    · obtain rfl : i = nx := by omega
      clear xa0 xa1 xal
      go_wp2_with fail
      refine (alive11_any _).mono ?_
      rintro e w6 ⟨rfl, b⟩
      replace cc := cc.trans (b.mono cc.size)
      clear b
      go_wp2_with fail
      go_ret
      exact ⟨rfl, cc⟩

theorem ldB_sum {k s : Int} {C : List Nat} {W : List Int} (h : OkB k s C W) : (ldB k s C W).length = C.length + W.length ∧ C.length + W.length ≤ 4096 := by
  unfold ldB
  rcases h with ⟨h1, h2, h3, _⟩ | ⟨h1, h2, _, _, h3⟩
  · rw [if_neg (by unfold Kind9 at h1; omega), List.length_map, h3]; exact ⟨rfl, by rw [h3] at h2; exact h2⟩
  · rw [if_pos h1, h3]; exact ⟨by simp, by rw [h3] at h2; exact h2⟩
theorem BlockLoads_walk {w : World} {k s : Int} {A B : Option Addr} {n c m d : Nat} {C : List Nat} {W : List Int} (hC : BR w A n c C) (hW : IR w B m d W) (hn : n ≤ 9223372036854775807) (hm : m ≤ 9223372036854775807) (is : I64 s) : Calls Try.prog 4 #[.agg #[.int .i64 k, .int .i64 s, .slice A n c, .slice B m d]] w fun e w' => e = .returned (.bool true) ∧ Below w.heap.size w w' := by
  by_cases f0 : IntKind.i64.wrap ((n : Int) + (m : Int)) ≤ 20
  · have F0 : ∀ W : World, Calls Try.prog 21 #[.agg #[.int .i64 k, .int .i64 s, .slice A n c, .slice B m d], .int .i64 20] W (GotV W (.bool true)) := fun W => by have h := rFew_N (k := k) (s := s) (A := A) (B := B) (n := n) (c := c) (m := m) (d := d) W; rw [decide_eq_true f0] at h; exact h
    by_cases ho : OkB k s C W
    · obtain ⟨l1, l2⟩ := ldB_sum ho
      have e1 := hC.1
      have e2 := hW.1
      have hq : IntKind.i64.wrap ((n : Int) + (m : Int)) = (((ldB k s C W).length : Nat) : Int) := by rw [IntWalk.i64_in _ (by omega)]; omega
      have R0 : ∀ {W2 : World}, BR W2 A n c C → IR W2 B m d W → Calls Try.prog 22 #[.agg #[.int .i64 k, .int .i64 s, .slice A n c, .slice B m d]] W2 (GotV W2 (.bool true)) := fun h g => by have := rRight_N (k := k) (s := s) h g hn hm; rwa [decide_eq_true ho] at this
      by_cases hk : k = 4
      · exact BlockLoads_w (sg := true) hC hW hq (by omega) hk F0 R0 (fun h g => bkLoad_N h g ho is) (fun W => bkLen_N W hn hm)
      · have ho2 := ho
        rcases ho with ⟨h1, h2, h3, h4⟩ | ⟨h1, _⟩
        · have s0 : 0 ≤ s := by rcases h4 with ⟨h, _⟩ | ⟨h, _⟩ <;> omega
          have el : ldB k s C W = C.map (ld k s) := if_neg hk
          refine BlockLoads_c hC hW hq (by omega) hk s0 is (fun j hj => ?_) (fun W => rsig9_N W k) F0 R0 (fun h g => bkLoad_N h g ho2 is) (fun W => bkLen_N W hn hm)
          rw [el] at hj ⊢
          rw [List.length_map] at hj
          rw [map_at (d := 0) hj]
          have hc := hC.at (j := j) (by omega)
          obtain ⟨a, b, e⟩ := ld_in h1 s0 (c := C[j]?.getD 0) (by omega)
          refine ⟨a, b, fun h => ?_⟩
          cases hs : sig9 k with
          | true => rfl
          | false => have := e hs; omega
        · exact absurd h1 hk
    · exact BlockLoads_no hC hW F0 (fun h g => by have := rRight_N (k := k) (s := s) h g hn hm; rwa [decide_eq_false ho] at this)
  · exact BlockLoads_few (fun W => by have h := rFew_N (k := k) (s := s) (A := A) (B := B) (n := n) (c := c) (m := m) (d := d) W; rw [decide_eq_false f0] at h; exact h)

end Go.Proofs.Ytlmcpgahjfepjaa
