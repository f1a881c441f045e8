/-
  Several texts in one: J11d, V1, V2.
-/
import Derived.Test.YtpidpebgeblenaaGreatA9
import Derived.Test.YtpidpebgeblenaaGreatA3
import Derived.Test.YtpidpebgeblenaaGreatA5
import Derived.Test.YtpidpebgeblenaaGreatA7
import Derived.Test.YtpidpebgeblenaaGreatA1

/-
  The contracts of the landed block: right, of either manner.
-/
namespace Go.Proofs.YtpidpebgeblenaaGreat
set_option maxRecDepth 100000
set_option maxHeartbeats 8000000
open Go.RowKit
set_option linter.unusedVariables false
set_option linter.unusedSimpArgs false

theorem bkwright_N {w : World} {k s : Int} {A B : Option Addr} {n c m d : Nat} {W : List Int} (hW : IR w B m d W) (hm : m ≤ 9223372036854775807) :
    Calls Tryz.prog 116 #[.agg #[], .agg #[.int .i64 k, .int .i64 s, .slice A n c, .slice B m d]] w (GotV w (.bool (decide ((∀ x ∈ W, x ≠ -9223372036854775808) ∧ s = 0 ∧ n = 0)))) := by
  obtain ⟨r, hr⟩ : ∃ r, decide ((∀ x ∈ W, x ≠ -9223372036854775808) ∧ s = 0 ∧ n = 0) = r := ⟨_, rfl⟩
  rw [hr]
  have HR := Lib.hid hr
  clear hr
  have CT := fun (V : World) (x : Int) => bktkw_N V (x := x)
  have cc := Below.refl w.heap.size w
  go_enter Tryz.func116, Tryz.ntmps116
  go_wp2_with fail
  generalize hv_ : (w.alloc (.cells #[] 75)).alloc (.cells #[.int .i64 k, .int .i64 s, .slice A n c, .slice B m d] 43) = v1
  have bA : Below w.heap.size w v1 := by rw [← hv_]; exact (((Below.refl _ w).alloc (by simp) _).alloc (by simp) _)
  replace hW := hW.on bA
  replace cc := bK cc bA
  clear bA
  have kal : w.heap.size < v1.heap.size := by simp [← hv_] <;> omega
  have xa0 : v1.cell? ⟨w.heap.size + 1, 0, none⟩ = some (.int .i64 k) := by simp [← hv_, go_sem]
  have xa1 : v1.cell? ⟨w.heap.size + 1, 1, none⟩ = some (.int .i64 s) := by simp [← hv_, go_sem]
  have xa2 : v1.cell? ⟨w.heap.size + 1, 2, none⟩ = some (.slice A n c) := by simp [← hv_, go_sem]
  have xa3 : v1.cell? ⟨w.heap.size + 1, 3, none⟩ = some (.slice B m d) := by simp [← hv_, go_sem]
  have xal : w.heap.size + 1 < v1.heap.size := by simp [← hv_] <;> omega
  clear hv_
  have XA3 := Lib.hid xa3
  have XA2 := Lib.hid xa2
  have XA1 := Lib.hid xa1
  have XAL := Lib.hid xal
  have CCV := Lib.hid cc
  have HWV := Lib.hid hW
  clear xa0 xa1 xa2 xal cc hW
  go_wp2_with fail
  go_loopw [10] (fun iv wr => ∃ i : Nat, i ≤ m ∧ iv = .int .i64 (i : Int) ∧ (∀ j, j < i → W[j]?.getD 0 ≠ -9223372036854775808) ∧ Below v1.heap.size v1 wr) (fun iv _ => m - (intOf iv).toNat)
  case atStart => exact ⟨0, by omega, rfl, fun j h => absurd h (by omega), Below.refl _ _⟩
  case round =>
    clear xa3
    obtain ⟨i, hi, rfl, hj, hbl⟩ := hrel
    have xal := XAL.out
    have xa1 := (hbl.cell (p := ⟨w.heap.size + 1, 1, none⟩) xal).trans XA1.out
    have xa2 := (hbl.cell (p := ⟨w.heap.size + 1, 2, none⟩) xal).trans XA2.out
    have xa3 := (hbl.cell (p := ⟨w.heap.size + 1, 3, none⟩) xal).trans XA3.out
    replace xal := lK hbl xal
    have cc := CCV.out.trans (hbl.mono CCV.out.size)
    have hW := HWV.out.on hbl
    by_cases hlt : i < m
    · obtain ⟨bb, off, rfl, hb, hcell⟩ := hW.2.2 (by omega)
      have h1 := hcell i hlt
      have k3 : IntKind.i64.wrap ((i : Int) + 1) = ((i + 1 : Nat) : Int) := by rw [IntWalk.i64_in _ (by omega)]; omega
      have hl := hW.1
      obtain ⟨x, hx⟩ : ∃ x, W[i]?.getD 0 = x := ⟨_, rfl⟩
      rw [hx] at h1
      have CTx := fun V => CT V x
      by_cases hxy : x = -9223372036854775808
      · have hT : tkW x = false := decide_eq_false (fun e => e hxy)
        rw [hT] at CTx
        have hF : r = false := by
          rw [← HR.out]; refine decide_eq_false (fun h => ?_)
          have hm : W[i]?.getD 0 ∈ W := mem_at (by omega)
          exact h.1 _ hm (by rw [hx]; exact hxy)
        subst hF
        clear hj hx hl hW hcell CT hT hxy
        go_wp2_with fail
        refine (CTx _).mono ?_
        rintro e w2 ⟨rfl, b⟩
        replace cc := bK cc b
        clear b
        go_wp2_with fail
        go_ret
        exact ⟨rfl, cc⟩
      · have hT : tkW x = true := decide_eq_true hxy
        rw [hT] at CTx
        have HJ : Hid (∀ j, j < i + 1 → W[j]?.getD 0 ≠ -9223372036854775808) := Lib.hid (fun j h => by
          rcases Nat.lt_or_ge j i with e | e
          · exact hj j e
          · have e2 : j = i := by omega
            rw [e2, hx]; exact hxy)
        clear hj hx hl hW hcell CT hT hxy
        go_wp2_with fail
        refine (CTx _).mono ?_
        rintro e w2 ⟨rfl, b⟩
        replace hbl := bK hbl b
        clear b
        go_wp2_with fail
        go_roundw
        case rel => exact ⟨i + 1, by omega, rfl, HJ.out, hbl⟩
        case measure => simp [intOf] <;> omega
    · obtain rfl : i = m := by omega
      have hl := hW.1
      have hR : r = (decide (s = 0) && decide (n = 0)) := by
        rw [← HR.out, Bool.eq_iff_iff, decide_eq_true_eq, Bool.and_eq_true, decide_eq_true_eq, decide_eq_true_eq]
        refine ⟨fun h => h.2, fun h => ⟨fun x hx => ?_, h⟩⟩
        obtain ⟨j, hj2, rfl⟩ := at_mem 0 hx
        exact hj j (by omega)
      clear hj hl hW
      by_cases h0 : s = 0
      · subst h0
        by_cases h2 : n = 0
        · subst h2
          obtain rfl : r = true := by rw [hR]; rfl
          clear hR
          go_wp2_with fail
          go_ret
          exact ⟨rfl, cc⟩
        · have t2 : (n == 0) = false := beq_eq_false_iff_ne.2 h2
          have t3 : ((n : Int) == 0) = false := beq_eq_false_iff_ne.2 (by omega)
          obtain rfl : r = false := by rw [hR, decide_eq_false h2]; rfl
          clear hR h2
          go_wp2_with fail
          go_ret
          exact ⟨rfl, cc⟩
      · have t2 : (s == 0) = false := beq_eq_false_iff_ne.2 h0
        obtain rfl : r = false := by rw [hR, decide_eq_false h0]; rfl
        clear hR h0
        go_wp2_with fail
        go_ret
        exact ⟨rfl, cc⟩

theorem bkcright_neg {w : World} {k s : Int} {A B : Option Addr} {n c m d : Nat} {C : List Nat} (hk : Kind9 k) (hC : BR w A n c C) (h : s < 0) :
    Calls Tryz.prog 121 #[.int .i64 k, .agg #[.int .i64 k, .int .i64 s, .slice A n c, .slice B m d]] w (GotV w (.bool false)) := by
  have t0 : decide (s < 0) = true := decide_eq_true h
  clear hC
  have cc := Below.refl w.heap.size w
  go_enter Tryz.func121, Tryz.ntmps121
  go_wp2_with fail
  generalize hv_ : w.alloc (.cells #[.int .i64 k, .int .i64 s, .slice A n c, .slice B m d] 43) = v1
  have bA : Below w.heap.size w v1 := by rw [← hv_]; exact ((Below.refl _ w).alloc (by simp) _)
  replace cc := bK cc bA
  clear bA
  have ka0 : v1.cell? ⟨w.heap.size, 0, none⟩ = some (.int .i64 k) := by simp [← hv_, go_sem]
  have ka1 : v1.cell? ⟨w.heap.size, 1, none⟩ = some (.int .i64 s) := by simp [← hv_, go_sem]
  have ka2 : v1.cell? ⟨w.heap.size, 2, none⟩ = some (.slice A n c) := by simp [← hv_, go_sem]
  have ka3 : v1.cell? ⟨w.heap.size, 3, none⟩ = some (.slice B m d) := by simp [← hv_, go_sem]
  have kal : w.heap.size < v1.heap.size := by simp [← hv_] <;> omega
  clear hv_
  go_wp2_with fail
  go_ret
  exact ⟨rfl, cc⟩

theorem bkcright_wide {w : World} {k s : Int} {A B : Option Addr} {n c m d : Nat} {C : List Nat} (hk : Kind9 k) (hC : BR w A n c C) (h : 0 ≤ s) (h2 : 0 < m) :
    Calls Tryz.prog 121 #[.int .i64 k, .agg #[.int .i64 k, .int .i64 s, .slice A n c, .slice B m d]] w (GotV w (.bool false)) := by
  have t0 : decide (s < 0) = false := decide_eq_false (by omega)
  have t1 : decide (0 < m) = true := decide_eq_true h2
  have t2 : decide ((0 : Int) < (m : Int)) = true := decide_eq_true (by omega)
  clear hC
  have cc := Below.refl w.heap.size w
  go_enter Tryz.func121, Tryz.ntmps121
  go_wp2_with fail
  generalize hv_ : w.alloc (.cells #[.int .i64 k, .int .i64 s, .slice A n c, .slice B m d] 43) = v1
  have bA : Below w.heap.size w v1 := by rw [← hv_]; exact ((Below.refl _ w).alloc (by simp) _)
  replace cc := bK cc bA
  clear bA
  have ka0 : v1.cell? ⟨w.heap.size, 0, none⟩ = some (.int .i64 k) := by simp [← hv_, go_sem]
  have ka1 : v1.cell? ⟨w.heap.size, 1, none⟩ = some (.int .i64 s) := by simp [← hv_, go_sem]
  have ka2 : v1.cell? ⟨w.heap.size, 2, none⟩ = some (.slice A n c) := by simp [← hv_, go_sem]
  have ka3 : v1.cell? ⟨w.heap.size, 3, none⟩ = some (.slice B m d) := by simp [← hv_, go_sem]
  have kal : w.heap.size < v1.heap.size := by simp [← hv_] <;> omega
  clear hv_
  go_wp2_with fail
  go_ret
  exact ⟨rfl, cc⟩

theorem bkcright_z {w : World} {k s : Int} {A B : Option Addr} {n c m d : Nat} {C : List Nat} (hk : Kind9 k) (hC : BR w A n c C) (h : s = 0) (h2 : m = 0) :
    Calls Tryz.prog 121 #[.int .i64 k, .agg #[.int .i64 k, .int .i64 s, .slice A n c, .slice B m d]] w (GotV w (.bool (decide (∀ x ∈ C, x = near10 k 0 1)))) := by
  subst h
  subst h2
  have CN := fun V => bknear_N V i64_z i64_o (shr_z hk)
  have y6 : ((near10 k 0 1 : Nat) : Int) < 256 := by have := near10_le k 0 1; omega
  obtain ⟨r, hr⟩ : ∃ r, decide (∀ x ∈ C, x = near10 k 0 1) = r := ⟨_, rfl⟩
  rw [hr]
  have hl := hC.1
  have hz := ctB_le C (near10 k 0 1)
  have hq := ctB_all (C := C) (c := near10 k 0 1) hC.2.2.1 (by omega)
  have CT : ∀ {V : World} {g d : Nat}, BR V A n c C → V.cell? ⟨g, 0, none⟩ = some (.int .u8 ((near10 k 0 1 : Nat) : Int)) → Calls Tryz.prog 127 #[.slice A n c, .slice (some ⟨g, 0, none⟩) 1 d] V (GotV V (.int .i64 ((ctB C (near10 k 0 1) : Nat) : Int))) := fun h h2 => bcount_N h h2 y6
  generalize near10 k 0 1 = y at *
  generalize ctB C y = z at *
  have t4 : ((z : Int) == (n : Int)) = r := by rw [← hr, Bool.eq_iff_iff, beq_iff_eq, decide_eq_true_eq, ← hq]; omega
  have t5 : (z == n) = r := by rw [← t4, Bool.eq_iff_iff, beq_iff_eq, beq_iff_eq]; omega
  clear hr hq hl hz hk
  have cc := Below.refl w.heap.size w
  go_enter Tryz.func121, Tryz.ntmps121
  go_wp2_with fail
  generalize hv_ : w.alloc (.cells #[.int .i64 k, .int .i64 0, .slice A n c, .slice B 0 d] 43) = v1
  have bA : Below w.heap.size w v1 := by rw [← hv_]; exact ((Below.refl _ w).alloc (by simp) _)
  replace hC := hC.on bA
  replace cc := bK cc bA
  clear bA
  have ka0 : v1.cell? ⟨w.heap.size, 0, none⟩ = some (.int .i64 k) := by simp [← hv_, go_sem]
  have ka1 : v1.cell? ⟨w.heap.size, 1, none⟩ = some (.int .i64 0) := by simp [← hv_, go_sem]
  have ka2 : v1.cell? ⟨w.heap.size, 2, none⟩ = some (.slice A n c) := by simp [← hv_, go_sem]
  have ka3 : v1.cell? ⟨w.heap.size, 3, none⟩ = some (.slice B 0 d) := by simp [← hv_, go_sem]
  have kal : w.heap.size < v1.heap.size := by simp [← hv_] <;> omega
  clear hv_
  go_wp2_with fail
  have bD : Below v1.heap.size v1 v1.drew := below_drewN (Below.refl _ v1) 1
  replace hC := hC.on bD
  rewrite [cR bD kal] at ka0 ka1 ka2 ka3
  replace kal := lK bD kal
  replace cc := bK cc bD
  clear bD
  refine wp_region_held_drew (S := fun w' => w'.cell? ⟨w.heap.size, 0, none⟩ = some (.int .i64 k) ∧ w'.cell? ⟨w.heap.size, 1, none⟩ = some (.int .i64 0) ∧ w'.cell? ⟨w.heap.size, 2, none⟩ = some (.slice A n c) ∧ w'.cell? ⟨w.heap.size, 3, none⟩ = some (.slice B 0 d)) (by kernel_rfl) ?_ (fun hHeld => ?_)
  · exact ⟨ka0, ka1, ka2, ka3⟩
  refine tY (i := 0) (v := ?_) rfl ?_ hHeld ?_
  rotate_left
  · (intro w hSw; (try dsimp only at hSw); go_simp; (try with_reducible rfl))
  try simp only [Act.put, pT]
  refine tY (i := 1) (v := ?_) rfl ?_ hHeld ?_
  rotate_left
  · (intro w hSw; (try dsimp only at hSw); go_simp; (try with_reducible rfl))
  try simp only [Act.put, pT]
  refine tY (i := 2) (v := ?_) rfl ?_ hHeld ?_
  rotate_left
  · (intro w hSw; (try dsimp only at hSw); go_simp; (try with_reducible rfl))
  try simp only [Act.put, pT]
  refine tY (i := 6) (v := ?_) rfl ?_ hHeld ?_
  rotate_left
  · (intro w hSw; (try dsimp only at hSw); go_simp; (try with_reducible rfl))
  try simp only [Act.put, pT]
  refine tY (i := 7) (v := ?_) rfl ?_ hHeld ?_
  rotate_left
  · (intro w hSw; (try dsimp only at hSw); go_simp; (try with_reducible rfl))
  try simp only [Act.put, pT]
  refine tY (i := 8) (v := ?_) rfl ?_ hHeld ?_
  rotate_left
  · (intro w hSw; (try dsimp only at hSw); go_simp; (try with_reducible rfl))
  try simp only [Act.put, pT]
  refine wpAnyH_ready (rs := [3]) (by kernel_rfl) (by simp) ?_
  refine AllReadyH.cons rfl (fun K hK => ?_) AllReadyH.nil
  (try simp only [pT])
  rw [if_pos (by rfl)]
  go_simp
  go_at_call 126
  refine (CN _).mono ?_
  rintro e w2 ⟨rfl, b⟩
  replace hC := hC.on b
  rewrite [cR b kal] at ka0 ka1 ka2 ka3
  replace kal := lK b kal
  replace cc := bK cc b
  clear b
  refine hK.out _ _ ?_ (fun hHeld => ?_)
  · exact ⟨ka0, ka1, ka2, ka3⟩
  clear hK K
  try simp only [Act.put, pT]
  refine wpAnyH_ready (rs := [4]) (by kernel_rfl) (by simp) ?_
  refine AllReadyH.cons rfl (fun K hK => ?_) AllReadyH.nil
  (try simp only [pT])
  rw [if_pos (by rfl)]
  go_simp
  generalize hv_ : w2.alloc (.cells #[.int .u8 (y : Int)] 5) = v3
  have bA : Below w2.heap.size w2 v3 := by rw [← hv_]; exact below_one _ _
  replace hC := hC.on bA
  rewrite [cR bA kal] at ka0 ka1 ka2 ka3
  replace kal := lK bA kal
  replace cc := bK cc bA
  clear bA
  have ra0 : v3.cell? ⟨w2.heap.size, 0, none⟩ = some (.int .u8 (y : Int)) := by simp [← hv_, go_sem]
  have ral : w2.heap.size < v3.heap.size := by simp [← hv_]
  clear hv_
  refine hK.out _ _ ?_ (fun hHeld => ?_)
  · exact ⟨ka0, ka1, ka2, ka3⟩
  clear hK K
  try simp only [Act.put, pT]
  refine wpAnyH_ready (rs := [5]) (by kernel_rfl) (by simp) ?_
  refine AllReadyH.cons rfl (fun K hK => ?_) AllReadyH.nil
  (try simp only [pT])
  rw [if_pos (by rfl)]
  go_simp
  go_at_call 127
  refine (CT hC ra0).mono ?_
  rintro e w4 ⟨rfl, b⟩
  replace hC := hC.on b
  rewrite [cR b kal] at ka0 ka1 ka2 ka3
  replace kal := lK b kal
  replace ra0 := cK b ra0 ral
  replace ral := lK b ral
  replace cc := bK cc b
  clear b
  refine hK.out _ _ ?_ (fun hHeld => ?_)
  · exact ⟨ka0, ka1, ka2, ka3⟩
  clear hK K
  try simp only [Act.put, pT]
  refine tY (i := 9) (v := ?_) rfl ?_ hHeld ?_
  rotate_left
  · (intro w hSw; (try dsimp only at hSw); go_simp; (try with_reducible rfl))
  try simp only [Act.put, pT]
  refine tY (i := 10) (v := ?_) rfl ?_ hHeld ?_
  rotate_left
  · (intro w hSw; (try dsimp only at hSw); go_simp; (try with_reducible rfl))
  try simp only [Act.put, pT]
  refine wpAnyH_done (by kernel_rfl) ?_ _
  clear hHeld
  go_wp2_with fail
  go_ret
  exact ⟨rfl, cc⟩

theorem bkcright_u {w : World} {k s : Int} {A B : Option Addr} {n c m d : Nat} {C : List Nat} (hk : Kind9 k) (hC : BR w A n c C) (h : 0 < s) (h2 : m = 0) (hs : sig9 k = false) :
    Calls Tryz.prog 121 #[.int .i64 k, .agg #[.int .i64 k, .int .i64 s, .slice A n c, .slice B m d]] w (GotV w (.bool (decide (near10 k 1 1 ∈ C)))) := by
  subst h2
  have t0 : decide (s < 0) = false := decide_eq_false (by omega)
  have t1 : (s == 0) = false := beq_eq_false_iff_ne.2 (by omega)
  have CS := fun V => bsig_N V k
  rw [hs] at CS
  have y6 : ((near10 k 1 1 : Nat) : Int) < 256 := by have := near10_le k 1 1; omega
  have CN := fun V => bknear_N V i64_o i64_o (shr_o hk)
  have hi1 := ixB_mem (C := C) (c := near10 k 1 1) hC.2.2.1 (by omega)
  have CI : ∀ {V : World}, BR V A n c C → Calls Tryz.prog 129 #[.slice A n c, .int .u8 ((near10 k 1 1 : Nat) : Int)] V (GotV V (.int .i64 (ixB C (near10 k 1 1)))) := fun h => bindex_N h _ y6
  generalize near10 k 1 1 = y at *
  generalize ixB C y = z at *
  obtain ⟨r, hr⟩ : ∃ r, decide (0 ≤ z) = r := ⟨_, rfl⟩
  have hr2 : decide (y ∈ C) = r := by rw [← hr]; exact decide_eq_decide.2 hi1.symm
  rw [hr2]
  clear hi1 hr2 hk hs h
  have cc := Below.refl w.heap.size w
  go_enter Tryz.func121, Tryz.ntmps121
  go_wp2_with fail
  generalize hv_ : w.alloc (.cells #[.int .i64 k, .int .i64 s, .slice A n c, .slice B 0 d] 43) = v1
  have bA : Below w.heap.size w v1 := by rw [← hv_]; exact ((Below.refl _ w).alloc (by simp) _)
  replace hC := hC.on bA
  replace cc := bK cc bA
  clear bA
  have ka0 : v1.cell? ⟨w.heap.size, 0, none⟩ = some (.int .i64 k) := by simp [← hv_, go_sem]
  have ka1 : v1.cell? ⟨w.heap.size, 1, none⟩ = some (.int .i64 s) := by simp [← hv_, go_sem]
  have ka2 : v1.cell? ⟨w.heap.size, 2, none⟩ = some (.slice A n c) := by simp [← hv_, go_sem]
  have ka3 : v1.cell? ⟨w.heap.size, 3, none⟩ = some (.slice B 0 d) := by simp [← hv_, go_sem]
  have kal : w.heap.size < v1.heap.size := by simp [← hv_] <;> omega
  clear hv_
  go_wp2_with fail
  have bD : Below v1.heap.size v1 v1.drew := below_drewN (Below.refl _ v1) 1
  replace hC := hC.on bD
  rewrite [cR bD kal] at ka0 ka1 ka2 ka3
  replace kal := lK bD kal
  replace cc := bK cc bD
  clear bD
  refine wp_region_held_drew (S := fun w' => w'.cell? ⟨w.heap.size, 0, none⟩ = some (.int .i64 k) ∧ w'.cell? ⟨w.heap.size, 1, none⟩ = some (.int .i64 s) ∧ w'.cell? ⟨w.heap.size, 2, none⟩ = some (.slice A n c) ∧ w'.cell? ⟨w.heap.size, 3, none⟩ = some (.slice B 0 d)) (by kernel_rfl) ?_ (fun hHeld => ?_)
  · exact ⟨ka0, ka1, ka2, ka3⟩
  refine tY (i := 0) (v := ?_) rfl ?_ hHeld ?_
  rotate_left
  · (intro w hSw; (try dsimp only at hSw); go_simp; (try with_reducible rfl))
  try simp only [Act.put, pT]
  refine wpAnyH_ready (rs := [1]) (by kernel_rfl) (by simp) ?_
  refine AllReadyH.cons rfl (fun K hK => ?_) AllReadyH.nil
  (try simp only [pT])
  rw [if_pos (by rfl)]
  go_simp
  go_at_call 128
  refine (CS _).mono ?_
  rintro e w2 ⟨rfl, b⟩
  replace hC := hC.on b
  rewrite [cR b kal] at ka0 ka1 ka2 ka3
  replace kal := lK b kal
  replace cc := bK cc b
  clear b
  refine hK.out _ _ ?_ (fun hHeld => ?_)
  · exact ⟨ka0, ka1, ka2, ka3⟩
  clear hK K
  try simp only [Act.put, pT]
  refine tY (i := 2) (v := ?_) rfl ?_ hHeld ?_
  rotate_left
  · (intro w hSw; (try dsimp only at hSw); go_simp; (try with_reducible rfl))
  try simp only [Act.put, pT]
  refine tU (i := 3) rfl hHeld ?_
  try simp only [Act.put, pT]
  refine tU (i := 4) rfl hHeld ?_
  try simp only [Act.put, pT]
  refine tU (i := 5) rfl hHeld ?_
  try simp only [Act.put, pT]
  refine tU (i := 6) rfl hHeld ?_
  try simp only [Act.put, pT]
  refine tU (i := 7) rfl hHeld ?_
  try simp only [Act.put, pT]
  refine tU (i := 8) rfl hHeld ?_
  try simp only [Act.put, pT]
  refine tY (i := 9) (v := ?_) rfl ?_ hHeld ?_
  rotate_left
  · (intro w hSw; (try dsimp only at hSw); go_simp; (try with_reducible rfl))
  try simp only [Act.put, pT]
  refine wpAnyH_done (by kernel_rfl) ?_ _
  clear hHeld
  go_wp2_with fail
  have bD : Below w2.heap.size w2 w2.drew := below_drewN (Below.refl _ w2) 1
  replace hC := hC.on bD
  rewrite [cR bD kal] at ka0 ka1 ka2 ka3
  replace kal := lK bD kal
  replace cc := bK cc bD
  clear bD
  refine wp_region_held_drew (S := fun w' => w'.cell? ⟨w.heap.size, 0, none⟩ = some (.int .i64 k) ∧ w'.cell? ⟨w.heap.size, 1, none⟩ = some (.int .i64 s) ∧ w'.cell? ⟨w.heap.size, 2, none⟩ = some (.slice A n c) ∧ w'.cell? ⟨w.heap.size, 3, none⟩ = some (.slice B 0 d)) (by kernel_rfl) ?_ (fun hHeld => ?_)
  · exact ⟨ka0, ka1, ka2, ka3⟩
  refine tY (i := 0) (v := ?_) rfl ?_ hHeld ?_
  rotate_left
  · (intro w hSw; (try dsimp only at hSw); go_simp; (try with_reducible rfl))
  try simp only [Act.put, pT]
  refine tY (i := 1) (v := ?_) rfl ?_ hHeld ?_
  rotate_left
  · (intro w hSw; (try dsimp only at hSw); go_simp; (try with_reducible rfl))
  try simp only [Act.put, pT]
  refine tY (i := 2) (v := ?_) rfl ?_ hHeld ?_
  rotate_left
  · (intro w hSw; (try dsimp only at hSw); go_simp; (try with_reducible rfl))
  try simp only [Act.put, pT]
  refine wpAnyH_ready (rs := [3]) (by kernel_rfl) (by simp) ?_
  refine AllReadyH.cons rfl (fun K hK => ?_) AllReadyH.nil
  (try simp only [pT])
  rw [if_pos (by rfl)]
  go_simp
  go_at_call 126
  refine (CN _).mono ?_
  rintro e w3 ⟨rfl, b⟩
  replace hC := hC.on b
  rewrite [cR b kal] at ka0 ka1 ka2 ka3
  replace kal := lK b kal
  replace cc := bK cc b
  clear b
  refine hK.out _ _ ?_ (fun hHeld => ?_)
  · exact ⟨ka0, ka1, ka2, ka3⟩
  clear hK K
  try simp only [Act.put, pT]
  refine wpAnyH_ready (rs := [4]) (by kernel_rfl) (by simp) ?_
  refine AllReadyH.cons rfl (fun K hK => ?_) AllReadyH.nil
  (try simp only [pT])
  rw [if_pos (by rfl)]
  go_simp
  go_at_call 129
  refine (CI hC).mono ?_
  rintro e w4 ⟨rfl, b⟩
  replace hC := hC.on b
  rewrite [cR b kal] at ka0 ka1 ka2 ka3
  replace kal := lK b kal
  replace cc := bK cc b
  clear b
  refine hK.out _ _ ?_ (fun hHeld => ?_)
  · exact ⟨ka0, ka1, ka2, ka3⟩
  clear hK K
  try simp only [Act.put, pT]
  refine tY (i := 5) (v := ?_) rfl ?_ hHeld ?_
  rotate_left
  · (intro w hSw; (try dsimp only at hSw); go_simp; (try with_reducible rfl))
  try simp only [Act.put, pT]
  refine tY (i := 6) (v := ?_) rfl ?_ hHeld ?_
  rotate_left
  · (intro w hSw; (try dsimp only at hSw); go_simp; (try with_reducible rfl))
  try simp only [Act.put, pT]
  refine wpAnyH_done (by kernel_rfl) ?_ _
  clear hHeld
  go_wp2_with fail
  go_ret
  exact ⟨rfl, cc⟩

theorem bkcright_n {w : World} {k s : Int} {A B : Option Addr} {n c m d : Nat} {C : List Nat} (hk : Kind9 k) (hC : BR w A n c C) (h : 0 < s) (h2 : m = 0) (hs : sig9 k = true) (h3 : ¬ near10 k (-1) 1 ∈ C) :
    Calls Tryz.prog 121 #[.int .i64 k, .agg #[.int .i64 k, .int .i64 s, .slice A n c, .slice B m d]] w (GotV w (.bool (decide (near10 k 1 1 ∈ C)))) := by
  subst h2
  have t0 : decide (s < 0) = false := decide_eq_false (by omega)
  have t1 : (s == 0) = false := beq_eq_false_iff_ne.2 (by omega)
  have CS := fun V => bsig_N V k
  rw [hs] at CS
  have y6 : ((near10 k 1 1 : Nat) : Int) < 256 := by have := near10_le k 1 1; omega
  have CN := fun V => bknear_N V i64_o i64_o (shr_o hk)
  have hi1 := ixB_mem (C := C) (c := near10 k 1 1) hC.2.2.1 (by omega)
  have CI : ∀ {V : World}, BR V A n c C → Calls Tryz.prog 129 #[.slice A n c, .int .u8 ((near10 k 1 1 : Nat) : Int)] V (GotV V (.int .i64 (ixB C (near10 k 1 1)))) := fun h => bindex_N h _ y6
  have y7 : ((near10 k (-1) 1 : Nat) : Int) < 256 := by have := near10_le k (-1) 1; omega
  have CL := fun V => bknear_N V i64_n i64_o (shr_m hk hs)
  have hi2 := ixB_mem (C := C) (c := near10 k (-1) 1) hC.2.2.1 (by omega)
  have CJ : ∀ {V : World}, BR V A n c C → Calls Tryz.prog 129 #[.slice A n c, .int .u8 ((near10 k (-1) 1 : Nat) : Int)] V (GotV V (.int .i64 (ixB C (near10 k (-1) 1)))) := fun h => bindex_N h _ y7
  generalize near10 k 1 1 = y at *
  generalize ixB C y = z at *
  generalize near10 k (-1) 1 = u at *
  generalize ixB C u = v at *
  have t3 : decide (0 ≤ v) = false := decide_eq_false (by rw [hi2]; exact h3)
  clear hi2 h3
  obtain ⟨r, hr⟩ : ∃ r, decide (0 ≤ z) = r := ⟨_, rfl⟩
  have hr2 : decide (y ∈ C) = r := by rw [← hr]; exact decide_eq_decide.2 hi1.symm
  rw [hr2]
  clear hi1 hr2 hk hs h
  have cc := Below.refl w.heap.size w
  go_enter Tryz.func121, Tryz.ntmps121
  go_wp2_with fail
  generalize hv_ : w.alloc (.cells #[.int .i64 k, .int .i64 s, .slice A n c, .slice B 0 d] 43) = v1
  have bA : Below w.heap.size w v1 := by rw [← hv_]; exact ((Below.refl _ w).alloc (by simp) _)
  replace hC := hC.on bA
  replace cc := bK cc bA
  clear bA
  have ka0 : v1.cell? ⟨w.heap.size, 0, none⟩ = some (.int .i64 k) := by simp [← hv_, go_sem]
  have ka1 : v1.cell? ⟨w.heap.size, 1, none⟩ = some (.int .i64 s) := by simp [← hv_, go_sem]
  have ka2 : v1.cell? ⟨w.heap.size, 2, none⟩ = some (.slice A n c) := by simp [← hv_, go_sem]
  have ka3 : v1.cell? ⟨w.heap.size, 3, none⟩ = some (.slice B 0 d) := by simp [← hv_, go_sem]
  have kal : w.heap.size < v1.heap.size := by simp [← hv_] <;> omega
  clear hv_
  go_wp2_with fail
  have bD : Below v1.heap.size v1 v1.drew := below_drewN (Below.refl _ v1) 1
  replace hC := hC.on bD
  rewrite [cR bD kal] at ka0 ka1 ka2 ka3
  replace kal := lK bD kal
  replace cc := bK cc bD
  clear bD
  refine wp_region_held_drew (S := fun w' => w'.cell? ⟨w.heap.size, 0, none⟩ = some (.int .i64 k) ∧ w'.cell? ⟨w.heap.size, 1, none⟩ = some (.int .i64 s) ∧ w'.cell? ⟨w.heap.size, 2, none⟩ = some (.slice A n c) ∧ w'.cell? ⟨w.heap.size, 3, none⟩ = some (.slice B 0 d)) (by kernel_rfl) ?_ (fun hHeld => ?_)
  · exact ⟨ka0, ka1, ka2, ka3⟩
  refine tY (i := 0) (v := ?_) rfl ?_ hHeld ?_
  rotate_left
  · (intro w hSw; (try dsimp only at hSw); go_simp; (try with_reducible rfl))
  try simp only [Act.put, pT]
  refine wpAnyH_ready (rs := [1]) (by kernel_rfl) (by simp) ?_
  refine AllReadyH.cons rfl (fun K hK => ?_) AllReadyH.nil
  (try simp only [pT])
  rw [if_pos (by rfl)]
  go_simp
  go_at_call 128
  refine (CS _).mono ?_
  rintro e w2 ⟨rfl, b⟩
  replace hC := hC.on b
  rewrite [cR b kal] at ka0 ka1 ka2 ka3
  replace kal := lK b kal
  replace cc := bK cc b
  clear b
  refine hK.out _ _ ?_ (fun hHeld => ?_)
  · exact ⟨ka0, ka1, ka2, ka3⟩
  clear hK K
  try simp only [Act.put, pT]
  refine tY (i := 2) (v := ?_) rfl ?_ hHeld ?_
  rotate_left
  · (intro w hSw; (try dsimp only at hSw); go_simp; (try with_reducible rfl))
  try simp only [Act.put, pT]
  refine tY (i := 3) (v := ?_) rfl ?_ hHeld ?_
  rotate_left
  · (intro w hSw; (try dsimp only at hSw); go_simp; (try with_reducible rfl))
  try simp only [Act.put, pT]
  refine tY (i := 4) (v := ?_) rfl ?_ hHeld ?_
  rotate_left
  · (intro w hSw; (try dsimp only at hSw); go_simp; (try with_reducible rfl))
  try simp only [Act.put, pT]
  refine tY (i := 5) (v := ?_) rfl ?_ hHeld ?_
  rotate_left
  · (intro w hSw; (try dsimp only at hSw); go_simp; (try with_reducible rfl))
  try simp only [Act.put, pT]
  refine wpAnyH_ready (rs := [6]) (by kernel_rfl) (by simp) ?_
  refine AllReadyH.cons rfl (fun K hK => ?_) AllReadyH.nil
  (try simp only [pT])
  rw [if_pos (by rfl)]
  go_simp
  go_at_call 126
  refine (CL _).mono ?_
  rintro e w3 ⟨rfl, b⟩
  replace hC := hC.on b
  rewrite [cR b kal] at ka0 ka1 ka2 ka3
  replace kal := lK b kal
  replace cc := bK cc b
  clear b
  refine hK.out _ _ ?_ (fun hHeld => ?_)
  · exact ⟨ka0, ka1, ka2, ka3⟩
  clear hK K
  try simp only [Act.put, pT]
  refine wpAnyH_ready (rs := [7]) (by kernel_rfl) (by simp) ?_
  refine AllReadyH.cons rfl (fun K hK => ?_) AllReadyH.nil
  (try simp only [pT])
  rw [if_pos (by rfl)]
  go_simp
  go_at_call 129
  refine (CJ hC).mono ?_
  rintro e w4 ⟨rfl, b⟩
  replace hC := hC.on b
  rewrite [cR b kal] at ka0 ka1 ka2 ka3
  replace kal := lK b kal
  replace cc := bK cc b
  clear b
  refine hK.out _ _ ?_ (fun hHeld => ?_)
  · exact ⟨ka0, ka1, ka2, ka3⟩
  clear hK K
  try simp only [Act.put, pT]
  refine tY (i := 8) (v := ?_) rfl ?_ hHeld ?_
  rotate_left
  · (intro w hSw; (try dsimp only at hSw); go_simp; (try with_reducible rfl))
  try simp only [Act.put, pT]
  refine tY (i := 9) (v := ?_) rfl ?_ hHeld ?_
  rotate_left
  · (intro w hSw; (try dsimp only at hSw); go_simp; (try with_reducible rfl))
  try simp only [Act.put, pT]
  refine wpAnyH_done (by kernel_rfl) ?_ _
  clear hHeld
  go_wp2_with fail
  have bD : Below w4.heap.size w4 w4.drew := below_drewN (Below.refl _ w4) 1
  replace hC := hC.on bD
  rewrite [cR bD kal] at ka0 ka1 ka2 ka3
  replace kal := lK bD kal
  replace cc := bK cc bD
  clear bD
  refine wp_region_held_drew (S := fun w' => w'.cell? ⟨w.heap.size, 0, none⟩ = some (.int .i64 k) ∧ w'.cell? ⟨w.heap.size, 1, none⟩ = some (.int .i64 s) ∧ w'.cell? ⟨w.heap.size, 2, none⟩ = some (.slice A n c) ∧ w'.cell? ⟨w.heap.size, 3, none⟩ = some (.slice B 0 d)) (by kernel_rfl) ?_ (fun hHeld => ?_)
  · exact ⟨ka0, ka1, ka2, ka3⟩
  refine tY (i := 0) (v := ?_) rfl ?_ hHeld ?_
  rotate_left
  · (intro w hSw; (try dsimp only at hSw); go_simp; (try with_reducible rfl))
  try simp only [Act.put, pT]
  refine tY (i := 1) (v := ?_) rfl ?_ hHeld ?_
  rotate_left
  · (intro w hSw; (try dsimp only at hSw); go_simp; (try with_reducible rfl))
  try simp only [Act.put, pT]
  refine tY (i := 2) (v := ?_) rfl ?_ hHeld ?_
  rotate_left
  · (intro w hSw; (try dsimp only at hSw); go_simp; (try with_reducible rfl))
  try simp only [Act.put, pT]
  refine wpAnyH_ready (rs := [3]) (by kernel_rfl) (by simp) ?_
  refine AllReadyH.cons rfl (fun K hK => ?_) AllReadyH.nil
  (try simp only [pT])
  rw [if_pos (by rfl)]
  go_simp
  go_at_call 126
  refine (CN _).mono ?_
  rintro e w5 ⟨rfl, b⟩
  replace hC := hC.on b
  rewrite [cR b kal] at ka0 ka1 ka2 ka3
  replace kal := lK b kal
  replace cc := bK cc b
  clear b
  refine hK.out _ _ ?_ (fun hHeld => ?_)
  · exact ⟨ka0, ka1, ka2, ka3⟩
  clear hK K
  try simp only [Act.put, pT]
  refine wpAnyH_ready (rs := [4]) (by kernel_rfl) (by simp) ?_
  refine AllReadyH.cons rfl (fun K hK => ?_) AllReadyH.nil
  (try simp only [pT])
  rw [if_pos (by rfl)]
  go_simp
  go_at_call 129
  refine (CI hC).mono ?_
  rintro e w6 ⟨rfl, b⟩
  replace hC := hC.on b
  rewrite [cR b kal] at ka0 ka1 ka2 ka3
  replace kal := lK b kal
  replace cc := bK cc b
  clear b
  refine hK.out _ _ ?_ (fun hHeld => ?_)
  · exact ⟨ka0, ka1, ka2, ka3⟩
  clear hK K
  try simp only [Act.put, pT]
  refine tY (i := 5) (v := ?_) rfl ?_ hHeld ?_
  rotate_left
  · (intro w hSw; (try dsimp only at hSw); go_simp; (try with_reducible rfl))
  try simp only [Act.put, pT]
  refine tY (i := 6) (v := ?_) rfl ?_ hHeld ?_
  rotate_left
  · (intro w hSw; (try dsimp only at hSw); go_simp; (try with_reducible rfl))
  try simp only [Act.put, pT]
  refine wpAnyH_done (by kernel_rfl) ?_ _
  clear hHeld
  go_wp2_with fail
  go_ret
  exact ⟨rfl, cc⟩

theorem bkcright_y {w : World} {k s : Int} {A B : Option Addr} {n c m d : Nat} {C : List Nat} (hk : Kind9 k) (hC : BR w A n c C) (h : 0 < s) (h2 : m = 0) (hs : sig9 k = true) (h3 : near10 k (-1) 1 ∈ C) :
    Calls Tryz.prog 121 #[.int .i64 k, .agg #[.int .i64 k, .int .i64 s, .slice A n c, .slice B m d]] w (GotV w (.bool true)) := by
  subst h2
  have t0 : decide (s < 0) = false := decide_eq_false (by omega)
  have t1 : (s == 0) = false := beq_eq_false_iff_ne.2 (by omega)
  have CS := fun V => bsig_N V k
  rw [hs] at CS
  have y6 : ((near10 k 1 1 : Nat) : Int) < 256 := by have := near10_le k 1 1; omega
  have CN := fun V => bknear_N V i64_o i64_o (shr_o hk)
  have hi1 := ixB_mem (C := C) (c := near10 k 1 1) hC.2.2.1 (by omega)
  have CI : ∀ {V : World}, BR V A n c C → Calls Tryz.prog 129 #[.slice A n c, .int .u8 ((near10 k 1 1 : Nat) : Int)] V (GotV V (.int .i64 (ixB C (near10 k 1 1)))) := fun h => bindex_N h _ y6
  have y7 : ((near10 k (-1) 1 : Nat) : Int) < 256 := by have := near10_le k (-1) 1; omega
  have CL := fun V => bknear_N V i64_n i64_o (shr_m hk hs)
  have hi2 := ixB_mem (C := C) (c := near10 k (-1) 1) hC.2.2.1 (by omega)
  have CJ : ∀ {V : World}, BR V A n c C → Calls Tryz.prog 129 #[.slice A n c, .int .u8 ((near10 k (-1) 1 : Nat) : Int)] V (GotV V (.int .i64 (ixB C (near10 k (-1) 1)))) := fun h => bindex_N h _ y7
  generalize near10 k 1 1 = y at *
  generalize ixB C y = z at *
  generalize near10 k (-1) 1 = u at *
  generalize ixB C u = v at *
  have t3 : decide (0 ≤ v) = true := decide_eq_true (by rw [hi2]; exact h3)
  clear hi2 h3
  obtain ⟨r, hr⟩ : ∃ r, decide (0 ≤ z) = r := ⟨_, rfl⟩
  have hr2 : decide (y ∈ C) = r := by rw [← hr]; exact decide_eq_decide.2 hi1.symm
  clear hi1 hr2 hk hs h
  have cc := Below.refl w.heap.size w
  go_enter Tryz.func121, Tryz.ntmps121
  go_wp2_with fail
  generalize hv_ : w.alloc (.cells #[.int .i64 k, .int .i64 s, .slice A n c, .slice B 0 d] 43) = v1
  have bA : Below w.heap.size w v1 := by rw [← hv_]; exact ((Below.refl _ w).alloc (by simp) _)
  replace hC := hC.on bA
  replace cc := bK cc bA
  clear bA
  have ka0 : v1.cell? ⟨w.heap.size, 0, none⟩ = some (.int .i64 k) := by simp [← hv_, go_sem]
  have ka1 : v1.cell? ⟨w.heap.size, 1, none⟩ = some (.int .i64 s) := by simp [← hv_, go_sem]
  have ka2 : v1.cell? ⟨w.heap.size, 2, none⟩ = some (.slice A n c) := by simp [← hv_, go_sem]
  have ka3 : v1.cell? ⟨w.heap.size, 3, none⟩ = some (.slice B 0 d) := by simp [← hv_, go_sem]
  have kal : w.heap.size < v1.heap.size := by simp [← hv_] <;> omega
  clear hv_
  go_wp2_with fail
  have bD : Below v1.heap.size v1 v1.drew := below_drewN (Below.refl _ v1) 1
  replace hC := hC.on bD
  rewrite [cR bD kal] at ka0 ka1 ka2 ka3
  replace kal := lK bD kal
  replace cc := bK cc bD
  clear bD
  refine wp_region_held_drew (S := fun w' => w'.cell? ⟨w.heap.size, 0, none⟩ = some (.int .i64 k) ∧ w'.cell? ⟨w.heap.size, 1, none⟩ = some (.int .i64 s) ∧ w'.cell? ⟨w.heap.size, 2, none⟩ = some (.slice A n c) ∧ w'.cell? ⟨w.heap.size, 3, none⟩ = some (.slice B 0 d)) (by kernel_rfl) ?_ (fun hHeld => ?_)
  · exact ⟨ka0, ka1, ka2, ka3⟩
  refine tY (i := 0) (v := ?_) rfl ?_ hHeld ?_
  rotate_left
  · (intro w hSw; (try dsimp only at hSw); go_simp; (try with_reducible rfl))
  try simp only [Act.put, pT]
  refine wpAnyH_ready (rs := [1]) (by kernel_rfl) (by simp) ?_
  refine AllReadyH.cons rfl (fun K hK => ?_) AllReadyH.nil
  (try simp only [pT])
  rw [if_pos (by rfl)]
  go_simp
  go_at_call 128
  refine (CS _).mono ?_
  rintro e w2 ⟨rfl, b⟩
  replace hC := hC.on b
  rewrite [cR b kal] at ka0 ka1 ka2 ka3
  replace kal := lK b kal
  replace cc := bK cc b
  clear b
  refine hK.out _ _ ?_ (fun hHeld => ?_)
  · exact ⟨ka0, ka1, ka2, ka3⟩
  clear hK K
  try simp only [Act.put, pT]
  refine tY (i := 2) (v := ?_) rfl ?_ hHeld ?_
  rotate_left
  · (intro w hSw; (try dsimp only at hSw); go_simp; (try with_reducible rfl))
  try simp only [Act.put, pT]
  refine tY (i := 3) (v := ?_) rfl ?_ hHeld ?_
  rotate_left
  · (intro w hSw; (try dsimp only at hSw); go_simp; (try with_reducible rfl))
  try simp only [Act.put, pT]
  refine tY (i := 4) (v := ?_) rfl ?_ hHeld ?_
  rotate_left
  · (intro w hSw; (try dsimp only at hSw); go_simp; (try with_reducible rfl))
  try simp only [Act.put, pT]
  refine tY (i := 5) (v := ?_) rfl ?_ hHeld ?_
  rotate_left
  · (intro w hSw; (try dsimp only at hSw); go_simp; (try with_reducible rfl))
  try simp only [Act.put, pT]
  refine wpAnyH_ready (rs := [6]) (by kernel_rfl) (by simp) ?_
  refine AllReadyH.cons rfl (fun K hK => ?_) AllReadyH.nil
  (try simp only [pT])
  rw [if_pos (by rfl)]
  go_simp
  go_at_call 126
  refine (CL _).mono ?_
  rintro e w3 ⟨rfl, b⟩
  replace hC := hC.on b
  rewrite [cR b kal] at ka0 ka1 ka2 ka3
  replace kal := lK b kal
  replace cc := bK cc b
  clear b
  refine hK.out _ _ ?_ (fun hHeld => ?_)
  · exact ⟨ka0, ka1, ka2, ka3⟩
  clear hK K
  try simp only [Act.put, pT]
  refine wpAnyH_ready (rs := [7]) (by kernel_rfl) (by simp) ?_
  refine AllReadyH.cons rfl (fun K hK => ?_) AllReadyH.nil
  (try simp only [pT])
  rw [if_pos (by rfl)]
  go_simp
  go_at_call 129
  refine (CJ hC).mono ?_
  rintro e w4 ⟨rfl, b⟩
  replace hC := hC.on b
  rewrite [cR b kal] at ka0 ka1 ka2 ka3
  replace kal := lK b kal
  replace cc := bK cc b
  clear b
  refine hK.out _ _ ?_ (fun hHeld => ?_)
  · exact ⟨ka0, ka1, ka2, ka3⟩
  clear hK K
  try simp only [Act.put, pT]
  refine tY (i := 8) (v := ?_) rfl ?_ hHeld ?_
  rotate_left
  · (intro w hSw; (try dsimp only at hSw); go_simp; (try with_reducible rfl))
  try simp only [Act.put, pT]
  refine tY (i := 9) (v := ?_) rfl ?_ hHeld ?_
  rotate_left
  · (intro w hSw; (try dsimp only at hSw); go_simp; (try with_reducible rfl))
  try simp only [Act.put, pT]
  refine wpAnyH_done (by kernel_rfl) ?_ _
  clear hHeld
  go_wp2_with fail
  go_ret
  exact ⟨rfl, cc⟩

theorem bkcright_N {w : World} {k s : Int} {A B : Option Addr} {n c m d : Nat} {C : List Nat} (hk : Kind9 k) (hC : BR w A n c C) : Calls Tryz.prog 121 #[.int .i64 k, .agg #[.int .i64 k, .int .i64 s, .slice A n c, .slice B m d]] w (GotV w (.bool (decide (m = 0 ∧ OkC k s C)))) := by
  have e0 : Shr k (-1) 1 ↔ sig9 k = true := ⟨fun h => (by rcases h.2.2.2.2 with e | e; exact absurd e (by omega); exact e), fun h => shr_m hk h⟩
  rcases Int.lt_or_le s 0 with a0 | a0
  · rw [decide_eq_false (fun h => by rcases h.2 with e | e; have := e.1; omega; have := e.1; omega)]; exact bkcright_neg hk hC a0
  rcases Nat.eq_zero_or_pos m with a1 | a1
  · by_cases a2 : s = 0
    · have e : decide (m = 0 ∧ OkC k s C) = decide (∀ x ∈ C, x = near10 k 0 1) := decide_eq_decide.2 ⟨fun h => (by rcases h.2 with e | e; exact e.2; have := e.1; omega), fun h => ⟨a1, .inl ⟨a2, h⟩⟩⟩
      rw [e]; exact bkcright_z hk hC a2 a1
    · cases hs : sig9 k with
      | false =>
        have e : decide (m = 0 ∧ OkC k s C) = decide (near10 k 1 1 ∈ C) := decide_eq_decide.2 ⟨fun h => (by
          rcases h.2 with e | ⟨e, x, hx, e2⟩
          · exact absurd e.1 a2
          · rcases e2 with e2 | e2
            · rw [← e2]; exact hx
            · have := e0.1 e2.1; rw [hs] at this; cases this), fun h => ⟨a1, .inr ⟨by omega, _, h, .inl rfl⟩⟩⟩
        rw [e]; exact bkcright_u hk hC (by omega) a1 hs
      | true =>
        by_cases hl : near10 k (-1) 1 ∈ C
        · rw [decide_eq_true (show m = 0 ∧ OkC k s C from ⟨a1, .inr ⟨by omega, _, hl, .inr ⟨e0.2 hs, rfl⟩⟩⟩)]; exact bkcright_y hk hC (by omega) a1 hs hl
        · have e : decide (m = 0 ∧ OkC k s C) = decide (near10 k 1 1 ∈ C) := decide_eq_decide.2 ⟨fun h => (by
            rcases h.2 with e | ⟨e, x, hx, e2⟩
            · exact absurd e.1 a2
            · rcases e2 with e2 | e2
              · rw [← e2]; exact hx
              · rw [e2.2] at hx; exact absurd hx hl), fun h => ⟨a1, .inr ⟨by omega, _, h, .inl rfl⟩⟩⟩
          rw [e]; exact bkcright_n hk hC (by omega) a1 hs hl
  · rw [decide_eq_false (fun h => by have := h.1; omega)]; exact bkcright_wide hk hC a0 a1

end Go.Proofs.YtpidpebgeblenaaGreat

/-
  The contract of the library's Div64, for any divisor.
-/
namespace Go.Proofs.YtpidpebgeblenaaGreat
set_option maxRecDepth 100000
open Go.RowKit

theorem norm64 {H L Y s : Nat} (hs : s = 64 - blen Y) (hH : H < Y) (hL : L < B64) (hY : Y < B64) :
    s < 64 ∧ Y * 2 ^ s < B64 ∧ B64 ≤ 2 * (Y * 2 ^ s) ∧ shlD H s + shrD L s < Y * 2 ^ s ∧ shlD L s < B64 ∧
    ((shlD H s + shrD L s) * B64 + shlD L s) / (Y * 2 ^ s) = (H * B64 + L) / Y ∧ ((shlD H s + shrD L s) * B64 + shlD L s) % (Y * 2 ^ s) / 2 ^ s = (H * B64 + L) % Y := by
  have h0 : Y ≠ 0 := by omega
  have b1 := blen_pos h0
  have b2 : blen Y ≤ 64 := blen_le (by rw [← B64_two]; exact hY)
  have b3 := lt_blen Y
  have b4 := blen_ge h0
  have e1 : 2 ^ blen Y * 2 ^ s = B64 := by rw [B64_two, ← Nat.pow_add]; congr 1; omega
  have e2 : 2 * (2 ^ (blen Y - 1) * 2 ^ s) = B64 := by
    rw [← e1, ← Nat.mul_assoc, Nat.mul_comm 2, ← Nat.pow_succ]; congr 3; omega
  have hp : 0 < 2 ^ s := Nat.pow_pos (by omega)
  have c1 : Y * 2 ^ s < B64 := by rw [← e1]; exact Nat.mul_lt_mul_of_pos_right b3 hp
  have c2 : B64 ≤ 2 * (Y * 2 ^ s) := by rw [← e2]; exact Nat.mul_le_mul_left _ (Nat.mul_le_mul_right _ b4)
  have c3 : H * 2 ^ s < B64 := Nat.lt_of_le_of_lt (Nat.mul_le_mul_right _ (by omega)) c1
  have c4 : shlD H s = H * 2 ^ s := Nat.mod_eq_of_lt c3
  have c5 : shlD L s + B64 * shrD L s = L * 2 ^ s := sh_split L (by omega)
  have c6 : shlD L s < B64 := Nat.mod_lt _ B64_pos
  have c7 : (shlD H s + shrD L s) * B64 + shlD L s = (H * B64 + L) * 2 ^ s := by
    rw [c4, Nat.add_mul, Nat.add_mul, ← c5]
    have : H * 2 ^ s * B64 = H * B64 * 2 ^ s := by ac_rfl
    rw [this, Nat.mul_comm (shrD L s)]
    omega
  have c8 : shlD H s + shrD L s < Y * 2 ^ s := by
    refine Nat.lt_of_mul_lt_mul_right (a := B64) ?_
    have k1 : H * B64 + L < Y * B64 := by
      have := Nat.mul_le_mul_right B64 (show H + 1 ≤ Y from hH)
      rw [Nat.add_mul] at this
      omega
    have k2 := Nat.mul_lt_mul_of_pos_right k1 hp
    have k3 : Y * 2 ^ s * B64 = Y * B64 * 2 ^ s := by ac_rfl
    rw [k3]
    omega
  refine ⟨by omega, c1, c2, c8, c6, ?_, ?_⟩
  · rw [c7, Nat.mul_div_mul_right _ _ hp]
  · rw [c7, Nat.mul_mod_mul_right, Nat.mul_div_cancel _ hp]
theorem shr_nat (n s : Nat) : ((n : Int)) / 2 ^ s = ((n / 2 ^ s : Nat) : Int) := by simp

set_option maxHeartbeats 4000000 in
theorem div64_full (H L Y : Nat) (w : World) (h0 : H ≠ 0) (hH : H < Y) (hL : L < B64) (hYB : Y < B64) :
    Calls Tryz.prog 143 #[.int .u64 (H : Int), .int .u64 (L : Int), .int .u64 (Y : Int)] w fun e w' => e = .returned (.tuple #[.int .u64 ((H * B64 + L) / Y : Nat), .int .u64 ((H * B64 + L) % Y : Nat)]) ∧ w = w' := by
  have hy0 : ((Y : Int) == 0) = false := by simp; omega
  have hle : decide (Y ≤ H) = false := by simp; omega
  have hh0 : ((H : Int) == 0) = false := by simp; omega
  obtain ⟨s, hs⟩ : ∃ s, s = 64 - blen Y := ⟨_, rfl⟩
  have hn := norm64 hs hH hL hYB
  have hc := shrD_lt (s := s) hL (by omega)
  have hor := or_shl H (s := s) (c := shrD L s) (by omega) hc
  have CL : Calls Tryz.prog 158 #[.int .u64 (Y : Int)] w fun e w' => e = .returned (.int .i64 (s : Int)) ∧ w = w' := by rw [hs]; exact lead_any Y w hYB
  obtain ⟨y, hyd⟩ : ∃ y, y = Y * 2 ^ s := ⟨_, rfl⟩
  obtain ⟨hi, hhd⟩ : ∃ hi, hi = shlD H s + shrD L s := ⟨_, rfl⟩
  obtain ⟨lo, hld⟩ : ∃ lo, lo = shlD L s := ⟨_, rfl⟩
  obtain ⟨t, htd⟩ : ∃ t, t = 64 - s := ⟨_, rfl⟩
  obtain ⟨c, hcd⟩ : ∃ c, c = shrD L s := ⟨_, rfl⟩
  rw [← hyd, ← hhd, ← hld] at hn
  rw [← hhd, ← hcd] at hor
  obtain ⟨hs64, hy, ht, hhi, hlo, hdiv, hmod⟩ := hn
  rw [← hdiv, ← hmod]
  have HN := Lib.hid (show y = Y * 2 ^ s from hyd)
  have as1 : IntKind.u64.wrap (s : Int) = (s : Int) := by rw [IntKind.wrap_u64]; omega
  have as2 : IntKind.u64.wrap (64 - (s : Int)) = (t : Int) := by rw [IntKind.wrap_u64, htd]; omega
  have as3 : IntKind.u64.wrap ((Y : Int) * 2 ^ s) = (y : Int) := by
    have : ((Y : Int) * 2 ^ s) = ((Y * 2 ^ s : Nat) : Int) := by simp
    rw [this, ← hyd]; exact wrap_nat hy
  have as4 : IntKind.u64.wrap ((L : Int) * 2 ^ s) = (lo : Int) := by
    rw [hld, IntKind.wrap_u64, show (18446744073709551616 : Int) = (B64 : Int) from rfl]
    unfold shlD
    simp
  have am : min t 64 = t := by omega
  have as5 : (L : Int) / 2 ^ t = (c : Int) := by rw [htd, hcd]; exact shr_eq L s
  clear hs hcd hhd hld hyd htd hc hdiv hmod hH hL
  have HS := Lib.hid hs64
  obtain ⟨y1, hy1⟩ : ∃ y1, y1 = hiH y := ⟨_, rfl⟩
  obtain ⟨y0, hyl⟩ : ∃ y0, y0 = loH y := ⟨_, rfl⟩
  obtain ⟨l1, hl1⟩ : ∃ l1, l1 = hiH lo := ⟨_, rfl⟩
  obtain ⟨l0, hll⟩ : ∃ l0, l0 = loH lo := ⟨_, rfl⟩
  have a2 : (y : Int) / 4294967296 = (y1 : Int) := by rw [hy1]; unfold hiH H32; omega
  have a3 : bits .and .u64 (y : Int) 4294967295 = (y0 : Int) := by rw [u64_and32, hyl]; unfold loH H32; omega
  have a5 : (lo : Int) / 4294967296 = (l1 : Int) := by rw [hl1]; unfold hiH H32; omega
  have a6 : bits .and .u64 (lo : Int) 4294967295 = (l0 : Int) := by rw [u64_and32, hll]; unfold loH H32; omega
  have hY := Half.start (u := hi) (y := y) (y1 := y1) (y0 := y0) (d := l1) (by rw [hy1, hyl]; unfold hiH loH; rw [Nat.mul_comm]; exact (Nat.div_add_mod y H32).symm) (by rw [hyl]; exact loH_lt y) (by rw [hy1]; exact hiH_lt hy)
    (by rw [hy1]; unfold hiH H32; unfold B64 at ht; omega) hhi (by rw [hl1]; exact hiH_lt hlo)
  have b1 : ¬ y1 = 0 := by have := hY.top; unfold H32 at this; omega
  have hr := Half.r_lt (u := hi) hY.top
  obtain ⟨q, hq⟩ : ∃ q, q = hi / y1 := ⟨_, rfl⟩
  obtain ⟨r, hr'⟩ : ∃ r, r = hi % y1 := ⟨_, rfl⟩
  rw [← hq, ← hr'] at hY
  rw [← hr'] at hr
  have a10 : IntKind.u64.wrap ((hi : Int) / (y1 : Int)) = (q : Int) := by
    rw [hq, IntKind.wrap_u64]
    have h1 : hi / y1 ≤ hi := Nat.div_le_self _ _
    have h2 : ((hi / y1 : Nat) : Int) = (hi : Int) / (y1 : Int) := by simp
    rw [← h2]
    unfold B64 at hy
    omega
  have a11 : IntKind.u64.wrap ((hi : Int) - IntKind.u64.wrap ((q : Int) * (y1 : Int))) = (r : Int) := by
    have h1 := hY.hq
    have h2 : ((q * y1 : Nat) : Int) = (q : Int) * (y1 : Int) := by simp
    rw [← h2, IntKind.wrap_u64, IntKind.wrap_u64]
    unfold B64 at hy
    omega
  have HQ := Lib.hid hq
  have HR := Lib.hid hr'
  have HY1 := Lib.hid hy1
  have HYL := Lib.hid hyl
  have HL1 := Lib.hid hl1
  have HLL := Lib.hid hll
  have HYY := Lib.hid hY
  clear hq hr' hy1 hyl hl1 hll hY
  go_enter Tryz.func143, Tryz.ntmps143
  go_upto_block 0 with (go_at_call 158; refine CL.mono ?_; rintro e w' ⟨rfl, rfl⟩)
  go_cut [15] (fun qv wx => ∃ q : Nat, qv = .int .u64 (q : Int) ∧ q < H32 ∧ Hid (q = (hi * H32 + l1) / y) ∧ w = wx)
  case first =>
    go_wp2_with fail
    go_loop [15, 16] (fun qv rv => ∃ q r : Nat, qv = .int .u64 (q : Int) ∧ rv = .int .u64 (r : Int) ∧ Half hi y y1 y0 l1 q r ∧ r < H32) (fun qv _ => (intOf qv).toNat)
    case atStart => exact ⟨q, r, rfl, rfl, HYY.out, by have := HYY.out.h1; omega⟩
    case round =>
      obtain ⟨q, r, rfl, rfl, hH, hr32⟩ := hrel
      have hq2 := hH.q_le
      have hd32 := hH.hd
      have hy32 := hH.h1
      obtain ⟨m1, hm1⟩ : ∃ m1, m1 = q * y0 := ⟨_, rfl⟩
      obtain ⟨m2, hm2⟩ : ∃ m2, m2 = H32 * r + l1 := ⟨_, rfl⟩
      have c4 : IntKind.u64.wrap (IntKind.u64.wrap (4294967296 * (r : Int)) + (l1 : Int)) = (m2 : Int) := by rw [hm2]; exact wrap_fit hr32 hd32
      by_cases hb : tooBig q y0 r l1
      · have hH' := hH.step hb
        have hpos := (hH.pos hb).2
        have hask := hH.ask hb hm1 hm2
        obtain ⟨q', hq'⟩ : ∃ q', q' = q - 1 := ⟨_, rfl⟩
        obtain ⟨r', hr'⟩ : ∃ r', r' = r + y1 := ⟨_, rfl⟩
        rw [← hq', ← hr'] at hH'
        have c1 : IntKind.u64.wrap ((q : Int) - 1) = (q' : Int) := by
          rw [IntKind.wrap_u64]; unfold H32 at hq2; omega
        have c2 : IntKind.u64.wrap ((r : Int) + (y1 : Int)) = (r' : Int) := by
          rw [IntKind.wrap_u64]; unfold H32 at hr32 hy32; omega
        have hlt : q' < q := by omega
        have HH := Lib.hid hH'
        clear hH' hH hb hm1 hm2 hq' hr' hpos hq2 hd32 hy32
        by_cases hx : H32 ≤ r'
        · have g2 : (4294967296 : Int) ≤ (r' : Int) := by unfold H32 at hx; omega
          have hfin := HH.out.fin (.inl hx)
          have HF := Lib.hid hfin
          clear hfin hx
          rcases hask with g1 | ⟨g1, c3, g3⟩
          all_goals
            go_wp2_with fail
            go_meet
            exact ⟨q', rfl, HF.out.2, Lib.hid HF.out.1, rfl⟩
        · have g2 : ¬ (4294967296 : Int) ≤ (r' : Int) := by unfold H32 at hx; omega
          have hr3 : r' < H32 := by omega
          clear hx
          rcases hask with g1 | ⟨g1, c3, g3⟩
          all_goals
            go_wp2_with fail
            go_round
            case rel => exact ⟨q', r', rfl, rfl, HH.out, hr3⟩
            case measure => simp [intOf]; omega
      · have hfin := hH.fin (.inr hb)
        obtain ⟨g1, c3, g3⟩ := hH.ask_no hb hm1 hm2
        have HF := Lib.hid hfin
        clear hfin hH hb hm1 hm2 hq2 hd32 hy32
        go_wp2_with fail
        go_meet
        exact ⟨q, rfl, HF.out.2, Lib.hid HF.out.1, rfl⟩
  case rest =>
    obtain ⟨q1, rfl, hq1, HQ1, rfl⟩ := hcut
    obtain ⟨u, hu⟩ : ∃ u, u = (hi * H32 + l1) % y := ⟨_, rfl⟩
    have hy0' : 0 < y := by omega
    have huy : u < y := by rw [hu]; exact Nat.mod_lt _ hy0'
    have d1 : IntKind.u64.wrap (IntKind.u64.wrap (IntKind.u64.wrap ((hi : Int) * 4294967296) + (l1 : Int)) - IntKind.u64.wrap ((q1 : Int) * (y : Int))) = (u : Int) := by
      have e : u + y * q1 = hi * H32 + l1 := by rw [hu, HQ1.out]; exact Nat.mod_add_div _ _
      have e2 : ((q1 : Int) * (y : Int)) = ((y * q1 : Nat) : Int) := by rw [Nat.mul_comm]; simp
      rw [e2, IntKind.wrap_u64, IntKind.wrap_u64, IntKind.wrap_u64, IntKind.wrap_u64]
      generalize y * q1 = z at *
      unfold H32 at e
      unfold B64 at hy
      omega
    have hY := Half.start (u := u) (d := l0) HYY.out.hy HYY.out.h0 HYY.out.h1 HYY.out.top huy (by rw [HLL.out]; exact loH_lt lo)
    have hr2 := Half.r_lt (u := u) hY.top
    obtain ⟨q2, hq2⟩ : ∃ q, q = u / y1 := ⟨_, rfl⟩
    obtain ⟨r2, hr2'⟩ : ∃ r, r = u % y1 := ⟨_, rfl⟩
    rw [← hq2, ← hr2'] at hY
    rw [← hr2'] at hr2
    have d2 : IntKind.u64.wrap ((u : Int) / (y1 : Int)) = (q2 : Int) := by
      rw [hq2, IntKind.wrap_u64]
      have h1 : u / y1 ≤ u := Nat.div_le_self _ _
      have h2 : ((u / y1 : Nat) : Int) = (u : Int) / (y1 : Int) := by simp
      rw [← h2]
      unfold B64 at hy
      omega
    have d3 : IntKind.u64.wrap ((u : Int) - IntKind.u64.wrap ((q2 : Int) * (y1 : Int))) = (r2 : Int) := by
      have h1 := hY.hq
      have h2 : ((q2 * y1 : Nat) : Int) = (q2 : Int) * (y1 : Int) := by simp
      rw [← h2, IntKind.wrap_u64, IntKind.wrap_u64]
      unfold B64 at hy
      omega
    have HU := Lib.hid hu
    have HZ := Lib.hid hY
    clear hu hY hq2 hr2'
    go_upto_block 2 with fail
    go_cut [18] (fun qv wx => ∃ q : Nat, qv = .int .u64 (q : Int) ∧ q < H32 ∧ Hid (q = (u * H32 + l0) / y) ∧ w = wx)
    case first =>
      go_wp2_with fail
      go_loop [18, 16] (fun qv rv => ∃ q r : Nat, qv = .int .u64 (q : Int) ∧ rv = .int .u64 (r : Int) ∧ Half u y y1 y0 l0 q r ∧ r < H32) (fun qv _ => (intOf qv).toNat)
      case atStart => exact ⟨q2, r2, rfl, rfl, HZ.out, by have := HZ.out.h1; omega⟩
      case round =>
        obtain ⟨q, r, rfl, rfl, hH, hr32⟩ := hrel
        have hq2 := hH.q_le
        have hd32 := hH.hd
        have hy32 := hH.h1
        obtain ⟨m1, hm1⟩ : ∃ m1, m1 = q * y0 := ⟨_, rfl⟩
        obtain ⟨m2, hm2⟩ : ∃ m2, m2 = H32 * r + l0 := ⟨_, rfl⟩
        have c4 : IntKind.u64.wrap (IntKind.u64.wrap (4294967296 * (r : Int)) + (l0 : Int)) = (m2 : Int) := by rw [hm2]; exact wrap_fit hr32 hd32
        by_cases hb : tooBig q y0 r l0
        · have hH' := hH.step hb
          have hpos := (hH.pos hb).2
          have hask := hH.ask hb hm1 hm2
          obtain ⟨q', hq'⟩ : ∃ q', q' = q - 1 := ⟨_, rfl⟩
          obtain ⟨r', hr'⟩ : ∃ r', r' = r + y1 := ⟨_, rfl⟩
          rw [← hq', ← hr'] at hH'
          have c1 : IntKind.u64.wrap ((q : Int) - 1) = (q' : Int) := by
            rw [IntKind.wrap_u64]; unfold H32 at hq2; omega
          have c2 : IntKind.u64.wrap ((r : Int) + (y1 : Int)) = (r' : Int) := by
            rw [IntKind.wrap_u64]; unfold H32 at hr32 hy32; omega
          have hlt : q' < q := by omega
          have HH := Lib.hid hH'
          clear hH' hH hb hm1 hm2 hq' hr' hpos hq2 hd32 hy32
          by_cases hx : H32 ≤ r'
          · have g2 : (4294967296 : Int) ≤ (r' : Int) := by unfold H32 at hx; omega
            have hfin := HH.out.fin (.inl hx)
            have HF := Lib.hid hfin
            clear hfin hx
            rcases hask with g1 | ⟨g1, c3, g3⟩
            all_goals
              go_wp2_with fail
              go_meet
              exact ⟨q', rfl, HF.out.2, Lib.hid HF.out.1, rfl⟩
          · have g2 : ¬ (4294967296 : Int) ≤ (r' : Int) := by unfold H32 at hx; omega
            have hr3 : r' < H32 := by omega
            clear hx
            rcases hask with g1 | ⟨g1, c3, g3⟩
            all_goals
              go_wp2_with fail
              go_round
              case rel => exact ⟨q', r', rfl, rfl, HH.out, hr3⟩
              case measure => simp [intOf]; omega
        · have hfin := hH.fin (.inr hb)
          obtain ⟨g1, c3, g3⟩ := hH.ask_no hb hm1 hm2
          have HF := Lib.hid hfin
          clear hfin hH hb hm1 hm2 hq2 hd32 hy32
          go_wp2_with fail
          go_meet
          exact ⟨q, rfl, HF.out.2, Lib.hid HF.out.1, rfl⟩
    case rest =>
      obtain ⟨q0, rfl, hq0, HQ0, rfl⟩ := hcut
      have hB := both_halves (hi := hi) (l1 := l1) (l0 := l0) hy0' HQ1.out HU.out HQ0.out
      have hlo2 : l1 * H32 + l0 = lo := by rw [HL1.out, HLL.out]; unfold hiH loH; rw [Nat.mul_comm]; exact Nat.div_add_mod lo H32
      rw [hlo2] at hB
      have e1 : IntKind.u64.wrap (IntKind.u64.wrap ((q1 : Int) * 4294967296) + (q0 : Int)) = ((q1 * H32 + q0 : Nat) : Int) := by
        rw [IntKind.wrap_u64, IntKind.wrap_u64]
        unfold H32 at hq1 hq0 ⊢
        omega
      have e2 : IntKind.u64.wrap (IntKind.u64.wrap (IntKind.u64.wrap ((u : Int) * 4294967296) + (l0 : Int)) - IntKind.u64.wrap ((q0 : Int) * (y : Int))) = (((u * H32 + l0) % y : Nat) : Int) := by
        have e : (u * H32 + l0) % y + y * q0 = u * H32 + l0 := by rw [HQ0.out]; exact Nat.mod_add_div _ _
        have hlt : (u * H32 + l0) % y < y := Nat.mod_lt _ hy0'
        have e2 : ((q0 : Int) * (y : Int)) = ((y * q0 : Nat) : Int) := by rw [Nat.mul_comm]; simp
        rw [e2, IntKind.wrap_u64, IntKind.wrap_u64, IntKind.wrap_u64, IntKind.wrap_u64]
        generalize y * q0 = z at *
        generalize (u * H32 + l0) % y = v at *
        unfold H32 at e
        unfold B64 at hy
        omega
      have HB := Lib.hid hB
      have E1 := Lib.hid e1
      have E2 := Lib.hid e2
      clear hB hlo2 e1 e2
      go_wp2_with fail
      go_ret2
      refine ⟨ret_two ?_ ?_, rfl⟩
      · rw [E1.out, HB.out.1]
      · rw [← HB.out.2, ← shr_nat, ← E2.out]

theorem div64_N (H L Y : Nat) (w : World) (hH : H < Y) (hL : L < B64) (hY : Y < B64) :
    Calls Tryz.prog 143 #[.int .u64 (H : Int), .int .u64 (L : Int), .int .u64 (Y : Int)] w fun e w' => e = .returned (.tuple #[.int .u64 ((H * B64 + L) / Y : Nat), .int .u64 ((H * B64 + L) % Y : Nat)]) ∧ ∃ n, w' = w.drewN n := by
  by_cases h0 : H = 0
  · subst h0
    rw [Nat.zero_mul, Nat.zero_add]
    exact div64_zero L Y w hL hH
  · refine (div64_full H L Y w h0 hH hL hY).mono ?_
    rintro e w' ⟨rfl, rfl⟩
    exact ⟨rfl, 0, rfl⟩
end Go.Proofs.YtpidpebgeblenaaGreat

/-
  The contracts of the landed fix: size, isFrac, product, plus, mantissa.
-/
namespace Go.Proofs.YtpidpebgeblenaaGreat
set_option maxRecDepth 100000
set_option maxHeartbeats 8000000
open Go.RowKit
set_option linter.unusedVariables false
set_option linter.unusedSimpArgs false

theorem size_neg (w : World) {a : Int} (ha : I64 a) (h : a < 0) :
    Calls Tryz.prog 135 #[.int .i64 a] w (GotV w (.int .u64 (a.natAbs : Int))) := by
  have t1 : decide (a < 0) = true := decide_eq_true h
  have k1 : IntKind.u64.wrap (-IntKind.u64.wrap a) = (a.natAbs : Int) := by unfold I64 at ha; rw [IntKind.wrap_u64, IntKind.wrap_u64]; omega
  go_enter Tryz.func135, Tryz.ntmps135
  go_wp2_with fail
  go_ret
  exact ⟨rfl, Below.refl _ _⟩

theorem size_pos (w : World) {a : Int} (ha : I64 a) (h : 0 ≤ a) :
    Calls Tryz.prog 135 #[.int .i64 a] w (GotV w (.int .u64 (a.natAbs : Int))) := by
  have t1 : decide (a < 0) = false := decide_eq_false (by omega)
  have k1 : IntKind.u64.wrap a = (a.natAbs : Int) := by unfold I64 at ha; rw [IntKind.wrap_u64]; omega
  go_enter Tryz.func135, Tryz.ntmps135
  go_wp2_with fail
  go_ret
  exact ⟨rfl, Below.refl _ _⟩

theorem size_N (w : World) {a : Int} (ha : I64 a) :
    Calls Tryz.prog 135 #[.int .i64 a] w (GotV w (.int .u64 (a.natAbs : Int))) := by
  by_cases h : a < 0
  · exact size_neg w ha h
  · exact size_pos w ha (by omega)





theorem product_N {w : World} {x y : Nat} (hx : x < B64) (hy : y < B64) :
    Calls Tryz.prog 134 #[.int .u64 (x : Int), .int .u64 (y : Int)] w (GotV w (.agg #[.int .u64 (mulLo x y : Int), .int .u64 (mulHi x y : Int)])) := by
  have cc := Below.refl w.heap.size w
  go_enter Tryz.func134, Tryz.ntmps134
  go_wp2_with fail
  generalize hv_ : w.alloc (.cells #[.int .u64 0, .int .u64 0] 156) = v1
  obtain ⟨f0, f1⟩ : Fz2 v1 w.heap.size := by simp [Fz2, ← hv_, go_sem]
  have bA : Below w.heap.size w v1 := by rw [← hv_]; exact ((Below.refl _ w).alloc (by simp) _)
  replace cc := bK cc bA
  clear bA
  obtain ⟨g_0, g_1⟩ : Cs2 v1 w.heap.size (.int .u64 0) (.int .u64 0) := by simp [Cs2, ← hv_, go_sem]
  have g_l : w.heap.size < v1.heap.size := by simp [← hv_] <;> omega
  clear hv_
  refine (mul64_any x y _ hx hy).mono ?_
  rintro e w' ⟨rfl, rfl⟩
  go_wp2_with fail
  refine bodyPost_ret (v := .agg #[.int .u64 (mulLo x y : Int), .int .u64 (mulHi x y : Int)]) (by simp [results, Tryz.results134, go_sem, g_0, g_1]) rfl ⟨rfl, below_put cc (by omega) _ _⟩

theorem plus_N {w : World} {l h y : Nat} (hl : l < B64) (hy : y < B64) (hh : h + sumHi l y 0 < B64) :
    Calls Tryz.prog 142 #[.agg #[.int .u64 (l : Int), .int .u64 (h : Int)], .int .u64 (y : Int)] w (GotV w (.agg #[.int .u64 (sumLo l y 0 : Int), .int .u64 ((h + sumHi l y 0 : Nat) : Int)])) := by
  obtain ⟨q, hq⟩ : ∃ q, h + sumHi l y 0 = q := ⟨_, rfl⟩
  rw [hq] at hh ⊢
  have k1 : IntKind.u64.wrap ((h : Int) + (sumHi l y 0 : Int)) = (q : Int) := by rw [← hq] at hh ⊢; rw [← Int.natCast_add]; exact wrap_nat hh
  have r1 := add64_run0 l y
  clear hq
  go_enter Tryz.func142, Tryz.ntmps142
  go_wp2_with fail
  refine bodyPost_ret (v := .agg #[.int .u64 (sumLo l y 0 : Int), .int .u64 (q : Int)]) (by simp [results, Tryz.results142, go_sem]) rfl ⟨rfl, below_two _ _ _⟩

theorem mant_yes {w : World} {b : Bool} {A : Option Addr} {n c : Nat} {z : Int} (hz : Zn w b A n c z) (hx : (limbs z.natAbs).length ≤ 300) (hi : I64 z) :
    Calls Tryz.prog 144 #[.agg #[.bool b, .slice A n c]] w (GotV w (.tuple #[.int .i64 (z), .int .i64 (0)])) := by
  have cc := Below.refl w.heap.size w
  go_enter Tryz.func144, Tryz.ntmps144
  go_wp2_with fail
  generalize hv_ : w.alloc (.cells #[.bool b, .slice A n c] 81) = v1
  have bA : Below w.heap.size w v1 := by rw [← hv_]; exact ((Below.refl _ w).alloc (by simp) _)
  replace hz := hz.on bA
  replace cc := bK cc bA
  clear bA
  obtain ⟨ka0, ka1⟩ : Cs2 v1 w.heap.size (.bool b) (.slice A n c) := by simp [Cs2, ← hv_, go_sem]
  have kal : w.heap.size < v1.heap.size := by simp [← hv_] <;> omega
  clear hv_
  refine (zint_yes hz hi).mono ?_
  rintro e w2 ⟨rfl, b⟩
  replace hz := hz.on b
  rewrite [cR b kal] at ka0 ka1
  replace kal := lK b kal
  replace cc := bK cc b
  clear b
  go_wp2_with fail
  go_ret2
  exact ⟨rfl, cc⟩

theorem mant_no {w : World} {b : Bool} {A : Option Addr} {n c : Nat} {z : Int} (hz : Zn w b A n c z) (hx : (limbs z.natAbs).length ≤ 300) (hi : ¬ I64 z) :
    Calls Tryz.prog 144 #[.agg #[.bool b, .slice A n c]] w (GotV w (.tuple #[.int .i64 (0), .int .i64 (2)])) := by
  have cc := Below.refl w.heap.size w
  go_enter Tryz.func144, Tryz.ntmps144
  go_wp2_with fail
  generalize hv_ : w.alloc (.cells #[.bool b, .slice A n c] 81) = v1
  have bA : Below w.heap.size w v1 := by rw [← hv_]; exact ((Below.refl _ w).alloc (by simp) _)
  replace hz := hz.on bA
  replace cc := bK cc bA
  clear bA
  obtain ⟨ka0, ka1⟩ : Cs2 v1 w.heap.size (.bool b) (.slice A n c) := by simp [Cs2, ← hv_, go_sem]
  have kal : w.heap.size < v1.heap.size := by simp [← hv_] <;> omega
  clear hv_
  refine (zint_no hz hx hi).mono ?_
  rintro e w2 ⟨rfl, b⟩
  replace hz := hz.on b
  rewrite [cR b kal] at ka0 ka1
  replace kal := lK b kal
  replace cc := bK cc b
  clear b
  go_wp2_with fail
  go_ret2
  exact ⟨rfl, cc⟩

theorem mant_N {w : World} {b : Bool} {A : Option Addr} {n c : Nat} {z : Int} (hz : Zn w b A n c z) (hx : (limbs z.natAbs).length ≤ 300) :
    Calls Tryz.prog 144 #[.agg #[.bool b, .slice A n c]] w (GotV w (.tuple #[.int .i64 (nI (z)), .int .i64 (nE (z))])) := by
  by_cases hi : I64 z
  · rw [(nI_yes hi).1, (nI_yes hi).2]; exact mant_yes hz hx hi
  · rw [(nI_no hi).1, (nI_no hi).2]; exact mant_no hz hx hi

end Go.Proofs.YtpidpebgeblenaaGreat
