/-
  The walk of PackOne.
-/
import Derived.Test.YtfdapcogkbddaaaA2
import Derived.Test.YtfdapcogkbddaaaA1
namespace Go.Proofs.Ytfdapcogkbddaaa
set_option maxRecDepth 100000
open Go.RowKit
set_option linter.unusedVariables false
set_option linter.unusedSimpArgs false

set_option maxRecDepth 100000 in
set_option maxHeartbeats 8000000 in
theorem PackOne_a {w : World} {A B : Option Addr} {n c m d : Nat} (h : 1000 < n) :
    Calls Try.prog 6 #[.slice A n c, .slice B m d] w fun e w' => e = .returned (.bool true) ∧ Below w.heap.size w w' := by
  have t_n : decide (1000 < (n : Int)) = true := decide_eq_true (by omega)
  have u_n : decide (1000 < n) = true := decide_eq_true (by omega)
  clear h
  have cc := Below.refl w.heap.size w
  go_enter Try.func6, Try.ntmps6
  go_wp2_with fail
  refine (alive13_any _).mono ?_
  rintro e w1 ⟨rfl, b⟩
  replace cc := bK cc b
  clear b
  go_wp2_with fail
  go_ret
  exact ⟨rfl, cc⟩

set_option maxRecDepth 100000 in
set_option maxHeartbeats 8000000 in
theorem PackOne_b {w : World} {A B : Option Addr} {n c m d : Nat} (h : n ≤ 1000) (h2 : 1000 < m) :
    Calls Try.prog 6 #[.slice A n c, .slice B m d] w fun e w' => e = .returned (.bool true) ∧ Below w.heap.size w w' := by
  have t_n : decide (1000 < (n : Int)) = false := decide_eq_false (by omega)
  have u_n : decide (1000 < n) = false := decide_eq_false (by omega)
  have t_m : decide (1000 < (m : Int)) = true := decide_eq_true (by omega)
  have u_m : decide (1000 < m) = true := decide_eq_true (by omega)
  clear h h2
  have cc := Below.refl w.heap.size w
  go_enter Try.func6, Try.ntmps6
  go_wp2_with fail
  refine (alive13_any _).mono ?_
  rintro e w1 ⟨rfl, b⟩
  replace cc := bK cc b
  clear b
  go_wp2_with fail
  go_ret
  exact ⟨rfl, cc⟩

set_option maxRecDepth 100000 in
set_option maxHeartbeats 8000000 in
theorem PackOne_no111 {w : World} {A B : Option Addr} {n c m d : Nat} {l r : List Nat} (hA : BR w A n c l) (hB : BR w B m d r) (h : n ≤ 1000) (h2 : m ≤ 1000) (hN : tkk 9 true l = none) (hn0 : n = 0) (h10 : n < 10) (hm0 : m = 0) :
    Calls Try.prog 6 #[.slice A n c, .slice B m d] w fun e w' => e = .returned (.bool true) ∧ Below w.heap.size w w' := by
  have t_n : decide (1000 < (n : Int)) = false := decide_eq_false (by omega)
  have u_n : decide (1000 < n) = false := decide_eq_false (by omega)
  have t_m : decide (1000 < (m : Int)) = false := decide_eq_false (by omega)
  have u_m : decide (1000 < m) = false := decide_eq_false (by omega)
  obtain ⟨e1, e2, e3⟩ := tk_of_none hN
  have C1 : ∀ {W : World}, BR W A n c l → Calls Try.prog 10 #[.slice A n c] W (GotTk W (.int .u64 0) [] 3) := fun h => by have e := pTake_N h (by omega); rw [e1, e2, e3] at e; exact e
  have C2 : ∀ {W : World}, BR W A n c l → Calls Try.prog 12 #[.slice A n c] W (GotTk W (.int .i64 0) [] 3) := fun h => by have e := pTakeInt_N h (by omega); rw [e1, e2, e3] at e; exact e
  have hYl : (l ++ r).length ≤ 2000 := by rw [List.length_append, ← hA.1, ← hB.1]; omega
  have CY : ∀ {W : World} {C : Option Addr} {q e : Nat}, BR W C q e (l ++ r) → Calls Try.prog 10 #[.slice C q e] W (GotTk W (.int .u64 ((tkN (l ++ r) : Nat) : Int)) (tkR (l ++ r)) (tkE (l ++ r))) := fun h => pTake_N h (by rw [h.1]; omega)
  have t10 : decide ((n : Int) < 10) = true := decide_eq_true (by omega)
  have t10b : decide (n < 10) = true := decide_eq_true (by omega)
  generalize tkN (l ++ r) = a at *
  generalize tkR (l ++ r) = R at *
  generalize tkE (l ++ r) = G at *
  obtain ⟨i0, hi, hz0, hz1, hz2⟩ := info_parts infoB
  have H8l := Lib.hid hA.2.2.1
  have H8r := Lib.hid hB.2.2.1
  have HLl : Hid ((l.map encB).length = n * 1) := Lib.hid (by rw [List.length_map, ← hA.1]; omega)
  have HLr : Hid ((r.map encB).length = m * 1) := Lib.hid (by rw [List.length_map, ← hB.1]; omega)
  have hl0 : l = [] := List.eq_nil_of_length_eq_zero (by rw [← hA.1]; exact hn0)
  subst hn0
  subst hl0
  have hr0 : r = [] := List.eq_nil_of_length_eq_zero (by rw [← hB.1]; exact hm0)
  subst hm0
  subst hr0
  clear e1 e2 e3 hYl hN
  have cc := Below.refl w.heap.size w
  go_enter Try.func6, Try.ntmps6
  go_wp2_with fail
  refine (C1 hA).mono ?_
  rintro e w1 ⟨Ax, nx, cx, rfl, hx, b⟩
  replace hA := hA.on b
  replace hB := hB.on b
  replace cc := bK cc b
  clear b
  obtain rfl : nx = 0 := hx.1
  clear hx
  go_wp2_with fail
  refine (C2 hA).mono ?_
  rintro e w2 ⟨Ay, ny, cy, rfl, hy, b⟩
  replace hA := hA.on b
  replace hB := hB.on b
  replace cc := bK cc b
  clear b
  obtain rfl : ny = 0 := hy.1
  clear hy
  obtain ⟨t, ht⟩ : ∃ t, w2.heap.size = t := ⟨_, rfl⟩
  have HT := Lib.hid ht
  have tw : t ≤ w2.heap.size := by omega
  have HO := Lib.hid (World.ownsRow_lit (e := 5) (size := 1) w2 #[] 0 (base := t) (by omega) (by unfold maxLen; omega) rfl)
  have HB0 := Lib.hid ((Below.refl t w2).alloc tw (.cells #[] 5))
  have bw := (Below.refl w2.heap.size w2).alloc (Nat.le_refl _) (.cells #[] 5)
  clear ht
  go_wp2_with (at_builtin; refine wpList_append_zero _ rfl _ _ 22 rfl 5 i0 Try.underlying22 hi _ _ _ _ _ rfl rfl (by omega) ?_)
  have hC : BR (w2.alloc (.cells #[] 5)) (some ⟨w2.heap.size, 0, none⟩) 0 0 ([] ++ []) := BR.nil _ _ _
  have b := bw
  replace hA := hA.on b
  replace hB := hB.on b
  replace cc := bK cc b
  clear b
  clear hA hB
  refine (CY hC).mono ?_
  rintro e wz ⟨Az, nz, cz, rfl, hz_, b⟩
  replace cc := bK cc b
  clear b hz_ hC
  go_wp2_with fail
  refine (alive13_any _).mono ?_
  rintro e w3 ⟨rfl, b⟩
  replace cc := bK cc b
  clear b
  go_wp2_with fail
  go_ret
  exact ⟨rfl, cc⟩

set_option maxRecDepth 100000 in
set_option maxHeartbeats 8000000 in
theorem PackOne_no110 {w : World} {A B : Option Addr} {n c m d : Nat} {l r : List Nat} (hA : BR w A n c l) (hB : BR w B m d r) (h : n ≤ 1000) (h2 : m ≤ 1000) (hN : tkk 9 true l = none) (hn0 : n = 0) (h10 : n < 10) (hm0 : 0 < m) :
    Calls Try.prog 6 #[.slice A n c, .slice B m d] w fun e w' => e = .returned (.bool true) ∧ Below w.heap.size w w' := by
  have t_n : decide (1000 < (n : Int)) = false := decide_eq_false (by omega)
  have u_n : decide (1000 < n) = false := decide_eq_false (by omega)
  have t_m : decide (1000 < (m : Int)) = false := decide_eq_false (by omega)
  have u_m : decide (1000 < m) = false := decide_eq_false (by omega)
  obtain ⟨e1, e2, e3⟩ := tk_of_none hN
  have C1 : ∀ {W : World}, BR W A n c l → Calls Try.prog 10 #[.slice A n c] W (GotTk W (.int .u64 0) [] 3) := fun h => by have e := pTake_N h (by omega); rw [e1, e2, e3] at e; exact e
  have C2 : ∀ {W : World}, BR W A n c l → Calls Try.prog 12 #[.slice A n c] W (GotTk W (.int .i64 0) [] 3) := fun h => by have e := pTakeInt_N h (by omega); rw [e1, e2, e3] at e; exact e
  have hYl : (l ++ r).length ≤ 2000 := by rw [List.length_append, ← hA.1, ← hB.1]; omega
  have CY : ∀ {W : World} {C : Option Addr} {q e : Nat}, BR W C q e (l ++ r) → Calls Try.prog 10 #[.slice C q e] W (GotTk W (.int .u64 ((tkN (l ++ r) : Nat) : Int)) (tkR (l ++ r)) (tkE (l ++ r))) := fun h => pTake_N h (by rw [h.1]; omega)
  have t10 : decide ((n : Int) < 10) = true := decide_eq_true (by omega)
  have t10b : decide (n < 10) = true := decide_eq_true (by omega)
  generalize tkN (l ++ r) = a at *
  generalize tkR (l ++ r) = R at *
  generalize tkE (l ++ r) = G at *
  obtain ⟨i0, hi, hz0, hz1, hz2⟩ := info_parts infoB
  have H8l := Lib.hid hA.2.2.1
  have H8r := Lib.hid hB.2.2.1
  have HLl : Hid ((l.map encB).length = n * 1) := Lib.hid (by rw [List.length_map, ← hA.1]; omega)
  have HLr : Hid ((r.map encB).length = m * 1) := Lib.hid (by rw [List.length_map, ← hB.1]; omega)
  have hl0 : l = [] := List.eq_nil_of_length_eq_zero (by rw [← hA.1]; exact hn0)
  subst hn0
  subst hl0
  obtain ⟨b2, o2, eB, hbb⟩ := hB.some hm0
  subst eB
  clear e1 e2 e3 hYl hN
  have cc := Below.refl w.heap.size w
  go_enter Try.func6, Try.ntmps6
  go_wp2_with fail
  refine (C1 hA).mono ?_
  rintro e w1 ⟨Ax, nx, cx, rfl, hx, b⟩
  replace hA := hA.on b
  replace hB := hB.on b
  replace cc := bK cc b
  clear b
  obtain rfl : nx = 0 := hx.1
  clear hx
  go_wp2_with fail
  refine (C2 hA).mono ?_
  rintro e w2 ⟨Ay, ny, cy, rfl, hy, b⟩
  replace hA := hA.on b
  replace hB := hB.on b
  replace cc := bK cc b
  clear b
  obtain rfl : ny = 0 := hy.1
  clear hy
  obtain ⟨t, ht⟩ : ∃ t, w2.heap.size = t := ⟨_, rfl⟩
  have HT := Lib.hid ht
  have tw : t ≤ w2.heap.size := by omega
  have HO := Lib.hid (World.ownsRow_lit (e := 5) (size := 1) w2 #[] 0 (base := t) (by omega) (by unfold maxLen; omega) rfl)
  have HB0 := Lib.hid ((Below.refl t w2).alloc tw (.cells #[] 5))
  have bw := (Below.refl w2.heap.size w2).alloc (Nat.le_refl _) (.cells #[] 5)
  clear ht
  have HNW := Lib.hid (br_news hB bw)
  go_wp2_with (first | (at_builtin; refine wpList_append_zero _ rfl _ _ 22 rfl 5 i0 Try.underlying22 hi _ _ _ _ _ rfl rfl (by omega) ?_) | (at_builtin; refine wpList_append_lies _ rfl _ _ 22 rfl t 5 i0 (.int .u8 0) 1 1 Try.underlying22 hi hz0 hz1 hz2 rfl (by decide) _ 0 [] rfl HO.out ⟨b2, o2, none⟩ m d (r.map encB) rfl HLr.out HNW.out (fun u hu => by obtain ⟨x, _, rfl⟩ := List.mem_map.1 hu; rfl) (by omega) (by unfold maxLen; omega) (by omega) (by first | omega | (simp; omega)) _ rfl ?_; intro g1 cap1 w3 hown1 hgrow1 hat1 hlt1))
  have h1 : Below t w2 w3 := HB0.out.grown hgrow1 (by simp; have := HT.out; omega) (fun q e => by injection (show some w2.heap.size = some q from e) with e1; have := HT.out; omega)
  rw [← HT.out] at h1
  rw [List.nil_append, Nat.zero_add] at hown1
  have hC := BR.of_own hown1 H8r.out
  have b := h1
  replace hA := hA.on b
  replace hB := hB.on b
  replace cc := bK cc b
  clear b
  clear hA hB
  refine (CY hC).mono ?_
  rintro e wz ⟨Az, nz, cz, rfl, hz_, b⟩
  replace cc := bK cc b
  clear b hz_ hC
  go_wp2_with fail
  refine (alive13_any _).mono ?_
  rintro e w3 ⟨rfl, b⟩
  replace cc := bK cc b
  clear b
  go_wp2_with fail
  go_ret
  exact ⟨rfl, cc⟩

set_option maxRecDepth 100000 in
set_option maxHeartbeats 8000000 in
theorem PackOne_no011 {w : World} {A B : Option Addr} {n c m d : Nat} {l r : List Nat} (hA : BR w A n c l) (hB : BR w B m d r) (h : n ≤ 1000) (h2 : m ≤ 1000) (hN : tkk 9 true l = none) (hn0 : 0 < n) (h10 : n < 10) (hm0 : m = 0) :
    Calls Try.prog 6 #[.slice A n c, .slice B m d] w fun e w' => e = .returned (.bool true) ∧ Below w.heap.size w w' := by
  have t_n : decide (1000 < (n : Int)) = false := decide_eq_false (by omega)
  have u_n : decide (1000 < n) = false := decide_eq_false (by omega)
  have t_m : decide (1000 < (m : Int)) = false := decide_eq_false (by omega)
  have u_m : decide (1000 < m) = false := decide_eq_false (by omega)
  obtain ⟨e1, e2, e3⟩ := tk_of_none hN
  have C1 : ∀ {W : World}, BR W A n c l → Calls Try.prog 10 #[.slice A n c] W (GotTk W (.int .u64 0) [] 3) := fun h => by have e := pTake_N h (by omega); rw [e1, e2, e3] at e; exact e
  have C2 : ∀ {W : World}, BR W A n c l → Calls Try.prog 12 #[.slice A n c] W (GotTk W (.int .i64 0) [] 3) := fun h => by have e := pTakeInt_N h (by omega); rw [e1, e2, e3] at e; exact e
  have hYl : (l ++ r).length ≤ 2000 := by rw [List.length_append, ← hA.1, ← hB.1]; omega
  have CY : ∀ {W : World} {C : Option Addr} {q e : Nat}, BR W C q e (l ++ r) → Calls Try.prog 10 #[.slice C q e] W (GotTk W (.int .u64 ((tkN (l ++ r) : Nat) : Int)) (tkR (l ++ r)) (tkE (l ++ r))) := fun h => pTake_N h (by rw [h.1]; omega)
  have t10 : decide ((n : Int) < 10) = true := decide_eq_true (by omega)
  have t10b : decide (n < 10) = true := decide_eq_true (by omega)
  generalize tkN (l ++ r) = a at *
  generalize tkR (l ++ r) = R at *
  generalize tkE (l ++ r) = G at *
  obtain ⟨i0, hi, hz0, hz1, hz2⟩ := info_parts infoB
  have H8l := Lib.hid hA.2.2.1
  have H8r := Lib.hid hB.2.2.1
  have HLl : Hid ((l.map encB).length = n * 1) := Lib.hid (by rw [List.length_map, ← hA.1]; omega)
  have HLr : Hid ((r.map encB).length = m * 1) := Lib.hid (by rw [List.length_map, ← hB.1]; omega)
  obtain ⟨bb, off, eA, hba⟩ := hA.some hn0
  subst eA
  have hr0 : r = [] := List.eq_nil_of_length_eq_zero (by rw [← hB.1]; exact hm0)
  subst hm0
  subst hr0
  clear e1 e2 e3 hYl hN
  have cc := Below.refl w.heap.size w
  go_enter Try.func6, Try.ntmps6
  go_wp2_with fail
  refine (C1 hA).mono ?_
  rintro e w1 ⟨Ax, nx, cx, rfl, hx, b⟩
  replace hA := hA.on b
  replace hB := hB.on b
  replace cc := bK cc b
  clear b
  obtain rfl : nx = 0 := hx.1
  clear hx
  go_wp2_with fail
  refine (C2 hA).mono ?_
  rintro e w2 ⟨Ay, ny, cy, rfl, hy, b⟩
  replace hA := hA.on b
  replace hB := hB.on b
  replace cc := bK cc b
  clear b
  obtain rfl : ny = 0 := hy.1
  clear hy
  obtain ⟨t, ht⟩ : ∃ t, w2.heap.size = t := ⟨_, rfl⟩
  have HT := Lib.hid ht
  have tw : t ≤ w2.heap.size := by omega
  have HO := Lib.hid (World.ownsRow_lit (e := 5) (size := 1) w2 #[] 0 (base := t) (by omega) (by unfold maxLen; omega) rfl)
  have HB0 := Lib.hid ((Below.refl t w2).alloc tw (.cells #[] 5))
  have bw := (Below.refl w2.heap.size w2).alloc (Nat.le_refl _) (.cells #[] 5)
  clear ht
  have HNA := Lib.hid (br_news hA bw)
  go_wp2_with (first | (at_builtin; refine wpList_append_lies _ rfl _ _ 22 rfl t 5 i0 (.int .u8 0) 1 1 Try.underlying22 hi hz0 hz1 hz2 rfl (by decide) _ 0 [] rfl HO.out ⟨bb, off, none⟩ n c (l.map encB) rfl HLl.out HNA.out (fun u hu => by obtain ⟨x, _, rfl⟩ := List.mem_map.1 hu; rfl) (by omega) (by unfold maxLen; omega) (by omega) (by first | omega | (simp; omega)) _ rfl ?_; intro g1 cap1 w3 hown1 hgrow1 hat1 hlt1) | (at_builtin; refine wpList_append_zero _ rfl _ _ 22 rfl 5 i0 Try.underlying22 hi _ _ _ _ _ rfl rfl (by have h2 := (BR.of_own (by rw [Nat.zero_add, List.nil_append] at hown1; exact hown1) H8l.out).2.1; omega) ?_))
  have h1 : Below t w2 w3 := HB0.out.grown hgrow1 (by simp; have := HT.out; omega) (fun q e => by injection (show some w2.heap.size = some q from e) with e1; have := HT.out; omega)
  rw [← HT.out] at h1
  rw [List.nil_append, Nat.zero_add] at hown1
  have hC := BR.of_own hown1 H8l.out
  rw [← List.append_nil l] at hC
  have b := h1
  replace hA := hA.on b
  replace hB := hB.on b
  replace cc := bK cc b
  clear b
  clear hA hB
  refine (CY hC).mono ?_
  rintro e wz ⟨Az, nz, cz, rfl, hz_, b⟩
  replace cc := bK cc b
  clear b hz_ hC
  go_wp2_with fail
  refine (alive13_any _).mono ?_
  rintro e w3 ⟨rfl, b⟩
  replace cc := bK cc b
  clear b
  go_wp2_with fail
  go_ret
  exact ⟨rfl, cc⟩

set_option maxRecDepth 100000 in
set_option maxHeartbeats 8000000 in
theorem PackOne_no010 {w : World} {A B : Option Addr} {n c m d : Nat} {l r : List Nat} (hA : BR w A n c l) (hB : BR w B m d r) (h : n ≤ 1000) (h2 : m ≤ 1000) (hN : tkk 9 true l = none) (hn0 : 0 < n) (h10 : n < 10) (hm0 : 0 < m) :
    Calls Try.prog 6 #[.slice A n c, .slice B m d] w fun e w' => e = .returned (.bool true) ∧ Below w.heap.size w w' := by
  have t_n : decide (1000 < (n : Int)) = false := decide_eq_false (by omega)
  have u_n : decide (1000 < n) = false := decide_eq_false (by omega)
  have t_m : decide (1000 < (m : Int)) = false := decide_eq_false (by omega)
  have u_m : decide (1000 < m) = false := decide_eq_false (by omega)
  obtain ⟨e1, e2, e3⟩ := tk_of_none hN
  have C1 : ∀ {W : World}, BR W A n c l → Calls Try.prog 10 #[.slice A n c] W (GotTk W (.int .u64 0) [] 3) := fun h => by have e := pTake_N h (by omega); rw [e1, e2, e3] at e; exact e
  have C2 : ∀ {W : World}, BR W A n c l → Calls Try.prog 12 #[.slice A n c] W (GotTk W (.int .i64 0) [] 3) := fun h => by have e := pTakeInt_N h (by omega); rw [e1, e2, e3] at e; exact e
  have hYl : (l ++ r).length ≤ 2000 := by rw [List.length_append, ← hA.1, ← hB.1]; omega
  have CY : ∀ {W : World} {C : Option Addr} {q e : Nat}, BR W C q e (l ++ r) → Calls Try.prog 10 #[.slice C q e] W (GotTk W (.int .u64 ((tkN (l ++ r) : Nat) : Int)) (tkR (l ++ r)) (tkE (l ++ r))) := fun h => pTake_N h (by rw [h.1]; omega)
  have t10 : decide ((n : Int) < 10) = true := decide_eq_true (by omega)
  have t10b : decide (n < 10) = true := decide_eq_true (by omega)
  generalize tkN (l ++ r) = a at *
  generalize tkR (l ++ r) = R at *
  generalize tkE (l ++ r) = G at *
  obtain ⟨i0, hi, hz0, hz1, hz2⟩ := info_parts infoB
  have H8l := Lib.hid hA.2.2.1
  have H8r := Lib.hid hB.2.2.1
  have HLl : Hid ((l.map encB).length = n * 1) := Lib.hid (by rw [List.length_map, ← hA.1]; omega)
  have HLr : Hid ((r.map encB).length = m * 1) := Lib.hid (by rw [List.length_map, ← hB.1]; omega)
  obtain ⟨bb, off, eA, hba⟩ := hA.some hn0
  subst eA
  obtain ⟨b2, o2, eB, hbb⟩ := hB.some hm0
  subst eB
  clear e1 e2 e3 hYl hN
  have cc := Below.refl w.heap.size w
  go_enter Try.func6, Try.ntmps6
  go_wp2_with fail
  refine (C1 hA).mono ?_
  rintro e w1 ⟨Ax, nx, cx, rfl, hx, b⟩
  replace hA := hA.on b
  replace hB := hB.on b
  replace cc := bK cc b
  clear b
  obtain rfl : nx = 0 := hx.1
  clear hx
  go_wp2_with fail
  refine (C2 hA).mono ?_
  rintro e w2 ⟨Ay, ny, cy, rfl, hy, b⟩
  replace hA := hA.on b
  replace hB := hB.on b
  replace cc := bK cc b
  clear b
  obtain rfl : ny = 0 := hy.1
  clear hy
  obtain ⟨t, ht⟩ : ∃ t, w2.heap.size = t := ⟨_, rfl⟩
  have HT := Lib.hid ht
  have tw : t ≤ w2.heap.size := by omega
  have HO := Lib.hid (World.ownsRow_lit (e := 5) (size := 1) w2 #[] 0 (base := t) (by omega) (by unfold maxLen; omega) rfl)
  have HB0 := Lib.hid ((Below.refl t w2).alloc tw (.cells #[] 5))
  have bw := (Below.refl w2.heap.size w2).alloc (Nat.le_refl _) (.cells #[] 5)
  clear ht
  have HNA := Lib.hid (br_news hA bw)
  have HBB := Lib.hid hB
  go_wp2_with (first | (at_builtin; refine wpList_append_lies _ rfl _ _ 22 rfl t 5 i0 (.int .u8 0) 1 1 Try.underlying22 hi hz0 hz1 hz2 rfl (by decide) _ 0 [] rfl HO.out ⟨bb, off, none⟩ n c (l.map encB) rfl HLl.out HNA.out (fun u hu => by obtain ⟨x, _, rfl⟩ := List.mem_map.1 hu; rfl) (by omega) (by unfold maxLen; omega) (by omega) (by first | omega | (simp; omega)) _ rfl ?_; intro g1 cap1 w3 hown1 hgrow1 hat1 hlt1; have h1 : Below t w2 w3 := HB0.out.grown hgrow1 (by simp; have := HT.out; omega) (fun q e => by injection (show some w2.heap.size = some q from e) with e1; have := HT.out; omega); rw [List.nil_append] at hown1; rw [Nat.zero_add] at hown1; have HO1 := Lib.hid hown1; have hg1 := (hown1.lt g1 rfl).1; have hts : t ≤ w3.heap.size := (by have h2 := h1.size; have := HT.out; omega); have HN2 := Lib.hid (br_news HBB.out (by have h2 := h1; rw [← HT.out] at h2; exact h2)); have HH1 := Lib.hid h1; clear hown1 hgrow1 hat1 hlt1 h1) | (at_builtin; refine wpList_append_lies _ rfl _ _ 22 rfl t 5 i0 (.int .u8 0) 1 1 Try.underlying22 hi hz0 hz1 hz2 rfl (by decide) _ n (l.map encB) rfl HO1.out ⟨b2, o2, none⟩ m d (r.map encB) rfl HLr.out HN2.out (fun u hu => by obtain ⟨x, _, rfl⟩ := List.mem_map.1 hu; rfl) (by omega) (by unfold maxLen; omega) (by omega) (by first | omega | (simp; omega)) _ rfl ?_; intro g2 cap2 w4 hown2 hgrow2 hat2 hlt2))
  have b := HH1.out.grown hgrow2 hts (fun q e => by injection (show some g1 = some q from e) with e1; omega)
  rw [← HT.out] at b
  rw [← List.map_append] at hown2
  have hC := BR.of_own hown2 (fun x hx => by rcases List.mem_append.1 hx with h | h; exact H8l.out x h; exact H8r.out x h)
  replace hA := hA.on b
  replace hB := hB.on b
  replace cc := bK cc b
  clear b
  clear hA hB
  refine (CY hC).mono ?_
  rintro e wz ⟨Az, nz, cz, rfl, hz_, b⟩
  replace cc := bK cc b
  clear b hz_ hC
  go_wp2_with fail
  refine (alive13_any _).mono ?_
  rintro e w3 ⟨rfl, b⟩
  replace cc := bK cc b
  clear b
  go_wp2_with fail
  go_ret
  exact ⟨rfl, cc⟩

set_option maxRecDepth 100000 in
set_option maxHeartbeats 8000000 in
theorem PackOne_no001 {w : World} {A B : Option Addr} {n c m d : Nat} {l r : List Nat} (hA : BR w A n c l) (hB : BR w B m d r) (h : n ≤ 1000) (h2 : m ≤ 1000) (hN : tkk 9 true l = none) (hn0 : 0 < n) (h10 : 10 ≤ n) (hm0 : m = 0) :
    Calls Try.prog 6 #[.slice A n c, .slice B m d] w fun e w' => e = .returned (.bool true) ∧ Below w.heap.size w w' := by
  have t_n : decide (1000 < (n : Int)) = false := decide_eq_false (by omega)
  have u_n : decide (1000 < n) = false := decide_eq_false (by omega)
  have t_m : decide (1000 < (m : Int)) = false := decide_eq_false (by omega)
  have u_m : decide (1000 < m) = false := decide_eq_false (by omega)
  obtain ⟨e1, e2, e3⟩ := tk_of_none hN
  have C1 : ∀ {W : World}, BR W A n c l → Calls Try.prog 10 #[.slice A n c] W (GotTk W (.int .u64 0) [] 3) := fun h => by have e := pTake_N h (by omega); rw [e1, e2, e3] at e; exact e
  have C2 : ∀ {W : World}, BR W A n c l → Calls Try.prog 12 #[.slice A n c] W (GotTk W (.int .i64 0) [] 3) := fun h => by have e := pTakeInt_N h (by omega); rw [e1, e2, e3] at e; exact e
  have hYl : (l ++ r).length ≤ 2000 := by rw [List.length_append, ← hA.1, ← hB.1]; omega
  have CY : ∀ {W : World} {C : Option Addr} {q e : Nat}, BR W C q e (l ++ r) → Calls Try.prog 10 #[.slice C q e] W (GotTk W (.int .u64 ((tkN (l ++ r) : Nat) : Int)) (tkR (l ++ r)) (tkE (l ++ r))) := fun h => pTake_N h (by rw [h.1]; omega)
  have t10 : decide ((n : Int) < 10) = false := decide_eq_false (by omega)
  have t10b : decide (n < 10) = false := decide_eq_false (by omega)
  rw [tk_none_more r hN (by rw [← hA.1]; omega)] at CY
  generalize tkN (l ++ r) = a at *
  generalize tkR (l ++ r) = R at *
  obtain ⟨i0, hi, hz0, hz1, hz2⟩ := info_parts infoB
  have H8l := Lib.hid hA.2.2.1
  have H8r := Lib.hid hB.2.2.1
  have HLl : Hid ((l.map encB).length = n * 1) := Lib.hid (by rw [List.length_map, ← hA.1]; omega)
  have HLr : Hid ((r.map encB).length = m * 1) := Lib.hid (by rw [List.length_map, ← hB.1]; omega)
  obtain ⟨bb, off, eA, hba⟩ := hA.some hn0
  subst eA
  have hr0 : r = [] := List.eq_nil_of_length_eq_zero (by rw [← hB.1]; exact hm0)
  subst hm0
  subst hr0
  clear e1 e2 e3 hYl hN h10
  have cc := Below.refl w.heap.size w
  go_enter Try.func6, Try.ntmps6
  go_wp2_with fail
  refine (C1 hA).mono ?_
  rintro e w1 ⟨Ax, nx, cx, rfl, hx, b⟩
  replace hA := hA.on b
  replace hB := hB.on b
  replace cc := bK cc b
  clear b
  obtain rfl : nx = 0 := hx.1
  clear hx
  go_wp2_with fail
  refine (C2 hA).mono ?_
  rintro e w2 ⟨Ay, ny, cy, rfl, hy, b⟩
  replace hA := hA.on b
  replace hB := hB.on b
  replace cc := bK cc b
  clear b
  obtain rfl : ny = 0 := hy.1
  clear hy
  obtain ⟨t, ht⟩ : ∃ t, w2.heap.size = t := ⟨_, rfl⟩
  have HT := Lib.hid ht
  have tw : t ≤ w2.heap.size := by omega
  have HO := Lib.hid (World.ownsRow_lit (e := 5) (size := 1) w2 #[] 0 (base := t) (by omega) (by unfold maxLen; omega) rfl)
  have HB0 := Lib.hid ((Below.refl t w2).alloc tw (.cells #[] 5))
  have bw := (Below.refl w2.heap.size w2).alloc (Nat.le_refl _) (.cells #[] 5)
  clear ht
  have HNA := Lib.hid (br_news hA bw)
  go_wp2_with (first | (at_builtin; refine wpList_append_lies _ rfl _ _ 22 rfl t 5 i0 (.int .u8 0) 1 1 Try.underlying22 hi hz0 hz1 hz2 rfl (by decide) _ 0 [] rfl HO.out ⟨bb, off, none⟩ n c (l.map encB) rfl HLl.out HNA.out (fun u hu => by obtain ⟨x, _, rfl⟩ := List.mem_map.1 hu; rfl) (by omega) (by unfold maxLen; omega) (by omega) (by first | omega | (simp; omega)) _ rfl ?_; intro g1 cap1 w3 hown1 hgrow1 hat1 hlt1) | (at_builtin; refine wpList_append_zero _ rfl _ _ 22 rfl 5 i0 Try.underlying22 hi _ _ _ _ _ rfl rfl (by have h2 := (BR.of_own (by rw [Nat.zero_add, List.nil_append] at hown1; exact hown1) H8l.out).2.1; omega) ?_))
  have h1 : Below t w2 w3 := HB0.out.grown hgrow1 (by simp; have := HT.out; omega) (fun q e => by injection (show some w2.heap.size = some q from e) with e1; have := HT.out; omega)
  rw [← HT.out] at h1
  rw [List.nil_append, Nat.zero_add] at hown1
  have hC := BR.of_own hown1 H8l.out
  rw [← List.append_nil l] at hC
  have b := h1
  replace hA := hA.on b
  replace hB := hB.on b
  replace cc := bK cc b
  clear b
  clear hA hB
  refine (CY hC).mono ?_
  rintro e wz ⟨Az, nz, cz, rfl, hz_, b⟩
  replace cc := bK cc b
  clear b hz_ hC
  go_wp2_with fail
  refine (alive13_any _).mono ?_
  rintro e w3 ⟨rfl, b⟩
  replace cc := bK cc b
  clear b
  go_wp2_with fail
  go_ret
  exact ⟨rfl, cc⟩

set_option maxRecDepth 100000 in
set_option maxHeartbeats 8000000 in
theorem PackOne_no000 {w : World} {A B : Option Addr} {n c m d : Nat} {l r : List Nat} (hA : BR w A n c l) (hB : BR w B m d r) (h : n ≤ 1000) (h2 : m ≤ 1000) (hN : tkk 9 true l = none) (hn0 : 0 < n) (h10 : 10 ≤ n) (hm0 : 0 < m) :
    Calls Try.prog 6 #[.slice A n c, .slice B m d] w fun e w' => e = .returned (.bool true) ∧ Below w.heap.size w w' := by
  have t_n : decide (1000 < (n : Int)) = false := decide_eq_false (by omega)
  have u_n : decide (1000 < n) = false := decide_eq_false (by omega)
  have t_m : decide (1000 < (m : Int)) = false := decide_eq_false (by omega)
  have u_m : decide (1000 < m) = false := decide_eq_false (by omega)
  obtain ⟨e1, e2, e3⟩ := tk_of_none hN
  have C1 : ∀ {W : World}, BR W A n c l → Calls Try.prog 10 #[.slice A n c] W (GotTk W (.int .u64 0) [] 3) := fun h => by have e := pTake_N h (by omega); rw [e1, e2, e3] at e; exact e
  have C2 : ∀ {W : World}, BR W A n c l → Calls Try.prog 12 #[.slice A n c] W (GotTk W (.int .i64 0) [] 3) := fun h => by have e := pTakeInt_N h (by omega); rw [e1, e2, e3] at e; exact e
  have hYl : (l ++ r).length ≤ 2000 := by rw [List.length_append, ← hA.1, ← hB.1]; omega
  have CY : ∀ {W : World} {C : Option Addr} {q e : Nat}, BR W C q e (l ++ r) → Calls Try.prog 10 #[.slice C q e] W (GotTk W (.int .u64 ((tkN (l ++ r) : Nat) : Int)) (tkR (l ++ r)) (tkE (l ++ r))) := fun h => pTake_N h (by rw [h.1]; omega)
  have t10 : decide ((n : Int) < 10) = false := decide_eq_false (by omega)
  have t10b : decide (n < 10) = false := decide_eq_false (by omega)
  rw [tk_none_more r hN (by rw [← hA.1]; omega)] at CY
  generalize tkN (l ++ r) = a at *
  generalize tkR (l ++ r) = R at *
  obtain ⟨i0, hi, hz0, hz1, hz2⟩ := info_parts infoB
  have H8l := Lib.hid hA.2.2.1
  have H8r := Lib.hid hB.2.2.1
  have HLl : Hid ((l.map encB).length = n * 1) := Lib.hid (by rw [List.length_map, ← hA.1]; omega)
  have HLr : Hid ((r.map encB).length = m * 1) := Lib.hid (by rw [List.length_map, ← hB.1]; omega)
  obtain ⟨bb, off, eA, hba⟩ := hA.some hn0
  subst eA
  obtain ⟨b2, o2, eB, hbb⟩ := hB.some hm0
  subst eB
  clear e1 e2 e3 hYl hN h10
  have cc := Below.refl w.heap.size w
  go_enter Try.func6, Try.ntmps6
  go_wp2_with fail
  refine (C1 hA).mono ?_
  rintro e w1 ⟨Ax, nx, cx, rfl, hx, b⟩
  replace hA := hA.on b
  replace hB := hB.on b
  replace cc := bK cc b
  clear b
  obtain rfl : nx = 0 := hx.1
  clear hx
  go_wp2_with fail
  refine (C2 hA).mono ?_
  rintro e w2 ⟨Ay, ny, cy, rfl, hy, b⟩
  replace hA := hA.on b
  replace hB := hB.on b
  replace cc := bK cc b
  clear b
  obtain rfl : ny = 0 := hy.1
  clear hy
  obtain ⟨t, ht⟩ : ∃ t, w2.heap.size = t := ⟨_, rfl⟩
  have HT := Lib.hid ht
  have tw : t ≤ w2.heap.size := by omega
  have HO := Lib.hid (World.ownsRow_lit (e := 5) (size := 1) w2 #[] 0 (base := t) (by omega) (by unfold maxLen; omega) rfl)
  have HB0 := Lib.hid ((Below.refl t w2).alloc tw (.cells #[] 5))
  have bw := (Below.refl w2.heap.size w2).alloc (Nat.le_refl _) (.cells #[] 5)
  clear ht
  have HNA := Lib.hid (br_news hA bw)
  have HBB := Lib.hid hB
  go_wp2_with (first | (at_builtin; refine wpList_append_lies _ rfl _ _ 22 rfl t 5 i0 (.int .u8 0) 1 1 Try.underlying22 hi hz0 hz1 hz2 rfl (by decide) _ 0 [] rfl HO.out ⟨bb, off, none⟩ n c (l.map encB) rfl HLl.out HNA.out (fun u hu => by obtain ⟨x, _, rfl⟩ := List.mem_map.1 hu; rfl) (by omega) (by unfold maxLen; omega) (by omega) (by first | omega | (simp; omega)) _ rfl ?_; intro g1 cap1 w3 hown1 hgrow1 hat1 hlt1; have h1 : Below t w2 w3 := HB0.out.grown hgrow1 (by simp; have := HT.out; omega) (fun q e => by injection (show some w2.heap.size = some q from e) with e1; have := HT.out; omega); rw [List.nil_append] at hown1; rw [Nat.zero_add] at hown1; have HO1 := Lib.hid hown1; have hg1 := (hown1.lt g1 rfl).1; have hts : t ≤ w3.heap.size := (by have h2 := h1.size; have := HT.out; omega); have HN2 := Lib.hid (br_news HBB.out (by have h2 := h1; rw [← HT.out] at h2; exact h2)); have HH1 := Lib.hid h1; clear hown1 hgrow1 hat1 hlt1 h1) | (at_builtin; refine wpList_append_lies _ rfl _ _ 22 rfl t 5 i0 (.int .u8 0) 1 1 Try.underlying22 hi hz0 hz1 hz2 rfl (by decide) _ n (l.map encB) rfl HO1.out ⟨b2, o2, none⟩ m d (r.map encB) rfl HLr.out HN2.out (fun u hu => by obtain ⟨x, _, rfl⟩ := List.mem_map.1 hu; rfl) (by omega) (by unfold maxLen; omega) (by omega) (by first | omega | (simp; omega)) _ rfl ?_; intro g2 cap2 w4 hown2 hgrow2 hat2 hlt2))
  have b := HH1.out.grown hgrow2 hts (fun q e => by injection (show some g1 = some q from e) with e1; omega)
  rw [← HT.out] at b
  rw [← List.map_append] at hown2
  have hC := BR.of_own hown2 (fun x hx => by rcases List.mem_append.1 hx with h | h; exact H8l.out x h; exact H8r.out x h)
  replace hA := hA.on b
  replace hB := hB.on b
  replace cc := bK cc b
  clear b
  clear hA hB
  refine (CY hC).mono ?_
  rintro e wz ⟨Az, nz, cz, rfl, hz_, b⟩
  replace cc := bK cc b
  clear b hz_ hC
  go_wp2_with fail
  refine (alive13_any _).mono ?_
  rintro e w3 ⟨rfl, b⟩
  replace cc := bK cc b
  clear b
  go_wp2_with fail
  go_ret
  exact ⟨rfl, cc⟩

set_option maxRecDepth 100000 in
set_option maxHeartbeats 8000000 in
theorem PackOne_yes_some {w : World} {A B : Option Addr} {n c m d : Nat} {l : List Nat} (hA : BR w A n c l) (h : n ≤ 1000) (h2 : m ≤ 1000) (hl : l = vb (tkN l) ++ tkR l) (hN : tkN l < 2 * 128 ^ 9) (hE : tkE l = 0) (h0 : 0 < (tkR l).length) :
    Calls Try.prog 6 #[.slice A n c, .slice B m d] w fun e w' => e = .returned (.bool true) ∧ Below w.heap.size w w' := by
  have t_n : decide (1000 < (n : Int)) = false := decide_eq_false (by omega)
  have u_n : decide (1000 < n) = false := decide_eq_false (by omega)
  have t_m : decide (1000 < (m : Int)) = false := decide_eq_false (by omega)
  have u_m : decide (1000 < m) = false := decide_eq_false (by omega)
  obtain ⟨i0, hi, hz0, hz1, hz2⟩ := info_parts infoB
  have C1 : ∀ {W : World}, BR W A n c l → Calls Try.prog 10 #[.slice A n c] W (GotTk W (.int .u64 ((tkN l : Nat) : Int)) (tkR l) 0) := fun h => by have e := pTake_N h (by omega); rw [hE] at e; exact e
  have C2 : ∀ {W : World}, BR W A n c l → Calls Try.prog 12 #[.slice A n c] W (GotTk W (.int .i64 (unz (tkN l))) (tkR l) 0) := fun h => by have e := pTakeInt_N h (by omega); rw [hE] at e; exact e
  have hz := unz_bd (tkN_lt hA.2.2.1)
  have C3 : ∀ W : World, Calls Try.prog 15 #[.slice none 0 0, .int .u64 ((tkN l : Nat) : Int)] W (GotNew W (vb (tkN l))) := fun W => pPut_N (BR.nil W none 0) (by omega) hN
  have C4 : ∀ W : World, Calls Try.prog 17 #[.slice none 0 0, .int .i64 (unz (tkN l))] W (GotNew W (vb (tkN l))) := fun W => by have e := pPutInt_N (BR.nil W none 0) (by omega) hz; rw [zig_unz] at e; exact e
  have hF8 := vb_lt hN
  have hFl := (vb_len (tkN l)).2
  generalize unz (tkN l) = y at *
  obtain ⟨F, eF⟩ : ∃ F, vb (tkN l) = F := ⟨_, rfl⟩
  rw [eF] at C3 C4 hl hF8 hFl
  generalize tkN l = a at *
  generalize tkR l = R at *
  have hl2 := congrArg List.length hl
  rw [List.length_append, ← hA.1] at hl2
  have HF : Hid (F ++ R = l) := Lib.hid hl.symm
  have F8 := Lib.hid hF8
  have FL := Lib.hid hFl
  have HLL := Lib.hid hA.2.2.1
  obtain ⟨q, eq⟩ : ∃ q, R.length = q := ⟨_, rfl⟩
  have HQ := Lib.hid eq
  have hq : q ≤ 1000 := by omega
  have h0q : 0 < q := by rw [← eq]; exact h0
  have HL : Hid ((R.map encB).length = q * 1) := Lib.hid (by rw [List.length_map]; omega)
  clear hl hl2 hN hz hE hF8 hFl eF eq h0 h2
  have HA0 := Lib.hid hA
  have cc := Below.refl w.heap.size w
  go_enter Try.func6, Try.ntmps6
  go_wp2_with fail
  refine (C1 hA).mono ?_
  rintro e w1 ⟨Ax, nx, cx, rfl, hx, b⟩
  replace hA := hA.on b
  replace cc := bK cc b
  clear b
  go_wp2_with fail
  refine (C2 hA).mono ?_
  rintro e w2 ⟨Ay, ny, cy, rfl, hy, b⟩
  replace hA := hA.on b
  replace hx := hx.on b
  replace cc := bK cc b
  clear b
  obtain rfl : nx = q := by rw [hx.1]; exact HQ.out
  obtain rfl : ny = nx := by rw [hy.1]; exact HQ.out
  obtain ⟨bb, off, rfl, hb1⟩ := hx.some h0q
  obtain ⟨bc, ofc, rfl, hb2⟩ := hy.some h0q
  clear hb1 hb2
  go_wp2_with fail
  refine (C3 _).mono ?_
  rintro e w3 ⟨g1, n1, d1, rfl, hO, b⟩
  have hy0_ := Lib.hid hy
  have hbz_ := Lib.hid b
  have hbs2 := b.size
  have hcs := cc.size
  replace hA := hA.on b
  replace hx := hx.on b
  replace hy := hy.on b
  replace cc := bK cc b
  clear b
  have hn1 : n1 = F.length := by have := hO.1; simp at this; omega
  have hn2 : n1 ≤ 2000 := by have := FL.out; omega
  have hgt := (hO.lt g1 rfl).1
  have HNW1 := Lib.hid (br_news hx (Below.refl _ _))
  have HO1 := Lib.hid hO
  have hbs := cc.size
  clear hO hn1
  go_wp2_with (at_builtin; refine wpList_append_lies _ rfl _ _ 22 rfl _ 5 i0 (.int .u8 0) 1 1 Try.underlying22 hi hz0 hz1 hz2 rfl (by decide) _ n1 (F.map encB) rfl HO1.out ⟨bb, off, none⟩ ny cx (R.map encB) rfl HL.out HNW1.out (fun u hu => by obtain ⟨x, _, rfl⟩ := List.mem_map.1 hu; rfl) (by omega) (by unfold maxLen; omega) (by omega) (by first | omega | (simp; omega)) _ rfl ?_; intro g2 cap2 z1 hown2 hgrow2 hat2 hlt2)
  have b2 : Below w.heap.size w z1 := cc.grown hgrow2 hbs (fun q e => by injection (show some g1 = some q from e) with e1; omega)
  rw [← List.map_append, HF.out] at hown2
  have hp := BR.of_own hown2 HLL.out
  replace hy := hy0_.out.on (hbz_.out.grown hgrow2 hbs2 (fun q e => by injection (show some g1 = some q from e) with e1; omega))
  replace hA := HA0.out.on b2
  replace cc := b2
  clear b2 hown2 hgrow2 hat2 hlt2 hx HNW1 HO1 hbs hbs2 hcs hgt hy0_ hbz_
  refine (C4 _).mono ?_
  rintro e w4 ⟨g3, n3, d3, rfl, hO, b⟩
  have hbs2 := b.size
  have hcs := cc.size
  have hp0_ := Lib.hid hp
  have hbz_ := Lib.hid b
  replace hA := hA.on b
  replace hy := hy.on b
  replace hp := hp.on b
  replace cc := bK cc b
  clear b
  have hn1 : n3 = F.length := by have := hO.1; simp at this; omega
  have hn3 : n3 ≤ 2000 := by have := FL.out; omega
  have hgt := (hO.lt g3 rfl).1
  have HNW1 := Lib.hid (br_news hy (Below.refl _ _))
  have HO1 := Lib.hid hO
  have hbs := cc.size
  clear hO hn1
  go_wp2_with (at_builtin; refine wpList_append_lies _ rfl _ _ 22 rfl _ 5 i0 (.int .u8 0) 1 1 Try.underlying22 hi hz0 hz1 hz2 rfl (by decide) _ n3 (F.map encB) rfl HO1.out ⟨bc, ofc, none⟩ ny cy (R.map encB) rfl HL.out HNW1.out (fun u hu => by obtain ⟨x, _, rfl⟩ := List.mem_map.1 hu; rfl) (by omega) (by unfold maxLen; omega) (by omega) (by first | omega | (simp; omega)) _ rfl ?_; intro g4 cap4 z2 hown2 hgrow2 hat2 hlt2)
  have b2 : Below w.heap.size w z2 := cc.grown hgrow2 hbs (fun q e => by injection (show some g3 = some q from e) with e1; omega)
  rw [← List.map_append, HF.out] at hown2
  have hr := BR.of_own hown2 HLL.out
  replace hp := hp0_.out.on (hbz_.out.grown hgrow2 hbs2 (fun q e => by injection (show some g3 = some q from e) with e1; omega))
  replace hA := HA0.out.on b2
  replace cc := b2
  clear b2 hown2 hgrow2 hat2 hlt2 hy HNW1 HO1 hbs hbs2 hcs hgt hp0_ hbz_
  refine (alive13_any _).mono ?_
  rintro e w5 ⟨rfl, b⟩
  replace hA := hA.on b
  replace hp := hp.on b
  replace hr := hr.on b
  replace cc := bK cc b
  clear b
  go_wp2_with fail
  refine (rsameB_self hp hA (by have := hp.1; have := hA.1; omega)).mono ?_
  rintro e w6 ⟨rfl, b⟩
  replace hA := hA.on b
  replace hp := hp.on b
  replace hr := hr.on b
  replace cc := bK cc b
  clear b
  go_wp2_with fail
  refine (rsameB_self hr hA (by have := hr.1; have := hA.1; omega)).mono ?_
  rintro e w7 ⟨rfl, b⟩
  replace hA := hA.on b
  replace hp := hp.on b
  replace hr := hr.on b
  replace cc := bK cc b
  clear b
  go_wp2_with fail
  go_ret
  exact ⟨rfl, cc⟩

set_option maxRecDepth 100000 in
set_option maxHeartbeats 8000000 in
theorem PackOne_yes_none {w : World} {A B : Option Addr} {n c m d : Nat} {l : List Nat} (hA : BR w A n c l) (h : n ≤ 1000) (h2 : m ≤ 1000) (hl : l = vb (tkN l) ++ tkR l) (hN : tkN l < 2 * 128 ^ 9) (hE : tkE l = 0) (h0 : (tkR l).length = 0) :
    Calls Try.prog 6 #[.slice A n c, .slice B m d] w fun e w' => e = .returned (.bool true) ∧ Below w.heap.size w w' := by
  have t_n : decide (1000 < (n : Int)) = false := decide_eq_false (by omega)
  have u_n : decide (1000 < n) = false := decide_eq_false (by omega)
  have t_m : decide (1000 < (m : Int)) = false := decide_eq_false (by omega)
  have u_m : decide (1000 < m) = false := decide_eq_false (by omega)
  obtain ⟨i0, hi, hz0, hz1, hz2⟩ := info_parts infoB
  have C1 : ∀ {W : World}, BR W A n c l → Calls Try.prog 10 #[.slice A n c] W (GotTk W (.int .u64 ((tkN l : Nat) : Int)) (tkR l) 0) := fun h => by have e := pTake_N h (by omega); rw [hE] at e; exact e
  have C2 : ∀ {W : World}, BR W A n c l → Calls Try.prog 12 #[.slice A n c] W (GotTk W (.int .i64 (unz (tkN l))) (tkR l) 0) := fun h => by have e := pTakeInt_N h (by omega); rw [hE] at e; exact e
  have hz := unz_bd (tkN_lt hA.2.2.1)
  have C3 : ∀ W : World, Calls Try.prog 15 #[.slice none 0 0, .int .u64 ((tkN l : Nat) : Int)] W (GotNew W (vb (tkN l))) := fun W => pPut_N (BR.nil W none 0) (by omega) hN
  have C4 : ∀ W : World, Calls Try.prog 17 #[.slice none 0 0, .int .i64 (unz (tkN l))] W (GotNew W (vb (tkN l))) := fun W => by have e := pPutInt_N (BR.nil W none 0) (by omega) hz; rw [zig_unz] at e; exact e
  have hF8 := vb_lt hN
  have hFl := (vb_len (tkN l)).2
  generalize unz (tkN l) = y at *
  obtain ⟨F, eF⟩ : ∃ F, vb (tkN l) = F := ⟨_, rfl⟩
  rw [eF] at C3 C4 hl hF8 hFl
  generalize tkN l = a at *
  generalize tkR l = R at *
  have hl2 := congrArg List.length hl
  rw [List.length_append, ← hA.1] at hl2
  have HF : Hid (F ++ R = l) := Lib.hid hl.symm
  have F8 := Lib.hid hF8
  have FL := Lib.hid hFl
  have HLL := Lib.hid hA.2.2.1
  obtain ⟨q, eq⟩ : ∃ q, R.length = q := ⟨_, rfl⟩
  have HQ := Lib.hid eq
  have hq : q ≤ 1000 := by omega
  have h0q : q = 0 := by rw [← eq]; exact h0
  have HR0 : Hid (R = []) := Lib.hid (List.eq_nil_of_length_eq_zero (by omega))
  subst h0q
  clear hl hl2 hN hz hE hF8 hFl eF eq h0 h2
  have HA0 := Lib.hid hA
  have cc := Below.refl w.heap.size w
  go_enter Try.func6, Try.ntmps6
  go_wp2_with fail
  refine (C1 hA).mono ?_
  rintro e w1 ⟨Ax, nx, cx, rfl, hx, b⟩
  replace hA := hA.on b
  replace cc := bK cc b
  clear b
  go_wp2_with fail
  refine (C2 hA).mono ?_
  rintro e w2 ⟨Ay, ny, cy, rfl, hy, b⟩
  replace hA := hA.on b
  replace hx := hx.on b
  replace cc := bK cc b
  clear b
  obtain rfl : nx = 0 := by rw [hx.1]; exact HQ.out
  obtain rfl : ny = 0 := by rw [hy.1]; exact HQ.out
  go_wp2_with fail
  refine (C3 _).mono ?_
  rintro e w3 ⟨g1, n1, d1, rfl, hO, b⟩
  have hbs2 := b.size
  have hcs := cc.size
  replace hA := hA.on b
  replace hx := hx.on b
  replace hy := hy.on b
  replace cc := bK cc b
  clear b
  have hn1 : n1 = F.length := by have := hO.1; simp at this; omega
  have hn2 : n1 ≤ 2000 := by have := FL.out; omega
  have hgt := (hO.lt g1 rfl).1
  have hqd : n1 ≤ d1 := (BR.of_own hO F8.out).2.1
  have hp := BR.of_own hO F8.out
  rw [show F = l by rw [← HF.out, HR0.out, List.append_nil]] at hp
  clear hO hn1
  go_wp2_with (at_builtin; refine wpList_append_zero _ rfl _ _ 22 rfl 5 i0 Try.underlying22 hi _ _ _ _ _ rfl rfl hqd ?_)
  go_wp2_with fail
  refine (C4 _).mono ?_
  rintro e w4 ⟨g2, n2, d2, rfl, hO, b⟩
  have hbs2 := b.size
  have hcs := cc.size
  replace hA := hA.on b
  replace hx := hx.on b
  replace hy := hy.on b
  replace hp := hp.on b
  replace cc := bK cc b
  clear b
  have hn1 : n2 = F.length := by have := hO.1; simp at this; omega
  have hn2 : n2 ≤ 2000 := by have := FL.out; omega
  have hgt := (hO.lt g2 rfl).1
  have hqd : n2 ≤ d2 := (BR.of_own hO F8.out).2.1
  have hr := BR.of_own hO F8.out
  rw [show F = l by rw [← HF.out, HR0.out, List.append_nil]] at hr
  clear hO hn1
  go_wp2_with (at_builtin; refine wpList_append_zero _ rfl _ _ 22 rfl 5 i0 Try.underlying22 hi _ _ _ _ _ rfl rfl hqd ?_)
  clear hx hy
  refine (alive13_any _).mono ?_
  rintro e w5 ⟨rfl, b⟩
  replace hA := hA.on b
  replace hp := hp.on b
  replace hr := hr.on b
  replace cc := bK cc b
  clear b
  go_wp2_with fail
  refine (rsameB_self hp hA (by have := hp.1; have := hA.1; omega)).mono ?_
  rintro e w6 ⟨rfl, b⟩
  replace hA := hA.on b
  replace hp := hp.on b
  replace hr := hr.on b
  replace cc := bK cc b
  clear b
  go_wp2_with fail
  refine (rsameB_self hr hA (by have := hr.1; have := hA.1; omega)).mono ?_
  rintro e w7 ⟨rfl, b⟩
  replace hA := hA.on b
  replace hp := hp.on b
  replace hr := hr.on b
  replace cc := bK cc b
  clear b
  go_wp2_with fail
  go_ret
  exact ⟨rfl, cc⟩

theorem PackOne_walk {w : World} {A B : Option Addr} {n c m d : Nat} {l r : List Nat} (hA : BR w A n c l) (hB : BR w B m d r) : Calls Try.prog 6 #[.slice A n c, .slice B m d] w fun e w' => e = .returned (.bool true) ∧ Below w.heap.size w w' := by
  by_cases h : 1000 < n
  · exact PackOne_a h
  by_cases h2 : 1000 < m
  · exact PackOne_b (by omega) h2
  rcases tk_ways hA.2.2.1 with ⟨_, _, _, hN⟩ | ⟨hl, hN, hE⟩
  · rcases Nat.eq_zero_or_pos m with m0 | m0
    · rcases Nat.eq_zero_or_pos n with n0 | n0
      · exact PackOne_no111 hA hB (by omega) (by omega) hN n0 (by omega) m0
      · rcases Nat.lt_or_ge n 10 with h3 | h3
        · exact PackOne_no011 hA hB (by omega) (by omega) hN n0 h3 m0
        · exact PackOne_no001 hA hB (by omega) (by omega) hN n0 h3 m0
    · rcases Nat.eq_zero_or_pos n with n0 | n0
      · exact PackOne_no110 hA hB (by omega) (by omega) hN n0 (by omega) m0
      · rcases Nat.lt_or_ge n 10 with h3 | h3
        · exact PackOne_no010 hA hB (by omega) (by omega) hN n0 h3 m0
        · exact PackOne_no000 hA hB (by omega) (by omega) hN n0 h3 m0
  · rcases Nat.eq_zero_or_pos (tkR l).length with h0 | h0
    · exact PackOne_yes_none hA (by omega) (by omega) hl hN hE h0
    · exact PackOne_yes_some hA (by omega) (by omega) hl hN hE h0

end Go.Proofs.Ytfdapcogkbddaaa
