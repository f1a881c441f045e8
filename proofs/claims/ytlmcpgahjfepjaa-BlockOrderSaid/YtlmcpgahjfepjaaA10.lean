/-
  Several texts in one: JE, L11.
-/
import Derived.Test.YtlmcpgahjfepjaaA9
import Derived.Test.YtlmcpgahjfepjaaA5

/-
  The contracts of the landed block: Right, Load, Pack.
-/
namespace Go.Proofs.Ytlmcpgahjfepjaa
set_option maxRecDepth 100000
open Go.RowKit
set_option linter.unusedVariables false
set_option linter.unusedSimpArgs false

set_option maxRecDepth 100000 in
set_option maxHeartbeats 8000000 in
theorem bkRight_no {w : World} {k s : Int} {A B : Option Addr} {n c m d : Nat} {q : Int} (hq : IntKind.i64.wrap ((n : Int) + (m : Int)) = q) {C : List Nat} {W : List Int} (hC : BR w A n c C) (hW : IR w B m d W) (hn : n ≤ 9223372036854775807) (hm : m ≤ 9223372036854775807) (h : ¬ (0 ≤ k ∧ k ≤ 4)) :
    Calls Try.prog 26 #[.agg #[.int .i64 k, .int .i64 s, .slice A n c, .slice B m d]] w (GotV w (.bool false)) := by
  have CM := fun V => bkman_no V h
  clear h hC hW hq
  have cc := Below.refl w.heap.size w
  go_enter Try.func26, Try.ntmps26
  go_wp2_with fail
  have bA : Below w.heap.size w (w.alloc (.cells #[.int .i64 k, .int .i64 s, .slice A n c, .slice B m d] 26)) := ((Below.refl _ w).alloc (by simp) _)
  replace cc := cc.trans (bA.mono cc.size)
  clear bA
  have ka0 : (w.alloc (.cells #[.int .i64 k, .int .i64 s, .slice A n c, .slice B m d] 26)).cell? ⟨w.heap.size, 0, none⟩ = some (.int .i64 k) := by simp [go_sem]
  have ka1 : (w.alloc (.cells #[.int .i64 k, .int .i64 s, .slice A n c, .slice B m d] 26)).cell? ⟨w.heap.size, 1, none⟩ = some (.int .i64 s) := by simp [go_sem]
  have ka2 : (w.alloc (.cells #[.int .i64 k, .int .i64 s, .slice A n c, .slice B m d] 26)).cell? ⟨w.heap.size, 2, none⟩ = some (.slice A n c) := by simp [go_sem]
  have ka3 : (w.alloc (.cells #[.int .i64 k, .int .i64 s, .slice A n c, .slice B m d] 26)).cell? ⟨w.heap.size, 3, none⟩ = some (.slice B m d) := by simp [go_sem]
  have kal : w.heap.size < (w.alloc (.cells #[.int .i64 k, .int .i64 s, .slice A n c, .slice B m d] 26)).heap.size := by simp <;> omega
  generalize w.alloc (.cells #[.int .i64 k, .int .i64 s, .slice A n c, .slice B m d] 26) = v1 at *
  go_wp2_with fail
  refine (CM _).mono ?_
  rintro e w2 ⟨rfl, b⟩
  replace ka0 := (b.cell (p := ⟨w.heap.size, 0, none⟩) kal).trans ka0
  replace ka1 := (b.cell (p := ⟨w.heap.size, 1, none⟩) kal).trans ka1
  replace ka2 := (b.cell (p := ⟨w.heap.size, 2, none⟩) kal).trans ka2
  replace ka3 := (b.cell (p := ⟨w.heap.size, 3, none⟩) kal).trans ka3
  replace kal := Nat.lt_of_lt_of_le kal b.size
  replace cc := cc.trans (b.mono cc.size)
  clear b
  go_wp2_with fail
  go_ret
  exact ⟨rfl, cc⟩

set_option maxRecDepth 100000 in
set_option maxHeartbeats 8000000 in
theorem bkRight_wb {w : World} {k s : Int} {A B : Option Addr} {n c m d : Nat} {q : Int} (hq : IntKind.i64.wrap ((n : Int) + (m : Int)) = q) {C : List Nat} {W : List Int} (hC : BR w A n c C) (hW : IR w B m d W) (hn : n ≤ 9223372036854775807) (hm : m ≤ 9223372036854775807) (hk : k = 4) (hb : 4096 < q) :
    Calls Try.prog 26 #[.agg #[.int .i64 k, .int .i64 s, .slice A n c, .slice B m d]] w (GotV w (.bool false)) := by
  have CL := fun V => bkLen_N V (k := k) (s := s) (A := A) (B := B) (c := c) (d := d) hn hm
  rw [hq] at CL
  have CM := fun V => bkman_w V hk
  have tq : decide (q ≤ 4096) = false := decide_eq_false (by omega)
  clear hq hk hb hC hW
  have cc := Below.refl w.heap.size w
  go_enter Try.func26, Try.ntmps26
  go_wp2_with fail
  have bA : Below w.heap.size w (w.alloc (.cells #[.int .i64 k, .int .i64 s, .slice A n c, .slice B m d] 26)) := ((Below.refl _ w).alloc (by simp) _)
  replace cc := cc.trans (bA.mono cc.size)
  clear bA
  have ka0 : (w.alloc (.cells #[.int .i64 k, .int .i64 s, .slice A n c, .slice B m d] 26)).cell? ⟨w.heap.size, 0, none⟩ = some (.int .i64 k) := by simp [go_sem]
  have ka1 : (w.alloc (.cells #[.int .i64 k, .int .i64 s, .slice A n c, .slice B m d] 26)).cell? ⟨w.heap.size, 1, none⟩ = some (.int .i64 s) := by simp [go_sem]
  have ka2 : (w.alloc (.cells #[.int .i64 k, .int .i64 s, .slice A n c, .slice B m d] 26)).cell? ⟨w.heap.size, 2, none⟩ = some (.slice A n c) := by simp [go_sem]
  have ka3 : (w.alloc (.cells #[.int .i64 k, .int .i64 s, .slice A n c, .slice B m d] 26)).cell? ⟨w.heap.size, 3, none⟩ = some (.slice B m d) := by simp [go_sem]
  have kal : w.heap.size < (w.alloc (.cells #[.int .i64 k, .int .i64 s, .slice A n c, .slice B m d] 26)).heap.size := by simp <;> omega
  generalize w.alloc (.cells #[.int .i64 k, .int .i64 s, .slice A n c, .slice B m d] 26) = v1 at *
  go_wp2_with fail
  refine (CM _).mono ?_
  rintro e w2 ⟨rfl, b⟩
  replace ka0 := (b.cell (p := ⟨w.heap.size, 0, none⟩) kal).trans ka0
  replace ka1 := (b.cell (p := ⟨w.heap.size, 1, none⟩) kal).trans ka1
  replace ka2 := (b.cell (p := ⟨w.heap.size, 2, none⟩) kal).trans ka2
  replace ka3 := (b.cell (p := ⟨w.heap.size, 3, none⟩) kal).trans ka3
  replace kal := Nat.lt_of_lt_of_le kal b.size
  replace cc := cc.trans (b.mono cc.size)
  clear b
  go_wp2_with fail
  refine (CL _).mono ?_
  rintro e w3 ⟨rfl, b⟩
  replace ka0 := (b.cell (p := ⟨w.heap.size, 0, none⟩) kal).trans ka0
  replace ka1 := (b.cell (p := ⟨w.heap.size, 1, none⟩) kal).trans ka1
  replace ka2 := (b.cell (p := ⟨w.heap.size, 2, none⟩) kal).trans ka2
  replace ka3 := (b.cell (p := ⟨w.heap.size, 3, none⟩) kal).trans ka3
  replace kal := Nat.lt_of_lt_of_le kal b.size
  replace cc := cc.trans (b.mono cc.size)
  clear b
  go_wp2_with fail
  go_ret
  exact ⟨rfl, cc⟩

set_option maxRecDepth 100000 in
set_option maxHeartbeats 8000000 in
theorem bkRight_ws {w : World} {k s : Int} {A B : Option Addr} {n c m d : Nat} {q : Int} (hq : IntKind.i64.wrap ((n : Int) + (m : Int)) = q) {C : List Nat} {W : List Int} (hC : BR w A n c C) (hW : IR w B m d W) (hn : n ≤ 9223372036854775807) (hm : m ≤ 9223372036854775807) (hk : k = 4) (hb : q ≤ 4096) :
    Calls Try.prog 26 #[.agg #[.int .i64 k, .int .i64 s, .slice A n c, .slice B m d]] w (GotV w (.bool (decide ((∀ x ∈ W, x ≠ -9223372036854775808) ∧ s = 0 ∧ n = 0)))) := by
  have CL := fun V => bkLen_N V (k := k) (s := s) (A := A) (B := B) (c := c) (d := d) hn hm
  rw [hq] at CL
  have CM := fun V => bkman_w V hk
  have tq : decide (q ≤ 4096) = true := decide_eq_true (by omega)
  subst hk
  obtain ⟨r, hr⟩ : ∃ r, decide ((∀ x ∈ W, x ≠ -9223372036854775808) ∧ s = 0 ∧ n = 0) = r := ⟨_, rfl⟩
  rw [hr]
  have CR : ∀ {V : World}, IR V B m d W → Calls Try.prog 69 #[.agg #[], .agg #[.int .i64 4, .int .i64 s, .slice A n c, .slice B m d]] V (GotV V (.bool r)) := fun h => by have h2 := bkwright_N (k := 4) (s := s) (A := A) (n := n) (c := c) h hm; rw [hr] at h2; exact h2
  have hmt : ∀ V : World, (method 51 68 (.agg #[]) "ratchet/block.right").run Try.prog V = .ok (69, .agg #[]) V := fun _ => by kernel_rfl
  clear hr hq hb
  have cc := Below.refl w.heap.size w
  go_enter Try.func26, Try.ntmps26
  go_wp2_with fail
  have bA : Below w.heap.size w (w.alloc (.cells #[.int .i64 4, .int .i64 s, .slice A n c, .slice B m d] 26)) := ((Below.refl _ w).alloc (by simp) _)
  replace hC := hC.on bA
  replace hW := hW.on bA
  replace cc := cc.trans (bA.mono cc.size)
  clear bA
  have ka0 : (w.alloc (.cells #[.int .i64 4, .int .i64 s, .slice A n c, .slice B m d] 26)).cell? ⟨w.heap.size, 0, none⟩ = some (.int .i64 4) := by simp [go_sem]
  have ka1 : (w.alloc (.cells #[.int .i64 4, .int .i64 s, .slice A n c, .slice B m d] 26)).cell? ⟨w.heap.size, 1, none⟩ = some (.int .i64 s) := by simp [go_sem]
  have ka2 : (w.alloc (.cells #[.int .i64 4, .int .i64 s, .slice A n c, .slice B m d] 26)).cell? ⟨w.heap.size, 2, none⟩ = some (.slice A n c) := by simp [go_sem]
  have ka3 : (w.alloc (.cells #[.int .i64 4, .int .i64 s, .slice A n c, .slice B m d] 26)).cell? ⟨w.heap.size, 3, none⟩ = some (.slice B m d) := by simp [go_sem]
  have kal : w.heap.size < (w.alloc (.cells #[.int .i64 4, .int .i64 s, .slice A n c, .slice B m d] 26)).heap.size := by simp <;> omega
  generalize w.alloc (.cells #[.int .i64 4, .int .i64 s, .slice A n c, .slice B m d] 26) = v1 at *
  go_wp2_with fail
  refine (CM _).mono ?_
  rintro e w2 ⟨rfl, b⟩
  replace hC := hC.on b
  replace hW := hW.on b
  replace ka0 := (b.cell (p := ⟨w.heap.size, 0, none⟩) kal).trans ka0
  replace ka1 := (b.cell (p := ⟨w.heap.size, 1, none⟩) kal).trans ka1
  replace ka2 := (b.cell (p := ⟨w.heap.size, 2, none⟩) kal).trans ka2
  replace ka3 := (b.cell (p := ⟨w.heap.size, 3, none⟩) kal).trans ka3
  replace kal := Nat.lt_of_lt_of_le kal b.size
  replace cc := cc.trans (b.mono cc.size)
  clear b
  go_wp2_with fail
  refine (CL _).mono ?_
  rintro e w3 ⟨rfl, b⟩
  replace hC := hC.on b
  replace hW := hW.on b
  replace ka0 := (b.cell (p := ⟨w.heap.size, 0, none⟩) kal).trans ka0
  replace ka1 := (b.cell (p := ⟨w.heap.size, 1, none⟩) kal).trans ka1
  replace ka2 := (b.cell (p := ⟨w.heap.size, 2, none⟩) kal).trans ka2
  replace ka3 := (b.cell (p := ⟨w.heap.size, 3, none⟩) kal).trans ka3
  replace kal := Nat.lt_of_lt_of_le kal b.size
  replace cc := cc.trans (b.mono cc.size)
  clear b
  go_wp2_with fail
  refine (CR hW).mono ?_
  rintro e w4 ⟨rfl, b⟩
  replace hC := hC.on b
  replace hW := hW.on b
  replace ka0 := (b.cell (p := ⟨w.heap.size, 0, none⟩) kal).trans ka0
  replace ka1 := (b.cell (p := ⟨w.heap.size, 1, none⟩) kal).trans ka1
  replace ka2 := (b.cell (p := ⟨w.heap.size, 2, none⟩) kal).trans ka2
  replace ka3 := (b.cell (p := ⟨w.heap.size, 3, none⟩) kal).trans ka3
  replace kal := Nat.lt_of_lt_of_le kal b.size
  replace cc := cc.trans (b.mono cc.size)
  clear b
  go_wp2_with fail
  go_ret
  exact ⟨rfl, cc⟩

set_option maxRecDepth 100000 in
set_option maxHeartbeats 8000000 in
theorem bkRight_cb {w : World} {k s : Int} {A B : Option Addr} {n c m d : Nat} {q : Int} (hq : IntKind.i64.wrap ((n : Int) + (m : Int)) = q) {C : List Nat} {W : List Int} (hC : BR w A n c C) (hW : IR w B m d W) (hn : n ≤ 9223372036854775807) (hm : m ≤ 9223372036854775807) (hk : Kind9 k) (hb : 4096 < q) :
    Calls Try.prog 26 #[.agg #[.int .i64 k, .int .i64 s, .slice A n c, .slice B m d]] w (GotV w (.bool false)) := by
  have CL := fun V => bkLen_N V (k := k) (s := s) (A := A) (B := B) (c := c) (d := d) hn hm
  rw [hq] at CL
  have CM := fun V => bkman_c V hk
  have tq : decide (q ≤ 4096) = false := decide_eq_false (by omega)
  clear hq hk hb hC hW
  have cc := Below.refl w.heap.size w
  go_enter Try.func26, Try.ntmps26
  go_wp2_with fail
  have bA : Below w.heap.size w (w.alloc (.cells #[.int .i64 k, .int .i64 s, .slice A n c, .slice B m d] 26)) := ((Below.refl _ w).alloc (by simp) _)
  replace cc := cc.trans (bA.mono cc.size)
  clear bA
  have ka0 : (w.alloc (.cells #[.int .i64 k, .int .i64 s, .slice A n c, .slice B m d] 26)).cell? ⟨w.heap.size, 0, none⟩ = some (.int .i64 k) := by simp [go_sem]
  have ka1 : (w.alloc (.cells #[.int .i64 k, .int .i64 s, .slice A n c, .slice B m d] 26)).cell? ⟨w.heap.size, 1, none⟩ = some (.int .i64 s) := by simp [go_sem]
  have ka2 : (w.alloc (.cells #[.int .i64 k, .int .i64 s, .slice A n c, .slice B m d] 26)).cell? ⟨w.heap.size, 2, none⟩ = some (.slice A n c) := by simp [go_sem]
  have ka3 : (w.alloc (.cells #[.int .i64 k, .int .i64 s, .slice A n c, .slice B m d] 26)).cell? ⟨w.heap.size, 3, none⟩ = some (.slice B m d) := by simp [go_sem]
  have kal : w.heap.size < (w.alloc (.cells #[.int .i64 k, .int .i64 s, .slice A n c, .slice B m d] 26)).heap.size := by simp <;> omega
  generalize w.alloc (.cells #[.int .i64 k, .int .i64 s, .slice A n c, .slice B m d] 26) = v1 at *
  go_wp2_with fail
  refine (CM _).mono ?_
  rintro e w2 ⟨rfl, b⟩
  replace ka0 := (b.cell (p := ⟨w.heap.size, 0, none⟩) kal).trans ka0
  replace ka1 := (b.cell (p := ⟨w.heap.size, 1, none⟩) kal).trans ka1
  replace ka2 := (b.cell (p := ⟨w.heap.size, 2, none⟩) kal).trans ka2
  replace ka3 := (b.cell (p := ⟨w.heap.size, 3, none⟩) kal).trans ka3
  replace kal := Nat.lt_of_lt_of_le kal b.size
  replace cc := cc.trans (b.mono cc.size)
  clear b
  go_wp2_with fail
  refine (CL _).mono ?_
  rintro e w3 ⟨rfl, b⟩
  replace ka0 := (b.cell (p := ⟨w.heap.size, 0, none⟩) kal).trans ka0
  replace ka1 := (b.cell (p := ⟨w.heap.size, 1, none⟩) kal).trans ka1
  replace ka2 := (b.cell (p := ⟨w.heap.size, 2, none⟩) kal).trans ka2
  replace ka3 := (b.cell (p := ⟨w.heap.size, 3, none⟩) kal).trans ka3
  replace kal := Nat.lt_of_lt_of_le kal b.size
  replace cc := cc.trans (b.mono cc.size)
  clear b
  go_wp2_with fail
  go_ret
  exact ⟨rfl, cc⟩

set_option maxRecDepth 100000 in
set_option maxHeartbeats 8000000 in
theorem bkRight_cs {w : World} {k s : Int} {A B : Option Addr} {n c m d : Nat} {q : Int} (hq : IntKind.i64.wrap ((n : Int) + (m : Int)) = q) {C : List Nat} {W : List Int} (hC : BR w A n c C) (hW : IR w B m d W) (hn : n ≤ 9223372036854775807) (hm : m ≤ 9223372036854775807) (hk : Kind9 k) (hb : q ≤ 4096) :
    Calls Try.prog 26 #[.agg #[.int .i64 k, .int .i64 s, .slice A n c, .slice B m d]] w (GotV w (.bool (decide (m = 0 ∧ OkC k s C)))) := by
  have CL := fun V => bkLen_N V (k := k) (s := s) (A := A) (B := B) (c := c) (d := d) hn hm
  rw [hq] at CL
  have CM := fun V => bkman_c V hk
  have tq : decide (q ≤ 4096) = true := decide_eq_true (by omega)
  obtain ⟨r, hr⟩ : ∃ r, decide (m = 0 ∧ OkC k s C) = r := ⟨_, rfl⟩
  rw [hr]
  have CR : ∀ {V : World}, BR V A n c C → Calls Try.prog 74 #[.int .i64 k, .agg #[.int .i64 k, .int .i64 s, .slice A n c, .slice B m d]] V (GotV V (.bool r)) := fun h => by have h2 := bkcright_N (s := s) (B := B) (m := m) (d := d) hk h; rw [hr] at h2; exact h2
  have hmt : ∀ V : World, (method 51 69 (.int .i64 k) "ratchet/block.right").run Try.prog V = .ok (74, .int .i64 k) V := fun _ => by kernel_rfl
  clear hr hq hb hk
  have cc := Below.refl w.heap.size w
  go_enter Try.func26, Try.ntmps26
  go_wp2_with fail
  have bA : Below w.heap.size w (w.alloc (.cells #[.int .i64 k, .int .i64 s, .slice A n c, .slice B m d] 26)) := ((Below.refl _ w).alloc (by simp) _)
  replace hC := hC.on bA
  replace hW := hW.on bA
  replace cc := cc.trans (bA.mono cc.size)
  clear bA
  have ka0 : (w.alloc (.cells #[.int .i64 k, .int .i64 s, .slice A n c, .slice B m d] 26)).cell? ⟨w.heap.size, 0, none⟩ = some (.int .i64 k) := by simp [go_sem]
  have ka1 : (w.alloc (.cells #[.int .i64 k, .int .i64 s, .slice A n c, .slice B m d] 26)).cell? ⟨w.heap.size, 1, none⟩ = some (.int .i64 s) := by simp [go_sem]
  have ka2 : (w.alloc (.cells #[.int .i64 k, .int .i64 s, .slice A n c, .slice B m d] 26)).cell? ⟨w.heap.size, 2, none⟩ = some (.slice A n c) := by simp [go_sem]
  have ka3 : (w.alloc (.cells #[.int .i64 k, .int .i64 s, .slice A n c, .slice B m d] 26)).cell? ⟨w.heap.size, 3, none⟩ = some (.slice B m d) := by simp [go_sem]
  have kal : w.heap.size < (w.alloc (.cells #[.int .i64 k, .int .i64 s, .slice A n c, .slice B m d] 26)).heap.size := by simp <;> omega
  generalize w.alloc (.cells #[.int .i64 k, .int .i64 s, .slice A n c, .slice B m d] 26) = v1 at *
  go_wp2_with fail
  refine (CM _).mono ?_
  rintro e w2 ⟨rfl, b⟩
  replace hC := hC.on b
  replace hW := hW.on b
  replace ka0 := (b.cell (p := ⟨w.heap.size, 0, none⟩) kal).trans ka0
  replace ka1 := (b.cell (p := ⟨w.heap.size, 1, none⟩) kal).trans ka1
  replace ka2 := (b.cell (p := ⟨w.heap.size, 2, none⟩) kal).trans ka2
  replace ka3 := (b.cell (p := ⟨w.heap.size, 3, none⟩) kal).trans ka3
  replace kal := Nat.lt_of_lt_of_le kal b.size
  replace cc := cc.trans (b.mono cc.size)
  clear b
  go_wp2_with fail
  refine (CL _).mono ?_
  rintro e w3 ⟨rfl, b⟩
  replace hC := hC.on b
  replace hW := hW.on b
  replace ka0 := (b.cell (p := ⟨w.heap.size, 0, none⟩) kal).trans ka0
  replace ka1 := (b.cell (p := ⟨w.heap.size, 1, none⟩) kal).trans ka1
  replace ka2 := (b.cell (p := ⟨w.heap.size, 2, none⟩) kal).trans ka2
  replace ka3 := (b.cell (p := ⟨w.heap.size, 3, none⟩) kal).trans ka3
  replace kal := Nat.lt_of_lt_of_le kal b.size
  replace cc := cc.trans (b.mono cc.size)
  clear b
  go_wp2_with fail
  refine (CR hC).mono ?_
  rintro e w4 ⟨rfl, b⟩
  replace hC := hC.on b
  replace hW := hW.on b
  replace ka0 := (b.cell (p := ⟨w.heap.size, 0, none⟩) kal).trans ka0
  replace ka1 := (b.cell (p := ⟨w.heap.size, 1, none⟩) kal).trans ka1
  replace ka2 := (b.cell (p := ⟨w.heap.size, 2, none⟩) kal).trans ka2
  replace ka3 := (b.cell (p := ⟨w.heap.size, 3, none⟩) kal).trans ka3
  replace kal := Nat.lt_of_lt_of_le kal b.size
  replace cc := cc.trans (b.mono cc.size)
  clear b
  go_wp2_with fail
  go_ret
  exact ⟨rfl, cc⟩

theorem bkRight_N {w : World} {k s : Int} {A B : Option Addr} {n c m d : Nat} {C : List Nat} {W : List Int} (hC : BR w A n c C) (hW : IR w B m d W) (hn : n ≤ 9223372036854775807) (hm : m ≤ 9223372036854775807) : Calls Try.prog 26 #[.agg #[.int .i64 k, .int .i64 s, .slice A n c, .slice B m d]] w (GotV w (.bool (decide (OkB k s C W)))) := by
  have hl1 := hC.1
  have hl2 := hW.1
  obtain ⟨q, hq⟩ : ∃ q, IntKind.i64.wrap ((n : Int) + (m : Int)) = q := ⟨_, rfl⟩
  have q1 : n = 0 → q = (m : Int) := fun e => by subst e; rw [← hq]; rw [IntWalk.i64_in _ (by omega)]; omega
  have q2 : m = 0 → q = (n : Int) := fun e => by subst e; rw [← hq]; rw [IntWalk.i64_in _ (by omega)]; omega
  by_cases h : 0 ≤ k ∧ k ≤ 4
  · rcases kind_or.1 h with hk | hk
    · have h4 : k ≠ 4 := by unfold Kind9 at hk; omega
      by_cases hb : 4096 < q
      · rw [decide_eq_false (fun e => by
          rcases e with ⟨_, e1, e2, _⟩ | e
          · have := q2 (by rw [hl2, e2]; rfl); omega
          · exact h4 e.1)]
        exact bkRight_cb hq hC hW hn hm hk hb
      · have e : decide (OkB k s C W) = decide (m = 0 ∧ OkC k s C) := decide_eq_decide.2 ⟨fun e => (by
          rcases e with ⟨_, e1, e2, e3⟩ | e
          · exact ⟨by rw [hl2, e2]; rfl, e3⟩
          · exact absurd e.1 h4), fun e => .inl ⟨hk, by have := q2 e.1; omega, List.eq_nil_of_length_eq_zero (by omega), e.2⟩⟩
        rw [e]; exact bkRight_cs hq hC hW hn hm hk (by omega)
    · by_cases hb : 4096 < q
      · rw [decide_eq_false (fun e => by
          rcases e with ⟨e, _⟩ | ⟨_, e1, _, _, e2⟩
          · unfold Kind9 at e; omega
          · have := q1 (by rw [hl1, e2]; rfl); omega)]
        exact bkRight_wb hq hC hW hn hm hk hb
      · have e : decide (OkB k s C W) = decide ((∀ x ∈ W, x ≠ -9223372036854775808) ∧ s = 0 ∧ n = 0) := decide_eq_decide.2 ⟨fun e => (by
          rcases e with ⟨e, _⟩ | ⟨_, e1, e2, e3, e4⟩
          · unfold Kind9 at e; omega
          · exact ⟨e2, e3, by rw [hl1, e4]; rfl⟩), fun e => .inr ⟨hk, by have := q1 e.2.2; omega, e.1, e.2.1, List.eq_nil_of_length_eq_zero (by omega)⟩⟩
        rw [e]; exact bkRight_ws hq hC hW hn hm hk (by omega)
  · rw [decide_eq_false (fun e => h (kind_or.2 (by rcases e with e | e; exact .inl e.1; exact .inr e.1)))]
    exact bkRight_no hq hC hW hn hm h

set_option maxRecDepth 100000 in
set_option maxHeartbeats 8000000 in
theorem bkLoad_w {w : World} {k s : Int} {A B : Option Addr} {n c m d : Nat} {W : List Int} (hk : k = 4) (hW : IR w B m d W) (hm : m ≤ 4096) :
    Calls Try.prog 10 #[.agg #[.int .i64 k, .int .i64 s, .slice A n c, .slice B m d]] w (GotI w W) := by
  have CM := fun V => bkman_w V hk
  subst hk
  have hmt : ∀ V : World, (method 51 68 (.agg #[]) "ratchet/block.load").run Try.prog V = .ok (67, .agg #[]) V := fun _ => by kernel_rfl
  have cc := Below.refl w.heap.size w
  go_enter Try.func10, Try.ntmps10
  go_wp2_with fail
  have bA : Below w.heap.size w (w.alloc (.cells #[.int .i64 4, .int .i64 s, .slice A n c, .slice B m d] 26)) := ((Below.refl _ w).alloc (by simp) _)
  replace hW := hW.on bA
  replace cc := cc.trans (bA.mono cc.size)
  clear bA
  have ka0 : (w.alloc (.cells #[.int .i64 4, .int .i64 s, .slice A n c, .slice B m d] 26)).cell? ⟨w.heap.size, 0, none⟩ = some (.int .i64 4) := by simp [go_sem]
  have ka1 : (w.alloc (.cells #[.int .i64 4, .int .i64 s, .slice A n c, .slice B m d] 26)).cell? ⟨w.heap.size, 1, none⟩ = some (.int .i64 s) := by simp [go_sem]
  have ka2 : (w.alloc (.cells #[.int .i64 4, .int .i64 s, .slice A n c, .slice B m d] 26)).cell? ⟨w.heap.size, 2, none⟩ = some (.slice A n c) := by simp [go_sem]
  have ka3 : (w.alloc (.cells #[.int .i64 4, .int .i64 s, .slice A n c, .slice B m d] 26)).cell? ⟨w.heap.size, 3, none⟩ = some (.slice B m d) := by simp [go_sem]
  have kal : w.heap.size < (w.alloc (.cells #[.int .i64 4, .int .i64 s, .slice A n c, .slice B m d] 26)).heap.size := by simp <;> omega
  generalize w.alloc (.cells #[.int .i64 4, .int .i64 s, .slice A n c, .slice B m d] 26) = v1 at *
  go_wp2_with fail
  refine (CM _).mono ?_
  rintro e w2 ⟨rfl, b⟩
  replace hW := hW.on b
  replace ka0 := (b.cell (p := ⟨w.heap.size, 0, none⟩) kal).trans ka0
  replace ka1 := (b.cell (p := ⟨w.heap.size, 1, none⟩) kal).trans ka1
  replace ka2 := (b.cell (p := ⟨w.heap.size, 2, none⟩) kal).trans ka2
  replace ka3 := (b.cell (p := ⟨w.heap.size, 3, none⟩) kal).trans ka3
  replace kal := Nat.lt_of_lt_of_le kal b.size
  replace cc := cc.trans (b.mono cc.size)
  clear b
  go_wp2_with fail
  refine (bkwload_N hW hm).mono ?_
  rintro e w3 ⟨Al, nl, cl, rfl, hl, b⟩
  replace hW := hW.on b
  replace ka0 := (b.cell (p := ⟨w.heap.size, 0, none⟩) kal).trans ka0
  replace ka1 := (b.cell (p := ⟨w.heap.size, 1, none⟩) kal).trans ka1
  replace ka2 := (b.cell (p := ⟨w.heap.size, 2, none⟩) kal).trans ka2
  replace ka3 := (b.cell (p := ⟨w.heap.size, 3, none⟩) kal).trans ka3
  replace kal := Nat.lt_of_lt_of_le kal b.size
  replace cc := cc.trans (b.mono cc.size)
  clear b
  go_wp2_with fail
  go_ret
  exact ⟨_, _, _, rfl, hl, cc⟩

set_option maxRecDepth 100000 in
set_option maxHeartbeats 8000000 in
theorem bkLoad_c {w : World} {k s : Int} {A B : Option Addr} {n c m d : Nat} {C : List Nat} (hk : Kind9 k) (h0 : 0 ≤ s) (hs : I64 s) (hC : BR w A n c C) (hn : n ≤ 4096) :
    Calls Try.prog 10 #[.agg #[.int .i64 k, .int .i64 s, .slice A n c, .slice B m d]] w (GotI w (C.map (ld k s))) := by
  have CM := fun V => bkman_c V hk
  have CO := fun {V : World} (h : BR V A n c C) => bkcload_N (B := B) (m := m) (d := d) hk h0 hs h hn
  generalize C.map (ld k s) = R at *
  have hmt : ∀ V : World, (method 51 69 (.int .i64 k) "ratchet/block.load").run Try.prog V = .ok (72, .int .i64 k) V := fun _ => by kernel_rfl
  clear hk h0 hs
  have cc := Below.refl w.heap.size w
  go_enter Try.func10, Try.ntmps10
  go_wp2_with fail
  have bA : Below w.heap.size w (w.alloc (.cells #[.int .i64 k, .int .i64 s, .slice A n c, .slice B m d] 26)) := ((Below.refl _ w).alloc (by simp) _)
  replace hC := hC.on bA
  replace cc := cc.trans (bA.mono cc.size)
  clear bA
  have ka0 : (w.alloc (.cells #[.int .i64 k, .int .i64 s, .slice A n c, .slice B m d] 26)).cell? ⟨w.heap.size, 0, none⟩ = some (.int .i64 k) := by simp [go_sem]
  have ka1 : (w.alloc (.cells #[.int .i64 k, .int .i64 s, .slice A n c, .slice B m d] 26)).cell? ⟨w.heap.size, 1, none⟩ = some (.int .i64 s) := by simp [go_sem]
  have ka2 : (w.alloc (.cells #[.int .i64 k, .int .i64 s, .slice A n c, .slice B m d] 26)).cell? ⟨w.heap.size, 2, none⟩ = some (.slice A n c) := by simp [go_sem]
  have ka3 : (w.alloc (.cells #[.int .i64 k, .int .i64 s, .slice A n c, .slice B m d] 26)).cell? ⟨w.heap.size, 3, none⟩ = some (.slice B m d) := by simp [go_sem]
  have kal : w.heap.size < (w.alloc (.cells #[.int .i64 k, .int .i64 s, .slice A n c, .slice B m d] 26)).heap.size := by simp <;> omega
  generalize w.alloc (.cells #[.int .i64 k, .int .i64 s, .slice A n c, .slice B m d] 26) = v1 at *
  go_wp2_with fail
  refine (CM _).mono ?_
  rintro e w2 ⟨rfl, b⟩
  replace hC := hC.on b
  replace ka0 := (b.cell (p := ⟨w.heap.size, 0, none⟩) kal).trans ka0
  replace ka1 := (b.cell (p := ⟨w.heap.size, 1, none⟩) kal).trans ka1
  replace ka2 := (b.cell (p := ⟨w.heap.size, 2, none⟩) kal).trans ka2
  replace ka3 := (b.cell (p := ⟨w.heap.size, 3, none⟩) kal).trans ka3
  replace kal := Nat.lt_of_lt_of_le kal b.size
  replace cc := cc.trans (b.mono cc.size)
  clear b
  go_wp2_with fail
  refine (CO hC).mono ?_
  rintro e w3 ⟨Al, nl, cl, rfl, hl, b⟩
  replace hC := hC.on b
  replace ka0 := (b.cell (p := ⟨w.heap.size, 0, none⟩) kal).trans ka0
  replace ka1 := (b.cell (p := ⟨w.heap.size, 1, none⟩) kal).trans ka1
  replace ka2 := (b.cell (p := ⟨w.heap.size, 2, none⟩) kal).trans ka2
  replace ka3 := (b.cell (p := ⟨w.heap.size, 3, none⟩) kal).trans ka3
  replace kal := Nat.lt_of_lt_of_le kal b.size
  replace cc := cc.trans (b.mono cc.size)
  clear b
  go_wp2_with fail
  go_ret
  exact ⟨_, _, _, rfl, hl, cc⟩

theorem bkLoad_N {w : World} {k s : Int} {A B : Option Addr} {n c m d : Nat} {C : List Nat} {W : List Int} (hC : BR w A n c C) (hW : IR w B m d W) (ho : OkB k s C W) (hs : I64 s) : Calls Try.prog 10 #[.agg #[.int .i64 k, .int .i64 s, .slice A n c, .slice B m d]] w (GotI w (ldB k s C W)) := by
  have hl1 := hC.1
  have hl2 := hW.1
  unfold ldB
  rcases ho with ⟨hk, h1, _, h2⟩ | ⟨hk, h1, _⟩
  · rw [if_neg (show k ≠ 4 by unfold Kind9 at hk; omega)]
    exact bkLoad_c hk (by rcases h2 with e | e; have := e.1; omega; have := e.1; omega) hs hC (by omega)
  · rw [if_pos hk]
    exact bkLoad_w hk hW (by omega)

set_option maxRecDepth 100000 in
set_option maxHeartbeats 8000000 in
theorem bkPack_kind (w : World) {k : Int} {A : Option Addr} {n c : Nat} (h : ¬ (0 ≤ k ∧ k ≤ 4)) :
    Calls Try.prog 8 #[.int .i64 k, .slice A n c] w (GotBp w 0 0 [] [] 1) := by
  have CM := fun V => bkman_no V h
  clear h
  have cc := Below.refl w.heap.size w
  go_enter Try.func8, Try.ntmps8
  go_wp2_with fail
  have f0 : (w.alloc (.cells #[.int .i64 0, .int .i64 0, .slice none 0 0, .slice none 0 0] 26)).frozen? ⟨w.heap.size, 0, none⟩ = false := by simp [go_sem]
  have f1 : (w.alloc (.cells #[.int .i64 0, .int .i64 0, .slice none 0 0, .slice none 0 0] 26)).frozen? ⟨w.heap.size, 1, none⟩ = false := by simp [go_sem]
  have f2 : (w.alloc (.cells #[.int .i64 0, .int .i64 0, .slice none 0 0, .slice none 0 0] 26)).frozen? ⟨w.heap.size, 2, none⟩ = false := by simp [go_sem]
  have f3 : (w.alloc (.cells #[.int .i64 0, .int .i64 0, .slice none 0 0, .slice none 0 0] 26)).frozen? ⟨w.heap.size, 3, none⟩ = false := by simp [go_sem]
  have bA : Below w.heap.size w (w.alloc (.cells #[.int .i64 0, .int .i64 0, .slice none 0 0, .slice none 0 0] 26)) := ((Below.refl _ w).alloc (by simp) _)
  replace cc := cc.trans (bA.mono cc.size)
  clear bA
  have g0 : (w.alloc (.cells #[.int .i64 0, .int .i64 0, .slice none 0 0, .slice none 0 0] 26)).cell? ⟨w.heap.size, 0, none⟩ = some (.int .i64 0) := by simp [go_sem]
  have g1 : (w.alloc (.cells #[.int .i64 0, .int .i64 0, .slice none 0 0, .slice none 0 0] 26)).cell? ⟨w.heap.size, 1, none⟩ = some (.int .i64 0) := by simp [go_sem]
  have g2 : (w.alloc (.cells #[.int .i64 0, .int .i64 0, .slice none 0 0, .slice none 0 0] 26)).cell? ⟨w.heap.size, 2, none⟩ = some (.slice none 0 0) := by simp [go_sem]
  have g3 : (w.alloc (.cells #[.int .i64 0, .int .i64 0, .slice none 0 0, .slice none 0 0] 26)).cell? ⟨w.heap.size, 3, none⟩ = some (.slice none 0 0) := by simp [go_sem]
  have gl : w.heap.size < (w.alloc (.cells #[.int .i64 0, .int .i64 0, .slice none 0 0, .slice none 0 0] 26)).heap.size := by simp <;> omega
  generalize w.alloc (.cells #[.int .i64 0, .int .i64 0, .slice none 0 0, .slice none 0 0] 26) = v1 at *
  go_wp2_with fail
  refine (CM _).mono ?_
  rintro e w2 ⟨rfl, b⟩
  replace f0 := (b.frozen (p := ⟨w.heap.size, 0, none⟩) gl).trans f0
  replace f1 := (b.frozen (p := ⟨w.heap.size, 1, none⟩) gl).trans f1
  replace f2 := (b.frozen (p := ⟨w.heap.size, 2, none⟩) gl).trans f2
  replace f3 := (b.frozen (p := ⟨w.heap.size, 3, none⟩) gl).trans f3
  replace g0 := (b.cell (p := ⟨w.heap.size, 0, none⟩) gl).trans g0
  replace g1 := (b.cell (p := ⟨w.heap.size, 1, none⟩) gl).trans g1
  replace g2 := (b.cell (p := ⟨w.heap.size, 2, none⟩) gl).trans g2
  replace g3 := (b.cell (p := ⟨w.heap.size, 3, none⟩) gl).trans g3
  replace gl := Nat.lt_of_lt_of_le gl b.size
  replace cc := cc.trans (b.mono cc.size)
  clear b
  have HBF := Lib.hid (below_putK cc (Nat.le_refl _) (.int .i64 0) (.int .i64 0) (.slice none 0 0) (.slice none 0 0))
  clear cc
  go_wp2_with fail
  refine bodyPost_ret (v := .tuple #[.agg #[.int .i64 0, .int .i64 0, .slice none 0 0, .slice none 0 0], .int .i64 1]) (by simp [results, Try.results8, go_sem, g0, g1, g2, g3]) rfl ⟨_, _, _, _, _, _, rfl, BR.nil _ _ _, IR.nil _ _ _, HBF.out⟩

set_option maxRecDepth 100000 in
set_option maxHeartbeats 8000000 in
theorem bkPack_wn {w : World} {k : Int} {A : Option Addr} {n c : Nat} {L : List Int} (hk : k = 4) (hA : IR w A n c L) (hn : n ≤ 20) (ht : ∃ x ∈ L, tkW x = false) :
    Calls Try.prog 8 #[.int .i64 k, .slice A n c] w (GotBp w 0 0 [] [] 1) := by
  have CM := fun V => bkman_w V hk
  subst hk
  have CT := fun (V : World) (x : Int) => bktkw_N V (x := x)
  have hmt1 : ∀ V : World, (method 51 68 (.agg #[]) "ratchet/block.takes").run Try.prog V = .ok (70, .agg #[]) V := fun _ => by kernel_rfl
  have hmt2 : ∀ V : World, (method 51 68 (.agg #[]) "ratchet/block.pack").run Try.prog V = .ok (68, .agg #[]) V := fun _ => by kernel_rfl
  have HT := Lib.hid ht
  clear ht
  have HL := Lib.hid hA.1
  generalize tkW = T at *
  have cc := Below.refl w.heap.size w
  go_enter Try.func8, Try.ntmps8
  go_wp2_with fail
  have f0 : (w.alloc (.cells #[.int .i64 0, .int .i64 0, .slice none 0 0, .slice none 0 0] 26)).frozen? ⟨w.heap.size, 0, none⟩ = false := by simp [go_sem]
  have f1 : (w.alloc (.cells #[.int .i64 0, .int .i64 0, .slice none 0 0, .slice none 0 0] 26)).frozen? ⟨w.heap.size, 1, none⟩ = false := by simp [go_sem]
  have f2 : (w.alloc (.cells #[.int .i64 0, .int .i64 0, .slice none 0 0, .slice none 0 0] 26)).frozen? ⟨w.heap.size, 2, none⟩ = false := by simp [go_sem]
  have f3 : (w.alloc (.cells #[.int .i64 0, .int .i64 0, .slice none 0 0, .slice none 0 0] 26)).frozen? ⟨w.heap.size, 3, none⟩ = false := by simp [go_sem]
  have bA : Below w.heap.size w (w.alloc (.cells #[.int .i64 0, .int .i64 0, .slice none 0 0, .slice none 0 0] 26)) := ((Below.refl _ w).alloc (by simp) _)
  replace hA := hA.on bA
  replace cc := cc.trans (bA.mono cc.size)
  clear bA
  have g0 : (w.alloc (.cells #[.int .i64 0, .int .i64 0, .slice none 0 0, .slice none 0 0] 26)).cell? ⟨w.heap.size, 0, none⟩ = some (.int .i64 0) := by simp [go_sem]
  have g1 : (w.alloc (.cells #[.int .i64 0, .int .i64 0, .slice none 0 0, .slice none 0 0] 26)).cell? ⟨w.heap.size, 1, none⟩ = some (.int .i64 0) := by simp [go_sem]
  have g2 : (w.alloc (.cells #[.int .i64 0, .int .i64 0, .slice none 0 0, .slice none 0 0] 26)).cell? ⟨w.heap.size, 2, none⟩ = some (.slice none 0 0) := by simp [go_sem]
  have g3 : (w.alloc (.cells #[.int .i64 0, .int .i64 0, .slice none 0 0, .slice none 0 0] 26)).cell? ⟨w.heap.size, 3, none⟩ = some (.slice none 0 0) := by simp [go_sem]
  have gl : w.heap.size < (w.alloc (.cells #[.int .i64 0, .int .i64 0, .slice none 0 0, .slice none 0 0] 26)).heap.size := by simp <;> omega
  generalize w.alloc (.cells #[.int .i64 0, .int .i64 0, .slice none 0 0, .slice none 0 0] 26) = v1 at *
  go_wp2_with fail
  refine (CM _).mono ?_
  rintro e w2 ⟨rfl, b⟩
  replace f0 := (b.frozen (p := ⟨w.heap.size, 0, none⟩) gl).trans f0
  replace f1 := (b.frozen (p := ⟨w.heap.size, 1, none⟩) gl).trans f1
  replace f2 := (b.frozen (p := ⟨w.heap.size, 2, none⟩) gl).trans f2
  replace f3 := (b.frozen (p := ⟨w.heap.size, 3, none⟩) gl).trans f3
  replace hA := hA.on b
  replace g0 := (b.cell (p := ⟨w.heap.size, 0, none⟩) gl).trans g0
  replace g1 := (b.cell (p := ⟨w.heap.size, 1, none⟩) gl).trans g1
  replace g2 := (b.cell (p := ⟨w.heap.size, 2, none⟩) gl).trans g2
  replace g3 := (b.cell (p := ⟨w.heap.size, 3, none⟩) gl).trans g3
  replace gl := Nat.lt_of_lt_of_le gl b.size
  replace cc := cc.trans (b.mono cc.size)
  clear b
  have HAV := Lib.hid hA
  have CCV := Lib.hid cc
  have HGL := Lib.hid gl
  have G0 := Lib.hid g0
  have G1 := Lib.hid g1
  have G2 := Lib.hid g2
  have G3 := Lib.hid g3
  have F0 := Lib.hid f0
  have F1 := Lib.hid f1
  have F2 := Lib.hid f2
  have F3 := Lib.hid f3
  clear hA cc gl g0 f0 g1 f1 g2 f2 g3 f3
  go_wp2_with fail
  go_loopw [21] (fun iv wr => ∃ i : Nat, i ≤ n ∧ iv = .int .i64 (i : Int) ∧ (∀ j, j < i → T (L[j]?.getD 0) = true) ∧ Below w2.heap.size w2 wr) (fun iv _ => n - (intOf iv).toNat)
  case atStart => exact ⟨0, by omega, rfl, fun j h => absurd h (by omega), Below.refl _ _⟩
  case round =>
    obtain ⟨i, hi, rfl, hj, hbl⟩ := hrel
    by_cases hlt : i < n
    · have hA := HAV.out.on hbl
      obtain ⟨b2, o2, rfl, hb2_, hc2⟩ := HAV.out.2.2 (by omega)
      have e1 := hA.cell hlt
      obtain ⟨x, hx⟩ : ∃ x, L[i]?.getD 0 = x := ⟨_, rfl⟩
      rw [hx] at e1
      have CTx := fun V => CT V x
      have k3 : IntKind.i64.wrap ((i : Int) + 1) = ((i + 1 : Nat) : Int) := by rw [IntWalk.i64_in _ (by omega)]; omega
      cases tx : T x with
      | true =>
        have HJ : Hid (∀ j, j < i + 1 → T (L[j]?.getD 0) = true) := Lib.hid (fun j h => by
          rcases Nat.lt_or_ge j i with e | e
          · exact hj j e
          · have e2 : j = i := by omega
            rw [e2, hx]; exact tx)
        rw [tx] at CTx
        clear hj hx hA hc2 CT hb2_ tx
        go_wp2_with fail
        refine (CTx _).mono ?_
        rintro e wz ⟨rfl, b⟩
        replace hbl := hbl.trans (b.mono hbl.size)
        clear b
        go_wp2_with fail
        go_roundw
        case rel => exact ⟨i + 1, by omega, by go_num, HJ.out, hbl⟩
        case measure => simp [intOf] <;> omega
      | false =>
        have hgl := HGL.out
        have cc := CCV.out.trans (hbl.mono CCV.out.size)
        have g0 := (hbl.cell (p := ⟨w.heap.size, 0, none⟩) hgl).trans G0.out
        have g1 := (hbl.cell (p := ⟨w.heap.size, 1, none⟩) hgl).trans G1.out
        have g2 := (hbl.cell (p := ⟨w.heap.size, 2, none⟩) hgl).trans G2.out
        have g3 := (hbl.cell (p := ⟨w.heap.size, 3, none⟩) hgl).trans G3.out
        have f0 := (hbl.frozen (p := ⟨w.heap.size, 0, none⟩) hgl).trans F0.out
        have f1 := (hbl.frozen (p := ⟨w.heap.size, 1, none⟩) hgl).trans F1.out
        have f2 := (hbl.frozen (p := ⟨w.heap.size, 2, none⟩) hgl).trans F2.out
        have f3 := (hbl.frozen (p := ⟨w.heap.size, 3, none⟩) hgl).trans F3.out
        replace hgl := Nat.lt_of_lt_of_le hgl hbl.size
        rw [tx] at CTx
        clear hj hx hA hc2 CT hb2_ tx hbl
        go_wp2_with fail
        refine (CTx _).mono ?_
        rintro e wz ⟨rfl, b⟩
        replace g0 := (b.cell (p := ⟨w.heap.size, 0, none⟩) hgl).trans g0
        replace g1 := (b.cell (p := ⟨w.heap.size, 1, none⟩) hgl).trans g1
        replace g2 := (b.cell (p := ⟨w.heap.size, 2, none⟩) hgl).trans g2
        replace g3 := (b.cell (p := ⟨w.heap.size, 3, none⟩) hgl).trans g3
        replace f0 := (b.frozen (p := ⟨w.heap.size, 0, none⟩) hgl).trans f0
        replace f1 := (b.frozen (p := ⟨w.heap.size, 1, none⟩) hgl).trans f1
        replace f2 := (b.frozen (p := ⟨w.heap.size, 2, none⟩) hgl).trans f2
        replace f3 := (b.frozen (p := ⟨w.heap.size, 3, none⟩) hgl).trans f3
        replace cc := cc.trans (b.mono cc.size)
        have HBF := Lib.hid (below_putK cc (Nat.le_refl _) (.int .i64 0) (.int .i64 0) (.slice none 0 0) (.slice none 0 0))
        clear cc b hgl
        go_wp2_with fail
        refine bodyPost_ret (v := .tuple #[.agg #[.int .i64 0, .int .i64 0, .slice none 0 0, .slice none 0 0], .int .i64 1]) (by simp [results, Try.results8, go_sem, g0, g1, g2, g3]) rfl ⟨_, _, _, _, _, _, rfl, BR.nil _ _ _, IR.nil _ _ _, HBF.out⟩
    · exfalso
      obtain rfl : i = n := by omega
      obtain ⟨x, hx, hxf⟩ := HT.out
      obtain ⟨j, hj2, rfl⟩ := at_mem 0 hx
      have h1 := hj j (by rw [HL.out]; exact hj2)
      rw [hxf] at h1
      cases h1

set_option maxRecDepth 100000 in
set_option maxHeartbeats 8000000 in
theorem bkPack_wy {w : World} {k : Int} {A : Option Addr} {n c : Nat} {L : List Int} (hk : k = 4) (hA : IR w A n c L) (hn : n ≤ 20) (ht : ∀ x ∈ L, tkW x = true) :
    Calls Try.prog 8 #[.int .i64 k, .slice A n c] w (GotBp w 4 0 [] L 0) := by
  have CM := fun V => bkman_w V hk
  subst hk
  have CT := fun (V : World) (x : Int) => bktkw_N V (x := x)
  have hmt1 : ∀ V : World, (method 51 68 (.agg #[]) "ratchet/block.takes").run Try.prog V = .ok (70, .agg #[]) V := fun _ => by kernel_rfl
  have hmt2 : ∀ V : World, (method 51 68 (.agg #[]) "ratchet/block.pack").run Try.prog V = .ok (68, .agg #[]) V := fun _ => by kernel_rfl
  have CP := fun {V : World} (h : IR V A n c L) => bkwpack_N h (by omega)
  have HT := Lib.hid ht
  clear ht
  have HL := Lib.hid hA.1
  generalize tkW = T at *
  have cc := Below.refl w.heap.size w
  go_enter Try.func8, Try.ntmps8
  go_wp2_with fail
  have f0 : (w.alloc (.cells #[.int .i64 0, .int .i64 0, .slice none 0 0, .slice none 0 0] 26)).frozen? ⟨w.heap.size, 0, none⟩ = false := by simp [go_sem]
  have f1 : (w.alloc (.cells #[.int .i64 0, .int .i64 0, .slice none 0 0, .slice none 0 0] 26)).frozen? ⟨w.heap.size, 1, none⟩ = false := by simp [go_sem]
  have f2 : (w.alloc (.cells #[.int .i64 0, .int .i64 0, .slice none 0 0, .slice none 0 0] 26)).frozen? ⟨w.heap.size, 2, none⟩ = false := by simp [go_sem]
  have f3 : (w.alloc (.cells #[.int .i64 0, .int .i64 0, .slice none 0 0, .slice none 0 0] 26)).frozen? ⟨w.heap.size, 3, none⟩ = false := by simp [go_sem]
  have bA : Below w.heap.size w (w.alloc (.cells #[.int .i64 0, .int .i64 0, .slice none 0 0, .slice none 0 0] 26)) := ((Below.refl _ w).alloc (by simp) _)
  replace hA := hA.on bA
  replace cc := cc.trans (bA.mono cc.size)
  clear bA
  have g0 : (w.alloc (.cells #[.int .i64 0, .int .i64 0, .slice none 0 0, .slice none 0 0] 26)).cell? ⟨w.heap.size, 0, none⟩ = some (.int .i64 0) := by simp [go_sem]
  have g1 : (w.alloc (.cells #[.int .i64 0, .int .i64 0, .slice none 0 0, .slice none 0 0] 26)).cell? ⟨w.heap.size, 1, none⟩ = some (.int .i64 0) := by simp [go_sem]
  have g2 : (w.alloc (.cells #[.int .i64 0, .int .i64 0, .slice none 0 0, .slice none 0 0] 26)).cell? ⟨w.heap.size, 2, none⟩ = some (.slice none 0 0) := by simp [go_sem]
  have g3 : (w.alloc (.cells #[.int .i64 0, .int .i64 0, .slice none 0 0, .slice none 0 0] 26)).cell? ⟨w.heap.size, 3, none⟩ = some (.slice none 0 0) := by simp [go_sem]
  have gl : w.heap.size < (w.alloc (.cells #[.int .i64 0, .int .i64 0, .slice none 0 0, .slice none 0 0] 26)).heap.size := by simp <;> omega
  generalize w.alloc (.cells #[.int .i64 0, .int .i64 0, .slice none 0 0, .slice none 0 0] 26) = v1 at *
  go_wp2_with fail
  refine (CM _).mono ?_
  rintro e w2 ⟨rfl, b⟩
  replace f0 := (b.frozen (p := ⟨w.heap.size, 0, none⟩) gl).trans f0
  replace f1 := (b.frozen (p := ⟨w.heap.size, 1, none⟩) gl).trans f1
  replace f2 := (b.frozen (p := ⟨w.heap.size, 2, none⟩) gl).trans f2
  replace f3 := (b.frozen (p := ⟨w.heap.size, 3, none⟩) gl).trans f3
  replace hA := hA.on b
  replace g0 := (b.cell (p := ⟨w.heap.size, 0, none⟩) gl).trans g0
  replace g1 := (b.cell (p := ⟨w.heap.size, 1, none⟩) gl).trans g1
  replace g2 := (b.cell (p := ⟨w.heap.size, 2, none⟩) gl).trans g2
  replace g3 := (b.cell (p := ⟨w.heap.size, 3, none⟩) gl).trans g3
  replace gl := Nat.lt_of_lt_of_le gl b.size
  replace cc := cc.trans (b.mono cc.size)
  clear b
  have HAV := Lib.hid hA
  have CCV := Lib.hid cc
  have HGL := Lib.hid gl
  have G0 := Lib.hid g0
  have G1 := Lib.hid g1
  have G2 := Lib.hid g2
  have G3 := Lib.hid g3
  have F0 := Lib.hid f0
  have F1 := Lib.hid f1
  have F2 := Lib.hid f2
  have F3 := Lib.hid f3
  clear hA cc gl g0 f0 g1 f1 g2 f2 g3 f3
  go_wp2_with fail
  go_loopw [21] (fun iv wr => ∃ i : Nat, i ≤ n ∧ iv = .int .i64 (i : Int) ∧ (∀ j, j < i → T (L[j]?.getD 0) = true) ∧ Below w2.heap.size w2 wr) (fun iv _ => n - (intOf iv).toNat)
  case atStart => exact ⟨0, by omega, rfl, fun j h => absurd h (by omega), Below.refl _ _⟩
  case round =>
    obtain ⟨i, hi, rfl, hj, hbl⟩ := hrel
    by_cases hlt : i < n
    · have hA := HAV.out.on hbl
      obtain ⟨b2, o2, rfl, hb2_, hc2⟩ := HAV.out.2.2 (by omega)
      have e1 := hA.cell hlt
      obtain ⟨x, hx⟩ : ∃ x, L[i]?.getD 0 = x := ⟨_, rfl⟩
      rw [hx] at e1
      have CTx := fun V => CT V x
      have k3 : IntKind.i64.wrap ((i : Int) + 1) = ((i + 1 : Nat) : Int) := by rw [IntWalk.i64_in _ (by omega)]; omega
      have tx : T x = true := by rw [← hx]; exact HT.out _ (mem_at (by rw [← HL.out]; exact hlt))
      have HJ : Hid (∀ j, j < i + 1 → T (L[j]?.getD 0) = true) := Lib.hid (fun j h => by
        rcases Nat.lt_or_ge j i with e | e
        · exact hj j e
        · have e2 : j = i := by omega
          rw [e2, hx]; exact tx)
      rw [tx] at CTx
      clear hj hx hA hc2 CT hb2_ tx
      go_wp2_with fail
      refine (CTx _).mono ?_
      rintro e wz ⟨rfl, b⟩
      replace hbl := hbl.trans (b.mono hbl.size)
      clear b
      go_wp2_with fail
      go_roundw
      case rel => exact ⟨i + 1, by omega, by go_num, HJ.out, hbl⟩
      case measure => simp [intOf] <;> omega
    · obtain rfl : i = n := by omega
      have hgl := HGL.out
      have cc := CCV.out.trans (hbl.mono CCV.out.size)
      have g0 := (hbl.cell (p := ⟨w.heap.size, 0, none⟩) hgl).trans G0.out
      have g1 := (hbl.cell (p := ⟨w.heap.size, 1, none⟩) hgl).trans G1.out
      have g2 := (hbl.cell (p := ⟨w.heap.size, 2, none⟩) hgl).trans G2.out
      have g3 := (hbl.cell (p := ⟨w.heap.size, 3, none⟩) hgl).trans G3.out
      have f0 := (hbl.frozen (p := ⟨w.heap.size, 0, none⟩) hgl).trans F0.out
      have f1 := (hbl.frozen (p := ⟨w.heap.size, 1, none⟩) hgl).trans F1.out
      have f2 := (hbl.frozen (p := ⟨w.heap.size, 2, none⟩) hgl).trans F2.out
      have f3 := (hbl.frozen (p := ⟨w.heap.size, 3, none⟩) hgl).trans F3.out
      replace hgl := Nat.lt_of_lt_of_le hgl hbl.size
      have hA := HAV.out.on hbl
      clear hj hbl
      have t4 : decide (4096 < i) = false := decide_eq_false (by omega)
      have t5 : decide ((4096 : Int) < (i : Int)) = false := decide_eq_false (by omega)
      go_wp2_with fail
      refine (CP hA).mono ?_
      rintro e wz ⟨Ax, nx, cx, Bx, mx, dx, rfl, hC, hW, b, hn1, hn2⟩
      replace g0 := (b.cell (p := ⟨w.heap.size, 0, none⟩) hgl).trans g0
      replace g1 := (b.cell (p := ⟨w.heap.size, 1, none⟩) hgl).trans g1
      replace g2 := (b.cell (p := ⟨w.heap.size, 2, none⟩) hgl).trans g2
      replace g3 := (b.cell (p := ⟨w.heap.size, 3, none⟩) hgl).trans g3
      replace f0 := (b.frozen (p := ⟨w.heap.size, 0, none⟩) hgl).trans f0
      replace f1 := (b.frozen (p := ⟨w.heap.size, 1, none⟩) hgl).trans f1
      replace f2 := (b.frozen (p := ⟨w.heap.size, 2, none⟩) hgl).trans f2
      replace f3 := (b.frozen (p := ⟨w.heap.size, 3, none⟩) hgl).trans f3
      replace cc := cc.trans (b.mono cc.size)
      have m1 : ∀ p, Ax = some p → p.block ≠ w.heap.size := fun p e => by have := hn1 p e; omega
      have m2 : ∀ p, Bx = some p → p.block ≠ w.heap.size := fun p e => by have := hn2 p e; omega
      have HRC := Lib.hid (br_putK hC m1 (.int .i64 4) (.int .i64 0) (.slice Ax nx cx) (.slice Bx mx dx))
      have HRW := Lib.hid (ir_putK hW m2 (.int .i64 4) (.int .i64 0) (.slice Ax nx cx) (.slice Bx mx dx))
      have HBF := Lib.hid (below_putK cc (Nat.le_refl _) (.int .i64 4) (.int .i64 0) (.slice Ax nx cx) (.slice Bx mx dx))
      clear hC hW b hn1 hn2 m1 m2 cc hgl hA
      go_wp2_with fail
      refine bodyPost_ret (v := .tuple #[.agg #[.int .i64 4, .int .i64 0, .slice Ax nx cx, .slice Bx mx dx], .int .i64 0]) (by simp [results, Try.results8, go_sem, g0, g1, g2, g3]) rfl ⟨_, _, _, _, _, _, rfl, HRC.out, HRW.out, HBF.out⟩

set_option maxRecDepth 100000 in
set_option maxHeartbeats 8000000 in
theorem bkPack_cn {w : World} {k : Int} {A : Option Addr} {n c : Nat} {L : List Int} (hk : Kind9 k) (hA : IR w A n c L) (hn : n ≤ 20) (ht : ∃ x ∈ L, tkC k x = false) :
    Calls Try.prog 8 #[.int .i64 k, .slice A n c] w (GotBp w 0 0 [] [] 1) := by
  have CM := fun V => bkman_c V hk
  have CT := fun (V : World) (x : Int) => bktkc_N V (k := k) (x := x)
  have hmt1 : ∀ V : World, (method 51 69 (.int .i64 k) "ratchet/block.takes").run Try.prog V = .ok (75, .int .i64 k) V := fun _ => by kernel_rfl
  have hmt2 : ∀ V : World, (method 51 69 (.int .i64 k) "ratchet/block.pack").run Try.prog V = .ok (73, .int .i64 k) V := fun _ => by kernel_rfl
  have HT := Lib.hid ht
  clear ht hk
  have HL := Lib.hid hA.1
  generalize tkC k = T at *
  have cc := Below.refl w.heap.size w
  go_enter Try.func8, Try.ntmps8
  go_wp2_with fail
  have f0 : (w.alloc (.cells #[.int .i64 0, .int .i64 0, .slice none 0 0, .slice none 0 0] 26)).frozen? ⟨w.heap.size, 0, none⟩ = false := by simp [go_sem]
  have f1 : (w.alloc (.cells #[.int .i64 0, .int .i64 0, .slice none 0 0, .slice none 0 0] 26)).frozen? ⟨w.heap.size, 1, none⟩ = false := by simp [go_sem]
  have f2 : (w.alloc (.cells #[.int .i64 0, .int .i64 0, .slice none 0 0, .slice none 0 0] 26)).frozen? ⟨w.heap.size, 2, none⟩ = false := by simp [go_sem]
  have f3 : (w.alloc (.cells #[.int .i64 0, .int .i64 0, .slice none 0 0, .slice none 0 0] 26)).frozen? ⟨w.heap.size, 3, none⟩ = false := by simp [go_sem]
  have bA : Below w.heap.size w (w.alloc (.cells #[.int .i64 0, .int .i64 0, .slice none 0 0, .slice none 0 0] 26)) := ((Below.refl _ w).alloc (by simp) _)
  replace hA := hA.on bA
  replace cc := cc.trans (bA.mono cc.size)
  clear bA
  have g0 : (w.alloc (.cells #[.int .i64 0, .int .i64 0, .slice none 0 0, .slice none 0 0] 26)).cell? ⟨w.heap.size, 0, none⟩ = some (.int .i64 0) := by simp [go_sem]
  have g1 : (w.alloc (.cells #[.int .i64 0, .int .i64 0, .slice none 0 0, .slice none 0 0] 26)).cell? ⟨w.heap.size, 1, none⟩ = some (.int .i64 0) := by simp [go_sem]
  have g2 : (w.alloc (.cells #[.int .i64 0, .int .i64 0, .slice none 0 0, .slice none 0 0] 26)).cell? ⟨w.heap.size, 2, none⟩ = some (.slice none 0 0) := by simp [go_sem]
  have g3 : (w.alloc (.cells #[.int .i64 0, .int .i64 0, .slice none 0 0, .slice none 0 0] 26)).cell? ⟨w.heap.size, 3, none⟩ = some (.slice none 0 0) := by simp [go_sem]
  have gl : w.heap.size < (w.alloc (.cells #[.int .i64 0, .int .i64 0, .slice none 0 0, .slice none 0 0] 26)).heap.size := by simp <;> omega
  generalize w.alloc (.cells #[.int .i64 0, .int .i64 0, .slice none 0 0, .slice none 0 0] 26) = v1 at *
  go_wp2_with fail
  refine (CM _).mono ?_
  rintro e w2 ⟨rfl, b⟩
  replace f0 := (b.frozen (p := ⟨w.heap.size, 0, none⟩) gl).trans f0
  replace f1 := (b.frozen (p := ⟨w.heap.size, 1, none⟩) gl).trans f1
  replace f2 := (b.frozen (p := ⟨w.heap.size, 2, none⟩) gl).trans f2
  replace f3 := (b.frozen (p := ⟨w.heap.size, 3, none⟩) gl).trans f3
  replace hA := hA.on b
  replace g0 := (b.cell (p := ⟨w.heap.size, 0, none⟩) gl).trans g0
  replace g1 := (b.cell (p := ⟨w.heap.size, 1, none⟩) gl).trans g1
  replace g2 := (b.cell (p := ⟨w.heap.size, 2, none⟩) gl).trans g2
  replace g3 := (b.cell (p := ⟨w.heap.size, 3, none⟩) gl).trans g3
  replace gl := Nat.lt_of_lt_of_le gl b.size
  replace cc := cc.trans (b.mono cc.size)
  clear b
  have HAV := Lib.hid hA
  have CCV := Lib.hid cc
  have HGL := Lib.hid gl
  have G0 := Lib.hid g0
  have G1 := Lib.hid g1
  have G2 := Lib.hid g2
  have G3 := Lib.hid g3
  have F0 := Lib.hid f0
  have F1 := Lib.hid f1
  have F2 := Lib.hid f2
  have F3 := Lib.hid f3
  clear hA cc gl g0 f0 g1 f1 g2 f2 g3 f3
  go_wp2_with fail
  go_loopw [21] (fun iv wr => ∃ i : Nat, i ≤ n ∧ iv = .int .i64 (i : Int) ∧ (∀ j, j < i → T (L[j]?.getD 0) = true) ∧ Below w2.heap.size w2 wr) (fun iv _ => n - (intOf iv).toNat)
  case atStart => exact ⟨0, by omega, rfl, fun j h => absurd h (by omega), Below.refl _ _⟩
  case round =>
    obtain ⟨i, hi, rfl, hj, hbl⟩ := hrel
    by_cases hlt : i < n
    · have hA := HAV.out.on hbl
      obtain ⟨b2, o2, rfl, hb2_, hc2⟩ := HAV.out.2.2 (by omega)
      have e1 := hA.cell hlt
      obtain ⟨x, hx⟩ : ∃ x, L[i]?.getD 0 = x := ⟨_, rfl⟩
      rw [hx] at e1
      have CTx := fun V => CT V x
      have k3 : IntKind.i64.wrap ((i : Int) + 1) = ((i + 1 : Nat) : Int) := by rw [IntWalk.i64_in _ (by omega)]; omega
      cases tx : T x with
      | true =>
        have HJ : Hid (∀ j, j < i + 1 → T (L[j]?.getD 0) = true) := Lib.hid (fun j h => by
          rcases Nat.lt_or_ge j i with e | e
          · exact hj j e
          · have e2 : j = i := by omega
            rw [e2, hx]; exact tx)
        rw [tx] at CTx
        clear hj hx hA hc2 CT hb2_ tx
        go_wp2_with fail
        refine (CTx _).mono ?_
        rintro e wz ⟨rfl, b⟩
        replace hbl := hbl.trans (b.mono hbl.size)
        clear b
        go_wp2_with fail
        go_roundw
        case rel => exact ⟨i + 1, by omega, by go_num, HJ.out, hbl⟩
        case measure => simp [intOf] <;> omega
      | false =>
        have hgl := HGL.out
        have cc := CCV.out.trans (hbl.mono CCV.out.size)
        have g0 := (hbl.cell (p := ⟨w.heap.size, 0, none⟩) hgl).trans G0.out
        have g1 := (hbl.cell (p := ⟨w.heap.size, 1, none⟩) hgl).trans G1.out
        have g2 := (hbl.cell (p := ⟨w.heap.size, 2, none⟩) hgl).trans G2.out
        have g3 := (hbl.cell (p := ⟨w.heap.size, 3, none⟩) hgl).trans G3.out
        have f0 := (hbl.frozen (p := ⟨w.heap.size, 0, none⟩) hgl).trans F0.out
        have f1 := (hbl.frozen (p := ⟨w.heap.size, 1, none⟩) hgl).trans F1.out
        have f2 := (hbl.frozen (p := ⟨w.heap.size, 2, none⟩) hgl).trans F2.out
        have f3 := (hbl.frozen (p := ⟨w.heap.size, 3, none⟩) hgl).trans F3.out
        replace hgl := Nat.lt_of_lt_of_le hgl hbl.size
        rw [tx] at CTx
        clear hj hx hA hc2 CT hb2_ tx hbl
        go_wp2_with fail
        refine (CTx _).mono ?_
        rintro e wz ⟨rfl, b⟩
        replace g0 := (b.cell (p := ⟨w.heap.size, 0, none⟩) hgl).trans g0
        replace g1 := (b.cell (p := ⟨w.heap.size, 1, none⟩) hgl).trans g1
        replace g2 := (b.cell (p := ⟨w.heap.size, 2, none⟩) hgl).trans g2
        replace g3 := (b.cell (p := ⟨w.heap.size, 3, none⟩) hgl).trans g3
        replace f0 := (b.frozen (p := ⟨w.heap.size, 0, none⟩) hgl).trans f0
        replace f1 := (b.frozen (p := ⟨w.heap.size, 1, none⟩) hgl).trans f1
        replace f2 := (b.frozen (p := ⟨w.heap.size, 2, none⟩) hgl).trans f2
        replace f3 := (b.frozen (p := ⟨w.heap.size, 3, none⟩) hgl).trans f3
        replace cc := cc.trans (b.mono cc.size)
        have HBF := Lib.hid (below_putK cc (Nat.le_refl _) (.int .i64 0) (.int .i64 0) (.slice none 0 0) (.slice none 0 0))
        clear cc b hgl
        go_wp2_with fail
        refine bodyPost_ret (v := .tuple #[.agg #[.int .i64 0, .int .i64 0, .slice none 0 0, .slice none 0 0], .int .i64 1]) (by simp [results, Try.results8, go_sem, g0, g1, g2, g3]) rfl ⟨_, _, _, _, _, _, rfl, BR.nil _ _ _, IR.nil _ _ _, HBF.out⟩
    · exfalso
      obtain rfl : i = n := by omega
      obtain ⟨x, hx, hxf⟩ := HT.out
      obtain ⟨j, hj2, rfl⟩ := at_mem 0 hx
      have h1 := hj j (by rw [HL.out]; exact hj2)
      rw [hxf] at h1
      cases h1

set_option maxRecDepth 100000 in
set_option maxHeartbeats 8000000 in
theorem bkPack_cy {w : World} {k : Int} {A : Option Addr} {n c : Nat} {L : List Int} (hk : Kind9 k) (hA : IR w A n c L) (hn : n ≤ 20) (ht : ∀ x ∈ L, tkC k x = true) (hL : ∀ j : Nat, I64 (L[j]?.getD 0) ∧ L[j]?.getD 0 ≠ -9223372036854775808) (hO : ∀ x ∈ L, -gr L ≤ x ∧ x ≤ gr L ∧ (0 ≤ x ∨ sig9 k = true)) :
    Calls Try.prog 8 #[.int .i64 k, .slice A n c] w (GotBp w k (gr L) (L.map (pk k (gr L))) [] 0) := by
  have CM := fun V => bkman_c V hk
  have CT := fun (V : World) (x : Int) => bktkc_N V (k := k) (x := x)
  have hmt1 : ∀ V : World, (method 51 69 (.int .i64 k) "ratchet/block.takes").run Try.prog V = .ok (75, .int .i64 k) V := fun _ => by kernel_rfl
  have hmt2 : ∀ V : World, (method 51 69 (.int .i64 k) "ratchet/block.pack").run Try.prog V = .ok (73, .int .i64 k) V := fun _ => by kernel_rfl
  have CP := fun {V : World} (h : IR V A n c L) => bkcpack_N hk h (by omega) hL hO
  generalize L.map (pk k (gr L)) = R at *
  generalize gr L = S at *
  clear hL hO hk
  have HT := Lib.hid ht
  clear ht
  have HL := Lib.hid hA.1
  generalize tkC k = T at *
  have cc := Below.refl w.heap.size w
  go_enter Try.func8, Try.ntmps8
  go_wp2_with fail
  have f0 : (w.alloc (.cells #[.int .i64 0, .int .i64 0, .slice none 0 0, .slice none 0 0] 26)).frozen? ⟨w.heap.size, 0, none⟩ = false := by simp [go_sem]
  have f1 : (w.alloc (.cells #[.int .i64 0, .int .i64 0, .slice none 0 0, .slice none 0 0] 26)).frozen? ⟨w.heap.size, 1, none⟩ = false := by simp [go_sem]
  have f2 : (w.alloc (.cells #[.int .i64 0, .int .i64 0, .slice none 0 0, .slice none 0 0] 26)).frozen? ⟨w.heap.size, 2, none⟩ = false := by simp [go_sem]
  have f3 : (w.alloc (.cells #[.int .i64 0, .int .i64 0, .slice none 0 0, .slice none 0 0] 26)).frozen? ⟨w.heap.size, 3, none⟩ = false := by simp [go_sem]
  have bA : Below w.heap.size w (w.alloc (.cells #[.int .i64 0, .int .i64 0, .slice none 0 0, .slice none 0 0] 26)) := ((Below.refl _ w).alloc (by simp) _)
  replace hA := hA.on bA
  replace cc := cc.trans (bA.mono cc.size)
  clear bA
  have g0 : (w.alloc (.cells #[.int .i64 0, .int .i64 0, .slice none 0 0, .slice none 0 0] 26)).cell? ⟨w.heap.size, 0, none⟩ = some (.int .i64 0) := by simp [go_sem]
  have g1 : (w.alloc (.cells #[.int .i64 0, .int .i64 0, .slice none 0 0, .slice none 0 0] 26)).cell? ⟨w.heap.size, 1, none⟩ = some (.int .i64 0) := by simp [go_sem]
  have g2 : (w.alloc (.cells #[.int .i64 0, .int .i64 0, .slice none 0 0, .slice none 0 0] 26)).cell? ⟨w.heap.size, 2, none⟩ = some (.slice none 0 0) := by simp [go_sem]
  have g3 : (w.alloc (.cells #[.int .i64 0, .int .i64 0, .slice none 0 0, .slice none 0 0] 26)).cell? ⟨w.heap.size, 3, none⟩ = some (.slice none 0 0) := by simp [go_sem]
  have gl : w.heap.size < (w.alloc (.cells #[.int .i64 0, .int .i64 0, .slice none 0 0, .slice none 0 0] 26)).heap.size := by simp <;> omega
  generalize w.alloc (.cells #[.int .i64 0, .int .i64 0, .slice none 0 0, .slice none 0 0] 26) = v1 at *
  go_wp2_with fail
  refine (CM _).mono ?_
  rintro e w2 ⟨rfl, b⟩
  replace f0 := (b.frozen (p := ⟨w.heap.size, 0, none⟩) gl).trans f0
  replace f1 := (b.frozen (p := ⟨w.heap.size, 1, none⟩) gl).trans f1
  replace f2 := (b.frozen (p := ⟨w.heap.size, 2, none⟩) gl).trans f2
  replace f3 := (b.frozen (p := ⟨w.heap.size, 3, none⟩) gl).trans f3
  replace hA := hA.on b
  replace g0 := (b.cell (p := ⟨w.heap.size, 0, none⟩) gl).trans g0
  replace g1 := (b.cell (p := ⟨w.heap.size, 1, none⟩) gl).trans g1
  replace g2 := (b.cell (p := ⟨w.heap.size, 2, none⟩) gl).trans g2
  replace g3 := (b.cell (p := ⟨w.heap.size, 3, none⟩) gl).trans g3
  replace gl := Nat.lt_of_lt_of_le gl b.size
  replace cc := cc.trans (b.mono cc.size)
  clear b
  have HAV := Lib.hid hA
  have CCV := Lib.hid cc
  have HGL := Lib.hid gl
  have G0 := Lib.hid g0
  have G1 := Lib.hid g1
  have G2 := Lib.hid g2
  have G3 := Lib.hid g3
  have F0 := Lib.hid f0
  have F1 := Lib.hid f1
  have F2 := Lib.hid f2
  have F3 := Lib.hid f3
  clear hA cc gl g0 f0 g1 f1 g2 f2 g3 f3
  go_wp2_with fail
  go_loopw [21] (fun iv wr => ∃ i : Nat, i ≤ n ∧ iv = .int .i64 (i : Int) ∧ (∀ j, j < i → T (L[j]?.getD 0) = true) ∧ Below w2.heap.size w2 wr) (fun iv _ => n - (intOf iv).toNat)
  case atStart => exact ⟨0, by omega, rfl, fun j h => absurd h (by omega), Below.refl _ _⟩
  case round =>
    obtain ⟨i, hi, rfl, hj, hbl⟩ := hrel
    by_cases hlt : i < n
    · have hA := HAV.out.on hbl
      obtain ⟨b2, o2, rfl, hb2_, hc2⟩ := HAV.out.2.2 (by omega)
      have e1 := hA.cell hlt
      obtain ⟨x, hx⟩ : ∃ x, L[i]?.getD 0 = x := ⟨_, rfl⟩
      rw [hx] at e1
      have CTx := fun V => CT V x
      have k3 : IntKind.i64.wrap ((i : Int) + 1) = ((i + 1 : Nat) : Int) := by rw [IntWalk.i64_in _ (by omega)]; omega
      have tx : T x = true := by rw [← hx]; exact HT.out _ (mem_at (by rw [← HL.out]; exact hlt))
      have HJ : Hid (∀ j, j < i + 1 → T (L[j]?.getD 0) = true) := Lib.hid (fun j h => by
        rcases Nat.lt_or_ge j i with e | e
        · exact hj j e
        · have e2 : j = i := by omega
          rw [e2, hx]; exact tx)
      rw [tx] at CTx
      clear hj hx hA hc2 CT hb2_ tx
      go_wp2_with fail
      refine (CTx _).mono ?_
      rintro e wz ⟨rfl, b⟩
      replace hbl := hbl.trans (b.mono hbl.size)
      clear b
      go_wp2_with fail
      go_roundw
      case rel => exact ⟨i + 1, by omega, by go_num, HJ.out, hbl⟩
      case measure => simp [intOf] <;> omega
    · obtain rfl : i = n := by omega
      have hgl := HGL.out
      have cc := CCV.out.trans (hbl.mono CCV.out.size)
      have g0 := (hbl.cell (p := ⟨w.heap.size, 0, none⟩) hgl).trans G0.out
      have g1 := (hbl.cell (p := ⟨w.heap.size, 1, none⟩) hgl).trans G1.out
      have g2 := (hbl.cell (p := ⟨w.heap.size, 2, none⟩) hgl).trans G2.out
      have g3 := (hbl.cell (p := ⟨w.heap.size, 3, none⟩) hgl).trans G3.out
      have f0 := (hbl.frozen (p := ⟨w.heap.size, 0, none⟩) hgl).trans F0.out
      have f1 := (hbl.frozen (p := ⟨w.heap.size, 1, none⟩) hgl).trans F1.out
      have f2 := (hbl.frozen (p := ⟨w.heap.size, 2, none⟩) hgl).trans F2.out
      have f3 := (hbl.frozen (p := ⟨w.heap.size, 3, none⟩) hgl).trans F3.out
      replace hgl := Nat.lt_of_lt_of_le hgl hbl.size
      have hA := HAV.out.on hbl
      clear hj hbl
      have t4 : decide (4096 < i) = false := decide_eq_false (by omega)
      have t5 : decide ((4096 : Int) < (i : Int)) = false := decide_eq_false (by omega)
      go_wp2_with fail
      refine (CP hA).mono ?_
      rintro e wz ⟨Ax, nx, cx, Bx, mx, dx, rfl, hC, hW, b, hn1, hn2⟩
      replace g0 := (b.cell (p := ⟨w.heap.size, 0, none⟩) hgl).trans g0
      replace g1 := (b.cell (p := ⟨w.heap.size, 1, none⟩) hgl).trans g1
      replace g2 := (b.cell (p := ⟨w.heap.size, 2, none⟩) hgl).trans g2
      replace g3 := (b.cell (p := ⟨w.heap.size, 3, none⟩) hgl).trans g3
      replace f0 := (b.frozen (p := ⟨w.heap.size, 0, none⟩) hgl).trans f0
      replace f1 := (b.frozen (p := ⟨w.heap.size, 1, none⟩) hgl).trans f1
      replace f2 := (b.frozen (p := ⟨w.heap.size, 2, none⟩) hgl).trans f2
      replace f3 := (b.frozen (p := ⟨w.heap.size, 3, none⟩) hgl).trans f3
      replace cc := cc.trans (b.mono cc.size)
      have m1 : ∀ p, Ax = some p → p.block ≠ w.heap.size := fun p e => by have := hn1 p e; omega
      have m2 : ∀ p, Bx = some p → p.block ≠ w.heap.size := fun p e => by have := hn2 p e; omega
      have HRC := Lib.hid (br_putK hC m1 (.int .i64 k) (.int .i64 S) (.slice Ax nx cx) (.slice Bx mx dx))
      have HRW := Lib.hid (ir_putK hW m2 (.int .i64 k) (.int .i64 S) (.slice Ax nx cx) (.slice Bx mx dx))
      have HBF := Lib.hid (below_putK cc (Nat.le_refl _) (.int .i64 k) (.int .i64 S) (.slice Ax nx cx) (.slice Bx mx dx))
      clear hC hW b hn1 hn2 m1 m2 cc hgl hA
      go_wp2_with fail
      refine bodyPost_ret (v := .tuple #[.agg #[.int .i64 k, .int .i64 S, .slice Ax nx cx, .slice Bx mx dx], .int .i64 0]) (by simp [results, Try.results8, go_sem, g0, g1, g2, g3]) rfl ⟨_, _, _, _, _, _, rfl, HRC.out, HRW.out, HBF.out⟩

theorem tkC_ok {k x : Int} (hk : Kind9 k) : tkC k x = true ↔ (x ≠ -9223372036854775808 ∧ (k = 1 ∨ k = 3 → 0 ≤ x)) := by
  unfold tkC
  rw [decide_eq_true_eq, sig9_iff hk]
  constructor
  · intro h
    refine ⟨by omega, fun e => ?_⟩
    rcases h with h | h
    · exact h
    · exact absurd e h.2
  · intro h
    by_cases h0 : 0 ≤ x
    · exact .inl h0
    · exact .inr ⟨h.1, fun e => h0 (h.2 e)⟩
theorem tkW_ok {x : Int} : tkW x = true ↔ x ≠ -9223372036854775808 := decide_eq_true_iff
theorem row_i64 {L : List Int} (hi : ∀ x ∈ L, I64 x) (hm : ∀ x ∈ L, x ≠ -9223372036854775808) : ∀ j : Nat, I64 (L[j]?.getD 0) ∧ L[j]?.getD 0 ≠ -9223372036854775808 := by
  intro j
  rcases Nat.lt_or_ge j L.length with h | h
  · exact ⟨hi _ (mem_at h), hm _ (mem_at h)⟩
  · rw [List.getElem?_eq_none h]; exact ⟨i64_z, by show (0 : Int) ≠ _; omega⟩
theorem bkPack_yes {w : World} {k : Int} {A : Option Addr} {n c : Nat} {L : List Int} (hk : I64 k) (hA : IR w A n c L) (hi : ∀ x ∈ L, I64 x) (hn : n ≤ 20) (ho : OkP k L) : Calls Try.prog 8 #[.int .i64 k, .slice A n c] w (GotBp w k (pkS k L) (pkC k L) (pkW k L) 0) := by
  unfold pkS pkC pkW
  rcases kind_or.1 ho.1 with h | h
  · have h4 : k ≠ 4 := by unfold Kind9 at h; omega
    rw [if_neg h4, if_neg h4, if_neg h4]
    exact bkPack_cy h hA hn (fun x hx => (tkC_ok h).2 (ho.2 x hx)) (row_i64 hi fun x hx => (ho.2 x hx).1) (fun x hx => okP_at ho h hx)
  · rw [if_pos h, if_pos h, if_pos h]
    have := bkPack_wy h hA hn (fun x hx => tkW_ok.2 (ho.2 x hx).1)
    subst h
    exact this
theorem bkPack_no {w : World} {k : Int} {A : Option Addr} {n c : Nat} {L : List Int} (hk : I64 k) (hA : IR w A n c L) (hi : ∀ x ∈ L, I64 x) (hn : n ≤ 20) (ho : ¬ OkP k L) : Calls Try.prog 8 #[.int .i64 k, .slice A n c] w (GotBp w 0 0 [] [] 1) := by
  by_cases hr : 0 ≤ k ∧ k ≤ 4
  · rcases kind_or.1 hr with h | h
    · refine bkPack_cn h hA hn (Classical.byContradiction fun hno => ho ⟨hr, fun x hx => (tkC_ok h).1 ?_⟩)
      cases hx2 : tkC k x with
      | true => rfl
      | false => exact absurd ⟨x, hx, hx2⟩ hno
    · refine bkPack_wn h hA hn (Classical.byContradiction fun hno => ho ⟨hr, fun x hx => ⟨tkW_ok.1 ?_, fun e => by omega⟩⟩)
      cases hx2 : tkW x with
      | true => rfl
      | false => exact absurd ⟨x, hx, hx2⟩ hno
  · exact bkPack_kind w hr

end Go.Proofs.Ytlmcpgahjfepjaa

/-
  What the laws of block lean on: alive.
-/
namespace Go.Proofs.Ytlmcpgahjfepjaa
set_option maxRecDepth 100000
open Go.RowKit
set_option linter.unusedVariables false
set_option linter.unusedSimpArgs false

theorem near10_12 : near10 3 1 2 = 127 := by
  have h : ((List.range 256).all fun c => decide (dst 3 1 2 127 ≤ dst 3 1 2 c) && (decide (127 ≤ c) || decide (dst 3 1 2 127 < dst 3 1 2 c))) = true := by decide +kernel
  refine lpl_uniq (by decide) fun c hc => ?_
  have := List.all_eq_true.1 h c (List.mem_range.2 (by omega))
  rw [Bool.and_eq_true, Bool.or_eq_true] at this
  refine ⟨of_decide_eq_true this.1, fun hl => ?_⟩
  rcases this.2 with e | e
  · have := of_decide_eq_true e; omega
  · exact of_decide_eq_true e
theorem kind3 : Kind9 3 := .inr (.inr (.inr rfl))
theorem alive_gr : gr [0, 5, 10] = 10 := by decide
theorem alive_pk : pkC 3 [0, 5, 10] = [0, 127, 255] := by
  have h : max (10 : Int) 1 = 10 := by decide
  have a : pk 3 10 0 = 0 := by unfold pk; rw [h]; exact near10_own kind3 (by omega) (by omega) (by decide +kernel)
  have b : pk 3 10 5 = 127 := by
    have := near10_scale (k := 3) (num := 1) (den := 2) (t := 5) (by omega)
    unfold pk; rw [h, ← near10_12, ← this]; rfl
  have e : pk 3 10 10 = 255 := pk_top kind3 (by omega)
  show List.map (pk 3 (gr [0, 5, 10])) [0, 5, 10] = _
  rw [alive_gr]
  show [pk 3 10 0, pk 3 10 5, pk 3 10 10] = _
  rw [a, b, e]
theorem alive_ok : OkP 3 [0, 5, 10] := by decide
theorem alive_no : ¬ OkP 3 [-1] := by decide
theorem alive_right : OkB 3 10 [0, 127, 255] [] := by have := okB_pk alive_ok (by decide); rw [alive_pk] at this; exact this
theorem alive_ld : ∃ x y, ldB 3 10 [0, 127, 255] [] = [x, y, 10] := ⟨ld 3 10 0, ld 3 10 127, by have := ld_top (s := 10) kind3; show [_, _, ld 3 10 255] = _; rw [this]⟩
theorem i64_k3 : I64 3 := by unfold I64; omega
theorem i64_10 : I64 10 := by unfold I64; omega
instance (z : Int) : Decidable (I64 z) := by unfold I64; infer_instance
theorem ir_lit (w : World) (l : List Int) (T : TypeId) (h : 0 < l.length) : IR (w.alloc (.cells ((l.map encI).toArray) T)) (some ⟨w.heap.size, 0, none⟩) l.length l.length l :=
  ⟨rfl, Nat.le_refl _, fun _ => ⟨w.heap.size, 0, rfl, by simp, fun j hj => by rw [Nat.zero_add, World.cell?_alloc_new]; simp [encI, List.getElem?_eq_getElem hj]⟩⟩
theorem bkSame_same {w : World} {ka sa : Int} {Aa Ba : Option Addr} {na ca ma da : Nat} {kb sb : Int} {Ab Bb : Option Addr} {nb cb mb db : Nat} {C : List Nat} {W : List Int} (hCa : BR w Aa na ca C) (hWa : IR w Ba ma da W) (hna : na ≤ 9223372036854775807) (hma : ma ≤ 9223372036854775807) (hCb : BR w Ab nb cb C) (hWb : IR w Bb mb db W) (hnb : nb ≤ 9223372036854775807) (hmb : mb ≤ 9223372036854775807) (hk : ka = kb) (hs : sa = sb) : Calls Try.prog 25 #[.agg #[.int .i64 ka, .int .i64 sa, .slice Aa na ca, .slice Ba ma da], .agg #[.int .i64 kb, .int .i64 sb, .slice Ab nb cb, .slice Bb mb db]] w (GotV w (.bool true)) := by
  have h := bkSame_N (ka := ka) (kb := kb) (sa := sa) (sb := sb) hCa hWa hna hma hCb hWb hnb hmb
  rw [decide_eq_true ⟨hk, hs, rfl, rfl⟩] at h
  exact h
theorem rsame9_self {w : World} {A B : Option Addr} {n c m d : Nat} {L : List Int} (hA : IR w A n c L) (hB : IR w B m d L) (hn : n ≤ 9223372036854775807) : Calls Try.prog 11 #[.slice A n c, .slice B m d] w (GotV w (.bool true)) := by
  have h := rsame9_any hA hB hn
  rw [decide_eq_true rfl] at h
  exact h

set_option maxRecDepth 100000 in
set_option maxHeartbeats 8000000 in
theorem alive11_any (w : World) :
    Calls Try.prog 7 #[] w (GotV w (.bool true)) := by
  have C1 : ∀ {W : World} {A : Option Addr} {n c : Nat}, IR W A n c [0, 5, 10] → Calls Try.prog 8 #[.int .i64 3, .slice A n c] W (GotBp W 3 10 [0, 127, 255] [] 0) := fun hh => by
    have hl := hh.1
    have h := bkPack_yes i64_k3 hh (by decide) (by rw [hl]; decide) alive_ok
    rw [alive_pk] at h
    exact h
  have C2 : ∀ {W : World} {A : Option Addr} {n c : Nat}, IR W A n c [-1] → Calls Try.prog 8 #[.int .i64 3, .slice A n c] W (GotBp W 0 0 [] [] 1) := fun hh => by
    have hl := hh.1
    have h := bkPack_no i64_k3 hh (by decide) (by rw [hl]; decide) alive_no
    exact h
  obtain ⟨x, y, hxy⟩ := alive_ld
  have CL : ∀ {W : World} {A B : Option Addr} {n c m d : Nat}, BR W A n c [0, 127, 255] → IR W B m d [] → Calls Try.prog 10 #[.agg #[.int .i64 3, .int .i64 10, .slice A n c, .slice B m d]] W (GotI W [x, y, 10]) := fun h g => by have e := bkLoad_N h g alive_right i64_10; rw [hxy] at e; exact e
  have CR : ∀ {W : World} {A B : Option Addr} {n c m d : Nat}, BR W A n c [0, 127, 255] → IR W B m d [] → n ≤ 9223372036854775807 → m ≤ 9223372036854775807 → Calls Try.prog 26 #[.agg #[.int .i64 3, .int .i64 10, .slice A n c, .slice B m d]] W (GotV W (.bool true)) := fun h g a b => by have e := bkRight_N (k := 3) (s := 10) h g a b; rw [decide_eq_true alive_right] at e; exact e
  clear hxy
  have cc := Below.refl w.heap.size w
  have R1 : IR (w.alloc (.cells #[.int .i64 (0), .int .i64 (5), .int .i64 (10)] 2)) (some ⟨w.heap.size, 0, none⟩) 3 3 [0, 5, 10] := ir_lit w [0, 5, 10] 2 (by decide)
  have R2 : ∀ W : World, IR (W.alloc (.cells #[.int .i64 (-1)] 2)) (some ⟨W.heap.size, 0, none⟩) 1 1 [-1] := fun W => ir_lit W [-1] 2 (by decide)
  go_enter Try.func7, Try.ntmps7
  go_wp2_with fail
  replace cc := cc.alloc (Nat.le_refl _) (.cells #[.int .i64 (0), .int .i64 (5), .int .i64 (10)] 2)
  have C1a := C1 R1
  clear R1
  generalize w.alloc (.cells #[.int .i64 (0), .int .i64 (5), .int .i64 (10)] 2) = v0 at *
  refine (C1a).mono ?_
  rintro e w1 ⟨Ap, np, cp, Bp, mp, dp, rfl, hCp, hWp, b⟩
  replace cc := cc.trans (b.mono cc.size)
  clear b
  have ep : np = 3 := hCp.1
  have em : mp = 0 := hWp.1
  subst ep
  subst em
  have hz : (w1.alloc (.cells #[.int .i64 3, .int .i64 10, .slice Ap 3 cp, .slice Bp 0 dp] 26)).heap.size = w1.heap.size + 1 := by simp
  go_wp2_with fail
  have bA := below_one w1 (.cells #[.int .i64 3, .int .i64 10, .slice Ap 3 cp, .slice Bp 0 dp] 26)
  replace hCp := hCp.on bA
  replace hWp := hWp.on bA
  replace cc := cc.trans (bA.mono cc.size)
  clear bA
  have bp0 : (w1.alloc (.cells #[.int .i64 3, .int .i64 10, .slice Ap 3 cp, .slice Bp 0 dp] 26)).cell? ⟨w1.heap.size, 0, none⟩ = some (.int .i64 3) := by simp [go_sem]
  have bp1 : (w1.alloc (.cells #[.int .i64 3, .int .i64 10, .slice Ap 3 cp, .slice Bp 0 dp] 26)).cell? ⟨w1.heap.size, 1, none⟩ = some (.int .i64 10) := by simp [go_sem]
  have bp2 : (w1.alloc (.cells #[.int .i64 3, .int .i64 10, .slice Ap 3 cp, .slice Bp 0 dp] 26)).cell? ⟨w1.heap.size, 2, none⟩ = some (.slice Ap 3 cp) := by simp [go_sem]
  have bp3 : (w1.alloc (.cells #[.int .i64 3, .int .i64 10, .slice Ap 3 cp, .slice Bp 0 dp] 26)).cell? ⟨w1.heap.size, 3, none⟩ = some (.slice Bp 0 dp) := by simp [go_sem]
  have bpl : w1.heap.size < (w1.alloc (.cells #[.int .i64 3, .int .i64 10, .slice Ap 3 cp, .slice Bp 0 dp] 26)).heap.size := by simp
  generalize w1.alloc (.cells #[.int .i64 3, .int .i64 10, .slice Ap 3 cp, .slice Bp 0 dp] 26) = v2 at *
  go_wp2_with fail
  have bA := below_one v2 (.cells #[.int .i64 (-1)] 2)
  have R2a := R2 v2
  rw [hz] at R2a
  have C2a := C2 R2a
  clear R2a
  replace hCp := hCp.on bA
  replace hWp := hWp.on bA
  replace bp0 := (bA.cell (p := ⟨w1.heap.size, 0, none⟩) bpl).trans bp0
  replace bp1 := (bA.cell (p := ⟨w1.heap.size, 1, none⟩) bpl).trans bp1
  replace bp2 := (bA.cell (p := ⟨w1.heap.size, 2, none⟩) bpl).trans bp2
  replace bp3 := (bA.cell (p := ⟨w1.heap.size, 3, none⟩) bpl).trans bp3
  replace bpl := Nat.lt_of_lt_of_le bpl bA.size
  replace cc := cc.trans (bA.mono cc.size)
  clear bA
  generalize v2.alloc (.cells #[.int .i64 (-1)] 2) = v9 at *
  refine (C2a).mono ?_
  rintro e w3 ⟨Aq, nq, cq, Bq, mq, dq, rfl, hCq, hWq, b⟩
  replace hCp := hCp.on b
  replace hWp := hWp.on b
  replace bp0 := (b.cell (p := ⟨w1.heap.size, 0, none⟩) bpl).trans bp0
  replace bp1 := (b.cell (p := ⟨w1.heap.size, 1, none⟩) bpl).trans bp1
  replace bp2 := (b.cell (p := ⟨w1.heap.size, 2, none⟩) bpl).trans bp2
  replace bp3 := (b.cell (p := ⟨w1.heap.size, 3, none⟩) bpl).trans bp3
  replace bpl := Nat.lt_of_lt_of_le bpl b.size
  replace cc := cc.trans (b.mono cc.size)
  clear b
  have eq_ : nq = 0 := hCq.1
  have emq : mq = 0 := hWq.1
  subst eq_
  subst emq
  go_wp2_with fail
  have bA := below_one w3 (.cells #[.int .i64 0, .int .i64 0, .slice Aq 0 cq, .slice Bq 0 dq] 26)
  replace hCp := hCp.on bA
  replace hWp := hWp.on bA
  replace hCq := hCq.on bA
  replace hWq := hWq.on bA
  replace bp0 := (bA.cell (p := ⟨w1.heap.size, 0, none⟩) bpl).trans bp0
  replace bp1 := (bA.cell (p := ⟨w1.heap.size, 1, none⟩) bpl).trans bp1
  replace bp2 := (bA.cell (p := ⟨w1.heap.size, 2, none⟩) bpl).trans bp2
  replace bp3 := (bA.cell (p := ⟨w1.heap.size, 3, none⟩) bpl).trans bp3
  replace bpl := Nat.lt_of_lt_of_le bpl bA.size
  replace cc := cc.trans (bA.mono cc.size)
  clear bA
  have bq0 : (w3.alloc (.cells #[.int .i64 0, .int .i64 0, .slice Aq 0 cq, .slice Bq 0 dq] 26)).cell? ⟨w3.heap.size, 0, none⟩ = some (.int .i64 0) := by simp [go_sem]
  have bq1 : (w3.alloc (.cells #[.int .i64 0, .int .i64 0, .slice Aq 0 cq, .slice Bq 0 dq] 26)).cell? ⟨w3.heap.size, 1, none⟩ = some (.int .i64 0) := by simp [go_sem]
  have bq2 : (w3.alloc (.cells #[.int .i64 0, .int .i64 0, .slice Aq 0 cq, .slice Bq 0 dq] 26)).cell? ⟨w3.heap.size, 2, none⟩ = some (.slice Aq 0 cq) := by simp [go_sem]
  have bq3 : (w3.alloc (.cells #[.int .i64 0, .int .i64 0, .slice Aq 0 cq, .slice Bq 0 dq] 26)).cell? ⟨w3.heap.size, 3, none⟩ = some (.slice Bq 0 dq) := by simp [go_sem]
  have bql : w3.heap.size < (w3.alloc (.cells #[.int .i64 0, .int .i64 0, .slice Aq 0 cq, .slice Bq 0 dq] 26)).heap.size := by simp
  generalize w3.alloc (.cells #[.int .i64 0, .int .i64 0, .slice Aq 0 cq, .slice Bq 0 dq] 26) = v4 at *
  go_wp2_with fail
  refine (CL hCp hWp).mono ?_
  rintro e w5 ⟨Al, nl, cl, rfl, hl, b⟩
  replace hCp := hCp.on b
  replace hWp := hWp.on b
  replace hCq := hCq.on b
  replace hWq := hWq.on b
  replace bp0 := (b.cell (p := ⟨w1.heap.size, 0, none⟩) bpl).trans bp0
  replace bp1 := (b.cell (p := ⟨w1.heap.size, 1, none⟩) bpl).trans bp1
  replace bp2 := (b.cell (p := ⟨w1.heap.size, 2, none⟩) bpl).trans bp2
  replace bp3 := (b.cell (p := ⟨w1.heap.size, 3, none⟩) bpl).trans bp3
  replace bpl := Nat.lt_of_lt_of_le bpl b.size
  replace bq0 := (b.cell (p := ⟨w3.heap.size, 0, none⟩) bql).trans bq0
  replace bq1 := (b.cell (p := ⟨w3.heap.size, 1, none⟩) bql).trans bq1
  replace bq2 := (b.cell (p := ⟨w3.heap.size, 2, none⟩) bql).trans bq2
  replace bq3 := (b.cell (p := ⟨w3.heap.size, 3, none⟩) bql).trans bq3
  replace bql := Nat.lt_of_lt_of_le bql b.size
  replace cc := cc.trans (b.mono cc.size)
  clear b
  have el : nl = 3 := hl.1
  subst el
  obtain ⟨bl, ol_, rfl, hbl⟩ := hl.2.2 (by omega)
  have l2 := hbl.2 2 (by omega)
  replace l2 : w5.cell? ⟨bl, ol_ + 2, none⟩ = some (.int .i64 10) := l2
  obtain ⟨bc, oc, rfl, hbc, hcc⟩ := hCp.2.2.2 (by omega)
  have hcv : (convert 24 9 (.slice (some ⟨bc, oc, none⟩) 3 cp)).run Try.prog w5 = .ok (.string ⟨#[0, 127, 255]⟩) w5 := run_convert_bytes_back (P := Try.prog) w5 24 9 5 ⟨bc, oc, none⟩ cp [0, 127, 255] Try.underlying24 Try.underlying5 Try.underlying9 (fun j hj => by
    have h := hcc j (by simpa using hj)
    have ha : (⟨bc, oc, none⟩ : Addr).add j = ⟨bc, oc + j, none⟩ := by unfold Addr.add; split; (rename_i h0; subst h0; rfl); rfl
    rw [ha]
    match j, hj with
    | 0, _ => exact h
    | 1, _ => exact h
    | 2, _ => exact h)
  clear hcc hbl
  go_wp2_with fail
  refine (CR hCp hWp (by omega) (by omega)).mono ?_
  rintro e w6 ⟨rfl, b⟩
  replace hCp := hCp.on b
  replace hWp := hWp.on b
  replace hCq := hCq.on b
  replace hWq := hWq.on b
  replace hl := hl.on b
  replace bp0 := (b.cell (p := ⟨w1.heap.size, 0, none⟩) bpl).trans bp0
  replace bp1 := (b.cell (p := ⟨w1.heap.size, 1, none⟩) bpl).trans bp1
  replace bp2 := (b.cell (p := ⟨w1.heap.size, 2, none⟩) bpl).trans bp2
  replace bp3 := (b.cell (p := ⟨w1.heap.size, 3, none⟩) bpl).trans bp3
  replace bpl := Nat.lt_of_lt_of_le bpl b.size
  replace bq0 := (b.cell (p := ⟨w3.heap.size, 0, none⟩) bql).trans bq0
  replace bq1 := (b.cell (p := ⟨w3.heap.size, 1, none⟩) bql).trans bq1
  replace bq2 := (b.cell (p := ⟨w3.heap.size, 2, none⟩) bql).trans bq2
  replace bq3 := (b.cell (p := ⟨w3.heap.size, 3, none⟩) bql).trans bq3
  replace bql := Nat.lt_of_lt_of_le bql b.size
  replace cc := cc.trans (b.mono cc.size)
  clear b
  go_wp2_with fail
  refine (bkLen_N _ (by omega) (by omega)).mono ?_
  rintro e w7 ⟨rfl, b⟩
  replace hCp := hCp.on b
  replace hWp := hWp.on b
  replace hCq := hCq.on b
  replace hWq := hWq.on b
  replace hl := hl.on b
  replace bp0 := (b.cell (p := ⟨w1.heap.size, 0, none⟩) bpl).trans bp0
  replace bp1 := (b.cell (p := ⟨w1.heap.size, 1, none⟩) bpl).trans bp1
  replace bp2 := (b.cell (p := ⟨w1.heap.size, 2, none⟩) bpl).trans bp2
  replace bp3 := (b.cell (p := ⟨w1.heap.size, 3, none⟩) bpl).trans bp3
  replace bpl := Nat.lt_of_lt_of_le bpl b.size
  replace bq0 := (b.cell (p := ⟨w3.heap.size, 0, none⟩) bql).trans bq0
  replace bq1 := (b.cell (p := ⟨w3.heap.size, 1, none⟩) bql).trans bq1
  replace bq2 := (b.cell (p := ⟨w3.heap.size, 2, none⟩) bql).trans bq2
  replace bq3 := (b.cell (p := ⟨w3.heap.size, 3, none⟩) bql).trans bq3
  replace bql := Nat.lt_of_lt_of_le bql b.size
  replace cc := cc.trans (b.mono cc.size)
  clear b
  go_wp2_with fail
  refine (bkSame_same hCp hWp (by omega) (by omega) hCp hWp (by omega) (by omega) rfl rfl).mono ?_
  rintro e w8 ⟨rfl, b⟩
  replace hCp := hCp.on b
  replace hWp := hWp.on b
  replace hCq := hCq.on b
  replace hWq := hWq.on b
  replace hl := hl.on b
  replace bp0 := (b.cell (p := ⟨w1.heap.size, 0, none⟩) bpl).trans bp0
  replace bp1 := (b.cell (p := ⟨w1.heap.size, 1, none⟩) bpl).trans bp1
  replace bp2 := (b.cell (p := ⟨w1.heap.size, 2, none⟩) bpl).trans bp2
  replace bp3 := (b.cell (p := ⟨w1.heap.size, 3, none⟩) bpl).trans bp3
  replace bpl := Nat.lt_of_lt_of_le bpl b.size
  replace bq0 := (b.cell (p := ⟨w3.heap.size, 0, none⟩) bql).trans bq0
  replace bq1 := (b.cell (p := ⟨w3.heap.size, 1, none⟩) bql).trans bq1
  replace bq2 := (b.cell (p := ⟨w3.heap.size, 2, none⟩) bql).trans bq2
  replace bq3 := (b.cell (p := ⟨w3.heap.size, 3, none⟩) bql).trans bq3
  replace bql := Nat.lt_of_lt_of_le bql b.size
  replace cc := cc.trans (b.mono cc.size)
  clear b
  go_wp2_with fail
  go_ret
  exact ⟨rfl, cc⟩

end Go.Proofs.Ytlmcpgahjfepjaa
