/-
  Several texts in one: JE, C14a, C14b, C14d, C14e, M14.
-/
import Derived.Test.YtpidpebgeblenaaA7
import Derived.Test.YtpidpebgeblenaaA4
import Derived.Test.YtpidpebgeblenaaA3

/-
  The contracts of the landed block: Right, Load, Pack.
-/
namespace Go.Proofs.Ytpidpebgeblenaa
set_option maxRecDepth 100000
open Go.RowKit
set_option linter.unusedVariables false
set_option linter.unusedSimpArgs false

set_option maxRecDepth 100000 in
set_option maxHeartbeats 8000000 in
theorem bkRight_no {w : World} {k s : Int} {A B : Option Addr} {n c m d : Nat} {q : Int} (hq : IntKind.i64.wrap ((n : Int) + (m : Int)) = q) {C : List Nat} {W : List Int} (hC : BR w A n c C) (hW : IR w B m d W) (hn : n ≤ 9223372036854775807) (hm : m ≤ 9223372036854775807) (h : ¬ (0 ≤ k ∧ k ≤ 4)) :
    Calls Try.prog 30 #[.agg #[.int .i64 k, .int .i64 s, .slice A n c, .slice B m d]] w (GotV w (.bool false)) := by
  have CM := fun V => bkman_no V h
  clear h hC hW hq
  have cc := Below.refl w.heap.size w
  go_enter Try.func30, Try.ntmps30
  go_wp2_with fail
  have bA : Below w.heap.size w (w.alloc (.cells #[.int .i64 k, .int .i64 s, .slice A n c, .slice B m d] 34)) := ((Below.refl _ w).alloc (by simp) _)
  replace cc := bK cc bA
  clear bA
  have ka0 : (w.alloc (.cells #[.int .i64 k, .int .i64 s, .slice A n c, .slice B m d] 34)).cell? ⟨w.heap.size, 0, none⟩ = some (.int .i64 k) := by simp [go_sem]
  have ka1 : (w.alloc (.cells #[.int .i64 k, .int .i64 s, .slice A n c, .slice B m d] 34)).cell? ⟨w.heap.size, 1, none⟩ = some (.int .i64 s) := by simp [go_sem]
  have ka2 : (w.alloc (.cells #[.int .i64 k, .int .i64 s, .slice A n c, .slice B m d] 34)).cell? ⟨w.heap.size, 2, none⟩ = some (.slice A n c) := by simp [go_sem]
  have ka3 : (w.alloc (.cells #[.int .i64 k, .int .i64 s, .slice A n c, .slice B m d] 34)).cell? ⟨w.heap.size, 3, none⟩ = some (.slice B m d) := by simp [go_sem]
  have kal : w.heap.size < (w.alloc (.cells #[.int .i64 k, .int .i64 s, .slice A n c, .slice B m d] 34)).heap.size := by simp <;> omega
  generalize w.alloc (.cells #[.int .i64 k, .int .i64 s, .slice A n c, .slice B m d] 34) = v1 at *
  go_wp2_with fail
  refine (CM _).mono ?_
  rintro e w2 ⟨rfl, b⟩
  replace ka0 := cK b ka0 kal
  replace ka1 := cK b ka1 kal
  replace ka2 := cK b ka2 kal
  replace ka3 := cK b ka3 kal
  replace kal := lK b kal
  replace cc := bK cc b
  clear b
  go_wp2_with fail
  go_ret
  exact ⟨rfl, cc⟩

set_option maxRecDepth 100000 in
set_option maxHeartbeats 8000000 in
theorem bkRight_wb {w : World} {k s : Int} {A B : Option Addr} {n c m d : Nat} {q : Int} (hq : IntKind.i64.wrap ((n : Int) + (m : Int)) = q) {C : List Nat} {W : List Int} (hC : BR w A n c C) (hW : IR w B m d W) (hn : n ≤ 9223372036854775807) (hm : m ≤ 9223372036854775807) (hk : k = 4) (hb : 4096 < q) :
    Calls Try.prog 30 #[.agg #[.int .i64 k, .int .i64 s, .slice A n c, .slice B m d]] w (GotV w (.bool false)) := by
  have CL := fun V => bkLen_N V (k := k) (s := s) (A := A) (B := B) (c := c) (d := d) hn hm
  rw [hq] at CL
  have CM := fun V => bkman_w V hk
  have tq : decide (q ≤ 4096) = false := decide_eq_false (by omega)
  clear hq hk hb hC hW
  have cc := Below.refl w.heap.size w
  go_enter Try.func30, Try.ntmps30
  go_wp2_with fail
  have bA : Below w.heap.size w (w.alloc (.cells #[.int .i64 k, .int .i64 s, .slice A n c, .slice B m d] 34)) := ((Below.refl _ w).alloc (by simp) _)
  replace cc := bK cc bA
  clear bA
  have ka0 : (w.alloc (.cells #[.int .i64 k, .int .i64 s, .slice A n c, .slice B m d] 34)).cell? ⟨w.heap.size, 0, none⟩ = some (.int .i64 k) := by simp [go_sem]
  have ka1 : (w.alloc (.cells #[.int .i64 k, .int .i64 s, .slice A n c, .slice B m d] 34)).cell? ⟨w.heap.size, 1, none⟩ = some (.int .i64 s) := by simp [go_sem]
  have ka2 : (w.alloc (.cells #[.int .i64 k, .int .i64 s, .slice A n c, .slice B m d] 34)).cell? ⟨w.heap.size, 2, none⟩ = some (.slice A n c) := by simp [go_sem]
  have ka3 : (w.alloc (.cells #[.int .i64 k, .int .i64 s, .slice A n c, .slice B m d] 34)).cell? ⟨w.heap.size, 3, none⟩ = some (.slice B m d) := by simp [go_sem]
  have kal : w.heap.size < (w.alloc (.cells #[.int .i64 k, .int .i64 s, .slice A n c, .slice B m d] 34)).heap.size := by simp <;> omega
  generalize w.alloc (.cells #[.int .i64 k, .int .i64 s, .slice A n c, .slice B m d] 34) = v1 at *
  go_wp2_with fail
  refine (CM _).mono ?_
  rintro e w2 ⟨rfl, b⟩
  replace ka0 := cK b ka0 kal
  replace ka1 := cK b ka1 kal
  replace ka2 := cK b ka2 kal
  replace ka3 := cK b ka3 kal
  replace kal := lK b kal
  replace cc := bK cc b
  clear b
  go_wp2_with fail
  refine (CL _).mono ?_
  rintro e w3 ⟨rfl, b⟩
  replace ka0 := cK b ka0 kal
  replace ka1 := cK b ka1 kal
  replace ka2 := cK b ka2 kal
  replace ka3 := cK b ka3 kal
  replace kal := lK b kal
  replace cc := bK cc b
  clear b
  go_wp2_with fail
  go_ret
  exact ⟨rfl, cc⟩

set_option maxRecDepth 100000 in
set_option maxHeartbeats 8000000 in
theorem bkRight_ws {w : World} {k s : Int} {A B : Option Addr} {n c m d : Nat} {q : Int} (hq : IntKind.i64.wrap ((n : Int) + (m : Int)) = q) {C : List Nat} {W : List Int} (hC : BR w A n c C) (hW : IR w B m d W) (hn : n ≤ 9223372036854775807) (hm : m ≤ 9223372036854775807) (hk : k = 4) (hb : q ≤ 4096) :
    Calls Try.prog 30 #[.agg #[.int .i64 k, .int .i64 s, .slice A n c, .slice B m d]] w (GotV w (.bool (decide ((∀ x ∈ W, x ≠ -9223372036854775808) ∧ s = 0 ∧ n = 0)))) := by
  have CL := fun V => bkLen_N V (k := k) (s := s) (A := A) (B := B) (c := c) (d := d) hn hm
  rw [hq] at CL
  have CM := fun V => bkman_w V hk
  have tq : decide (q ≤ 4096) = true := decide_eq_true (by omega)
  subst hk
  obtain ⟨r, hr⟩ : ∃ r, decide ((∀ x ∈ W, x ≠ -9223372036854775808) ∧ s = 0 ∧ n = 0) = r := ⟨_, rfl⟩
  rw [hr]
  have CR : ∀ {V : World}, IR V B m d W → Calls Try.prog 52 #[.agg #[], .agg #[.int .i64 4, .int .i64 s, .slice A n c, .slice B m d]] V (GotV V (.bool r)) := fun h => by have h2 := bkwright_N (k := 4) (s := s) (A := A) (n := n) (c := c) h hm; rw [hr] at h2; exact h2
  have hmt : ∀ V : World, (method 61 69 (.agg #[]) "ratchet/block.right").run Try.prog V = .ok (52, .agg #[]) V := fun _ => by kernel_rfl
  clear hr hq hb
  have cc := Below.refl w.heap.size w
  go_enter Try.func30, Try.ntmps30
  go_wp2_with fail
  have bA : Below w.heap.size w (w.alloc (.cells #[.int .i64 4, .int .i64 s, .slice A n c, .slice B m d] 34)) := ((Below.refl _ w).alloc (by simp) _)
  replace hC := hC.on bA
  replace hW := hW.on bA
  replace cc := bK cc bA
  clear bA
  have ka0 : (w.alloc (.cells #[.int .i64 4, .int .i64 s, .slice A n c, .slice B m d] 34)).cell? ⟨w.heap.size, 0, none⟩ = some (.int .i64 4) := by simp [go_sem]
  have ka1 : (w.alloc (.cells #[.int .i64 4, .int .i64 s, .slice A n c, .slice B m d] 34)).cell? ⟨w.heap.size, 1, none⟩ = some (.int .i64 s) := by simp [go_sem]
  have ka2 : (w.alloc (.cells #[.int .i64 4, .int .i64 s, .slice A n c, .slice B m d] 34)).cell? ⟨w.heap.size, 2, none⟩ = some (.slice A n c) := by simp [go_sem]
  have ka3 : (w.alloc (.cells #[.int .i64 4, .int .i64 s, .slice A n c, .slice B m d] 34)).cell? ⟨w.heap.size, 3, none⟩ = some (.slice B m d) := by simp [go_sem]
  have kal : w.heap.size < (w.alloc (.cells #[.int .i64 4, .int .i64 s, .slice A n c, .slice B m d] 34)).heap.size := by simp <;> omega
  generalize w.alloc (.cells #[.int .i64 4, .int .i64 s, .slice A n c, .slice B m d] 34) = v1 at *
  go_wp2_with fail
  refine (CM _).mono ?_
  rintro e w2 ⟨rfl, b⟩
  replace hC := hC.on b
  replace hW := hW.on b
  replace ka0 := cK b ka0 kal
  replace ka1 := cK b ka1 kal
  replace ka2 := cK b ka2 kal
  replace ka3 := cK b ka3 kal
  replace kal := lK b kal
  replace cc := bK cc b
  clear b
  go_wp2_with fail
  refine (CL _).mono ?_
  rintro e w3 ⟨rfl, b⟩
  replace hC := hC.on b
  replace hW := hW.on b
  replace ka0 := cK b ka0 kal
  replace ka1 := cK b ka1 kal
  replace ka2 := cK b ka2 kal
  replace ka3 := cK b ka3 kal
  replace kal := lK b kal
  replace cc := bK cc b
  clear b
  go_wp2_with fail
  refine (CR hW).mono ?_
  rintro e w4 ⟨rfl, b⟩
  replace hC := hC.on b
  replace hW := hW.on b
  replace ka0 := cK b ka0 kal
  replace ka1 := cK b ka1 kal
  replace ka2 := cK b ka2 kal
  replace ka3 := cK b ka3 kal
  replace kal := lK b kal
  replace cc := bK cc b
  clear b
  go_wp2_with fail
  go_ret
  exact ⟨rfl, cc⟩

set_option maxRecDepth 100000 in
set_option maxHeartbeats 8000000 in
theorem bkRight_cb {w : World} {k s : Int} {A B : Option Addr} {n c m d : Nat} {q : Int} (hq : IntKind.i64.wrap ((n : Int) + (m : Int)) = q) {C : List Nat} {W : List Int} (hC : BR w A n c C) (hW : IR w B m d W) (hn : n ≤ 9223372036854775807) (hm : m ≤ 9223372036854775807) (hk : Kind9 k) (hb : 4096 < q) :
    Calls Try.prog 30 #[.agg #[.int .i64 k, .int .i64 s, .slice A n c, .slice B m d]] w (GotV w (.bool false)) := by
  have CL := fun V => bkLen_N V (k := k) (s := s) (A := A) (B := B) (c := c) (d := d) hn hm
  rw [hq] at CL
  have CM := fun V => bkman_c V hk
  have tq : decide (q ≤ 4096) = false := decide_eq_false (by omega)
  clear hq hk hb hC hW
  have cc := Below.refl w.heap.size w
  go_enter Try.func30, Try.ntmps30
  go_wp2_with fail
  have bA : Below w.heap.size w (w.alloc (.cells #[.int .i64 k, .int .i64 s, .slice A n c, .slice B m d] 34)) := ((Below.refl _ w).alloc (by simp) _)
  replace cc := bK cc bA
  clear bA
  have ka0 : (w.alloc (.cells #[.int .i64 k, .int .i64 s, .slice A n c, .slice B m d] 34)).cell? ⟨w.heap.size, 0, none⟩ = some (.int .i64 k) := by simp [go_sem]
  have ka1 : (w.alloc (.cells #[.int .i64 k, .int .i64 s, .slice A n c, .slice B m d] 34)).cell? ⟨w.heap.size, 1, none⟩ = some (.int .i64 s) := by simp [go_sem]
  have ka2 : (w.alloc (.cells #[.int .i64 k, .int .i64 s, .slice A n c, .slice B m d] 34)).cell? ⟨w.heap.size, 2, none⟩ = some (.slice A n c) := by simp [go_sem]
  have ka3 : (w.alloc (.cells #[.int .i64 k, .int .i64 s, .slice A n c, .slice B m d] 34)).cell? ⟨w.heap.size, 3, none⟩ = some (.slice B m d) := by simp [go_sem]
  have kal : w.heap.size < (w.alloc (.cells #[.int .i64 k, .int .i64 s, .slice A n c, .slice B m d] 34)).heap.size := by simp <;> omega
  generalize w.alloc (.cells #[.int .i64 k, .int .i64 s, .slice A n c, .slice B m d] 34) = v1 at *
  go_wp2_with fail
  refine (CM _).mono ?_
  rintro e w2 ⟨rfl, b⟩
  replace ka0 := cK b ka0 kal
  replace ka1 := cK b ka1 kal
  replace ka2 := cK b ka2 kal
  replace ka3 := cK b ka3 kal
  replace kal := lK b kal
  replace cc := bK cc b
  clear b
  go_wp2_with fail
  refine (CL _).mono ?_
  rintro e w3 ⟨rfl, b⟩
  replace ka0 := cK b ka0 kal
  replace ka1 := cK b ka1 kal
  replace ka2 := cK b ka2 kal
  replace ka3 := cK b ka3 kal
  replace kal := lK b kal
  replace cc := bK cc b
  clear b
  go_wp2_with fail
  go_ret
  exact ⟨rfl, cc⟩

set_option maxRecDepth 100000 in
set_option maxHeartbeats 8000000 in
theorem bkRight_cs {w : World} {k s : Int} {A B : Option Addr} {n c m d : Nat} {q : Int} (hq : IntKind.i64.wrap ((n : Int) + (m : Int)) = q) {C : List Nat} {W : List Int} (hC : BR w A n c C) (hW : IR w B m d W) (hn : n ≤ 9223372036854775807) (hm : m ≤ 9223372036854775807) (hk : Kind9 k) (hb : q ≤ 4096) :
    Calls Try.prog 30 #[.agg #[.int .i64 k, .int .i64 s, .slice A n c, .slice B m d]] w (GotV w (.bool (decide (m = 0 ∧ OkC k s C)))) := by
  have CL := fun V => bkLen_N V (k := k) (s := s) (A := A) (B := B) (c := c) (d := d) hn hm
  rw [hq] at CL
  have CM := fun V => bkman_c V hk
  have tq : decide (q ≤ 4096) = true := decide_eq_true (by omega)
  obtain ⟨r, hr⟩ : ∃ r, decide (m = 0 ∧ OkC k s C) = r := ⟨_, rfl⟩
  rw [hr]
  have CR : ∀ {V : World}, BR V A n c C → Calls Try.prog 57 #[.int .i64 k, .agg #[.int .i64 k, .int .i64 s, .slice A n c, .slice B m d]] V (GotV V (.bool r)) := fun h => by have h2 := bkcright_N (s := s) (B := B) (m := m) (d := d) hk h; rw [hr] at h2; exact h2
  have hmt : ∀ V : World, (method 61 71 (.int .i64 k) "ratchet/block.right").run Try.prog V = .ok (57, .int .i64 k) V := fun _ => by kernel_rfl
  clear hr hq hb hk
  have cc := Below.refl w.heap.size w
  go_enter Try.func30, Try.ntmps30
  go_wp2_with fail
  have bA : Below w.heap.size w (w.alloc (.cells #[.int .i64 k, .int .i64 s, .slice A n c, .slice B m d] 34)) := ((Below.refl _ w).alloc (by simp) _)
  replace hC := hC.on bA
  replace hW := hW.on bA
  replace cc := bK cc bA
  clear bA
  have ka0 : (w.alloc (.cells #[.int .i64 k, .int .i64 s, .slice A n c, .slice B m d] 34)).cell? ⟨w.heap.size, 0, none⟩ = some (.int .i64 k) := by simp [go_sem]
  have ka1 : (w.alloc (.cells #[.int .i64 k, .int .i64 s, .slice A n c, .slice B m d] 34)).cell? ⟨w.heap.size, 1, none⟩ = some (.int .i64 s) := by simp [go_sem]
  have ka2 : (w.alloc (.cells #[.int .i64 k, .int .i64 s, .slice A n c, .slice B m d] 34)).cell? ⟨w.heap.size, 2, none⟩ = some (.slice A n c) := by simp [go_sem]
  have ka3 : (w.alloc (.cells #[.int .i64 k, .int .i64 s, .slice A n c, .slice B m d] 34)).cell? ⟨w.heap.size, 3, none⟩ = some (.slice B m d) := by simp [go_sem]
  have kal : w.heap.size < (w.alloc (.cells #[.int .i64 k, .int .i64 s, .slice A n c, .slice B m d] 34)).heap.size := by simp <;> omega
  generalize w.alloc (.cells #[.int .i64 k, .int .i64 s, .slice A n c, .slice B m d] 34) = v1 at *
  go_wp2_with fail
  refine (CM _).mono ?_
  rintro e w2 ⟨rfl, b⟩
  replace hC := hC.on b
  replace hW := hW.on b
  replace ka0 := cK b ka0 kal
  replace ka1 := cK b ka1 kal
  replace ka2 := cK b ka2 kal
  replace ka3 := cK b ka3 kal
  replace kal := lK b kal
  replace cc := bK cc b
  clear b
  go_wp2_with fail
  refine (CL _).mono ?_
  rintro e w3 ⟨rfl, b⟩
  replace hC := hC.on b
  replace hW := hW.on b
  replace ka0 := cK b ka0 kal
  replace ka1 := cK b ka1 kal
  replace ka2 := cK b ka2 kal
  replace ka3 := cK b ka3 kal
  replace kal := lK b kal
  replace cc := bK cc b
  clear b
  go_wp2_with fail
  refine (CR hC).mono ?_
  rintro e w4 ⟨rfl, b⟩
  replace hC := hC.on b
  replace hW := hW.on b
  replace ka0 := cK b ka0 kal
  replace ka1 := cK b ka1 kal
  replace ka2 := cK b ka2 kal
  replace ka3 := cK b ka3 kal
  replace kal := lK b kal
  replace cc := bK cc b
  clear b
  go_wp2_with fail
  go_ret
  exact ⟨rfl, cc⟩

theorem bkRight_N {w : World} {k s : Int} {A B : Option Addr} {n c m d : Nat} {C : List Nat} {W : List Int} (hC : BR w A n c C) (hW : IR w B m d W) (hn : n ≤ 9223372036854775807) (hm : m ≤ 9223372036854775807) : Calls Try.prog 30 #[.agg #[.int .i64 k, .int .i64 s, .slice A n c, .slice B m d]] w (GotV w (.bool (decide (OkB k s C W)))) := by
  have hl1 := hC.1
  have hl2 := hW.1
  obtain ⟨q, hq⟩ : ∃ q, IntKind.i64.wrap ((n : Int) + (m : Int)) = q := ⟨_, rfl⟩
  have q1 : n = 0 → q = (m : Int) := fun e => by subst e; rw [← hq]; rw [IntWalk.i64_in _ (by omega)]; omega
  have q2 : m = 0 → q = (n : Int) := fun e => by subst e; rw [← hq]; rw [IntWalk.i64_in _ (by omega)]; omega
  by_cases h : 0 ≤ k ∧ k ≤ 4
  · rcases kind_or.1 h with hk | hk
    · have h4 : k ≠ 4 := by unfold Kind9 at hk; omega
      by_cases hb : 4096 < q
      · rw [decide_eq_false (fun e => by
          rcases e with ⟨_, e1, e2, _⟩ | e
          · have := q2 (by rw [hl2, e2]; rfl); omega
          · exact h4 e.1)]
        exact bkRight_cb hq hC hW hn hm hk hb
      · have e : decide (OkB k s C W) = decide (m = 0 ∧ OkC k s C) := decide_eq_decide.2 ⟨fun e => (by
          rcases e with ⟨_, e1, e2, e3⟩ | e
          · exact ⟨by rw [hl2, e2]; rfl, e3⟩
          · exact absurd e.1 h4), fun e => .inl ⟨hk, by have := q2 e.1; omega, List.eq_nil_of_length_eq_zero (by omega), e.2⟩⟩
        rw [e]; exact bkRight_cs hq hC hW hn hm hk (by omega)
    · by_cases hb : 4096 < q
      · rw [decide_eq_false (fun e => by
          rcases e with ⟨e, _⟩ | ⟨_, e1, _, _, e2⟩
          · unfold Kind9 at e; omega
          · have := q1 (by rw [hl1, e2]; rfl); omega)]
        exact bkRight_wb hq hC hW hn hm hk hb
      · have e : decide (OkB k s C W) = decide ((∀ x ∈ W, x ≠ -9223372036854775808) ∧ s = 0 ∧ n = 0) := decide_eq_decide.2 ⟨fun e => (by
          rcases e with ⟨e, _⟩ | ⟨_, e1, e2, e3, e4⟩
          · unfold Kind9 at e; omega
          · exact ⟨e2, e3, by rw [hl1, e4]; rfl⟩), fun e => .inr ⟨hk, by have := q1 e.2.2; omega, e.1, e.2.1, List.eq_nil_of_length_eq_zero (by omega)⟩⟩
        rw [e]; exact bkRight_ws hq hC hW hn hm hk (by omega)
  · rw [decide_eq_false (fun e => h (kind_or.2 (by rcases e with e | e; exact .inl e.1; exact .inr e.1)))]
    exact bkRight_no hq hC hW hn hm h

set_option maxRecDepth 100000 in
set_option maxHeartbeats 8000000 in
theorem bkLoad_w {w : World} {k s : Int} {A B : Option Addr} {n c m d : Nat} {W : List Int} (hk : k = 4) (hW : IR w B m d W) (hm : m ≤ 4096) :
    Calls Try.prog 20 #[.agg #[.int .i64 k, .int .i64 s, .slice A n c, .slice B m d]] w (GotI w W) := by
  have CM := fun V => bkman_w V hk
  subst hk
  have hmt : ∀ V : World, (method 61 69 (.agg #[]) "ratchet/block.load").run Try.prog V = .ok (50, .agg #[]) V := fun _ => by kernel_rfl
  have cc := Below.refl w.heap.size w
  go_enter Try.func20, Try.ntmps20
  go_wp2_with fail
  have bA : Below w.heap.size w (w.alloc (.cells #[.int .i64 4, .int .i64 s, .slice A n c, .slice B m d] 34)) := ((Below.refl _ w).alloc (by simp) _)
  replace hW := hW.on bA
  replace cc := bK cc bA
  clear bA
  have ka0 : (w.alloc (.cells #[.int .i64 4, .int .i64 s, .slice A n c, .slice B m d] 34)).cell? ⟨w.heap.size, 0, none⟩ = some (.int .i64 4) := by simp [go_sem]
  have ka1 : (w.alloc (.cells #[.int .i64 4, .int .i64 s, .slice A n c, .slice B m d] 34)).cell? ⟨w.heap.size, 1, none⟩ = some (.int .i64 s) := by simp [go_sem]
  have ka2 : (w.alloc (.cells #[.int .i64 4, .int .i64 s, .slice A n c, .slice B m d] 34)).cell? ⟨w.heap.size, 2, none⟩ = some (.slice A n c) := by simp [go_sem]
  have ka3 : (w.alloc (.cells #[.int .i64 4, .int .i64 s, .slice A n c, .slice B m d] 34)).cell? ⟨w.heap.size, 3, none⟩ = some (.slice B m d) := by simp [go_sem]
  have kal : w.heap.size < (w.alloc (.cells #[.int .i64 4, .int .i64 s, .slice A n c, .slice B m d] 34)).heap.size := by simp <;> omega
  generalize w.alloc (.cells #[.int .i64 4, .int .i64 s, .slice A n c, .slice B m d] 34) = v1 at *
  go_wp2_with fail
  refine (CM _).mono ?_
  rintro e w2 ⟨rfl, b⟩
  replace hW := hW.on b
  replace ka0 := cK b ka0 kal
  replace ka1 := cK b ka1 kal
  replace ka2 := cK b ka2 kal
  replace ka3 := cK b ka3 kal
  replace kal := lK b kal
  replace cc := bK cc b
  clear b
  go_wp2_with fail
  refine (bkwload_N hW hm).mono ?_
  rintro e w3 ⟨Al, nl, cl, rfl, hl, b⟩
  replace hW := hW.on b
  replace ka0 := cK b ka0 kal
  replace ka1 := cK b ka1 kal
  replace ka2 := cK b ka2 kal
  replace ka3 := cK b ka3 kal
  replace kal := lK b kal
  replace cc := bK cc b
  clear b
  go_wp2_with fail
  go_ret
  exact ⟨_, _, _, rfl, hl, cc⟩

set_option maxRecDepth 100000 in
set_option maxHeartbeats 8000000 in
theorem bkLoad_c {w : World} {k s : Int} {A B : Option Addr} {n c m d : Nat} {C : List Nat} (hk : Kind9 k) (h0 : 0 ≤ s) (hs : I64 s) (hC : BR w A n c C) (hn : n ≤ 4096) :
    Calls Try.prog 20 #[.agg #[.int .i64 k, .int .i64 s, .slice A n c, .slice B m d]] w (GotI w (C.map (ld k s))) := by
  have CM := fun V => bkman_c V hk
  have CO := fun {V : World} (h : BR V A n c C) => bkcload_N (B := B) (m := m) (d := d) hk h0 hs h hn
  generalize C.map (ld k s) = R at *
  have hmt : ∀ V : World, (method 61 71 (.int .i64 k) "ratchet/block.load").run Try.prog V = .ok (55, .int .i64 k) V := fun _ => by kernel_rfl
  clear hk h0 hs
  have cc := Below.refl w.heap.size w
  go_enter Try.func20, Try.ntmps20
  go_wp2_with fail
  have bA : Below w.heap.size w (w.alloc (.cells #[.int .i64 k, .int .i64 s, .slice A n c, .slice B m d] 34)) := ((Below.refl _ w).alloc (by simp) _)
  replace hC := hC.on bA
  replace cc := bK cc bA
  clear bA
  have ka0 : (w.alloc (.cells #[.int .i64 k, .int .i64 s, .slice A n c, .slice B m d] 34)).cell? ⟨w.heap.size, 0, none⟩ = some (.int .i64 k) := by simp [go_sem]
  have ka1 : (w.alloc (.cells #[.int .i64 k, .int .i64 s, .slice A n c, .slice B m d] 34)).cell? ⟨w.heap.size, 1, none⟩ = some (.int .i64 s) := by simp [go_sem]
  have ka2 : (w.alloc (.cells #[.int .i64 k, .int .i64 s, .slice A n c, .slice B m d] 34)).cell? ⟨w.heap.size, 2, none⟩ = some (.slice A n c) := by simp [go_sem]
  have ka3 : (w.alloc (.cells #[.int .i64 k, .int .i64 s, .slice A n c, .slice B m d] 34)).cell? ⟨w.heap.size, 3, none⟩ = some (.slice B m d) := by simp [go_sem]
  have kal : w.heap.size < (w.alloc (.cells #[.int .i64 k, .int .i64 s, .slice A n c, .slice B m d] 34)).heap.size := by simp <;> omega
  generalize w.alloc (.cells #[.int .i64 k, .int .i64 s, .slice A n c, .slice B m d] 34) = v1 at *
  go_wp2_with fail
  refine (CM _).mono ?_
  rintro e w2 ⟨rfl, b⟩
  replace hC := hC.on b
  replace ka0 := cK b ka0 kal
  replace ka1 := cK b ka1 kal
  replace ka2 := cK b ka2 kal
  replace ka3 := cK b ka3 kal
  replace kal := lK b kal
  replace cc := bK cc b
  clear b
  go_wp2_with fail
  refine (CO hC).mono ?_
  rintro e w3 ⟨Al, nl, cl, rfl, hl, b⟩
  replace hC := hC.on b
  replace ka0 := cK b ka0 kal
  replace ka1 := cK b ka1 kal
  replace ka2 := cK b ka2 kal
  replace ka3 := cK b ka3 kal
  replace kal := lK b kal
  replace cc := bK cc b
  clear b
  go_wp2_with fail
  go_ret
  exact ⟨_, _, _, rfl, hl, cc⟩

theorem bkLoad_N {w : World} {k s : Int} {A B : Option Addr} {n c m d : Nat} {C : List Nat} {W : List Int} (hC : BR w A n c C) (hW : IR w B m d W) (ho : OkB k s C W) (hs : I64 s) : Calls Try.prog 20 #[.agg #[.int .i64 k, .int .i64 s, .slice A n c, .slice B m d]] w (GotI w (ldB k s C W)) := by
  have hl1 := hC.1
  have hl2 := hW.1
  unfold ldB
  rcases ho with ⟨hk, h1, _, h2⟩ | ⟨hk, h1, _⟩
  · rw [if_neg (show k ≠ 4 by unfold Kind9 at hk; omega)]
    exact bkLoad_c hk (by rcases h2 with e | e; have := e.1; omega; have := e.1; omega) hs hC (by omega)
  · rw [if_pos hk]
    exact bkLoad_w hk hW (by omega)

set_option maxRecDepth 100000 in
set_option maxHeartbeats 8000000 in
theorem bkPack_kind (w : World) {k : Int} {A : Option Addr} {n c : Nat} (h : ¬ (0 ≤ k ∧ k ≤ 4)) :
    Calls Try.prog 18 #[.int .i64 k, .slice A n c] w (GotBp w 0 0 [] [] 1) := by
  have CM := fun V => bkman_no V h
  clear h
  have cc := Below.refl w.heap.size w
  go_enter Try.func18, Try.ntmps18
  go_wp2_with fail
  have f0 : (w.alloc (.cells #[.int .i64 0, .int .i64 0, .slice none 0 0, .slice none 0 0] 34)).frozen? ⟨w.heap.size, 0, none⟩ = false := by simp [go_sem]
  have f1 : (w.alloc (.cells #[.int .i64 0, .int .i64 0, .slice none 0 0, .slice none 0 0] 34)).frozen? ⟨w.heap.size, 1, none⟩ = false := by simp [go_sem]
  have f2 : (w.alloc (.cells #[.int .i64 0, .int .i64 0, .slice none 0 0, .slice none 0 0] 34)).frozen? ⟨w.heap.size, 2, none⟩ = false := by simp [go_sem]
  have f3 : (w.alloc (.cells #[.int .i64 0, .int .i64 0, .slice none 0 0, .slice none 0 0] 34)).frozen? ⟨w.heap.size, 3, none⟩ = false := by simp [go_sem]
  have bA : Below w.heap.size w (w.alloc (.cells #[.int .i64 0, .int .i64 0, .slice none 0 0, .slice none 0 0] 34)) := ((Below.refl _ w).alloc (by simp) _)
  replace cc := bK cc bA
  clear bA
  have g0 : (w.alloc (.cells #[.int .i64 0, .int .i64 0, .slice none 0 0, .slice none 0 0] 34)).cell? ⟨w.heap.size, 0, none⟩ = some (.int .i64 0) := by simp [go_sem]
  have g1 : (w.alloc (.cells #[.int .i64 0, .int .i64 0, .slice none 0 0, .slice none 0 0] 34)).cell? ⟨w.heap.size, 1, none⟩ = some (.int .i64 0) := by simp [go_sem]
  have g2 : (w.alloc (.cells #[.int .i64 0, .int .i64 0, .slice none 0 0, .slice none 0 0] 34)).cell? ⟨w.heap.size, 2, none⟩ = some (.slice none 0 0) := by simp [go_sem]
  have g3 : (w.alloc (.cells #[.int .i64 0, .int .i64 0, .slice none 0 0, .slice none 0 0] 34)).cell? ⟨w.heap.size, 3, none⟩ = some (.slice none 0 0) := by simp [go_sem]
  have gl : w.heap.size < (w.alloc (.cells #[.int .i64 0, .int .i64 0, .slice none 0 0, .slice none 0 0] 34)).heap.size := by simp <;> omega
  generalize w.alloc (.cells #[.int .i64 0, .int .i64 0, .slice none 0 0, .slice none 0 0] 34) = v1 at *
  go_wp2_with fail
  refine (CM _).mono ?_
  rintro e w2 ⟨rfl, b⟩
  replace f0 := fK b f0 gl
  replace f1 := fK b f1 gl
  replace f2 := fK b f2 gl
  replace f3 := fK b f3 gl
  replace g0 := cK b g0 gl
  replace g1 := cK b g1 gl
  replace g2 := cK b g2 gl
  replace g3 := cK b g3 gl
  replace gl := lK b gl
  replace cc := bK cc b
  clear b
  have HBF := Lib.hid (below_putK cc (Nat.le_refl _) (.int .i64 0) (.int .i64 0) (.slice none 0 0) (.slice none 0 0))
  clear cc
  go_wp2_with fail
  refine bodyPost_ret (v := .tuple #[.agg #[.int .i64 0, .int .i64 0, .slice none 0 0, .slice none 0 0], .int .i64 1]) (by simp [results, Try.results18, go_sem, g0, g1, g2, g3]) rfl ⟨_, _, _, _, _, _, rfl, BR.nil _ _ _, IR.nil _ _ _, HBF.out⟩

set_option maxRecDepth 100000 in
set_option maxHeartbeats 8000000 in
theorem bkPack_wn {w : World} {k : Int} {A : Option Addr} {n c : Nat} {L : List Int} (hk : k = 4) (hA : IR w A n c L) (hn : n ≤ 20) (ht : ∃ x ∈ L, tkW x = false) :
    Calls Try.prog 18 #[.int .i64 k, .slice A n c] w (GotBp w 0 0 [] [] 1) := by
  have CM := fun V => bkman_w V hk
  subst hk
  have CT := fun (V : World) (x : Int) => bktkw_N V (x := x)
  have hmt1 : ∀ V : World, (method 61 69 (.agg #[]) "ratchet/block.takes").run Try.prog V = .ok (53, .agg #[]) V := fun _ => by kernel_rfl
  have hmt2 : ∀ V : World, (method 61 69 (.agg #[]) "ratchet/block.pack").run Try.prog V = .ok (51, .agg #[]) V := fun _ => by kernel_rfl
  have HT := Lib.hid ht
  clear ht
  have HL := Lib.hid hA.1
  generalize tkW = T at *
  have cc := Below.refl w.heap.size w
  go_enter Try.func18, Try.ntmps18
  go_wp2_with fail
  have f0 : (w.alloc (.cells #[.int .i64 0, .int .i64 0, .slice none 0 0, .slice none 0 0] 34)).frozen? ⟨w.heap.size, 0, none⟩ = false := by simp [go_sem]
  have f1 : (w.alloc (.cells #[.int .i64 0, .int .i64 0, .slice none 0 0, .slice none 0 0] 34)).frozen? ⟨w.heap.size, 1, none⟩ = false := by simp [go_sem]
  have f2 : (w.alloc (.cells #[.int .i64 0, .int .i64 0, .slice none 0 0, .slice none 0 0] 34)).frozen? ⟨w.heap.size, 2, none⟩ = false := by simp [go_sem]
  have f3 : (w.alloc (.cells #[.int .i64 0, .int .i64 0, .slice none 0 0, .slice none 0 0] 34)).frozen? ⟨w.heap.size, 3, none⟩ = false := by simp [go_sem]
  have bA : Below w.heap.size w (w.alloc (.cells #[.int .i64 0, .int .i64 0, .slice none 0 0, .slice none 0 0] 34)) := ((Below.refl _ w).alloc (by simp) _)
  replace hA := hA.on bA
  replace cc := bK cc bA
  clear bA
  have g0 : (w.alloc (.cells #[.int .i64 0, .int .i64 0, .slice none 0 0, .slice none 0 0] 34)).cell? ⟨w.heap.size, 0, none⟩ = some (.int .i64 0) := by simp [go_sem]
  have g1 : (w.alloc (.cells #[.int .i64 0, .int .i64 0, .slice none 0 0, .slice none 0 0] 34)).cell? ⟨w.heap.size, 1, none⟩ = some (.int .i64 0) := by simp [go_sem]
  have g2 : (w.alloc (.cells #[.int .i64 0, .int .i64 0, .slice none 0 0, .slice none 0 0] 34)).cell? ⟨w.heap.size, 2, none⟩ = some (.slice none 0 0) := by simp [go_sem]
  have g3 : (w.alloc (.cells #[.int .i64 0, .int .i64 0, .slice none 0 0, .slice none 0 0] 34)).cell? ⟨w.heap.size, 3, none⟩ = some (.slice none 0 0) := by simp [go_sem]
  have gl : w.heap.size < (w.alloc (.cells #[.int .i64 0, .int .i64 0, .slice none 0 0, .slice none 0 0] 34)).heap.size := by simp <;> omega
  generalize w.alloc (.cells #[.int .i64 0, .int .i64 0, .slice none 0 0, .slice none 0 0] 34) = v1 at *
  go_wp2_with fail
  refine (CM _).mono ?_
  rintro e w2 ⟨rfl, b⟩
  replace f0 := fK b f0 gl
  replace f1 := fK b f1 gl
  replace f2 := fK b f2 gl
  replace f3 := fK b f3 gl
  replace hA := hA.on b
  replace g0 := cK b g0 gl
  replace g1 := cK b g1 gl
  replace g2 := cK b g2 gl
  replace g3 := cK b g3 gl
  replace gl := lK b gl
  replace cc := bK cc b
  clear b
  have HAV := Lib.hid hA
  have CCV := Lib.hid cc
  have HGL := Lib.hid gl
  have G0 := Lib.hid g0
  have G1 := Lib.hid g1
  have G2 := Lib.hid g2
  have G3 := Lib.hid g3
  have F0 := Lib.hid f0
  have F1 := Lib.hid f1
  have F2 := Lib.hid f2
  have F3 := Lib.hid f3
  clear hA cc gl g0 f0 g1 f1 g2 f2 g3 f3
  go_wp2_with fail
  go_loopw [21] (fun iv wr => ∃ i : Nat, i ≤ n ∧ iv = .int .i64 (i : Int) ∧ (∀ j, j < i → T (L[j]?.getD 0) = true) ∧ Below w2.heap.size w2 wr) (fun iv _ => n - (intOf iv).toNat)
  case atStart => exact ⟨0, by omega, rfl, fun j h => absurd h (by omega), Below.refl _ _⟩
  case round =>
    obtain ⟨i, hi, rfl, hj, hbl⟩ := hrel
    by_cases hlt : i < n
    · have hA := HAV.out.on hbl
      obtain ⟨b2, o2, rfl, hb2_, hc2⟩ := HAV.out.2.2 (by omega)
      have e1 := hA.cell hlt
      obtain ⟨x, hx⟩ : ∃ x, L[i]?.getD 0 = x := ⟨_, rfl⟩
      rw [hx] at e1
      have CTx := fun V => CT V x
      have k3 : IntKind.i64.wrap ((i : Int) + 1) = ((i + 1 : Nat) : Int) := by rw [IntWalk.i64_in _ (by omega)]; omega
      cases tx : T x with
      | true =>
        have HJ : Hid (∀ j, j < i + 1 → T (L[j]?.getD 0) = true) := Lib.hid (fun j h => by
          rcases Nat.lt_or_ge j i with e | e
          · exact hj j e
          · have e2 : j = i := by omega
            rw [e2, hx]; exact tx)
        rw [tx] at CTx
        clear hj hx hA hc2 CT hb2_ tx
        go_wp2_with fail
        refine (CTx _).mono ?_
        rintro e wz ⟨rfl, b⟩
        replace hbl := bK hbl b
        clear b
        go_wp2_with fail
        go_roundw
        case rel => exact ⟨i + 1, by omega, by go_num, HJ.out, hbl⟩
        case measure => simp [intOf] <;> omega
      | false =>
        have hgl := HGL.out
        have cc := CCV.out.trans (hbl.mono CCV.out.size)
        have g0 := (hbl.cell (p := ⟨w.heap.size, 0, none⟩) hgl).trans G0.out
        have g1 := (hbl.cell (p := ⟨w.heap.size, 1, none⟩) hgl).trans G1.out
        have g2 := (hbl.cell (p := ⟨w.heap.size, 2, none⟩) hgl).trans G2.out
        have g3 := (hbl.cell (p := ⟨w.heap.size, 3, none⟩) hgl).trans G3.out
        have f0 := (hbl.frozen (p := ⟨w.heap.size, 0, none⟩) hgl).trans F0.out
        have f1 := (hbl.frozen (p := ⟨w.heap.size, 1, none⟩) hgl).trans F1.out
        have f2 := (hbl.frozen (p := ⟨w.heap.size, 2, none⟩) hgl).trans F2.out
        have f3 := (hbl.frozen (p := ⟨w.heap.size, 3, none⟩) hgl).trans F3.out
        replace hgl := lK hbl hgl
        rw [tx] at CTx
        clear hj hx hA hc2 CT hb2_ tx hbl
        go_wp2_with fail
        refine (CTx _).mono ?_
        rintro e wz ⟨rfl, b⟩
        replace g0 := cK b g0 hgl
        replace g1 := cK b g1 hgl
        replace g2 := cK b g2 hgl
        replace g3 := cK b g3 hgl
        replace f0 := fK b f0 hgl
        replace f1 := fK b f1 hgl
        replace f2 := fK b f2 hgl
        replace f3 := fK b f3 hgl
        replace cc := bK cc b
        have HBF := Lib.hid (below_putK cc (Nat.le_refl _) (.int .i64 0) (.int .i64 0) (.slice none 0 0) (.slice none 0 0))
        clear cc b hgl
        go_wp2_with fail
        refine bodyPost_ret (v := .tuple #[.agg #[.int .i64 0, .int .i64 0, .slice none 0 0, .slice none 0 0], .int .i64 1]) (by simp [results, Try.results18, go_sem, g0, g1, g2, g3]) rfl ⟨_, _, _, _, _, _, rfl, BR.nil _ _ _, IR.nil _ _ _, HBF.out⟩
    · exfalso
      obtain rfl : i = n := by omega
      obtain ⟨x, hx, hxf⟩ := HT.out
      obtain ⟨j, hj2, rfl⟩ := at_mem 0 hx
      have h1 := hj j (by rw [HL.out]; exact hj2)
      rw [hxf] at h1
      cases h1

set_option maxRecDepth 100000 in
set_option maxHeartbeats 8000000 in
theorem bkPack_wy {w : World} {k : Int} {A : Option Addr} {n c : Nat} {L : List Int} (hk : k = 4) (hA : IR w A n c L) (hn : n ≤ 20) (ht : ∀ x ∈ L, tkW x = true) :
    Calls Try.prog 18 #[.int .i64 k, .slice A n c] w (GotBp w 4 0 [] L 0) := by
  have CM := fun V => bkman_w V hk
  subst hk
  have CT := fun (V : World) (x : Int) => bktkw_N V (x := x)
  have hmt1 : ∀ V : World, (method 61 69 (.agg #[]) "ratchet/block.takes").run Try.prog V = .ok (53, .agg #[]) V := fun _ => by kernel_rfl
  have hmt2 : ∀ V : World, (method 61 69 (.agg #[]) "ratchet/block.pack").run Try.prog V = .ok (51, .agg #[]) V := fun _ => by kernel_rfl
  have CP := fun {V : World} (h : IR V A n c L) => bkwpack_N h (by omega)
  have HT := Lib.hid ht
  clear ht
  have HL := Lib.hid hA.1
  generalize tkW = T at *
  have cc := Below.refl w.heap.size w
  go_enter Try.func18, Try.ntmps18
  go_wp2_with fail
  have f0 : (w.alloc (.cells #[.int .i64 0, .int .i64 0, .slice none 0 0, .slice none 0 0] 34)).frozen? ⟨w.heap.size, 0, none⟩ = false := by simp [go_sem]
  have f1 : (w.alloc (.cells #[.int .i64 0, .int .i64 0, .slice none 0 0, .slice none 0 0] 34)).frozen? ⟨w.heap.size, 1, none⟩ = false := by simp [go_sem]
  have f2 : (w.alloc (.cells #[.int .i64 0, .int .i64 0, .slice none 0 0, .slice none 0 0] 34)).frozen? ⟨w.heap.size, 2, none⟩ = false := by simp [go_sem]
  have f3 : (w.alloc (.cells #[.int .i64 0, .int .i64 0, .slice none 0 0, .slice none 0 0] 34)).frozen? ⟨w.heap.size, 3, none⟩ = false := by simp [go_sem]
  have bA : Below w.heap.size w (w.alloc (.cells #[.int .i64 0, .int .i64 0, .slice none 0 0, .slice none 0 0] 34)) := ((Below.refl _ w).alloc (by simp) _)
  replace hA := hA.on bA
  replace cc := bK cc bA
  clear bA
  have g0 : (w.alloc (.cells #[.int .i64 0, .int .i64 0, .slice none 0 0, .slice none 0 0] 34)).cell? ⟨w.heap.size, 0, none⟩ = some (.int .i64 0) := by simp [go_sem]
  have g1 : (w.alloc (.cells #[.int .i64 0, .int .i64 0, .slice none 0 0, .slice none 0 0] 34)).cell? ⟨w.heap.size, 1, none⟩ = some (.int .i64 0) := by simp [go_sem]
  have g2 : (w.alloc (.cells #[.int .i64 0, .int .i64 0, .slice none 0 0, .slice none 0 0] 34)).cell? ⟨w.heap.size, 2, none⟩ = some (.slice none 0 0) := by simp [go_sem]
  have g3 : (w.alloc (.cells #[.int .i64 0, .int .i64 0, .slice none 0 0, .slice none 0 0] 34)).cell? ⟨w.heap.size, 3, none⟩ = some (.slice none 0 0) := by simp [go_sem]
  have gl : w.heap.size < (w.alloc (.cells #[.int .i64 0, .int .i64 0, .slice none 0 0, .slice none 0 0] 34)).heap.size := by simp <;> omega
  generalize w.alloc (.cells #[.int .i64 0, .int .i64 0, .slice none 0 0, .slice none 0 0] 34) = v1 at *
  go_wp2_with fail
  refine (CM _).mono ?_
  rintro e w2 ⟨rfl, b⟩
  replace f0 := fK b f0 gl
  replace f1 := fK b f1 gl
  replace f2 := fK b f2 gl
  replace f3 := fK b f3 gl
  replace hA := hA.on b
  replace g0 := cK b g0 gl
  replace g1 := cK b g1 gl
  replace g2 := cK b g2 gl
  replace g3 := cK b g3 gl
  replace gl := lK b gl
  replace cc := bK cc b
  clear b
  have HAV := Lib.hid hA
  have CCV := Lib.hid cc
  have HGL := Lib.hid gl
  have G0 := Lib.hid g0
  have G1 := Lib.hid g1
  have G2 := Lib.hid g2
  have G3 := Lib.hid g3
  have F0 := Lib.hid f0
  have F1 := Lib.hid f1
  have F2 := Lib.hid f2
  have F3 := Lib.hid f3
  clear hA cc gl g0 f0 g1 f1 g2 f2 g3 f3
  go_wp2_with fail
  go_loopw [21] (fun iv wr => ∃ i : Nat, i ≤ n ∧ iv = .int .i64 (i : Int) ∧ (∀ j, j < i → T (L[j]?.getD 0) = true) ∧ Below w2.heap.size w2 wr) (fun iv _ => n - (intOf iv).toNat)
  case atStart => exact ⟨0, by omega, rfl, fun j h => absurd h (by omega), Below.refl _ _⟩
  case round =>
    obtain ⟨i, hi, rfl, hj, hbl⟩ := hrel
    by_cases hlt : i < n
    · have hA := HAV.out.on hbl
      obtain ⟨b2, o2, rfl, hb2_, hc2⟩ := HAV.out.2.2 (by omega)
      have e1 := hA.cell hlt
      obtain ⟨x, hx⟩ : ∃ x, L[i]?.getD 0 = x := ⟨_, rfl⟩
      rw [hx] at e1
      have CTx := fun V => CT V x
      have k3 : IntKind.i64.wrap ((i : Int) + 1) = ((i + 1 : Nat) : Int) := by rw [IntWalk.i64_in _ (by omega)]; omega
      have tx : T x = true := by rw [← hx]; exact HT.out _ (mem_at (by rw [← HL.out]; exact hlt))
      have HJ : Hid (∀ j, j < i + 1 → T (L[j]?.getD 0) = true) := Lib.hid (fun j h => by
        rcases Nat.lt_or_ge j i with e | e
        · exact hj j e
        · have e2 : j = i := by omega
          rw [e2, hx]; exact tx)
      rw [tx] at CTx
      clear hj hx hA hc2 CT hb2_ tx
      go_wp2_with fail
      refine (CTx _).mono ?_
      rintro e wz ⟨rfl, b⟩
      replace hbl := bK hbl b
      clear b
      go_wp2_with fail
      go_roundw
      case rel => exact ⟨i + 1, by omega, by go_num, HJ.out, hbl⟩
      case measure => simp [intOf] <;> omega
    · obtain rfl : i = n := by omega
      have hgl := HGL.out
      have cc := CCV.out.trans (hbl.mono CCV.out.size)
      have g0 := (hbl.cell (p := ⟨w.heap.size, 0, none⟩) hgl).trans G0.out
      have g1 := (hbl.cell (p := ⟨w.heap.size, 1, none⟩) hgl).trans G1.out
      have g2 := (hbl.cell (p := ⟨w.heap.size, 2, none⟩) hgl).trans G2.out
      have g3 := (hbl.cell (p := ⟨w.heap.size, 3, none⟩) hgl).trans G3.out
      have f0 := (hbl.frozen (p := ⟨w.heap.size, 0, none⟩) hgl).trans F0.out
      have f1 := (hbl.frozen (p := ⟨w.heap.size, 1, none⟩) hgl).trans F1.out
      have f2 := (hbl.frozen (p := ⟨w.heap.size, 2, none⟩) hgl).trans F2.out
      have f3 := (hbl.frozen (p := ⟨w.heap.size, 3, none⟩) hgl).trans F3.out
      replace hgl := lK hbl hgl
      have hA := HAV.out.on hbl
      clear hj hbl
      have t4 : decide (4096 < i) = false := decide_eq_false (by omega)
      have t5 : decide ((4096 : Int) < (i : Int)) = false := decide_eq_false (by omega)
      go_wp2_with fail
      refine (CP hA).mono ?_
      rintro e wz ⟨Ax, nx, cx, Bx, mx, dx, rfl, hC, hW, b, hn1, hn2⟩
      replace g0 := cK b g0 hgl
      replace g1 := cK b g1 hgl
      replace g2 := cK b g2 hgl
      replace g3 := cK b g3 hgl
      replace f0 := fK b f0 hgl
      replace f1 := fK b f1 hgl
      replace f2 := fK b f2 hgl
      replace f3 := fK b f3 hgl
      replace cc := bK cc b
      have m1 : ∀ p, Ax = some p → p.block ≠ w.heap.size := fun p e => by have := hn1 p e; omega
      have m2 : ∀ p, Bx = some p → p.block ≠ w.heap.size := fun p e => by have := hn2 p e; omega
      have HRC := Lib.hid (br_putK hC m1 (.int .i64 4) (.int .i64 0) (.slice Ax nx cx) (.slice Bx mx dx))
      have HRW := Lib.hid (ir_putK hW m2 (.int .i64 4) (.int .i64 0) (.slice Ax nx cx) (.slice Bx mx dx))
      have HBF := Lib.hid (below_putK cc (Nat.le_refl _) (.int .i64 4) (.int .i64 0) (.slice Ax nx cx) (.slice Bx mx dx))
      clear hC hW b hn1 hn2 m1 m2 cc hgl hA
      go_wp2_with fail
      refine bodyPost_ret (v := .tuple #[.agg #[.int .i64 4, .int .i64 0, .slice Ax nx cx, .slice Bx mx dx], .int .i64 0]) (by simp [results, Try.results18, go_sem, g0, g1, g2, g3]) rfl ⟨_, _, _, _, _, _, rfl, HRC.out, HRW.out, HBF.out⟩

set_option maxRecDepth 100000 in
set_option maxHeartbeats 8000000 in
theorem bkPack_cn {w : World} {k : Int} {A : Option Addr} {n c : Nat} {L : List Int} (hk : Kind9 k) (hA : IR w A n c L) (hn : n ≤ 20) (ht : ∃ x ∈ L, tkC k x = false) :
    Calls Try.prog 18 #[.int .i64 k, .slice A n c] w (GotBp w 0 0 [] [] 1) := by
  have CM := fun V => bkman_c V hk
  have CT := fun (V : World) (x : Int) => bktkc_N V (k := k) (x := x)
  have hmt1 : ∀ V : World, (method 61 71 (.int .i64 k) "ratchet/block.takes").run Try.prog V = .ok (58, .int .i64 k) V := fun _ => by kernel_rfl
  have hmt2 : ∀ V : World, (method 61 71 (.int .i64 k) "ratchet/block.pack").run Try.prog V = .ok (56, .int .i64 k) V := fun _ => by kernel_rfl
  have HT := Lib.hid ht
  clear ht hk
  have HL := Lib.hid hA.1
  generalize tkC k = T at *
  have cc := Below.refl w.heap.size w
  go_enter Try.func18, Try.ntmps18
  go_wp2_with fail
  have f0 : (w.alloc (.cells #[.int .i64 0, .int .i64 0, .slice none 0 0, .slice none 0 0] 34)).frozen? ⟨w.heap.size, 0, none⟩ = false := by simp [go_sem]
  have f1 : (w.alloc (.cells #[.int .i64 0, .int .i64 0, .slice none 0 0, .slice none 0 0] 34)).frozen? ⟨w.heap.size, 1, none⟩ = false := by simp [go_sem]
  have f2 : (w.alloc (.cells #[.int .i64 0, .int .i64 0, .slice none 0 0, .slice none 0 0] 34)).frozen? ⟨w.heap.size, 2, none⟩ = false := by simp [go_sem]
  have f3 : (w.alloc (.cells #[.int .i64 0, .int .i64 0, .slice none 0 0, .slice none 0 0] 34)).frozen? ⟨w.heap.size, 3, none⟩ = false := by simp [go_sem]
  have bA : Below w.heap.size w (w.alloc (.cells #[.int .i64 0, .int .i64 0, .slice none 0 0, .slice none 0 0] 34)) := ((Below.refl _ w).alloc (by simp) _)
  replace hA := hA.on bA
  replace cc := bK cc bA
  clear bA
  have g0 : (w.alloc (.cells #[.int .i64 0, .int .i64 0, .slice none 0 0, .slice none 0 0] 34)).cell? ⟨w.heap.size, 0, none⟩ = some (.int .i64 0) := by simp [go_sem]
  have g1 : (w.alloc (.cells #[.int .i64 0, .int .i64 0, .slice none 0 0, .slice none 0 0] 34)).cell? ⟨w.heap.size, 1, none⟩ = some (.int .i64 0) := by simp [go_sem]
  have g2 : (w.alloc (.cells #[.int .i64 0, .int .i64 0, .slice none 0 0, .slice none 0 0] 34)).cell? ⟨w.heap.size, 2, none⟩ = some (.slice none 0 0) := by simp [go_sem]
  have g3 : (w.alloc (.cells #[.int .i64 0, .int .i64 0, .slice none 0 0, .slice none 0 0] 34)).cell? ⟨w.heap.size, 3, none⟩ = some (.slice none 0 0) := by simp [go_sem]
  have gl : w.heap.size < (w.alloc (.cells #[.int .i64 0, .int .i64 0, .slice none 0 0, .slice none 0 0] 34)).heap.size := by simp <;> omega
  generalize w.alloc (.cells #[.int .i64 0, .int .i64 0, .slice none 0 0, .slice none 0 0] 34) = v1 at *
  go_wp2_with fail
  refine (CM _).mono ?_
  rintro e w2 ⟨rfl, b⟩
  replace f0 := fK b f0 gl
  replace f1 := fK b f1 gl
  replace f2 := fK b f2 gl
  replace f3 := fK b f3 gl
  replace hA := hA.on b
  replace g0 := cK b g0 gl
  replace g1 := cK b g1 gl
  replace g2 := cK b g2 gl
  replace g3 := cK b g3 gl
  replace gl := lK b gl
  replace cc := bK cc b
  clear b
  have HAV := Lib.hid hA
  have CCV := Lib.hid cc
  have HGL := Lib.hid gl
  have G0 := Lib.hid g0
  have G1 := Lib.hid g1
  have G2 := Lib.hid g2
  have G3 := Lib.hid g3
  have F0 := Lib.hid f0
  have F1 := Lib.hid f1
  have F2 := Lib.hid f2
  have F3 := Lib.hid f3
  clear hA cc gl g0 f0 g1 f1 g2 f2 g3 f3
  go_wp2_with fail
  go_loopw [21] (fun iv wr => ∃ i : Nat, i ≤ n ∧ iv = .int .i64 (i : Int) ∧ (∀ j, j < i → T (L[j]?.getD 0) = true) ∧ Below w2.heap.size w2 wr) (fun iv _ => n - (intOf iv).toNat)
  case atStart => exact ⟨0, by omega, rfl, fun j h => absurd h (by omega), Below.refl _ _⟩
  case round =>
    obtain ⟨i, hi, rfl, hj, hbl⟩ := hrel
    by_cases hlt : i < n
    · have hA := HAV.out.on hbl
      obtain ⟨b2, o2, rfl, hb2_, hc2⟩ := HAV.out.2.2 (by omega)
      have e1 := hA.cell hlt
      obtain ⟨x, hx⟩ : ∃ x, L[i]?.getD 0 = x := ⟨_, rfl⟩
      rw [hx] at e1
      have CTx := fun V => CT V x
      have k3 : IntKind.i64.wrap ((i : Int) + 1) = ((i + 1 : Nat) : Int) := by rw [IntWalk.i64_in _ (by omega)]; omega
      cases tx : T x with
      | true =>
        have HJ : Hid (∀ j, j < i + 1 → T (L[j]?.getD 0) = true) := Lib.hid (fun j h => by
          rcases Nat.lt_or_ge j i with e | e
          · exact hj j e
          · have e2 : j = i := by omega
            rw [e2, hx]; exact tx)
        rw [tx] at CTx
        clear hj hx hA hc2 CT hb2_ tx
        go_wp2_with fail
        refine (CTx _).mono ?_
        rintro e wz ⟨rfl, b⟩
        replace hbl := bK hbl b
        clear b
        go_wp2_with fail
        go_roundw
        case rel => exact ⟨i + 1, by omega, by go_num, HJ.out, hbl⟩
        case measure => simp [intOf] <;> omega
      | false =>
        have hgl := HGL.out
        have cc := CCV.out.trans (hbl.mono CCV.out.size)
        have g0 := (hbl.cell (p := ⟨w.heap.size, 0, none⟩) hgl).trans G0.out
        have g1 := (hbl.cell (p := ⟨w.heap.size, 1, none⟩) hgl).trans G1.out
        have g2 := (hbl.cell (p := ⟨w.heap.size, 2, none⟩) hgl).trans G2.out
        have g3 := (hbl.cell (p := ⟨w.heap.size, 3, none⟩) hgl).trans G3.out
        have f0 := (hbl.frozen (p := ⟨w.heap.size, 0, none⟩) hgl).trans F0.out
        have f1 := (hbl.frozen (p := ⟨w.heap.size, 1, none⟩) hgl).trans F1.out
        have f2 := (hbl.frozen (p := ⟨w.heap.size, 2, none⟩) hgl).trans F2.out
        have f3 := (hbl.frozen (p := ⟨w.heap.size, 3, none⟩) hgl).trans F3.out
        replace hgl := lK hbl hgl
        rw [tx] at CTx
        clear hj hx hA hc2 CT hb2_ tx hbl
        go_wp2_with fail
        refine (CTx _).mono ?_
        rintro e wz ⟨rfl, b⟩
        replace g0 := cK b g0 hgl
        replace g1 := cK b g1 hgl
        replace g2 := cK b g2 hgl
        replace g3 := cK b g3 hgl
        replace f0 := fK b f0 hgl
        replace f1 := fK b f1 hgl
        replace f2 := fK b f2 hgl
        replace f3 := fK b f3 hgl
        replace cc := bK cc b
        have HBF := Lib.hid (below_putK cc (Nat.le_refl _) (.int .i64 0) (.int .i64 0) (.slice none 0 0) (.slice none 0 0))
        clear cc b hgl
        go_wp2_with fail
        refine bodyPost_ret (v := .tuple #[.agg #[.int .i64 0, .int .i64 0, .slice none 0 0, .slice none 0 0], .int .i64 1]) (by simp [results, Try.results18, go_sem, g0, g1, g2, g3]) rfl ⟨_, _, _, _, _, _, rfl, BR.nil _ _ _, IR.nil _ _ _, HBF.out⟩
    · exfalso
      obtain rfl : i = n := by omega
      obtain ⟨x, hx, hxf⟩ := HT.out
      obtain ⟨j, hj2, rfl⟩ := at_mem 0 hx
      have h1 := hj j (by rw [HL.out]; exact hj2)
      rw [hxf] at h1
      cases h1

set_option maxRecDepth 100000 in
set_option maxHeartbeats 8000000 in
theorem bkPack_cy {w : World} {k : Int} {A : Option Addr} {n c : Nat} {L : List Int} (hk : Kind9 k) (hA : IR w A n c L) (hn : n ≤ 20) (ht : ∀ x ∈ L, tkC k x = true) (hL : ∀ j : Nat, I64 (L[j]?.getD 0) ∧ L[j]?.getD 0 ≠ -9223372036854775808) (hO : ∀ x ∈ L, -gr L ≤ x ∧ x ≤ gr L ∧ (0 ≤ x ∨ sig9 k = true)) :
    Calls Try.prog 18 #[.int .i64 k, .slice A n c] w (GotBp w k (gr L) (L.map (pk k (gr L))) [] 0) := by
  have CM := fun V => bkman_c V hk
  have CT := fun (V : World) (x : Int) => bktkc_N V (k := k) (x := x)
  have hmt1 : ∀ V : World, (method 61 71 (.int .i64 k) "ratchet/block.takes").run Try.prog V = .ok (58, .int .i64 k) V := fun _ => by kernel_rfl
  have hmt2 : ∀ V : World, (method 61 71 (.int .i64 k) "ratchet/block.pack").run Try.prog V = .ok (56, .int .i64 k) V := fun _ => by kernel_rfl
  have CP := fun {V : World} (h : IR V A n c L) => bkcpack_N hk h (by omega) hL hO
  generalize L.map (pk k (gr L)) = R at *
  generalize gr L = S at *
  clear hL hO hk
  have HT := Lib.hid ht
  clear ht
  have HL := Lib.hid hA.1
  generalize tkC k = T at *
  have cc := Below.refl w.heap.size w
  go_enter Try.func18, Try.ntmps18
  go_wp2_with fail
  have f0 : (w.alloc (.cells #[.int .i64 0, .int .i64 0, .slice none 0 0, .slice none 0 0] 34)).frozen? ⟨w.heap.size, 0, none⟩ = false := by simp [go_sem]
  have f1 : (w.alloc (.cells #[.int .i64 0, .int .i64 0, .slice none 0 0, .slice none 0 0] 34)).frozen? ⟨w.heap.size, 1, none⟩ = false := by simp [go_sem]
  have f2 : (w.alloc (.cells #[.int .i64 0, .int .i64 0, .slice none 0 0, .slice none 0 0] 34)).frozen? ⟨w.heap.size, 2, none⟩ = false := by simp [go_sem]
  have f3 : (w.alloc (.cells #[.int .i64 0, .int .i64 0, .slice none 0 0, .slice none 0 0] 34)).frozen? ⟨w.heap.size, 3, none⟩ = false := by simp [go_sem]
  have bA : Below w.heap.size w (w.alloc (.cells #[.int .i64 0, .int .i64 0, .slice none 0 0, .slice none 0 0] 34)) := ((Below.refl _ w).alloc (by simp) _)
  replace hA := hA.on bA
  replace cc := bK cc bA
  clear bA
  have g0 : (w.alloc (.cells #[.int .i64 0, .int .i64 0, .slice none 0 0, .slice none 0 0] 34)).cell? ⟨w.heap.size, 0, none⟩ = some (.int .i64 0) := by simp [go_sem]
  have g1 : (w.alloc (.cells #[.int .i64 0, .int .i64 0, .slice none 0 0, .slice none 0 0] 34)).cell? ⟨w.heap.size, 1, none⟩ = some (.int .i64 0) := by simp [go_sem]
  have g2 : (w.alloc (.cells #[.int .i64 0, .int .i64 0, .slice none 0 0, .slice none 0 0] 34)).cell? ⟨w.heap.size, 2, none⟩ = some (.slice none 0 0) := by simp [go_sem]
  have g3 : (w.alloc (.cells #[.int .i64 0, .int .i64 0, .slice none 0 0, .slice none 0 0] 34)).cell? ⟨w.heap.size, 3, none⟩ = some (.slice none 0 0) := by simp [go_sem]
  have gl : w.heap.size < (w.alloc (.cells #[.int .i64 0, .int .i64 0, .slice none 0 0, .slice none 0 0] 34)).heap.size := by simp <;> omega
  generalize w.alloc (.cells #[.int .i64 0, .int .i64 0, .slice none 0 0, .slice none 0 0] 34) = v1 at *
  go_wp2_with fail
  refine (CM _).mono ?_
  rintro e w2 ⟨rfl, b⟩
  replace f0 := fK b f0 gl
  replace f1 := fK b f1 gl
  replace f2 := fK b f2 gl
  replace f3 := fK b f3 gl
  replace hA := hA.on b
  replace g0 := cK b g0 gl
  replace g1 := cK b g1 gl
  replace g2 := cK b g2 gl
  replace g3 := cK b g3 gl
  replace gl := lK b gl
  replace cc := bK cc b
  clear b
  have HAV := Lib.hid hA
  have CCV := Lib.hid cc
  have HGL := Lib.hid gl
  have G0 := Lib.hid g0
  have G1 := Lib.hid g1
  have G2 := Lib.hid g2
  have G3 := Lib.hid g3
  have F0 := Lib.hid f0
  have F1 := Lib.hid f1
  have F2 := Lib.hid f2
  have F3 := Lib.hid f3
  clear hA cc gl g0 f0 g1 f1 g2 f2 g3 f3
  go_wp2_with fail
  go_loopw [21] (fun iv wr => ∃ i : Nat, i ≤ n ∧ iv = .int .i64 (i : Int) ∧ (∀ j, j < i → T (L[j]?.getD 0) = true) ∧ Below w2.heap.size w2 wr) (fun iv _ => n - (intOf iv).toNat)
  case atStart => exact ⟨0, by omega, rfl, fun j h => absurd h (by omega), Below.refl _ _⟩
  case round =>
    obtain ⟨i, hi, rfl, hj, hbl⟩ := hrel
    by_cases hlt : i < n
    · have hA := HAV.out.on hbl
      obtain ⟨b2, o2, rfl, hb2_, hc2⟩ := HAV.out.2.2 (by omega)
      have e1 := hA.cell hlt
      obtain ⟨x, hx⟩ : ∃ x, L[i]?.getD 0 = x := ⟨_, rfl⟩
      rw [hx] at e1
      have CTx := fun V => CT V x
      have k3 : IntKind.i64.wrap ((i : Int) + 1) = ((i + 1 : Nat) : Int) := by rw [IntWalk.i64_in _ (by omega)]; omega
      have tx : T x = true := by rw [← hx]; exact HT.out _ (mem_at (by rw [← HL.out]; exact hlt))
      have HJ : Hid (∀ j, j < i + 1 → T (L[j]?.getD 0) = true) := Lib.hid (fun j h => by
        rcases Nat.lt_or_ge j i with e | e
        · exact hj j e
        · have e2 : j = i := by omega
          rw [e2, hx]; exact tx)
      rw [tx] at CTx
      clear hj hx hA hc2 CT hb2_ tx
      go_wp2_with fail
      refine (CTx _).mono ?_
      rintro e wz ⟨rfl, b⟩
      replace hbl := bK hbl b
      clear b
      go_wp2_with fail
      go_roundw
      case rel => exact ⟨i + 1, by omega, by go_num, HJ.out, hbl⟩
      case measure => simp [intOf] <;> omega
    · obtain rfl : i = n := by omega
      have hgl := HGL.out
      have cc := CCV.out.trans (hbl.mono CCV.out.size)
      have g0 := (hbl.cell (p := ⟨w.heap.size, 0, none⟩) hgl).trans G0.out
      have g1 := (hbl.cell (p := ⟨w.heap.size, 1, none⟩) hgl).trans G1.out
      have g2 := (hbl.cell (p := ⟨w.heap.size, 2, none⟩) hgl).trans G2.out
      have g3 := (hbl.cell (p := ⟨w.heap.size, 3, none⟩) hgl).trans G3.out
      have f0 := (hbl.frozen (p := ⟨w.heap.size, 0, none⟩) hgl).trans F0.out
      have f1 := (hbl.frozen (p := ⟨w.heap.size, 1, none⟩) hgl).trans F1.out
      have f2 := (hbl.frozen (p := ⟨w.heap.size, 2, none⟩) hgl).trans F2.out
      have f3 := (hbl.frozen (p := ⟨w.heap.size, 3, none⟩) hgl).trans F3.out
      replace hgl := lK hbl hgl
      have hA := HAV.out.on hbl
      clear hj hbl
      have t4 : decide (4096 < i) = false := decide_eq_false (by omega)
      have t5 : decide ((4096 : Int) < (i : Int)) = false := decide_eq_false (by omega)
      go_wp2_with fail
      refine (CP hA).mono ?_
      rintro e wz ⟨Ax, nx, cx, Bx, mx, dx, rfl, hC, hW, b, hn1, hn2⟩
      replace g0 := cK b g0 hgl
      replace g1 := cK b g1 hgl
      replace g2 := cK b g2 hgl
      replace g3 := cK b g3 hgl
      replace f0 := fK b f0 hgl
      replace f1 := fK b f1 hgl
      replace f2 := fK b f2 hgl
      replace f3 := fK b f3 hgl
      replace cc := bK cc b
      have m1 : ∀ p, Ax = some p → p.block ≠ w.heap.size := fun p e => by have := hn1 p e; omega
      have m2 : ∀ p, Bx = some p → p.block ≠ w.heap.size := fun p e => by have := hn2 p e; omega
      have HRC := Lib.hid (br_putK hC m1 (.int .i64 k) (.int .i64 S) (.slice Ax nx cx) (.slice Bx mx dx))
      have HRW := Lib.hid (ir_putK hW m2 (.int .i64 k) (.int .i64 S) (.slice Ax nx cx) (.slice Bx mx dx))
      have HBF := Lib.hid (below_putK cc (Nat.le_refl _) (.int .i64 k) (.int .i64 S) (.slice Ax nx cx) (.slice Bx mx dx))
      clear hC hW b hn1 hn2 m1 m2 cc hgl hA
      go_wp2_with fail
      refine bodyPost_ret (v := .tuple #[.agg #[.int .i64 k, .int .i64 S, .slice Ax nx cx, .slice Bx mx dx], .int .i64 0]) (by simp [results, Try.results18, go_sem, g0, g1, g2, g3]) rfl ⟨_, _, _, _, _, _, rfl, HRC.out, HRW.out, HBF.out⟩

theorem tkC_ok {k x : Int} (hk : Kind9 k) : tkC k x = true ↔ (x ≠ -9223372036854775808 ∧ (k = 1 ∨ k = 3 → 0 ≤ x)) := by
  unfold tkC
  rw [decide_eq_true_eq, sig9_iff hk]
  constructor
  · intro h
    refine ⟨by omega, fun e => ?_⟩
    rcases h with h | h
    · exact h
    · exact absurd e h.2
  · intro h
    by_cases h0 : 0 ≤ x
    · exact .inl h0
    · exact .inr ⟨h.1, fun e => h0 (h.2 e)⟩
theorem tkW_ok {x : Int} : tkW x = true ↔ x ≠ -9223372036854775808 := decide_eq_true_iff
theorem row_i64 {L : List Int} (hi : ∀ x ∈ L, I64 x) (hm : ∀ x ∈ L, x ≠ -9223372036854775808) : ∀ j : Nat, I64 (L[j]?.getD 0) ∧ L[j]?.getD 0 ≠ -9223372036854775808 := by
  intro j
  rcases Nat.lt_or_ge j L.length with h | h
  · exact ⟨hi _ (mem_at h), hm _ (mem_at h)⟩
  · rw [List.getElem?_eq_none h]; exact ⟨i64_z, by show (0 : Int) ≠ _; omega⟩
theorem bkPack_yes {w : World} {k : Int} {A : Option Addr} {n c : Nat} {L : List Int} (hk : I64 k) (hA : IR w A n c L) (hi : ∀ x ∈ L, I64 x) (hn : n ≤ 20) (ho : OkP k L) : Calls Try.prog 18 #[.int .i64 k, .slice A n c] w (GotBp w k (pkS k L) (pkC k L) (pkW k L) 0) := by
  unfold pkS pkC pkW
  rcases kind_or.1 ho.1 with h | h
  · have h4 : k ≠ 4 := by unfold Kind9 at h; omega
    rw [if_neg h4, if_neg h4, if_neg h4]
    exact bkPack_cy h hA hn (fun x hx => (tkC_ok h).2 (ho.2 x hx)) (row_i64 hi fun x hx => (ho.2 x hx).1) (fun x hx => okP_at ho h hx)
  · rw [if_pos h, if_pos h, if_pos h]
    have := bkPack_wy h hA hn (fun x hx => tkW_ok.2 (ho.2 x hx).1)
    subst h
    exact this
theorem bkPack_no {w : World} {k : Int} {A : Option Addr} {n c : Nat} {L : List Int} (hk : I64 k) (hA : IR w A n c L) (hi : ∀ x ∈ L, I64 x) (hn : n ≤ 20) (ho : ¬ OkP k L) : Calls Try.prog 18 #[.int .i64 k, .slice A n c] w (GotBp w 0 0 [] [] 1) := by
  by_cases hr : 0 ≤ k ∧ k ≤ 4
  · rcases kind_or.1 hr with h | h
    · refine bkPack_cn h hA hn (Classical.byContradiction fun hno => ho ⟨hr, fun x hx => (tkC_ok h).1 ?_⟩)
      cases hx2 : tkC k x with
      | true => rfl
      | false => exact absurd ⟨x, hx, hx2⟩ hno
    · refine bkPack_wn h hA hn (Classical.byContradiction fun hno => ho ⟨hr, fun x hx => ⟨tkW_ok.1 ?_, fun e => by omega⟩⟩)
      cases hx2 : tkW x with
      | true => rfl
      | false => exact absurd ⟨x, hx, hx2⟩ hno
  · exact bkPack_kind w hr

end Go.Proofs.Ytpidpebgeblenaa

/-
  The contracts of the fourteenth reference: Few, Cost.
-/
namespace Go.Proofs.Ytpidpebgeblenaa
open Go.RowKit
set_option linter.unusedVariables false
set_option linter.unusedSimpArgs false

/-- How many numbers the first blocks have, as 64 bits tell it; and what they cost. -/
def fs (L : List Bk) : Nat → Int
  | 0 => 0
  | i + 1 => IntKind.i64.wrap (fs L i + IntKind.i64.wrap (((L[i]?.getD bk0).2.2.1.length : Int) + ((L[i]?.getD bk0).2.2.2.length : Int)))
def fc (L : List Bk) : Nat → Int
  | 0 => 0
  | i + 1 => if (L[i]?.getD bk0).1 = 4 then IntKind.i64.wrap (fc L i + IntKind.i64.wrap (8 * ((L[i]?.getD bk0).2.2.2.length : Int))) else IntKind.i64.wrap (IntKind.i64.wrap (fc L i + ((L[i]?.getD bk0).2.2.1.length : Int)) + 8)



end Go.Proofs.Ytpidpebgeblenaa

/-
  The contracts of the fourteenth reference: May, wide.
-/
namespace Go.Proofs.Ytpidpebgeblenaa
set_option maxRecDepth 100000
open Go.RowKit
set_option linter.unusedVariables false
set_option linter.unusedSimpArgs false

/-- Is a Keep right? Must a block be wide? -/
def OkK (kk ks km ko : Int) : Prop := (0 ≤ kk ∧ kk ≤ 3) ∧ (1 ≤ ks ∧ ks ≤ 4096) ∧ 0 ≤ km ∧ 0 ≤ ko
instance (kk ks km ko : Int) : Decidable (OkK kk ks km ko) := by unfold OkK; infer_instance
def Wd (km ko lg g : Int) : Prop := lg < km ∨ (0 < ko ∧ ko < g)
instance (km ko lg g : Int) : Decidable (Wd km ko lg g) := by unfold Wd; infer_instance
def OkX (x : Bk) : Prop := OkB x.1 x.2.1 x.2.2.1 x.2.2.2
instance (x : Bk) : Decidable (OkX x) := by unfold OkX; infer_instance

set_option maxRecDepth 100000 in
set_option maxHeartbeats 8000000 in
theorem rMay14_0 {w : World} {kk ks km ko : Int} (q0 : ¬ 0 ≤ kk) :
    Calls Try.prog 10 #[.agg #[.int .i64 kk, .int .i64 ks, .int .i64 km, .int .i64 ko]] w (GotV w (.bool false)) := by
  have t0 : decide (0 ≤ kk) = false := decide_eq_false (by omega)
  clear q0
  have cc := Below.refl w.heap.size w
  go_enter Try.func10, Try.ntmps10
  go_upto_region 1 with fail
  have bA : Below w.heap.size w (w.alloc (.cells #[.int .i64 kk, .int .i64 ks, .int .i64 km, .int .i64 ko] 23)) := ((Below.refl _ w).alloc (by simp) _)
  replace cc := bK cc bA
  clear bA
  have pa0 : (w.alloc (.cells #[.int .i64 kk, .int .i64 ks, .int .i64 km, .int .i64 ko] 23)).cell? ⟨w.heap.size, 0, none⟩ = some (.int .i64 kk) := by simp [go_sem]
  have pa1 : (w.alloc (.cells #[.int .i64 kk, .int .i64 ks, .int .i64 km, .int .i64 ko] 23)).cell? ⟨w.heap.size, 1, none⟩ = some (.int .i64 ks) := by simp [go_sem]
  have pa2 : (w.alloc (.cells #[.int .i64 kk, .int .i64 ks, .int .i64 km, .int .i64 ko] 23)).cell? ⟨w.heap.size, 2, none⟩ = some (.int .i64 km) := by simp [go_sem]
  have pa3 : (w.alloc (.cells #[.int .i64 kk, .int .i64 ks, .int .i64 km, .int .i64 ko] 23)).cell? ⟨w.heap.size, 3, none⟩ = some (.int .i64 ko) := by simp [go_sem]
  have pal : w.heap.size < (w.alloc (.cells #[.int .i64 kk, .int .i64 ks, .int .i64 km, .int .i64 ko] 23)).heap.size := by simp <;> omega
  generalize w.alloc (.cells #[.int .i64 kk, .int .i64 ks, .int .i64 km, .int .i64 ko] 23) = v1 at *
  go_wp2_with fail
  go_ret
  exact ⟨rfl, cc⟩

set_option maxRecDepth 100000 in
set_option maxHeartbeats 8000000 in
theorem rMay14_1 {w : World} {kk ks km ko : Int} (q0 : 0 ≤ kk) (q1 : ¬ kk ≤ 3) :
    Calls Try.prog 10 #[.agg #[.int .i64 kk, .int .i64 ks, .int .i64 km, .int .i64 ko]] w (GotV w (.bool false)) := by
  have t0 : decide (0 ≤ kk) = true := decide_eq_true (by omega)
  have t1 : decide (kk ≤ 3) = false := decide_eq_false (by omega)
  clear q0 q1
  have cc := Below.refl w.heap.size w
  go_enter Try.func10, Try.ntmps10
  go_upto_region 1 with fail
  have bA : Below w.heap.size w (w.alloc (.cells #[.int .i64 kk, .int .i64 ks, .int .i64 km, .int .i64 ko] 23)) := ((Below.refl _ w).alloc (by simp) _)
  replace cc := bK cc bA
  clear bA
  have pa0 : (w.alloc (.cells #[.int .i64 kk, .int .i64 ks, .int .i64 km, .int .i64 ko] 23)).cell? ⟨w.heap.size, 0, none⟩ = some (.int .i64 kk) := by simp [go_sem]
  have pa1 : (w.alloc (.cells #[.int .i64 kk, .int .i64 ks, .int .i64 km, .int .i64 ko] 23)).cell? ⟨w.heap.size, 1, none⟩ = some (.int .i64 ks) := by simp [go_sem]
  have pa2 : (w.alloc (.cells #[.int .i64 kk, .int .i64 ks, .int .i64 km, .int .i64 ko] 23)).cell? ⟨w.heap.size, 2, none⟩ = some (.int .i64 km) := by simp [go_sem]
  have pa3 : (w.alloc (.cells #[.int .i64 kk, .int .i64 ks, .int .i64 km, .int .i64 ko] 23)).cell? ⟨w.heap.size, 3, none⟩ = some (.int .i64 ko) := by simp [go_sem]
  have pal : w.heap.size < (w.alloc (.cells #[.int .i64 kk, .int .i64 ks, .int .i64 km, .int .i64 ko] 23)).heap.size := by simp <;> omega
  generalize w.alloc (.cells #[.int .i64 kk, .int .i64 ks, .int .i64 km, .int .i64 ko] 23) = v1 at *
  go_wp2_with fail
  go_ret
  exact ⟨rfl, cc⟩

set_option maxRecDepth 100000 in
set_option maxHeartbeats 8000000 in
theorem rMay14_2 {w : World} {kk ks km ko : Int} (q0 : 0 ≤ kk) (q1 : kk ≤ 3) (q2 : ¬ 1 ≤ ks) :
    Calls Try.prog 10 #[.agg #[.int .i64 kk, .int .i64 ks, .int .i64 km, .int .i64 ko]] w (GotV w (.bool false)) := by
  have t0 : decide (0 ≤ kk) = true := decide_eq_true (by omega)
  have t1 : decide (kk ≤ 3) = true := decide_eq_true (by omega)
  have t2 : decide (1 ≤ ks) = false := decide_eq_false (by omega)
  clear q0 q1 q2
  have cc := Below.refl w.heap.size w
  go_enter Try.func10, Try.ntmps10
  go_upto_region 1 with fail
  have bA : Below w.heap.size w (w.alloc (.cells #[.int .i64 kk, .int .i64 ks, .int .i64 km, .int .i64 ko] 23)) := ((Below.refl _ w).alloc (by simp) _)
  replace cc := bK cc bA
  clear bA
  have pa0 : (w.alloc (.cells #[.int .i64 kk, .int .i64 ks, .int .i64 km, .int .i64 ko] 23)).cell? ⟨w.heap.size, 0, none⟩ = some (.int .i64 kk) := by simp [go_sem]
  have pa1 : (w.alloc (.cells #[.int .i64 kk, .int .i64 ks, .int .i64 km, .int .i64 ko] 23)).cell? ⟨w.heap.size, 1, none⟩ = some (.int .i64 ks) := by simp [go_sem]
  have pa2 : (w.alloc (.cells #[.int .i64 kk, .int .i64 ks, .int .i64 km, .int .i64 ko] 23)).cell? ⟨w.heap.size, 2, none⟩ = some (.int .i64 km) := by simp [go_sem]
  have pa3 : (w.alloc (.cells #[.int .i64 kk, .int .i64 ks, .int .i64 km, .int .i64 ko] 23)).cell? ⟨w.heap.size, 3, none⟩ = some (.int .i64 ko) := by simp [go_sem]
  have pal : w.heap.size < (w.alloc (.cells #[.int .i64 kk, .int .i64 ks, .int .i64 km, .int .i64 ko] 23)).heap.size := by simp <;> omega
  generalize w.alloc (.cells #[.int .i64 kk, .int .i64 ks, .int .i64 km, .int .i64 ko] 23) = v1 at *
  go_wp2_with fail
  go_ret
  exact ⟨rfl, cc⟩

set_option maxRecDepth 100000 in
set_option maxHeartbeats 8000000 in
theorem rMay14_3 {w : World} {kk ks km ko : Int} (q0 : 0 ≤ kk) (q1 : kk ≤ 3) (q2 : 1 ≤ ks) (q3 : ¬ ks ≤ 4096) :
    Calls Try.prog 10 #[.agg #[.int .i64 kk, .int .i64 ks, .int .i64 km, .int .i64 ko]] w (GotV w (.bool false)) := by
  have t0 : decide (0 ≤ kk) = true := decide_eq_true (by omega)
  have t1 : decide (kk ≤ 3) = true := decide_eq_true (by omega)
  have t2 : decide (1 ≤ ks) = true := decide_eq_true (by omega)
  have t3 : decide (ks ≤ 4096) = false := decide_eq_false (by omega)
  clear q0 q1 q2 q3
  have cc := Below.refl w.heap.size w
  go_enter Try.func10, Try.ntmps10
  go_upto_region 1 with fail
  have bA : Below w.heap.size w (w.alloc (.cells #[.int .i64 kk, .int .i64 ks, .int .i64 km, .int .i64 ko] 23)) := ((Below.refl _ w).alloc (by simp) _)
  replace cc := bK cc bA
  clear bA
  have pa0 : (w.alloc (.cells #[.int .i64 kk, .int .i64 ks, .int .i64 km, .int .i64 ko] 23)).cell? ⟨w.heap.size, 0, none⟩ = some (.int .i64 kk) := by simp [go_sem]
  have pa1 : (w.alloc (.cells #[.int .i64 kk, .int .i64 ks, .int .i64 km, .int .i64 ko] 23)).cell? ⟨w.heap.size, 1, none⟩ = some (.int .i64 ks) := by simp [go_sem]
  have pa2 : (w.alloc (.cells #[.int .i64 kk, .int .i64 ks, .int .i64 km, .int .i64 ko] 23)).cell? ⟨w.heap.size, 2, none⟩ = some (.int .i64 km) := by simp [go_sem]
  have pa3 : (w.alloc (.cells #[.int .i64 kk, .int .i64 ks, .int .i64 km, .int .i64 ko] 23)).cell? ⟨w.heap.size, 3, none⟩ = some (.int .i64 ko) := by simp [go_sem]
  have pal : w.heap.size < (w.alloc (.cells #[.int .i64 kk, .int .i64 ks, .int .i64 km, .int .i64 ko] 23)).heap.size := by simp <;> omega
  generalize w.alloc (.cells #[.int .i64 kk, .int .i64 ks, .int .i64 km, .int .i64 ko] 23) = v1 at *
  go_wp2_with fail
  go_ret
  exact ⟨rfl, cc⟩

set_option maxRecDepth 100000 in
set_option maxHeartbeats 8000000 in
theorem rMay14_4 {w : World} {kk ks km ko : Int} (q0 : 0 ≤ kk) (q1 : kk ≤ 3) (q2 : 1 ≤ ks) (q3 : ks ≤ 4096) (q4 : ¬ 0 ≤ km) :
    Calls Try.prog 10 #[.agg #[.int .i64 kk, .int .i64 ks, .int .i64 km, .int .i64 ko]] w (GotV w (.bool false)) := by
  have t0 : decide (0 ≤ kk) = true := decide_eq_true (by omega)
  have t1 : decide (kk ≤ 3) = true := decide_eq_true (by omega)
  have t2 : decide (1 ≤ ks) = true := decide_eq_true (by omega)
  have t3 : decide (ks ≤ 4096) = true := decide_eq_true (by omega)
  have t4 : decide (0 ≤ km) = false := decide_eq_false (by omega)
  clear q0 q1 q2 q3 q4
  have cc := Below.refl w.heap.size w
  go_enter Try.func10, Try.ntmps10
  go_upto_region 1 with fail
  have bA : Below w.heap.size w (w.alloc (.cells #[.int .i64 kk, .int .i64 ks, .int .i64 km, .int .i64 ko] 23)) := ((Below.refl _ w).alloc (by simp) _)
  replace cc := bK cc bA
  clear bA
  have pa0 : (w.alloc (.cells #[.int .i64 kk, .int .i64 ks, .int .i64 km, .int .i64 ko] 23)).cell? ⟨w.heap.size, 0, none⟩ = some (.int .i64 kk) := by simp [go_sem]
  have pa1 : (w.alloc (.cells #[.int .i64 kk, .int .i64 ks, .int .i64 km, .int .i64 ko] 23)).cell? ⟨w.heap.size, 1, none⟩ = some (.int .i64 ks) := by simp [go_sem]
  have pa2 : (w.alloc (.cells #[.int .i64 kk, .int .i64 ks, .int .i64 km, .int .i64 ko] 23)).cell? ⟨w.heap.size, 2, none⟩ = some (.int .i64 km) := by simp [go_sem]
  have pa3 : (w.alloc (.cells #[.int .i64 kk, .int .i64 ks, .int .i64 km, .int .i64 ko] 23)).cell? ⟨w.heap.size, 3, none⟩ = some (.int .i64 ko) := by simp [go_sem]
  have pal : w.heap.size < (w.alloc (.cells #[.int .i64 kk, .int .i64 ks, .int .i64 km, .int .i64 ko] 23)).heap.size := by simp <;> omega
  generalize w.alloc (.cells #[.int .i64 kk, .int .i64 ks, .int .i64 km, .int .i64 ko] 23) = v1 at *
  go_wp2_with fail
  go_ret
  exact ⟨rfl, cc⟩

set_option maxRecDepth 100000 in
set_option maxHeartbeats 8000000 in
theorem rMay14_5 {w : World} {kk ks km ko : Int} (q0 : 0 ≤ kk) (q1 : kk ≤ 3) (q2 : 1 ≤ ks) (q3 : ks ≤ 4096) (q4 : 0 ≤ km) (q5 : ¬ 0 ≤ ko) :
    Calls Try.prog 10 #[.agg #[.int .i64 kk, .int .i64 ks, .int .i64 km, .int .i64 ko]] w (GotV w (.bool false)) := by
  have t0 : decide (0 ≤ kk) = true := decide_eq_true (by omega)
  have t1 : decide (kk ≤ 3) = true := decide_eq_true (by omega)
  have t2 : decide (1 ≤ ks) = true := decide_eq_true (by omega)
  have t3 : decide (ks ≤ 4096) = true := decide_eq_true (by omega)
  have t4 : decide (0 ≤ km) = true := decide_eq_true (by omega)
  have t5 : decide (0 ≤ ko) = false := decide_eq_false (by omega)
  clear q0 q1 q2 q3 q4 q5
  have cc := Below.refl w.heap.size w
  go_enter Try.func10, Try.ntmps10
  go_upto_region 1 with fail
  have bA : Below w.heap.size w (w.alloc (.cells #[.int .i64 kk, .int .i64 ks, .int .i64 km, .int .i64 ko] 23)) := ((Below.refl _ w).alloc (by simp) _)
  replace cc := bK cc bA
  clear bA
  have pa0 : (w.alloc (.cells #[.int .i64 kk, .int .i64 ks, .int .i64 km, .int .i64 ko] 23)).cell? ⟨w.heap.size, 0, none⟩ = some (.int .i64 kk) := by simp [go_sem]
  have pa1 : (w.alloc (.cells #[.int .i64 kk, .int .i64 ks, .int .i64 km, .int .i64 ko] 23)).cell? ⟨w.heap.size, 1, none⟩ = some (.int .i64 ks) := by simp [go_sem]
  have pa2 : (w.alloc (.cells #[.int .i64 kk, .int .i64 ks, .int .i64 km, .int .i64 ko] 23)).cell? ⟨w.heap.size, 2, none⟩ = some (.int .i64 km) := by simp [go_sem]
  have pa3 : (w.alloc (.cells #[.int .i64 kk, .int .i64 ks, .int .i64 km, .int .i64 ko] 23)).cell? ⟨w.heap.size, 3, none⟩ = some (.int .i64 ko) := by simp [go_sem]
  have pal : w.heap.size < (w.alloc (.cells #[.int .i64 kk, .int .i64 ks, .int .i64 km, .int .i64 ko] 23)).heap.size := by simp <;> omega
  generalize w.alloc (.cells #[.int .i64 kk, .int .i64 ks, .int .i64 km, .int .i64 ko] 23) = v1 at *
  go_wp2_with fail
  go_ret
  exact ⟨rfl, cc⟩

set_option maxRecDepth 100000 in
set_option maxHeartbeats 8000000 in
theorem rMay14_6 {w : World} {kk ks km ko : Int} (q0 : 0 ≤ kk) (q1 : kk ≤ 3) (q2 : 1 ≤ ks) (q3 : ks ≤ 4096) (q4 : 0 ≤ km) (q5 : 0 ≤ ko) :
    Calls Try.prog 10 #[.agg #[.int .i64 kk, .int .i64 ks, .int .i64 km, .int .i64 ko]] w (GotV w (.bool true)) := by
  have t0 : decide (0 ≤ kk) = true := decide_eq_true (by omega)
  have t1 : decide (kk ≤ 3) = true := decide_eq_true (by omega)
  have t2 : decide (1 ≤ ks) = true := decide_eq_true (by omega)
  have t3 : decide (ks ≤ 4096) = true := decide_eq_true (by omega)
  have t4 : decide (0 ≤ km) = true := decide_eq_true (by omega)
  have t5 : decide (0 ≤ ko) = true := decide_eq_true (by omega)
  clear q0 q1 q2 q3 q4 q5
  have cc := Below.refl w.heap.size w
  go_enter Try.func10, Try.ntmps10
  go_upto_region 1 with fail
  have bA : Below w.heap.size w (w.alloc (.cells #[.int .i64 kk, .int .i64 ks, .int .i64 km, .int .i64 ko] 23)) := ((Below.refl _ w).alloc (by simp) _)
  replace cc := bK cc bA
  clear bA
  have pa0 : (w.alloc (.cells #[.int .i64 kk, .int .i64 ks, .int .i64 km, .int .i64 ko] 23)).cell? ⟨w.heap.size, 0, none⟩ = some (.int .i64 kk) := by simp [go_sem]
  have pa1 : (w.alloc (.cells #[.int .i64 kk, .int .i64 ks, .int .i64 km, .int .i64 ko] 23)).cell? ⟨w.heap.size, 1, none⟩ = some (.int .i64 ks) := by simp [go_sem]
  have pa2 : (w.alloc (.cells #[.int .i64 kk, .int .i64 ks, .int .i64 km, .int .i64 ko] 23)).cell? ⟨w.heap.size, 2, none⟩ = some (.int .i64 km) := by simp [go_sem]
  have pa3 : (w.alloc (.cells #[.int .i64 kk, .int .i64 ks, .int .i64 km, .int .i64 ko] 23)).cell? ⟨w.heap.size, 3, none⟩ = some (.int .i64 ko) := by simp [go_sem]
  have pal : w.heap.size < (w.alloc (.cells #[.int .i64 kk, .int .i64 ks, .int .i64 km, .int .i64 ko] 23)).heap.size := by simp <;> omega
  generalize w.alloc (.cells #[.int .i64 kk, .int .i64 ks, .int .i64 km, .int .i64 ko] 23) = v1 at *
  go_wp2_with fail
  go_ret
  exact ⟨rfl, cc⟩

theorem rMay14_N (w : World) {kk ks km ko : Int} : Calls Try.prog 10 #[.agg #[.int .i64 kk, .int .i64 ks, .int .i64 km, .int .i64 ko]] w (GotV w (.bool (decide (OkK kk ks km ko)))) := by
  by_cases q0 : 0 ≤ kk
  rotate_left
  · rw [decide_eq_false (fun h => by unfold OkK at h; omega)]; exact rMay14_0 q0
  by_cases q1 : kk ≤ 3
  rotate_left
  · rw [decide_eq_false (fun h => by unfold OkK at h; omega)]; exact rMay14_1 q0 q1
  by_cases q2 : 1 ≤ ks
  rotate_left
  · rw [decide_eq_false (fun h => by unfold OkK at h; omega)]; exact rMay14_2 q0 q1 q2
  by_cases q3 : ks ≤ 4096
  rotate_left
  · rw [decide_eq_false (fun h => by unfold OkK at h; omega)]; exact rMay14_3 q0 q1 q2 q3
  by_cases q4 : 0 ≤ km
  rotate_left
  · rw [decide_eq_false (fun h => by unfold OkK at h; omega)]; exact rMay14_4 q0 q1 q2 q3 q4
  by_cases q5 : 0 ≤ ko
  rotate_left
  · rw [decide_eq_false (fun h => by unfold OkK at h; omega)]; exact rMay14_5 q0 q1 q2 q3 q4 q5
  rw [decide_eq_true (show OkK kk ks km ko from ⟨⟨q0, q1⟩, ⟨q2, q3⟩, q4, q5⟩)]
  exact rMay14_6 q0 q1 q2 q3 q4 q5






end Go.Proofs.Ytpidpebgeblenaa

/-
  The contracts of the fourteenth reference: Load.
-/
namespace Go.Proofs.Ytpidpebgeblenaa
open Go.RowKit
set_option linter.unusedVariables false
set_option linter.unusedSimpArgs false

/-- What the first blocks are loaded as. -/
def ldS (L : List Bk) : Nat → List Int
  | 0 => []
  | i + 1 => ldS L i ++ ldB (L[i]?.getD bk0).1 (L[i]?.getD bk0).2.1 (L[i]?.getD bk0).2.2.1 (L[i]?.getD bk0).2.2.2
theorem ldB_len {k s : Int} {C : List Nat} {W : List Int} (h : OkB k s C W) : (ldB k s C W).length = C.length + W.length ∧ C.length + W.length ≤ 4096 := by
  unfold ldB
  rcases h with ⟨hk, h1, h2, _⟩ | ⟨hk, h1, _, _, h2⟩
  · rw [if_neg (by unfold Kind9 at hk; omega), h2, List.length_map]; subst h2; simp at h1 ⊢; exact h1
  · rw [if_pos hk, h2]; subst h2; simp at h1 ⊢; exact h1
theorem ldS_len {L : List Bk} (h : ∀ j, j < L.length → OkX (L[j]?.getD bk0)) : ∀ i, i ≤ L.length → (ldS L i).length ≤ 4096 * i
  | 0, _ => by simp [ldS]
  | i + 1, hi => by
    have ih := ldS_len h i (by omega)
    have h1 := ldB_len (h i (by omega))
    unfold ldS
    rw [List.length_append]; omega
theorem ir_news {w W : World} {b off n c : Nat} {l : List Int} (h : IR w (some ⟨b, off, none⟩) n c l) (hb : Below w.heap.size w W) : ∀ j u, (l.map encI)[j]? = some u → W.cell? ((⟨b, off, none⟩ : Addr).add j) = some u := by
  intro j u e
  rw [List.getElem?_map] at e
  rcases hj : l[j]? with _ | z
  · rw [hj] at e; cases e
  · rw [hj] at e; injection e with e
    have hlt : j < l.length := (List.getElem?_eq_some_iff.1 hj).1
    have h1 := (h.on hb).cell (j := j) (by rw [h.1]; exact hlt)
    rw [hj] at h1
    rw [← e, addr_add]
    exact h1


end Go.Proofs.Ytpidpebgeblenaa

/-
  The contracts of the fourteenth reference: Right.
-/
namespace Go.Proofs.Ytpidpebgeblenaa
open Go.RowKit
set_option linter.unusedVariables false
set_option linter.unusedSimpArgs false

/-- Is a block right, at its place in a Store? Is a Store right? -/
def OkAt (kk ks km ko lg : Int) (i : Nat) (x : Bk) : Prop := OkX x ∧ ((x.2.2.1.length : Int) + (x.2.2.2.length : Int)) = min ks (lg - i * ks) ∧ (if x.1 = 4 then Wd km ko lg (gr x.2.2.2) else x.1 = kk ∧ ¬ Wd km ko lg x.2.1)
instance (kk ks km ko lg : Int) (i : Nat) (x : Bk) : Decidable (OkAt kk ks km ko lg i x) := by unfold OkAt; infer_instance
def Bl (V U : World) : Prop := Below V.heap.size V U
theorem Bl.on {V U W : World} (h : Bl V U) (b : Below U.heap.size U W) : Bl V W := Below.trans h (b.mono (Below.size h))
def allAt (kk ks km ko lg : Int) (L : List Bk) (i : Nat) : Bool := (List.range i).all fun j => decide (OkAt kk ks km ko lg j (L[j]?.getD bk0))
def OkS (kk ks km ko lg : Int) (L : List Bk) : Prop := OkK kk ks km ko ∧ (0 ≤ lg ∧ lg ≤ 4096) ∧ (L.length : Int) = (lg + ks - 1) / ks ∧ allAt kk ks km ko lg L L.length = true
instance (kk ks km ko lg : Int) (L : List Bk) : Decidable (OkS kk ks km ko lg L) := by unfold OkS; infer_instance





theorem allAt_succ {kk ks km ko lg : Int} {L : List Bk} {i : Nat} : allAt kk ks km ko lg L (i + 1) = (allAt kk ks km ko lg L i && decide (OkAt kk ks km ko lg i (L[i]?.getD bk0))) := by
  unfold allAt; rw [List.range_succ, List.all_append]; simp
theorem allAt_no {kk ks km ko lg : Int} {L : List Bk} {i m : Nat} (h : i < m) (hn : ¬ OkAt kk ks km ko lg i (L[i]?.getD bk0)) : allAt kk ks km ko lg L m = false := by
  rw [Bool.eq_false_iff]
  intro h2
  exact hn (of_decide_eq_true (List.all_eq_true.1 h2 i (List.mem_range.2 h)))
theorem okX_len {x : Bk} (h : OkX x) : x.2.2.1.length + x.2.2.2.length ≤ 4096 := (ldB_len h).2

theorem wide_at {x : Bk} (h : OkX x) (h4 : x.1 = 4) (hz : ∀ z ∈ x.2.2.2, I64 z) : ∀ j : Nat, I64 (x.2.2.2[j]?.getD 0) ∧ x.2.2.2[j]?.getD 0 ≠ -9223372036854775808 := by
  intro j
  rcases Nat.lt_or_ge j x.2.2.2.length with e | e
  · have hm := mem_at (d := 0) e
    refine ⟨hz _ hm, ?_⟩
    rcases h with ⟨hk, _⟩ | ⟨_, _, h3, _⟩
    · unfold Kind9 at hk; omega
    · exact h3 _ hm
  · rw [List.getElem?_eq_none e]; exact ⟨by unfold I64; simp, by simp⟩



end Go.Proofs.Ytpidpebgeblenaa

/-
  Rows cut into blocks, kept, loaded, what they cost; numbers alone.
-/
namespace Go.Proofs.Ytpidpebgeblenaa
open Go.RowKit
set_option linter.unusedVariables false
set_option linter.unusedSimpArgs false

/-- The numbers of the block i; how many blocks; the kind of one; what it is kept as; the first i of all. -/
def cutL (s : Nat) (L : List Int) (i : Nat) : List Int := (L.drop (i * s)).take s
def nbk (s n : Nat) : Nat := (n + s - 1) / s
def kdB (kk km ko lg : Int) (p : List Int) : Int := if Wd km ko lg (gr p) then 4 else kk
def ofB (kk km ko lg : Int) (p : List Int) : Bk := (kdB kk km ko lg p, pkS (kdB kk km ko lg p) p, pkC (kdB kk km ko lg p) p, pkW (kdB kk km ko lg p) p)
def ofL (kk km ko lg : Int) (s : Nat) (L : List Int) (i : Nat) : List Bk := (List.range i).map fun j => ofB kk km ko lg (cutL s L j)
/-- May the first i blocks be packed? -/
def OkO (kk km ko lg : Int) (s : Nat) (L : List Int) (i : Nat) : Prop := ∀ j, j < i → OkP (kdB kk km ko lg (cutL s L j)) (cutL s L j)
theorem nbk_lt {s n i : Nat} (hs : 1 ≤ s) : i < nbk s n ↔ i * s < n := by
  unfold nbk
  rw [Nat.lt_iff_add_one_le, Nat.le_div_iff_mul_le (by omega), Nat.add_mul]
  generalize i * s = t
  omega
theorem cutL_len (s : Nat) (L : List Int) (i : Nat) : (cutL s L i).length = min s (L.length - i * s) := by unfold cutL; rw [List.length_take, List.length_drop]
theorem cutL_at {s : Nat} {L : List Int} {i j : Nat} (h : j < s) : (cutL s L i)[j]? = L[i * s + j]? := by
  unfold cutL
  rw [List.getElem?_take, if_pos h, List.getElem?_drop]
theorem cutL_mem {s : Nat} {L : List Int} {i : Nat} {x : Int} (h : x ∈ cutL s L i) : x ∈ L := List.mem_of_mem_drop (List.mem_of_mem_take h)
theorem gr_mem {L : List Int} {x : Int} (h : x ∈ L) : x ≤ gr L ∧ -x ≤ gr L := by
  obtain ⟨j, hj, rfl⟩ := at_mem 0 h
  exact gr_ge hj
theorem gr_sub {L K : List Int} (h : ∀ x ∈ L, x ∈ K) : gr L ≤ gr K := gr_le (gr_pos K) (fun j hj => gr_mem (h _ (mem_at hj)))
theorem ofL_len (kk km ko lg : Int) (s : Nat) (L : List Int) (i : Nat) : (ofL kk km ko lg s L i).length = i := by simp [ofL]
theorem ofL_at {kk km ko lg : Int} {s : Nat} {L : List Int} {i j : Nat} (h : j < i) : (ofL kk km ko lg s L i)[j]?.getD bk0 = ofB kk km ko lg (cutL s L j) := by
  unfold ofL
  rw [List.getElem?_map, List.getElem?_range h]
  rfl
theorem ofL_succ (kk km ko lg : Int) (s : Nat) (L : List Int) (i : Nat) : ofL kk km ko lg s L (i + 1) = ofL kk km ko lg s L i ++ [ofB kk km ko lg (cutL s L i)] := by
  unfold ofL; rw [List.range_succ, List.map_append]; rfl
theorem ofB_len {kk km ko lg : Int} (p : List Int) : (ofB kk km ko lg p).2.2.1.length + (ofB kk km ko lg p).2.2.2.length = p.length := by
  show (pkC _ p).length + (pkW _ p).length = p.length
  unfold pkC pkW
  split <;> simp
theorem kdB_cases {kk km ko lg : Int} (hk : 0 ≤ kk ∧ kk ≤ 3) (p : List Int) : (kdB kk km ko lg p = 4 ∧ Wd km ko lg (gr p)) ∨ (kdB kk km ko lg p = kk ∧ kk ≠ 4 ∧ ¬ Wd km ko lg (gr p)) := by
  unfold kdB
  split
  · exact .inl ⟨rfl, by assumption⟩
  · exact .inr ⟨rfl, by omega, by assumption⟩
theorem ofB_ok {kk km ko lg : Int} (p : List Int) (h : OkP (kdB kk km ko lg p) p) (hl : p.length ≤ 4096) : OkX (ofB kk km ko lg p) := okB_pk h hl
theorem nbk_int {s n : Nat} (hs : 1 ≤ s) : ((nbk s n : Nat) : Int) = ((n : Int) + (s : Int) - 1) / (s : Int) := by
  unfold nbk
  rw [Int.natCast_ediv]
  congr 1
  omega
theorem allAt_all {kk ks km ko lg : Int} {L : List Bk} {m : Nat} (h : ∀ i, i < m → OkAt kk ks km ko lg i (L[i]?.getD bk0)) : allAt kk ks km ko lg L m = true :=
  List.all_eq_true.2 fun i hi => decide_eq_true (h i (List.mem_range.1 hi))
/-- What is kept is right. -/
theorem okS_of {kk km ko : Int} {s : Nat} {L : List Int} (hK : OkK kk (s : Int) km ko) (hl : L.length ≤ 4096) (hO : OkO kk km ko L.length s L (nbk s L.length)) :
    OkS kk (s : Int) km ko L.length (ofL kk km ko L.length s L (nbk s L.length)) := by
  have hs : 1 ≤ s := by have := hK.2.1; omega
  refine ⟨hK, by omega, by rw [ofL_len, nbk_int hs], ?_⟩
  rw [ofL_len]
  refine allAt_all fun i hi => ?_
  rw [ofL_at hi]
  have hc := cutL_len s L i
  have hlt := (nbk_lt hs).1 hi
  refine ⟨ofB_ok _ (hO i hi) (by omega), ?_, ?_⟩
  · have h1 := ofB_len (kk := kk) (km := km) (ko := ko) (lg := (L.length : Int)) (cutL s L i)
    rw [hc] at h1
    have e : (i : Int) * (s : Int) = ((i * s : Nat) : Int) := by rw [Int.natCast_mul]
    rw [e]
    generalize i * s = t at *
    omega
  · rcases kdB_cases (km := km) (ko := ko) (lg := (L.length : Int)) hK.1 (cutL s L i) with ⟨h1, h2⟩ | ⟨h1, h2, h3⟩
    · rw [if_pos (show (ofB kk km ko L.length (cutL s L i)).1 = 4 from h1)]
      show Wd km ko L.length (gr (pkW (kdB kk km ko L.length (cutL s L i)) (cutL s L i)))
      rw [h1]; unfold pkW; rw [if_pos rfl]; exact h2
    · rw [if_neg (show ¬ (ofB kk km ko L.length (cutL s L i)).1 = 4 from fun e => h2 (by rw [← h1]; exact e))]
      refine ⟨h1, ?_⟩
      show ¬ Wd km ko L.length (pkS (kdB kk km ko L.length (cutL s L i)) (cutL s L i))
      rw [h1]; unfold pkS; rw [if_neg h2]; exact h3
/-- What a block is loaded as. -/
def ldX (x : Bk) : List Int := ldB x.1 x.2.1 x.2.2.1 x.2.2.2
theorem ldX_len {x : Bk} (h : OkX x) : (ldX x).length = x.2.2.1.length + x.2.2.2.length := (ldB_len h).1
theorem ofB_ldlen {kk km ko lg : Int} {p : List Int} (h : OkP (kdB kk km ko lg p) p) (hl : p.length ≤ 4096) : (ldX (ofB kk km ko lg p)).length = p.length := by
  rw [ldX_len (ofB_ok p h hl), ofB_len]
theorem ldS_pre {L K : List Bk} : ∀ i, (∀ j, j < i → L[j]?.getD bk0 = K[j]?.getD bk0) → ldS L i = ldS K i
  | 0, _ => rfl
  | i + 1, h => by
    unfold ldS
    rw [ldS_pre i (fun j hj => h j (by omega)), h i (by omega)]
section
variable {kk km ko lg : Int} {s : Nat} {L : List Int} {m : Nat}
theorem ldS_of (hs : 1 ≤ s) (hs2 : s ≤ 4096) (hm : m ≤ nbk s L.length) (hO : OkO kk km ko lg s L m) : ∀ i, i ≤ m →
    (ldS (ofL kk km ko lg s L m) i).length = min (i * s) L.length ∧ ∀ j, j < min (i * s) L.length → (ldS (ofL kk km ko lg s L m) i)[j]? = (ldX (ofB kk km ko lg (cutL s L (j / s))))[j % s]?
  | 0, _ => by simp [ldS]
  | i + 1, hi => by
    obtain ⟨ih1, ih2⟩ := ldS_of hs hs2 hm hO i (by omega)
    have hlt := (nbk_lt (s := s) (n := L.length) (i := i) hs).1 (by omega)
    have hc := cutL_len s L i
    have hx := ofB_ldlen (hO i (by omega)) (by omega)
    have e : (i + 1) * s = i * s + s := by rw [Nat.add_mul, Nat.one_mul]
    have hst : ldS (ofL kk km ko lg s L m) (i + 1) = ldS (ofL kk km ko lg s L m) i ++ ldX (ofB kk km ko lg (cutL s L i)) := by
      show _ ++ ldX ((ofL kk km ko lg s L m)[i]?.getD bk0) = _
      rw [ofL_at (by omega)]
    rw [hst, e]
    have hq : ∀ j, i * s ≤ j → j < i * s + s → j / s = i ∧ j % s = j - i * s := by
      intro j h1 h2
      have e1 : j / s = i := by
        apply Nat.div_eq_of_lt_le
        · exact h1
        · rw [Nat.add_mul, Nat.one_mul]; exact h2
      refine ⟨e1, ?_⟩
      have := Nat.div_add_mod j s
      rw [e1, Nat.mul_comm] at this
      omega
    generalize i * s = t at *
    refine ⟨by rw [List.length_append, ih1, hx, hc]; omega, fun j hj => ?_⟩
    rcases Nat.lt_or_ge j (min t L.length) with h | h
    · rw [List.getElem?_append_left (by rw [ih1]; exact h)]
      exact ih2 j h
    · obtain ⟨e1, e2⟩ := hq j (by omega) (by omega)
      rw [List.getElem?_append_right (by rw [ih1]; exact h), ih1, e1, e2]
      congr 1
      omega
theorem ldS_len_of (hs : 1 ≤ s) (hs2 : s ≤ 4096) (hO : OkO kk km ko lg s L (nbk s L.length)) : (ldS (ofL kk km ko lg s L (nbk s L.length)) (nbk s L.length)).length = L.length := by
  rw [(ldS_of hs hs2 (Nat.le_refl _) hO _ (Nat.le_refl _)).1]
  have := (nbk_lt (s := s) (n := L.length) (i := nbk s L.length) hs)
  omega
theorem place_lt (hs : 1 ≤ s) {j : Nat} (hj : j < L.length) : j / s < nbk s L.length := by
  rw [nbk_lt hs]
  have := Nat.div_mul_le_self j s
  omega
theorem ldS_at_of (hs : 1 ≤ s) (hs2 : s ≤ 4096) (hO : OkO kk km ko lg s L (nbk s L.length)) {j : Nat} (hj : j < L.length) :
    (ldS (ofL kk km ko lg s L (nbk s L.length)) (nbk s L.length))[j]?.getD 0 = (ldX (ofB kk km ko lg (cutL s L (j / s))))[j % s]?.getD 0 := by
  have h := ldS_of hs hs2 (Nat.le_refl _) hO _ (Nat.le_refl _)
  have h2 := (nbk_lt (s := s) (n := L.length) (i := nbk s L.length) hs)
  rw [h.2 j (by omega)]
theorem cutL_place (hs : 1 ≤ s) {j : Nat} (hj : j < L.length) : (cutL s L (j / s))[j % s]? = L[j]? := by
  rw [cutL_at (Nat.mod_lt _ (by omega)), Nat.mul_comm, Nat.div_add_mod]
/-- What lies in a wide block is loaded as it was. -/
theorem wide_place (hs : 1 ≤ s) (hs2 : s ≤ 4096) (hO : OkO kk km ko lg s L (nbk s L.length)) {j : Nat} (hj : j < L.length) (h4 : (ofB kk km ko lg (cutL s L (j / s))).1 = 4) :
    (ldS (ofL kk km ko lg s L (nbk s L.length)) (nbk s L.length))[j]?.getD 0 = L[j]?.getD 0 := by
  rw [ldS_at_of hs hs2 hO hj]
  have h5 : kdB kk km ko lg (cutL s L (j / s)) = 4 := h4
  have e : ldX (ofB kk km ko lg (cutL s L (j / s))) = cutL s L (j / s) := by
    unfold ldX ofB ldB
    simp only
    rw [h5, if_pos rfl]; unfold pkW; rw [if_pos rfl]
  rw [e, cutL_place hs hj]
/-- Nothing is loaded that is greater than the greatest. -/
theorem ldX_in {p : List Int} (hk : 0 ≤ kk ∧ kk ≤ 3) (hO : OkP (kdB kk km ko lg p) p) {x : Int} (hx : x ∈ ldX (ofB kk km ko lg p)) : x ≤ gr p ∧ -x ≤ gr p := by
  unfold ldX ofB ldB at hx
  simp only at hx
  rcases kdB_cases (km := km) (ko := ko) (lg := lg) hk p with ⟨h1, _⟩ | ⟨h1, h2, _⟩
  · rw [h1, if_pos rfl] at hx
    unfold pkW at hx
    rw [if_pos rfl] at hx
    exact gr_mem hx
  · rw [h1, if_neg h2] at hx
    unfold pkC pkS at hx
    rw [if_neg h2, if_neg h2] at hx
    obtain ⟨c, hc, rfl⟩ := List.mem_map.1 hx
    obtain ⟨y, hy, rfl⟩ := List.mem_map.1 hc
    have h9 : Kind9 kk := by unfold Kind9; omega
    have := ld_in h9 (gr_pos p) (pk_le kk (gr p) y)
    omega
theorem gr_ldS (hk : 0 ≤ kk ∧ kk ≤ 3) (hs : 1 ≤ s) (hs2 : s ≤ 4096) (hO : OkO kk km ko lg s L (nbk s L.length)) : gr (ldS (ofL kk km ko lg s L (nbk s L.length)) (nbk s L.length)) ≤ gr L := by
  have hl := ldS_len_of hs hs2 hO
  refine gr_le (gr_pos L) (fun j hj => ?_)
  rw [hl] at hj
  have hq := place_lt hs hj
  have hlx := ofB_ldlen (hO _ hq) (by rw [cutL_len]; omega)
  rw [ldS_at_of hs hs2 hO hj]
  have hm : j % s < (ldX (ofB kk km ko lg (cutL s L (j / s)))).length := by
    rw [hlx, cutL_len]
    have h1 := Nat.mod_lt j (show 0 < s by omega)
    have h2 := Nat.div_add_mod j s
    rw [Nat.mul_comm] at h2
    omega
  have h3 := ldX_in hk (hO _ hq) (mem_at (d := 0) hm)
  have h4 : gr (cutL s L (j / s)) ≤ gr L := gr_sub fun x hx => cutL_mem hx
  omega
end
/-- What a block costs. -/
def cst (x : Bk) : Nat := if x.1 = 4 then 8 * x.2.2.2.length else x.2.2.1.length + 8
def cstS (L : List Bk) : Nat → Nat
  | 0 => 0
  | i + 1 => cstS L i + cst (L[i]?.getD bk0)
theorem fc_eq {L : List Bk} {B : Nat} (hB : B ≤ 1000000) : ∀ i, (∀ j, j < i → cst (L[j]?.getD bk0) ≤ B) → i ≤ 1000000 → fc L i = ((cstS L i : Nat) : Int) ∧ cstS L i ≤ B * i
  | 0, _, _ => by simp [fc, cstS]
  | i + 1, h, hi => by
    obtain ⟨ih, ih2⟩ := fc_eq hB i (fun j hj => h j (by omega)) (by omega)
    have h1 := h i (by omega)
    have hmul : B * i ≤ 1000000 * 1000000 := Nat.mul_le_mul hB (by omega)
    have hB2 : B * (i + 1) = B * i + B := by rw [Nat.mul_add, Nat.mul_one]
    have hle : cstS L (i + 1) ≤ B * (i + 1) := by show cstS L i + cst _ ≤ _; omega
    refine ⟨?_, hle⟩
    show (if (L[i]?.getD bk0).1 = 4 then _ else _) = ((cstS L i + cst (L[i]?.getD bk0) : Nat) : Int)
    unfold cst at h1 ⊢
    rw [ih]
    by_cases h4 : (L[i]?.getD bk0).1 = 4
    · rw [if_pos h4] at h1 ⊢
      rw [if_pos h4, IntWalk.i64_in (8 * _) (by omega), IntWalk.i64_in _ (by omega)]
      omega
    · rw [if_neg h4] at h1 ⊢
      rw [if_neg h4, IntWalk.i64_in (((cstS L i : Nat) : Int) + ((L[i]?.getD bk0).2.2.1.length : Int)) (by omega), IntWalk.i64_in _ (by omega)]
      omega
/-- Is one of the first i blocks wide? -/
def wdS (L : List Bk) (i : Nat) : Bool := anyK (fun x : Bk => decide (x.1 = 4)) L i
section
variable {kk km ko lg : Int} {s : Nat} {L : List Int}
theorem cst_of (hk : 0 ≤ kk ∧ kk ≤ 3) (p : List Int) : cst (ofB kk km ko lg p) = if Wd km ko lg (gr p) then 8 * p.length else p.length + 8 := by
  unfold cst
  rcases kdB_cases (km := km) (ko := ko) (lg := lg) hk p with ⟨h1, h2⟩ | ⟨h1, h2, h3⟩
  · rw [if_pos (show (ofB kk km ko lg p).1 = 4 from h1), if_pos h2]
    show 8 * (pkW (kdB kk km ko lg p) p).length = _
    rw [h1]; rfl
  · rw [if_neg (show ¬ (ofB kk km ko lg p).1 = 4 from fun e => h2 (by rw [← h1]; exact e)), if_neg h3]
    show (pkC (kdB kk km ko lg p) p).length + 8 = _
    rw [h1]; unfold pkC; rw [if_neg h2, List.length_map]
theorem cstS_of (hk : 0 ≤ kk ∧ kk ≤ 3) (m : Nat) : ∀ i, i ≤ m → cstS (ofL kk km ko lg s L m) i ≤ 8 * min (i * s) L.length + 8 * i ∧ ((∀ j, j < i → ¬ Wd km ko lg (gr (cutL s L j))) → cstS (ofL kk km ko lg s L m) i = min (i * s) L.length + 8 * i)
  | 0, _ => by simp [cstS]
  | i + 1, hi => by
    obtain ⟨ih1, ih2⟩ := cstS_of hk m i (by omega)
    have hc := cutL_len s L i
    have e : (i + 1) * s = i * s + s := by rw [Nat.add_mul, Nat.one_mul]
    have h1 : cstS (ofL kk km ko lg s L m) (i + 1) = cstS (ofL kk km ko lg s L m) i + cst (ofB kk km ko lg (cutL s L i)) := by
      show _ + cst ((ofL kk km ko lg s L m)[i]?.getD bk0) = _
      rw [ofL_at (by omega)]
    have h2 := cst_of (km := km) (ko := ko) (lg := lg) hk (cutL s L i)
    rw [h1, e]
    generalize i * s = t at *
    refine ⟨by rw [h2]; split <;> omega, fun hn => ?_⟩
    rw [ih2 (fun j hj => hn j (by omega)), h2, if_neg (hn i (by omega))]
    omega
theorem wdS_of (hk : 0 ≤ kk ∧ kk ≤ 3) (m : Nat) : wdS (ofL kk km ko lg s L m) m = true ↔ ∃ j, j < m ∧ Wd km ko lg (gr (cutL s L j)) := by
  unfold wdS anyK
  rw [List.take_of_length_le (by rw [ofL_len]; exact Nat.le_refl _)]
  unfold ofL
  rw [List.any_map, List.any_eq_true]
  constructor
  · rintro ⟨j, hj, h⟩
    refine ⟨j, List.mem_range.1 hj, ?_⟩
    have h := of_decide_eq_true h
    rcases kdB_cases (km := km) (ko := ko) (lg := lg) hk (cutL s L j) with ⟨_, h2⟩ | ⟨h1, h2, _⟩
    · exact h2
    · exact absurd (h1.symm.trans h) h2
  · rintro ⟨j, hj, h⟩
    refine ⟨j, List.mem_range.2 hj, decide_eq_true ?_⟩
    show kdB kk km ko lg (cutL s L j) = 4
    unfold kdB; rw [if_pos h]
/-- A number elsewhere. -/
theorem cutL_set (hs : 1 ≤ s) {a i : Nat} (v : Int) (h : i ≠ a / s) : cutL s (L.set a v) i = cutL s L i := by
  apply List.ext_getElem?
  intro j
  rcases Nat.lt_or_ge j s with hj | hj
  · rw [cutL_at hj, cutL_at hj, List.getElem?_set_ne]
    intro e
    apply h
    rw [e, Nat.mul_comm, Nat.mul_add_div (by omega), Nat.div_eq_of_lt hj]
    rfl
  · rw [List.getElem?_eq_none (by rw [cutL_len]; omega), List.getElem?_eq_none (by rw [cutL_len]; omega)]
end
section
variable {kk km ko : Int} {s q : Nat} {a b : List Int}
theorem nbk_join (hs : 1 ≤ s) (hq : a.length = q * s) : nbk s a.length = q ∧ nbk s (a ++ b).length = q + nbk s b.length := by
  have h1 : ∀ i, i < nbk s a.length ↔ i < q := fun i => by rw [nbk_lt hs, hq]; exact ⟨fun h => Nat.lt_of_mul_lt_mul_right h, fun h => Nat.mul_lt_mul_of_pos_right h (by omega)⟩
  have h2 : ∀ i, q + i < nbk s (a ++ b).length ↔ i < nbk s b.length := fun i => by rw [nbk_lt hs, nbk_lt hs, List.length_append, hq, Nat.add_mul]; generalize q * s = x; generalize i * s = y; omega
  have h3 : ∀ i, i < q → i < nbk s (a ++ b).length := fun i hi => by
    rw [nbk_lt hs, List.length_append, hq]
    have := Nat.mul_lt_mul_of_pos_right hi (show 0 < s by omega)
    omega
  refine ⟨?_, ?_⟩
  · rcases Nat.lt_trichotomy (nbk s a.length) q with h | h | h
    · have := (h1 _).2 h; omega
    · exact h
    · have := (h1 _).1 h; omega
  · rcases Nat.lt_trichotomy (nbk s (a ++ b).length) (q + nbk s b.length) with h | h | h
    · rcases Nat.lt_or_ge (nbk s (a ++ b).length) q with h4 | h4
      · have := h3 _ h4; omega
      · obtain ⟨i, hi⟩ : ∃ i, nbk s (a ++ b).length = q + i := ⟨_, (Nat.add_sub_of_le h4).symm⟩
        have := (h2 i).2 (by omega); omega
    · exact h
    · have := (h2 _).1 h; omega
theorem cut_join (hq : a.length = q * s) (i : Nat) : (i < q → cutL s (a ++ b) i = cutL s a i) ∧ cutL s (a ++ b) (q + i) = cutL s b i := by
  refine ⟨fun hi => ?_, ?_⟩
  · unfold cutL
    have h1 : i * s + s ≤ a.length := by rw [hq, ← Nat.succ_mul]; exact Nat.mul_le_mul_right s hi
    rw [List.drop_append_of_le_length (by omega), List.take_append_of_le_length (by rw [List.length_drop]; omega)]
  · unfold cutL
    rw [Nat.add_mul, ← hq, ← List.drop_drop, List.drop_left]
theorem wd_long {km ko lg lg' g : Int} (h : km ≤ lg) (h' : km ≤ lg') : Wd km ko lg g ↔ Wd km ko lg' g := by unfold Wd; omega
theorem ofB_long {kk km ko lg lg' : Int} (h : km ≤ lg) (h' : km ≤ lg') (p : List Int) : kdB kk km ko lg p = kdB kk km ko lg' p ∧ ofB kk km ko lg p = ofB kk km ko lg' p := by
  have e : kdB kk km ko lg p = kdB kk km ko lg' p := by
    unfold kdB
    by_cases hw : Wd km ko lg (gr p)
    · rw [if_pos hw, if_pos ((wd_long h h').1 hw)]
    · rw [if_neg hw, if_neg (fun e => hw ((wd_long h h').2 e))]
  exact ⟨e, by unfold ofB; rw [e]⟩
/-- Two rows, one behind the other. -/
theorem ofL_join (hs : 1 ≤ s) (hq : a.length = q * s) (ha : km ≤ (a.length : Int)) (hb : km ≤ (b.length : Int)) :
    ofL kk km ko (a ++ b).length s (a ++ b) (nbk s (a ++ b).length) = ofL kk km ko a.length s a (nbk s a.length) ++ ofL kk km ko b.length s b (nbk s b.length) ∧
    (OkO kk km ko (a ++ b).length s (a ++ b) (nbk s (a ++ b).length) ↔ OkO kk km ko a.length s a (nbk s a.length) ∧ OkO kk km ko b.length s b (nbk s b.length)) := by
  obtain ⟨e1, e2⟩ := nbk_join (b := b) hs hq
  have hab : km ≤ ((a ++ b).length : Int) := by rw [List.length_append]; omega
  rw [e1, e2]
  refine ⟨?_, ?_⟩
  · unfold ofL
    rw [List.range_add, List.map_append, List.map_map]
    congr 1
    · apply List.map_congr_left
      intro i hi
      rw [(cut_join hq i).1 (List.mem_range.1 hi)]
      exact (ofB_long hab ha _).2
    · apply List.map_congr_left
      intro i _
      show ofB kk km ko _ (cutL s (a ++ b) (q + i)) = _
      rw [(cut_join hq i).2]
      exact (ofB_long hab hb _).2
  · constructor
    · intro h
      refine ⟨fun i hi => ?_, fun i hi => ?_⟩
      · have := h i (by omega)
        rwa [(cut_join hq i).1 hi, (ofB_long hab ha _).1] at this
      · have := h (q + i) (by omega)
        rwa [(cut_join hq i).2, (ofB_long hab hb _).1] at this
    · rintro ⟨h1, h2⟩ i hi
      rcases Nat.lt_or_ge i q with h | h
      · rw [(cut_join hq i).1 h, (ofB_long hab ha _).1]; exact h1 i h
      · obtain ⟨j, rfl⟩ : ∃ j, i = q + j := ⟨i - q, by omega⟩
        rw [(cut_join hq j).2, (ofB_long hab hb _).1]; exact h2 j (by omega)
end
end Go.Proofs.Ytpidpebgeblenaa
