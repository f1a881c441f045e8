/-
  Several texts in one: L11.
-/
import Derived.Test.YtlmcpgahjfepjaaGreatA14

/-
  What the laws of block lean on: alive.
-/
namespace Go.Proofs.YtlmcpgahjfepjaaGreat
set_option maxRecDepth 100000
open Go.RowKit
set_option linter.unusedVariables false
set_option linter.unusedSimpArgs false

theorem near10_12 : near10 3 1 2 = 127 := by
  have h : ((List.range 256).all fun c => decide (dst 3 1 2 127 ≤ dst 3 1 2 c) && (decide (127 ≤ c) || decide (dst 3 1 2 127 < dst 3 1 2 c))) = true := by decide +kernel
  refine lpl_uniq (by decide) fun c hc => ?_
  have := List.all_eq_true.1 h c (List.mem_range.2 (by omega))
  rw [Bool.and_eq_true, Bool.or_eq_true] at this
  refine ⟨of_decide_eq_true this.1, fun hl => ?_⟩
  rcases this.2 with e | e
  · have := of_decide_eq_true e; omega
  · exact of_decide_eq_true e
theorem kind3 : Kind9 3 := .inr (.inr (.inr rfl))
theorem alive_gr : gr [0, 5, 10] = 10 := by decide
theorem alive_pk : pkC 3 [0, 5, 10] = [0, 127, 255] := by
  have h : max (10 : Int) 1 = 10 := by decide
  have a : pk 3 10 0 = 0 := by unfold pk; rw [h]; exact near10_own kind3 (by omega) (by omega) (by decide +kernel)
  have b : pk 3 10 5 = 127 := by
    have := near10_scale (k := 3) (num := 1) (den := 2) (t := 5) (by omega)
    unfold pk; rw [h, ← near10_12, ← this]; rfl
  have e : pk 3 10 10 = 255 := pk_top kind3 (by omega)
  show List.map (pk 3 (gr [0, 5, 10])) [0, 5, 10] = _
  rw [alive_gr]
  show [pk 3 10 0, pk 3 10 5, pk 3 10 10] = _
  rw [a, b, e]
theorem alive_ok : OkP 3 [0, 5, 10] := by decide
theorem alive_no : ¬ OkP 3 [-1] := by decide
theorem alive_right : OkB 3 10 [0, 127, 255] [] := by have := okB_pk alive_ok (by decide); rw [alive_pk] at this; exact this
theorem alive_ld : ∃ x y, ldB 3 10 [0, 127, 255] [] = [x, y, 10] := ⟨ld 3 10 0, ld 3 10 127, by have := ld_top (s := 10) kind3; show [_, _, ld 3 10 255] = _; rw [this]⟩
theorem i64_k3 : I64 3 := by unfold I64; omega
theorem i64_10 : I64 10 := by unfold I64; omega
instance (z : Int) : Decidable (I64 z) := by unfold I64; infer_instance
theorem ir_lit (w : World) (l : List Int) (T : TypeId) (h : 0 < l.length) : IR (w.alloc (.cells ((l.map encI).toArray) T)) (some ⟨w.heap.size, 0, none⟩) l.length l.length l :=
  ⟨rfl, Nat.le_refl _, fun _ => ⟨w.heap.size, 0, rfl, by simp, fun j hj => by rw [Nat.zero_add, World.cell?_alloc_new]; simp [encI, List.getElem?_eq_getElem hj]⟩⟩
theorem bkSame_same {w : World} {ka sa : Int} {Aa Ba : Option Addr} {na ca ma da : Nat} {kb sb : Int} {Ab Bb : Option Addr} {nb cb mb db : Nat} {C : List Nat} {W : List Int} (hCa : BR w Aa na ca C) (hWa : IR w Ba ma da W) (hna : na ≤ 9223372036854775807) (hma : ma ≤ 9223372036854775807) (hCb : BR w Ab nb cb C) (hWb : IR w Bb mb db W) (hnb : nb ≤ 9223372036854775807) (hmb : mb ≤ 9223372036854775807) (hk : ka = kb) (hs : sa = sb) : Calls Tryz.prog 9 #[.agg #[.int .i64 ka, .int .i64 sa, .slice Aa na ca, .slice Ba ma da], .agg #[.int .i64 kb, .int .i64 sb, .slice Ab nb cb, .slice Bb mb db]] w (GotV w (.bool true)) := by
  have h := bkSame_N (ka := ka) (kb := kb) (sa := sa) (sb := sb) hCa hWa hna hma hCb hWb hnb hmb
  rw [decide_eq_true ⟨hk, hs, rfl, rfl⟩] at h
  exact h
theorem rsame9_self {w : World} {A B : Option Addr} {n c m d : Nat} {L : List Int} (hA : IR w A n c L) (hB : IR w B m d L) (hn : n ≤ 9223372036854775807) : Calls Tryz.prog 13 #[.slice A n c, .slice B m d] w (GotV w (.bool true)) := by
  have h := rsame9_any hA hB hn
  rw [decide_eq_true rfl] at h
  exact h

set_option maxRecDepth 100000 in
set_option maxHeartbeats 8000000 in
theorem alive11_any (w : World) :
    Calls Tryz.prog 6 #[] w (GotV w (.bool true)) := by
  have C1 : ∀ {W : World} {A : Option Addr} {n c : Nat}, IR W A n c [0, 5, 10] → Calls Tryz.prog 16 #[.int .i64 3, .slice A n c] W (GotBp W 3 10 [0, 127, 255] [] 0) := fun hh => by
    have hl := hh.1
    have h := bkPack_yes i64_k3 hh (by decide) (by rw [hl]; decide) alive_ok
    rw [alive_pk] at h
    exact h
  have C2 : ∀ {W : World} {A : Option Addr} {n c : Nat}, IR W A n c [-1] → Calls Tryz.prog 16 #[.int .i64 3, .slice A n c] W (GotBp W 0 0 [] [] 1) := fun hh => by
    have hl := hh.1
    have h := bkPack_no i64_k3 hh (by decide) (by rw [hl]; decide) alive_no
    exact h
  obtain ⟨x, y, hxy⟩ := alive_ld
  have CL : ∀ {W : World} {A B : Option Addr} {n c m d : Nat}, BR W A n c [0, 127, 255] → IR W B m d [] → Calls Tryz.prog 14 #[.agg #[.int .i64 3, .int .i64 10, .slice A n c, .slice B m d]] W (GotI W [x, y, 10]) := fun h g => by have e := bkLoad_N h g alive_right i64_10; rw [hxy] at e; exact e
  have CR : ∀ {W : World} {A B : Option Addr} {n c m d : Nat}, BR W A n c [0, 127, 255] → IR W B m d [] → n ≤ 9223372036854775807 → m ≤ 9223372036854775807 → Calls Tryz.prog 8 #[.agg #[.int .i64 3, .int .i64 10, .slice A n c, .slice B m d]] W (GotV W (.bool true)) := fun h g a b => by have e := bkRight_N (k := 3) (s := 10) h g a b; rw [decide_eq_true alive_right] at e; exact e
  clear hxy
  have cc := Below.refl w.heap.size w
  have R1 : IR (w.alloc (.cells #[.int .i64 (0), .int .i64 (5), .int .i64 (10)] 2)) (some ⟨w.heap.size, 0, none⟩) 3 3 [0, 5, 10] := ir_lit w [0, 5, 10] 2 (by decide)
  have R2 : ∀ W : World, IR (W.alloc (.cells #[.int .i64 (-1)] 2)) (some ⟨W.heap.size, 0, none⟩) 1 1 [-1] := fun W => ir_lit W [-1] 2 (by decide)
  go_enter Tryz.func6, Tryz.ntmps6
  go_wp2_with fail
  replace cc := cc.alloc (Nat.le_refl _) (.cells #[.int .i64 (0), .int .i64 (5), .int .i64 (10)] 2)
  have C1a := C1 R1
  clear R1
  generalize w.alloc (.cells #[.int .i64 (0), .int .i64 (5), .int .i64 (10)] 2) = v0 at *
  refine (C1a).mono ?_
  rintro e w1 ⟨Ap, np, cp, Bp, mp, dp, rfl, hCp, hWp, b⟩
  replace cc := cc.trans (b.mono cc.size)
  clear b
  have ep : np = 3 := hCp.1
  have em : mp = 0 := hWp.1
  subst ep
  subst em
  have hz : (w1.alloc (.cells #[.int .i64 3, .int .i64 10, .slice Ap 3 cp, .slice Bp 0 dp] 25)).heap.size = w1.heap.size + 1 := by simp
  go_wp2_with fail
  have bA := below_one w1 (.cells #[.int .i64 3, .int .i64 10, .slice Ap 3 cp, .slice Bp 0 dp] 25)
  replace hCp := hCp.on bA
  replace hWp := hWp.on bA
  replace cc := cc.trans (bA.mono cc.size)
  clear bA
  have bp0 : (w1.alloc (.cells #[.int .i64 3, .int .i64 10, .slice Ap 3 cp, .slice Bp 0 dp] 25)).cell? ⟨w1.heap.size, 0, none⟩ = some (.int .i64 3) := by simp [go_sem]
  have bp1 : (w1.alloc (.cells #[.int .i64 3, .int .i64 10, .slice Ap 3 cp, .slice Bp 0 dp] 25)).cell? ⟨w1.heap.size, 1, none⟩ = some (.int .i64 10) := by simp [go_sem]
  have bp2 : (w1.alloc (.cells #[.int .i64 3, .int .i64 10, .slice Ap 3 cp, .slice Bp 0 dp] 25)).cell? ⟨w1.heap.size, 2, none⟩ = some (.slice Ap 3 cp) := by simp [go_sem]
  have bp3 : (w1.alloc (.cells #[.int .i64 3, .int .i64 10, .slice Ap 3 cp, .slice Bp 0 dp] 25)).cell? ⟨w1.heap.size, 3, none⟩ = some (.slice Bp 0 dp) := by simp [go_sem]
  have bpl : w1.heap.size < (w1.alloc (.cells #[.int .i64 3, .int .i64 10, .slice Ap 3 cp, .slice Bp 0 dp] 25)).heap.size := by simp
  generalize w1.alloc (.cells #[.int .i64 3, .int .i64 10, .slice Ap 3 cp, .slice Bp 0 dp] 25) = v2 at *
  go_wp2_with fail
  have bA := below_one v2 (.cells #[.int .i64 (-1)] 2)
  have R2a := R2 v2
  rw [hz] at R2a
  have C2a := C2 R2a
  clear R2a
  replace hCp := hCp.on bA
  replace hWp := hWp.on bA
  replace bp0 := (bA.cell (p := ⟨w1.heap.size, 0, none⟩) bpl).trans bp0
  replace bp1 := (bA.cell (p := ⟨w1.heap.size, 1, none⟩) bpl).trans bp1
  replace bp2 := (bA.cell (p := ⟨w1.heap.size, 2, none⟩) bpl).trans bp2
  replace bp3 := (bA.cell (p := ⟨w1.heap.size, 3, none⟩) bpl).trans bp3
  replace bpl := Nat.lt_of_lt_of_le bpl bA.size
  replace cc := cc.trans (bA.mono cc.size)
  clear bA
  generalize v2.alloc (.cells #[.int .i64 (-1)] 2) = v9 at *
  refine (C2a).mono ?_
  rintro e w3 ⟨Aq, nq, cq, Bq, mq, dq, rfl, hCq, hWq, b⟩
  replace hCp := hCp.on b
  replace hWp := hWp.on b
  replace bp0 := (b.cell (p := ⟨w1.heap.size, 0, none⟩) bpl).trans bp0
  replace bp1 := (b.cell (p := ⟨w1.heap.size, 1, none⟩) bpl).trans bp1
  replace bp2 := (b.cell (p := ⟨w1.heap.size, 2, none⟩) bpl).trans bp2
  replace bp3 := (b.cell (p := ⟨w1.heap.size, 3, none⟩) bpl).trans bp3
  replace bpl := Nat.lt_of_lt_of_le bpl b.size
  replace cc := cc.trans (b.mono cc.size)
  clear b
  have eq_ : nq = 0 := hCq.1
  have emq : mq = 0 := hWq.1
  subst eq_
  subst emq
  go_wp2_with fail
  have bA := below_one w3 (.cells #[.int .i64 0, .int .i64 0, .slice Aq 0 cq, .slice Bq 0 dq] 25)
  replace hCp := hCp.on bA
  replace hWp := hWp.on bA
  replace hCq := hCq.on bA
  replace hWq := hWq.on bA
  replace bp0 := (bA.cell (p := ⟨w1.heap.size, 0, none⟩) bpl).trans bp0
  replace bp1 := (bA.cell (p := ⟨w1.heap.size, 1, none⟩) bpl).trans bp1
  replace bp2 := (bA.cell (p := ⟨w1.heap.size, 2, none⟩) bpl).trans bp2
  replace bp3 := (bA.cell (p := ⟨w1.heap.size, 3, none⟩) bpl).trans bp3
  replace bpl := Nat.lt_of_lt_of_le bpl bA.size
  replace cc := cc.trans (bA.mono cc.size)
  clear bA
  have bq0 : (w3.alloc (.cells #[.int .i64 0, .int .i64 0, .slice Aq 0 cq, .slice Bq 0 dq] 25)).cell? ⟨w3.heap.size, 0, none⟩ = some (.int .i64 0) := by simp [go_sem]
  have bq1 : (w3.alloc (.cells #[.int .i64 0, .int .i64 0, .slice Aq 0 cq, .slice Bq 0 dq] 25)).cell? ⟨w3.heap.size, 1, none⟩ = some (.int .i64 0) := by simp [go_sem]
  have bq2 : (w3.alloc (.cells #[.int .i64 0, .int .i64 0, .slice Aq 0 cq, .slice Bq 0 dq] 25)).cell? ⟨w3.heap.size, 2, none⟩ = some (.slice Aq 0 cq) := by simp [go_sem]
  have bq3 : (w3.alloc (.cells #[.int .i64 0, .int .i64 0, .slice Aq 0 cq, .slice Bq 0 dq] 25)).cell? ⟨w3.heap.size, 3, none⟩ = some (.slice Bq 0 dq) := by simp [go_sem]
  have bql : w3.heap.size < (w3.alloc (.cells #[.int .i64 0, .int .i64 0, .slice Aq 0 cq, .slice Bq 0 dq] 25)).heap.size := by simp
  generalize w3.alloc (.cells #[.int .i64 0, .int .i64 0, .slice Aq 0 cq, .slice Bq 0 dq] 25) = v4 at *
  go_wp2_with fail
  refine (CL hCp hWp).mono ?_
  rintro e w5 ⟨Al, nl, cl, rfl, hl, b⟩
  replace hCp := hCp.on b
  replace hWp := hWp.on b
  replace hCq := hCq.on b
  replace hWq := hWq.on b
  replace bp0 := (b.cell (p := ⟨w1.heap.size, 0, none⟩) bpl).trans bp0
  replace bp1 := (b.cell (p := ⟨w1.heap.size, 1, none⟩) bpl).trans bp1
  replace bp2 := (b.cell (p := ⟨w1.heap.size, 2, none⟩) bpl).trans bp2
  replace bp3 := (b.cell (p := ⟨w1.heap.size, 3, none⟩) bpl).trans bp3
  replace bpl := Nat.lt_of_lt_of_le bpl b.size
  replace bq0 := (b.cell (p := ⟨w3.heap.size, 0, none⟩) bql).trans bq0
  replace bq1 := (b.cell (p := ⟨w3.heap.size, 1, none⟩) bql).trans bq1
  replace bq2 := (b.cell (p := ⟨w3.heap.size, 2, none⟩) bql).trans bq2
  replace bq3 := (b.cell (p := ⟨w3.heap.size, 3, none⟩) bql).trans bq3
  replace bql := Nat.lt_of_lt_of_le bql b.size
  replace cc := cc.trans (b.mono cc.size)
  clear b
  have el : nl = 3 := hl.1
  subst el
  obtain ⟨bl, ol_, rfl, hbl⟩ := hl.2.2 (by omega)
  have l2 := hbl.2 2 (by omega)
  replace l2 : w5.cell? ⟨bl, ol_ + 2, none⟩ = some (.int .i64 10) := l2
  obtain ⟨bc, oc, rfl, hbc, hcc⟩ := hCp.2.2.2 (by omega)
  have hcv : (convert 22 9 (.slice (some ⟨bc, oc, none⟩) 3 cp)).run Tryz.prog w5 = .ok (.string ⟨#[0, 127, 255]⟩) w5 := run_convert_bytes_back (P := Tryz.prog) w5 22 9 5 ⟨bc, oc, none⟩ cp [0, 127, 255] Tryz.underlying22 Tryz.underlying5 Tryz.underlying9 (fun j hj => by
    have h := hcc j (by simpa using hj)
    have ha : (⟨bc, oc, none⟩ : Addr).add j = ⟨bc, oc + j, none⟩ := by unfold Addr.add; split; (rename_i h0; subst h0; rfl); rfl
    rw [ha]
    match j, hj with
    | 0, _ => exact h
    | 1, _ => exact h
    | 2, _ => exact h)
  clear hcc hbl
  go_wp2_with fail
  refine (CR hCp hWp (by omega) (by omega)).mono ?_
  rintro e w6 ⟨rfl, b⟩
  replace hCp := hCp.on b
  replace hWp := hWp.on b
  replace hCq := hCq.on b
  replace hWq := hWq.on b
  replace hl := hl.on b
  replace bp0 := (b.cell (p := ⟨w1.heap.size, 0, none⟩) bpl).trans bp0
  replace bp1 := (b.cell (p := ⟨w1.heap.size, 1, none⟩) bpl).trans bp1
  replace bp2 := (b.cell (p := ⟨w1.heap.size, 2, none⟩) bpl).trans bp2
  replace bp3 := (b.cell (p := ⟨w1.heap.size, 3, none⟩) bpl).trans bp3
  replace bpl := Nat.lt_of_lt_of_le bpl b.size
  replace bq0 := (b.cell (p := ⟨w3.heap.size, 0, none⟩) bql).trans bq0
  replace bq1 := (b.cell (p := ⟨w3.heap.size, 1, none⟩) bql).trans bq1
  replace bq2 := (b.cell (p := ⟨w3.heap.size, 2, none⟩) bql).trans bq2
  replace bq3 := (b.cell (p := ⟨w3.heap.size, 3, none⟩) bql).trans bq3
  replace bql := Nat.lt_of_lt_of_le bql b.size
  replace cc := cc.trans (b.mono cc.size)
  clear b
  go_wp2_with fail
  refine (bkLen_N _ (by omega) (by omega)).mono ?_
  rintro e w7 ⟨rfl, b⟩
  replace hCp := hCp.on b
  replace hWp := hWp.on b
  replace hCq := hCq.on b
  replace hWq := hWq.on b
  replace hl := hl.on b
  replace bp0 := (b.cell (p := ⟨w1.heap.size, 0, none⟩) bpl).trans bp0
  replace bp1 := (b.cell (p := ⟨w1.heap.size, 1, none⟩) bpl).trans bp1
  replace bp2 := (b.cell (p := ⟨w1.heap.size, 2, none⟩) bpl).trans bp2
  replace bp3 := (b.cell (p := ⟨w1.heap.size, 3, none⟩) bpl).trans bp3
  replace bpl := Nat.lt_of_lt_of_le bpl b.size
  replace bq0 := (b.cell (p := ⟨w3.heap.size, 0, none⟩) bql).trans bq0
  replace bq1 := (b.cell (p := ⟨w3.heap.size, 1, none⟩) bql).trans bq1
  replace bq2 := (b.cell (p := ⟨w3.heap.size, 2, none⟩) bql).trans bq2
  replace bq3 := (b.cell (p := ⟨w3.heap.size, 3, none⟩) bql).trans bq3
  replace bql := Nat.lt_of_lt_of_le bql b.size
  replace cc := cc.trans (b.mono cc.size)
  clear b
  go_wp2_with fail
  refine (bkSame_same hCp hWp (by omega) (by omega) hCp hWp (by omega) (by omega) rfl rfl).mono ?_
  rintro e w8 ⟨rfl, b⟩
  replace hCp := hCp.on b
  replace hWp := hWp.on b
  replace hCq := hCq.on b
  replace hWq := hWq.on b
  replace hl := hl.on b
  replace bp0 := (b.cell (p := ⟨w1.heap.size, 0, none⟩) bpl).trans bp0
  replace bp1 := (b.cell (p := ⟨w1.heap.size, 1, none⟩) bpl).trans bp1
  replace bp2 := (b.cell (p := ⟨w1.heap.size, 2, none⟩) bpl).trans bp2
  replace bp3 := (b.cell (p := ⟨w1.heap.size, 3, none⟩) bpl).trans bp3
  replace bpl := Nat.lt_of_lt_of_le bpl b.size
  replace bq0 := (b.cell (p := ⟨w3.heap.size, 0, none⟩) bql).trans bq0
  replace bq1 := (b.cell (p := ⟨w3.heap.size, 1, none⟩) bql).trans bq1
  replace bq2 := (b.cell (p := ⟨w3.heap.size, 2, none⟩) bql).trans bq2
  replace bq3 := (b.cell (p := ⟨w3.heap.size, 3, none⟩) bql).trans bq3
  replace bql := Nat.lt_of_lt_of_le bql b.size
  replace cc := cc.trans (b.mono cc.size)
  clear b
  go_wp2_with fail
  go_ret
  exact ⟨rfl, cc⟩

end Go.Proofs.YtlmcpgahjfepjaaGreat
