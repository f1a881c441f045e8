/-
  Several texts in one: JTa, KG, GA, GB, C14g, C14c, T14.
-/
import Derived.Test.YtpidpebgeblenaaGreatA12
import Derived.Test.YtpidpebgeblenaaGreatA15
import Derived.Test.YtpidpebgeblenaaGreatA3
import Derived.Test.YtpidpebgeblenaaGreatA14
import Derived.Test.YtpidpebgeblenaaGreatA13

/-
  The contracts of the landed block: Pack, of up to 4096 numbers; its rows are new.
-/
namespace Go.Proofs.YtpidpebgeblenaaGreat
set_option maxRecDepth 100000
set_option maxHeartbeats 8000000
open Go.RowKit
set_option linter.unusedVariables false
set_option linter.unusedSimpArgs false

theorem bqPack_kind (w : World) {k : Int} {A : Option Addr} {n c : Nat} (h : ¬ (0 ≤ k ∧ k ≤ 4)) :
    Calls Tryz.prog 35 #[.int .i64 k, .slice A n c] w (GotBq w 0 0 [] [] 1) := by
  have CM := fun V => bkman_no V h
  clear h
  have cc := Below.refl w.heap.size w
  go_enter Tryz.func35, Tryz.ntmps35
  go_wp2_with fail
  generalize hv_ : w.alloc (.cells #[.int .i64 0, .int .i64 0, .slice none 0 0, .slice none 0 0] 43) = v1
  have f0 : v1.frozen? ⟨w.heap.size, 0, none⟩ = false := by simp [← hv_, go_sem]
  have f1 : v1.frozen? ⟨w.heap.size, 1, none⟩ = false := by simp [← hv_, go_sem]
  have f2 : v1.frozen? ⟨w.heap.size, 2, none⟩ = false := by simp [← hv_, go_sem]
  have f3 : v1.frozen? ⟨w.heap.size, 3, none⟩ = false := by simp [← hv_, go_sem]
  have bA : Below w.heap.size w v1 := by rw [← hv_]; exact ((Below.refl _ w).alloc (by simp) _)
  replace cc := bK cc bA
  clear bA
  have g0 : v1.cell? ⟨w.heap.size, 0, none⟩ = some (.int .i64 0) := by simp [← hv_, go_sem]
  have g1 : v1.cell? ⟨w.heap.size, 1, none⟩ = some (.int .i64 0) := by simp [← hv_, go_sem]
  have g2 : v1.cell? ⟨w.heap.size, 2, none⟩ = some (.slice none 0 0) := by simp [← hv_, go_sem]
  have g3 : v1.cell? ⟨w.heap.size, 3, none⟩ = some (.slice none 0 0) := by simp [← hv_, go_sem]
  have gl : w.heap.size < v1.heap.size := by simp [← hv_] <;> omega
  clear hv_
  go_wp2_with fail
  refine (CM _).mono ?_
  rintro e w2 ⟨rfl, b⟩
  rewrite [fR b gl] at f0 f1 f2 f3
  rewrite [cR b gl] at g0 g1 g2 g3
  replace gl := lK b gl
  replace cc := bK cc b
  clear b
  have HBF := Lib.hid (below_putK cc (Nat.le_refl _) (.int .i64 0) (.int .i64 0) (.slice none 0 0) (.slice none 0 0))
  clear cc
  go_wp2_with fail
  refine bodyPost_ret (v := .tuple #[.agg #[.int .i64 0, .int .i64 0, .slice none 0 0, .slice none 0 0], .int .i64 1]) (by simp [results, Tryz.results35, go_sem, g0, g1, g2, g3]) rfl ⟨_, _, _, _, _, _, rfl, BR.nil _ _ _, IR.nil _ _ _, HBF.out, fun _ e => (by cases e), fun _ e => (by cases e)⟩

theorem bqPack_wn {w : World} {k : Int} {A : Option Addr} {n c : Nat} {L : List Int} (hk : k = 4) (hA : IR w A n c L) (hn : n ≤ 4096) (ht : ∃ x ∈ L, tkW x = false) :
    Calls Tryz.prog 35 #[.int .i64 k, .slice A n c] w (GotBq w 0 0 [] [] 1) := by
  have CM := fun V => bkman_w V hk
  subst hk
  have CT := fun (V : World) (x : Int) => bktkw_N V (x := x)
  have hmt1 : ∀ V : World, (method 61 75 (.agg #[]) "ratchet/block.takes").run Tryz.prog V = .ok (117, .agg #[]) V := fun _ => by kernel_rfl
  have hmt2 : ∀ V : World, (method 61 75 (.agg #[]) "ratchet/block.pack").run Tryz.prog V = .ok (115, .agg #[]) V := fun _ => by kernel_rfl
  have HT := Lib.hid ht
  clear ht
  have HL := Lib.hid hA.1
  generalize tkW = T at *
  have cc := Below.refl w.heap.size w
  go_enter Tryz.func35, Tryz.ntmps35
  go_wp2_with fail
  generalize hv_ : w.alloc (.cells #[.int .i64 0, .int .i64 0, .slice none 0 0, .slice none 0 0] 43) = v1
  have f0 : v1.frozen? ⟨w.heap.size, 0, none⟩ = false := by simp [← hv_, go_sem]
  have f1 : v1.frozen? ⟨w.heap.size, 1, none⟩ = false := by simp [← hv_, go_sem]
  have f2 : v1.frozen? ⟨w.heap.size, 2, none⟩ = false := by simp [← hv_, go_sem]
  have f3 : v1.frozen? ⟨w.heap.size, 3, none⟩ = false := by simp [← hv_, go_sem]
  have bA : Below w.heap.size w v1 := by rw [← hv_]; exact ((Below.refl _ w).alloc (by simp) _)
  replace hA := hA.on bA
  replace cc := bK cc bA
  clear bA
  have g0 : v1.cell? ⟨w.heap.size, 0, none⟩ = some (.int .i64 0) := by simp [← hv_, go_sem]
  have g1 : v1.cell? ⟨w.heap.size, 1, none⟩ = some (.int .i64 0) := by simp [← hv_, go_sem]
  have g2 : v1.cell? ⟨w.heap.size, 2, none⟩ = some (.slice none 0 0) := by simp [← hv_, go_sem]
  have g3 : v1.cell? ⟨w.heap.size, 3, none⟩ = some (.slice none 0 0) := by simp [← hv_, go_sem]
  have gl : w.heap.size < v1.heap.size := by simp [← hv_] <;> omega
  clear hv_
  go_wp2_with fail
  refine (CM _).mono ?_
  rintro e w2 ⟨rfl, b⟩
  rewrite [fR b gl] at f0 f1 f2 f3
  replace hA := hA.on b
  rewrite [cR b gl] at g0 g1 g2 g3
  replace gl := lK b gl
  replace cc := bK cc b
  clear b
  have HAV := Lib.hid hA
  have CCV := Lib.hid cc
  have HGL := Lib.hid gl
  have G0 := Lib.hid g0
  have G1 := Lib.hid g1
  have G2 := Lib.hid g2
  have G3 := Lib.hid g3
  have F0 := Lib.hid f0
  have F1 := Lib.hid f1
  have F2 := Lib.hid f2
  have F3 := Lib.hid f3
  clear hA cc gl g0 f0 g1 f1 g2 f2 g3 f3
  go_wp2_with fail
  go_loopw [21] (fun iv wr => ∃ i : Nat, i ≤ n ∧ iv = .int .i64 (i : Int) ∧ (∀ j, j < i → T (L[j]?.getD 0) = true) ∧ Below w2.heap.size w2 wr) (fun iv _ => n - (intOf iv).toNat)
  case atStart => exact ⟨0, by omega, rfl, fun j h => absurd h (by omega), Below.refl _ _⟩
  case round =>
    obtain ⟨i, hi, rfl, hj, hbl⟩ := hrel
    by_cases hlt : i < n
    · have hA := HAV.out.on hbl
      obtain ⟨b2, o2, rfl, hb2_, hc2⟩ := HAV.out.2.2 (by omega)
      have e1 := hA.cell hlt
      obtain ⟨x, hx⟩ : ∃ x, L[i]?.getD 0 = x := ⟨_, rfl⟩
      rw [hx] at e1
      have CTx := fun V => CT V x
      have k3 : IntKind.i64.wrap ((i : Int) + 1) = ((i + 1 : Nat) : Int) := by rw [IntWalk.i64_in _ (by omega)]; omega
      cases tx : T x with
      | true =>
        have HJ : Hid (∀ j, j < i + 1 → T (L[j]?.getD 0) = true) := Lib.hid (fun j h => by
          rcases Nat.lt_or_ge j i with e | e
          · exact hj j e
          · have e2 : j = i := by omega
            rw [e2, hx]; exact tx)
        rw [tx] at CTx
        clear hj hx hA hc2 CT hb2_ tx
        go_wp2_with fail
        refine (CTx _).mono ?_
        rintro e wz ⟨rfl, b⟩
        replace hbl := bK hbl b
        clear b
        go_wp2_with fail
        go_roundw
        case rel => exact ⟨i + 1, by omega, by go_num, HJ.out, hbl⟩
        case measure => simp [intOf] <;> omega
      | false =>
        have hgl := HGL.out
        have cc := CCV.out.trans (hbl.mono CCV.out.size)
        have g0 := (hbl.cell (p := ⟨w.heap.size, 0, none⟩) hgl).trans G0.out
        have g1 := (hbl.cell (p := ⟨w.heap.size, 1, none⟩) hgl).trans G1.out
        have g2 := (hbl.cell (p := ⟨w.heap.size, 2, none⟩) hgl).trans G2.out
        have g3 := (hbl.cell (p := ⟨w.heap.size, 3, none⟩) hgl).trans G3.out
        have f0 := (hbl.frozen (p := ⟨w.heap.size, 0, none⟩) hgl).trans F0.out
        have f1 := (hbl.frozen (p := ⟨w.heap.size, 1, none⟩) hgl).trans F1.out
        have f2 := (hbl.frozen (p := ⟨w.heap.size, 2, none⟩) hgl).trans F2.out
        have f3 := (hbl.frozen (p := ⟨w.heap.size, 3, none⟩) hgl).trans F3.out
        replace hgl := lK hbl hgl
        rw [tx] at CTx
        clear hj hx hA hc2 CT hb2_ tx hbl
        go_wp2_with fail
        refine (CTx _).mono ?_
        rintro e wz ⟨rfl, b⟩
        rewrite [cR b hgl] at g0 g1 g2 g3
        rewrite [fR b hgl] at f0 f1 f2 f3
        replace cc := bK cc b
        have HBF := Lib.hid (below_putK cc (Nat.le_refl _) (.int .i64 0) (.int .i64 0) (.slice none 0 0) (.slice none 0 0))
        clear cc b hgl
        go_wp2_with fail
        refine bodyPost_ret (v := .tuple #[.agg #[.int .i64 0, .int .i64 0, .slice none 0 0, .slice none 0 0], .int .i64 1]) (by simp [results, Tryz.results35, go_sem, g0, g1, g2, g3]) rfl ⟨_, _, _, _, _, _, rfl, BR.nil _ _ _, IR.nil _ _ _, HBF.out, fun _ e => (by cases e), fun _ e => (by cases e)⟩
    · exfalso
      obtain rfl : i = n := by omega
      obtain ⟨x, hx, hxf⟩ := HT.out
      obtain ⟨j, hj2, rfl⟩ := at_mem 0 hx
      have h1 := hj j (by rw [HL.out]; exact hj2)
      rw [hxf] at h1
      cases h1

theorem bqPack_wy {w : World} {k : Int} {A : Option Addr} {n c : Nat} {L : List Int} (hk : k = 4) (hA : IR w A n c L) (hn : n ≤ 4096) (ht : ∀ x ∈ L, tkW x = true) :
    Calls Tryz.prog 35 #[.int .i64 k, .slice A n c] w (GotBq w 4 0 [] L 0) := by
  have CM := fun V => bkman_w V hk
  subst hk
  have CT := fun (V : World) (x : Int) => bktkw_N V (x := x)
  have hmt1 : ∀ V : World, (method 61 75 (.agg #[]) "ratchet/block.takes").run Tryz.prog V = .ok (117, .agg #[]) V := fun _ => by kernel_rfl
  have hmt2 : ∀ V : World, (method 61 75 (.agg #[]) "ratchet/block.pack").run Tryz.prog V = .ok (115, .agg #[]) V := fun _ => by kernel_rfl
  have CP := fun {V : World} (h : IR V A n c L) => bkwpack_N h (by omega)
  have HT := Lib.hid ht
  clear ht
  have HL := Lib.hid hA.1
  generalize tkW = T at *
  have cc := Below.refl w.heap.size w
  go_enter Tryz.func35, Tryz.ntmps35
  go_wp2_with fail
  generalize hv_ : w.alloc (.cells #[.int .i64 0, .int .i64 0, .slice none 0 0, .slice none 0 0] 43) = v1
  have f0 : v1.frozen? ⟨w.heap.size, 0, none⟩ = false := by simp [← hv_, go_sem]
  have f1 : v1.frozen? ⟨w.heap.size, 1, none⟩ = false := by simp [← hv_, go_sem]
  have f2 : v1.frozen? ⟨w.heap.size, 2, none⟩ = false := by simp [← hv_, go_sem]
  have f3 : v1.frozen? ⟨w.heap.size, 3, none⟩ = false := by simp [← hv_, go_sem]
  have bA : Below w.heap.size w v1 := by rw [← hv_]; exact ((Below.refl _ w).alloc (by simp) _)
  replace hA := hA.on bA
  replace cc := bK cc bA
  clear bA
  have g0 : v1.cell? ⟨w.heap.size, 0, none⟩ = some (.int .i64 0) := by simp [← hv_, go_sem]
  have g1 : v1.cell? ⟨w.heap.size, 1, none⟩ = some (.int .i64 0) := by simp [← hv_, go_sem]
  have g2 : v1.cell? ⟨w.heap.size, 2, none⟩ = some (.slice none 0 0) := by simp [← hv_, go_sem]
  have g3 : v1.cell? ⟨w.heap.size, 3, none⟩ = some (.slice none 0 0) := by simp [← hv_, go_sem]
  have gl : w.heap.size < v1.heap.size := by simp [← hv_] <;> omega
  clear hv_
  go_wp2_with fail
  refine (CM _).mono ?_
  rintro e w2 ⟨rfl, b⟩
  rewrite [fR b gl] at f0 f1 f2 f3
  replace hA := hA.on b
  rewrite [cR b gl] at g0 g1 g2 g3
  replace gl := lK b gl
  replace cc := bK cc b
  clear b
  have HAV := Lib.hid hA
  have CCV := Lib.hid cc
  have HGL := Lib.hid gl
  have G0 := Lib.hid g0
  have G1 := Lib.hid g1
  have G2 := Lib.hid g2
  have G3 := Lib.hid g3
  have F0 := Lib.hid f0
  have F1 := Lib.hid f1
  have F2 := Lib.hid f2
  have F3 := Lib.hid f3
  clear hA cc gl g0 f0 g1 f1 g2 f2 g3 f3
  go_wp2_with fail
  go_loopw [21] (fun iv wr => ∃ i : Nat, i ≤ n ∧ iv = .int .i64 (i : Int) ∧ (∀ j, j < i → T (L[j]?.getD 0) = true) ∧ Below w2.heap.size w2 wr) (fun iv _ => n - (intOf iv).toNat)
  case atStart => exact ⟨0, by omega, rfl, fun j h => absurd h (by omega), Below.refl _ _⟩
  case round =>
    obtain ⟨i, hi, rfl, hj, hbl⟩ := hrel
    by_cases hlt : i < n
    · have hA := HAV.out.on hbl
      obtain ⟨b2, o2, rfl, hb2_, hc2⟩ := HAV.out.2.2 (by omega)
      have e1 := hA.cell hlt
      obtain ⟨x, hx⟩ : ∃ x, L[i]?.getD 0 = x := ⟨_, rfl⟩
      rw [hx] at e1
      have CTx := fun V => CT V x
      have k3 : IntKind.i64.wrap ((i : Int) + 1) = ((i + 1 : Nat) : Int) := by rw [IntWalk.i64_in _ (by omega)]; omega
      have tx : T x = true := by rw [← hx]; exact HT.out _ (mem_at (by rw [← HL.out]; exact hlt))
      have HJ : Hid (∀ j, j < i + 1 → T (L[j]?.getD 0) = true) := Lib.hid (fun j h => by
        rcases Nat.lt_or_ge j i with e | e
        · exact hj j e
        · have e2 : j = i := by omega
          rw [e2, hx]; exact tx)
      rw [tx] at CTx
      clear hj hx hA hc2 CT hb2_ tx
      go_wp2_with fail
      refine (CTx _).mono ?_
      rintro e wz ⟨rfl, b⟩
      replace hbl := bK hbl b
      clear b
      go_wp2_with fail
      go_roundw
      case rel => exact ⟨i + 1, by omega, by go_num, HJ.out, hbl⟩
      case measure => simp [intOf] <;> omega
    · obtain rfl : i = n := by omega
      have hgl := HGL.out
      have cc := CCV.out.trans (hbl.mono CCV.out.size)
      have g0 := (hbl.cell (p := ⟨w.heap.size, 0, none⟩) hgl).trans G0.out
      have g1 := (hbl.cell (p := ⟨w.heap.size, 1, none⟩) hgl).trans G1.out
      have g2 := (hbl.cell (p := ⟨w.heap.size, 2, none⟩) hgl).trans G2.out
      have g3 := (hbl.cell (p := ⟨w.heap.size, 3, none⟩) hgl).trans G3.out
      have f0 := (hbl.frozen (p := ⟨w.heap.size, 0, none⟩) hgl).trans F0.out
      have f1 := (hbl.frozen (p := ⟨w.heap.size, 1, none⟩) hgl).trans F1.out
      have f2 := (hbl.frozen (p := ⟨w.heap.size, 2, none⟩) hgl).trans F2.out
      have f3 := (hbl.frozen (p := ⟨w.heap.size, 3, none⟩) hgl).trans F3.out
      replace hgl := lK hbl hgl
      have hA := HAV.out.on hbl
      clear hj hbl
      have t4 : decide (4096 < i) = false := decide_eq_false (by omega)
      have t5 : decide ((4096 : Int) < (i : Int)) = false := decide_eq_false (by omega)
      go_wp2_with fail
      refine (CP hA).mono ?_
      rintro e wz ⟨Ax, nx, cx, Bx, mx, dx, rfl, hC, hW, b, hn1, hn2⟩
      rewrite [cR b hgl] at g0 g1 g2 g3
      rewrite [fR b hgl] at f0 f1 f2 f3
      replace cc := bK cc b
      have m1 : ∀ p, Ax = some p → p.block ≠ w.heap.size := fun p e => by have := hn1 p e; omega
      have m2 : ∀ p, Bx = some p → p.block ≠ w.heap.size := fun p e => by have := hn2 p e; omega
      have HM1 : Hid (∀ p, Ax = some p → w.heap.size ≤ p.block) := Lib.hid (fun p e => by have := hn1 p e; omega)
      have HM2 : Hid (∀ p, Bx = some p → w.heap.size ≤ p.block) := Lib.hid (fun p e => by have := hn2 p e; omega)
      have HRC := Lib.hid (br_putK hC m1 (.int .i64 4) (.int .i64 0) (.slice Ax nx cx) (.slice Bx mx dx))
      have HRW := Lib.hid (ir_putK hW m2 (.int .i64 4) (.int .i64 0) (.slice Ax nx cx) (.slice Bx mx dx))
      have HBF := Lib.hid (below_putK cc (Nat.le_refl _) (.int .i64 4) (.int .i64 0) (.slice Ax nx cx) (.slice Bx mx dx))
      clear hC hW b hn1 hn2 m1 m2 cc hgl hA
      go_wp2_with fail
      refine bodyPost_ret (v := .tuple #[.agg #[.int .i64 4, .int .i64 0, .slice Ax nx cx, .slice Bx mx dx], .int .i64 0]) (by simp [results, Tryz.results35, go_sem, g0, g1, g2, g3]) rfl ⟨_, _, _, _, _, _, rfl, HRC.out, HRW.out, HBF.out, HM1.out, HM2.out⟩

theorem bqPack_cn {w : World} {k : Int} {A : Option Addr} {n c : Nat} {L : List Int} (hk : Kind9 k) (hA : IR w A n c L) (hn : n ≤ 4096) (ht : ∃ x ∈ L, tkC k x = false) :
    Calls Tryz.prog 35 #[.int .i64 k, .slice A n c] w (GotBq w 0 0 [] [] 1) := by
  have CM := fun V => bkman_c V hk
  have CT := fun (V : World) (x : Int) => bktkc_N V (k := k) (x := x)
  have hmt1 : ∀ V : World, (method 61 76 (.int .i64 k) "ratchet/block.takes").run Tryz.prog V = .ok (122, .int .i64 k) V := fun _ => by kernel_rfl
  have hmt2 : ∀ V : World, (method 61 76 (.int .i64 k) "ratchet/block.pack").run Tryz.prog V = .ok (120, .int .i64 k) V := fun _ => by kernel_rfl
  have HT := Lib.hid ht
  clear ht hk
  have HL := Lib.hid hA.1
  generalize tkC k = T at *
  have cc := Below.refl w.heap.size w
  go_enter Tryz.func35, Tryz.ntmps35
  go_wp2_with fail
  generalize hv_ : w.alloc (.cells #[.int .i64 0, .int .i64 0, .slice none 0 0, .slice none 0 0] 43) = v1
  have f0 : v1.frozen? ⟨w.heap.size, 0, none⟩ = false := by simp [← hv_, go_sem]
  have f1 : v1.frozen? ⟨w.heap.size, 1, none⟩ = false := by simp [← hv_, go_sem]
  have f2 : v1.frozen? ⟨w.heap.size, 2, none⟩ = false := by simp [← hv_, go_sem]
  have f3 : v1.frozen? ⟨w.heap.size, 3, none⟩ = false := by simp [← hv_, go_sem]
  have bA : Below w.heap.size w v1 := by rw [← hv_]; exact ((Below.refl _ w).alloc (by simp) _)
  replace hA := hA.on bA
  replace cc := bK cc bA
  clear bA
  have g0 : v1.cell? ⟨w.heap.size, 0, none⟩ = some (.int .i64 0) := by simp [← hv_, go_sem]
  have g1 : v1.cell? ⟨w.heap.size, 1, none⟩ = some (.int .i64 0) := by simp [← hv_, go_sem]
  have g2 : v1.cell? ⟨w.heap.size, 2, none⟩ = some (.slice none 0 0) := by simp [← hv_, go_sem]
  have g3 : v1.cell? ⟨w.heap.size, 3, none⟩ = some (.slice none 0 0) := by simp [← hv_, go_sem]
  have gl : w.heap.size < v1.heap.size := by simp [← hv_] <;> omega
  clear hv_
  go_wp2_with fail
  refine (CM _).mono ?_
  rintro e w2 ⟨rfl, b⟩
  rewrite [fR b gl] at f0 f1 f2 f3
  replace hA := hA.on b
  rewrite [cR b gl] at g0 g1 g2 g3
  replace gl := lK b gl
  replace cc := bK cc b
  clear b
  have HAV := Lib.hid hA
  have CCV := Lib.hid cc
  have HGL := Lib.hid gl
  have G0 := Lib.hid g0
  have G1 := Lib.hid g1
  have G2 := Lib.hid g2
  have G3 := Lib.hid g3
  have F0 := Lib.hid f0
  have F1 := Lib.hid f1
  have F2 := Lib.hid f2
  have F3 := Lib.hid f3
  clear hA cc gl g0 f0 g1 f1 g2 f2 g3 f3
  go_wp2_with fail
  go_loopw [21] (fun iv wr => ∃ i : Nat, i ≤ n ∧ iv = .int .i64 (i : Int) ∧ (∀ j, j < i → T (L[j]?.getD 0) = true) ∧ Below w2.heap.size w2 wr) (fun iv _ => n - (intOf iv).toNat)
  case atStart => exact ⟨0, by omega, rfl, fun j h => absurd h (by omega), Below.refl _ _⟩
  case round =>
    obtain ⟨i, hi, rfl, hj, hbl⟩ := hrel
    by_cases hlt : i < n
    · have hA := HAV.out.on hbl
      obtain ⟨b2, o2, rfl, hb2_, hc2⟩ := HAV.out.2.2 (by omega)
      have e1 := hA.cell hlt
      obtain ⟨x, hx⟩ : ∃ x, L[i]?.getD 0 = x := ⟨_, rfl⟩
      rw [hx] at e1
      have CTx := fun V => CT V x
      have k3 : IntKind.i64.wrap ((i : Int) + 1) = ((i + 1 : Nat) : Int) := by rw [IntWalk.i64_in _ (by omega)]; omega
      cases tx : T x with
      | true =>
        have HJ : Hid (∀ j, j < i + 1 → T (L[j]?.getD 0) = true) := Lib.hid (fun j h => by
          rcases Nat.lt_or_ge j i with e | e
          · exact hj j e
          · have e2 : j = i := by omega
            rw [e2, hx]; exact tx)
        rw [tx] at CTx
        clear hj hx hA hc2 CT hb2_ tx
        go_wp2_with fail
        refine (CTx _).mono ?_
        rintro e wz ⟨rfl, b⟩
        replace hbl := bK hbl b
        clear b
        go_wp2_with fail
        go_roundw
        case rel => exact ⟨i + 1, by omega, by go_num, HJ.out, hbl⟩
        case measure => simp [intOf] <;> omega
      | false =>
        have hgl := HGL.out
        have cc := CCV.out.trans (hbl.mono CCV.out.size)
        have g0 := (hbl.cell (p := ⟨w.heap.size, 0, none⟩) hgl).trans G0.out
        have g1 := (hbl.cell (p := ⟨w.heap.size, 1, none⟩) hgl).trans G1.out
        have g2 := (hbl.cell (p := ⟨w.heap.size, 2, none⟩) hgl).trans G2.out
        have g3 := (hbl.cell (p := ⟨w.heap.size, 3, none⟩) hgl).trans G3.out
        have f0 := (hbl.frozen (p := ⟨w.heap.size, 0, none⟩) hgl).trans F0.out
        have f1 := (hbl.frozen (p := ⟨w.heap.size, 1, none⟩) hgl).trans F1.out
        have f2 := (hbl.frozen (p := ⟨w.heap.size, 2, none⟩) hgl).trans F2.out
        have f3 := (hbl.frozen (p := ⟨w.heap.size, 3, none⟩) hgl).trans F3.out
        replace hgl := lK hbl hgl
        rw [tx] at CTx
        clear hj hx hA hc2 CT hb2_ tx hbl
        go_wp2_with fail
        refine (CTx _).mono ?_
        rintro e wz ⟨rfl, b⟩
        rewrite [cR b hgl] at g0 g1 g2 g3
        rewrite [fR b hgl] at f0 f1 f2 f3
        replace cc := bK cc b
        have HBF := Lib.hid (below_putK cc (Nat.le_refl _) (.int .i64 0) (.int .i64 0) (.slice none 0 0) (.slice none 0 0))
        clear cc b hgl
        go_wp2_with fail
        refine bodyPost_ret (v := .tuple #[.agg #[.int .i64 0, .int .i64 0, .slice none 0 0, .slice none 0 0], .int .i64 1]) (by simp [results, Tryz.results35, go_sem, g0, g1, g2, g3]) rfl ⟨_, _, _, _, _, _, rfl, BR.nil _ _ _, IR.nil _ _ _, HBF.out, fun _ e => (by cases e), fun _ e => (by cases e)⟩
    · exfalso
      obtain rfl : i = n := by omega
      obtain ⟨x, hx, hxf⟩ := HT.out
      obtain ⟨j, hj2, rfl⟩ := at_mem 0 hx
      have h1 := hj j (by rw [HL.out]; exact hj2)
      rw [hxf] at h1
      cases h1

theorem bqPack_cy {w : World} {k : Int} {A : Option Addr} {n c : Nat} {L : List Int} (hk : Kind9 k) (hA : IR w A n c L) (hn : n ≤ 4096) (ht : ∀ x ∈ L, tkC k x = true) (hL : ∀ j : Nat, I64 (L[j]?.getD 0) ∧ L[j]?.getD 0 ≠ -9223372036854775808) (hO : ∀ x ∈ L, -gr L ≤ x ∧ x ≤ gr L ∧ (0 ≤ x ∨ sig9 k = true)) :
    Calls Tryz.prog 35 #[.int .i64 k, .slice A n c] w (GotBq w k (gr L) (L.map (pk k (gr L))) [] 0) := by
  have CM := fun V => bkman_c V hk
  have CT := fun (V : World) (x : Int) => bktkc_N V (k := k) (x := x)
  have hmt1 : ∀ V : World, (method 61 76 (.int .i64 k) "ratchet/block.takes").run Tryz.prog V = .ok (122, .int .i64 k) V := fun _ => by kernel_rfl
  have hmt2 : ∀ V : World, (method 61 76 (.int .i64 k) "ratchet/block.pack").run Tryz.prog V = .ok (120, .int .i64 k) V := fun _ => by kernel_rfl
  have CP := fun {V : World} (h : IR V A n c L) => bkcpack_N hk h (by omega) hL hO
  generalize L.map (pk k (gr L)) = R at *
  generalize gr L = S at *
  clear hL hO hk
  have HT := Lib.hid ht
  clear ht
  have HL := Lib.hid hA.1
  generalize tkC k = T at *
  have cc := Below.refl w.heap.size w
  go_enter Tryz.func35, Tryz.ntmps35
  go_wp2_with fail
  generalize hv_ : w.alloc (.cells #[.int .i64 0, .int .i64 0, .slice none 0 0, .slice none 0 0] 43) = v1
  have f0 : v1.frozen? ⟨w.heap.size, 0, none⟩ = false := by simp [← hv_, go_sem]
  have f1 : v1.frozen? ⟨w.heap.size, 1, none⟩ = false := by simp [← hv_, go_sem]
  have f2 : v1.frozen? ⟨w.heap.size, 2, none⟩ = false := by simp [← hv_, go_sem]
  have f3 : v1.frozen? ⟨w.heap.size, 3, none⟩ = false := by simp [← hv_, go_sem]
  have bA : Below w.heap.size w v1 := by rw [← hv_]; exact ((Below.refl _ w).alloc (by simp) _)
  replace hA := hA.on bA
  replace cc := bK cc bA
  clear bA
  have g0 : v1.cell? ⟨w.heap.size, 0, none⟩ = some (.int .i64 0) := by simp [← hv_, go_sem]
  have g1 : v1.cell? ⟨w.heap.size, 1, none⟩ = some (.int .i64 0) := by simp [← hv_, go_sem]
  have g2 : v1.cell? ⟨w.heap.size, 2, none⟩ = some (.slice none 0 0) := by simp [← hv_, go_sem]
  have g3 : v1.cell? ⟨w.heap.size, 3, none⟩ = some (.slice none 0 0) := by simp [← hv_, go_sem]
  have gl : w.heap.size < v1.heap.size := by simp [← hv_] <;> omega
  clear hv_
  go_wp2_with fail
  refine (CM _).mono ?_
  rintro e w2 ⟨rfl, b⟩
  rewrite [fR b gl] at f0 f1 f2 f3
  replace hA := hA.on b
  rewrite [cR b gl] at g0 g1 g2 g3
  replace gl := lK b gl
  replace cc := bK cc b
  clear b
  have HAV := Lib.hid hA
  have CCV := Lib.hid cc
  have HGL := Lib.hid gl
  have G0 := Lib.hid g0
  have G1 := Lib.hid g1
  have G2 := Lib.hid g2
  have G3 := Lib.hid g3
  have F0 := Lib.hid f0
  have F1 := Lib.hid f1
  have F2 := Lib.hid f2
  have F3 := Lib.hid f3
  clear hA cc gl g0 f0 g1 f1 g2 f2 g3 f3
  go_wp2_with fail
  go_loopw [21] (fun iv wr => ∃ i : Nat, i ≤ n ∧ iv = .int .i64 (i : Int) ∧ (∀ j, j < i → T (L[j]?.getD 0) = true) ∧ Below w2.heap.size w2 wr) (fun iv _ => n - (intOf iv).toNat)
  case atStart => exact ⟨0, by omega, rfl, fun j h => absurd h (by omega), Below.refl _ _⟩
  case round =>
    obtain ⟨i, hi, rfl, hj, hbl⟩ := hrel
    by_cases hlt : i < n
    · have hA := HAV.out.on hbl
      obtain ⟨b2, o2, rfl, hb2_, hc2⟩ := HAV.out.2.2 (by omega)
      have e1 := hA.cell hlt
      obtain ⟨x, hx⟩ : ∃ x, L[i]?.getD 0 = x := ⟨_, rfl⟩
      rw [hx] at e1
      have CTx := fun V => CT V x
      have k3 : IntKind.i64.wrap ((i : Int) + 1) = ((i + 1 : Nat) : Int) := by rw [IntWalk.i64_in _ (by omega)]; omega
      have tx : T x = true := by rw [← hx]; exact HT.out _ (mem_at (by rw [← HL.out]; exact hlt))
      have HJ : Hid (∀ j, j < i + 1 → T (L[j]?.getD 0) = true) := Lib.hid (fun j h => by
        rcases Nat.lt_or_ge j i with e | e
        · exact hj j e
        · have e2 : j = i := by omega
          rw [e2, hx]; exact tx)
      rw [tx] at CTx
      clear hj hx hA hc2 CT hb2_ tx
      go_wp2_with fail
      refine (CTx _).mono ?_
      rintro e wz ⟨rfl, b⟩
      replace hbl := bK hbl b
      clear b
      go_wp2_with fail
      go_roundw
      case rel => exact ⟨i + 1, by omega, by go_num, HJ.out, hbl⟩
      case measure => simp [intOf] <;> omega
    · obtain rfl : i = n := by omega
      have hgl := HGL.out
      have cc := CCV.out.trans (hbl.mono CCV.out.size)
      have g0 := (hbl.cell (p := ⟨w.heap.size, 0, none⟩) hgl).trans G0.out
      have g1 := (hbl.cell (p := ⟨w.heap.size, 1, none⟩) hgl).trans G1.out
      have g2 := (hbl.cell (p := ⟨w.heap.size, 2, none⟩) hgl).trans G2.out
      have g3 := (hbl.cell (p := ⟨w.heap.size, 3, none⟩) hgl).trans G3.out
      have f0 := (hbl.frozen (p := ⟨w.heap.size, 0, none⟩) hgl).trans F0.out
      have f1 := (hbl.frozen (p := ⟨w.heap.size, 1, none⟩) hgl).trans F1.out
      have f2 := (hbl.frozen (p := ⟨w.heap.size, 2, none⟩) hgl).trans F2.out
      have f3 := (hbl.frozen (p := ⟨w.heap.size, 3, none⟩) hgl).trans F3.out
      replace hgl := lK hbl hgl
      have hA := HAV.out.on hbl
      clear hj hbl
      have t4 : decide (4096 < i) = false := decide_eq_false (by omega)
      have t5 : decide ((4096 : Int) < (i : Int)) = false := decide_eq_false (by omega)
      go_wp2_with fail
      refine (CP hA).mono ?_
      rintro e wz ⟨Ax, nx, cx, Bx, mx, dx, rfl, hC, hW, b, hn1, hn2⟩
      rewrite [cR b hgl] at g0 g1 g2 g3
      rewrite [fR b hgl] at f0 f1 f2 f3
      replace cc := bK cc b
      have m1 : ∀ p, Ax = some p → p.block ≠ w.heap.size := fun p e => by have := hn1 p e; omega
      have m2 : ∀ p, Bx = some p → p.block ≠ w.heap.size := fun p e => by have := hn2 p e; omega
      have HM1 : Hid (∀ p, Ax = some p → w.heap.size ≤ p.block) := Lib.hid (fun p e => by have := hn1 p e; omega)
      have HM2 : Hid (∀ p, Bx = some p → w.heap.size ≤ p.block) := Lib.hid (fun p e => by have := hn2 p e; omega)
      have HRC := Lib.hid (br_putK hC m1 (.int .i64 k) (.int .i64 S) (.slice Ax nx cx) (.slice Bx mx dx))
      have HRW := Lib.hid (ir_putK hW m2 (.int .i64 k) (.int .i64 S) (.slice Ax nx cx) (.slice Bx mx dx))
      have HBF := Lib.hid (below_putK cc (Nat.le_refl _) (.int .i64 k) (.int .i64 S) (.slice Ax nx cx) (.slice Bx mx dx))
      clear hC hW b hn1 hn2 m1 m2 cc hgl hA
      go_wp2_with fail
      refine bodyPost_ret (v := .tuple #[.agg #[.int .i64 k, .int .i64 S, .slice Ax nx cx, .slice Bx mx dx], .int .i64 0]) (by simp [results, Tryz.results35, go_sem, g0, g1, g2, g3]) rfl ⟨_, _, _, _, _, _, rfl, HRC.out, HRW.out, HBF.out, HM1.out, HM2.out⟩

theorem bqPack_yes {w : World} {k : Int} {A : Option Addr} {n c : Nat} {L : List Int} (hk : I64 k) (hA : IR w A n c L) (hi : ∀ x ∈ L, I64 x) (hn : n ≤ 4096) (ho : OkP k L) : Calls Tryz.prog 35 #[.int .i64 k, .slice A n c] w (GotBq w k (pkS k L) (pkC k L) (pkW k L) 0) := by
  unfold pkS pkC pkW
  rcases kind_or.1 ho.1 with h | h
  · have h4 : k ≠ 4 := by unfold Kind9 at h; omega
    rw [if_neg h4, if_neg h4, if_neg h4]
    exact bqPack_cy h hA hn (fun x hx => (tkC_ok h).2 (ho.2 x hx)) (row_i64 hi fun x hx => (ho.2 x hx).1) (fun x hx => okP_at ho h hx)
  · rw [if_pos h, if_pos h, if_pos h]
    have := bqPack_wy h hA hn (fun x hx => tkW_ok.2 (ho.2 x hx).1)
    subst h
    exact this
theorem bqPack_no {w : World} {k : Int} {A : Option Addr} {n c : Nat} {L : List Int} (hk : I64 k) (hA : IR w A n c L) (hi : ∀ x ∈ L, I64 x) (hn : n ≤ 4096) (ho : ¬ OkP k L) : Calls Tryz.prog 35 #[.int .i64 k, .slice A n c] w (GotBq w 0 0 [] [] 1) := by
  by_cases hr : 0 ≤ k ∧ k ≤ 4
  · rcases kind_or.1 hr with h | h
    · refine bqPack_cn h hA hn (Classical.byContradiction fun hno => ho ⟨hr, fun x hx => (tkC_ok h).1 ?_⟩)
      cases hx2 : tkC k x with
      | true => rfl
      | false => exact absurd ⟨x, hx, hx2⟩ hno
    · refine bqPack_wn h hA hn (Classical.byContradiction fun hno => ho ⟨hr, fun x hx => ⟨tkW_ok.1 ?_, fun e => by omega⟩⟩)
      cases hx2 : tkW x with
      | true => rfl
      | false => exact absurd ⟨x, hx, hx2⟩ hno
  · exact bqPack_kind w hr

end Go.Proofs.YtpidpebgeblenaaGreat

/-
  Rows of blocks of the call's own, which grow.
-/
namespace Go.Proofs.YtpidpebgeblenaaGreat
set_option maxRecDepth 100000
open Go.RowKit
set_option linter.unusedVariables false
set_option linter.unusedSimpArgs false

theorem infoK : (Tryz.prog.info? 43).map (fun i => (i.zero, i.size, i.bytes)) = some (some (.agg #[.int .i64 0, .int .i64 0, .slice none 0 0, .slice none 0 0]), 4, 64) := by kernel_rfl
/-- A row lies apart from the row of blocks, and is new. -/
def Apart (t : Nat) (own : Option Nat) (A : Option Addr) (n : Nat) : Prop := 0 < n → ∀ q, A = some q → t ≤ q.block ∧ own ≠ some q.block
/-- The first i blocks of a row of values, four each. -/
def KV (t : Nat) (own : Option Nat) (w : World) (xs : List Value) (i : Nat) (L : List Bk) : Prop :=
  ∀ j, j < i → ∃ A n c B m d, xs[j * 4]? = some (.int .i64 (L[j]?.getD bk0).1) ∧ xs[j * 4 + 1]? = some (.int .i64 (L[j]?.getD bk0).2.1) ∧ xs[j * 4 + 2]? = some (.slice A n c) ∧ xs[j * 4 + 3]? = some (.slice B m d) ∧
    BR w A n c (L[j]?.getD bk0).2.2.1 ∧ IR w B m d (L[j]?.getD bk0).2.2.2 ∧ (n ≤ 9223372036854775807 ∧ m ≤ 9223372036854775807 ∧ I64 (L[j]?.getD bk0).2.1 ∧ ∀ z ∈ (L[j]?.getD bk0).2.2.2, I64 z) ∧ Apart t own A n ∧ Apart t own B m
theorem br_keep {w w' : World} {A : Option Addr} {n c : Nat} {l : List Nat} (h : BR w A n c l) (hk : ∀ q, 0 < n → A = some q → w'.heap[q.block]? = w.heap[q.block]?) (hs : w.heap.size ≤ w'.heap.size) : BR w' A n c l :=
  ⟨h.1, h.2.1, h.2.2.1, fun hp => by
    obtain ⟨b, off, e, hlt, hc⟩ := h.2.2.2 hp
    have hb : w'.heap[b]? = w.heap[b]? := hk _ hp e
    exact ⟨b, off, e, Nat.lt_of_lt_of_le hlt hs, fun j hj => (World.cell?_of_block (w := w) (a := ⟨b, off + j, none⟩) hb).trans (hc j hj)⟩⟩
theorem ir_keep {w w' : World} {A : Option Addr} {n c : Nat} {l : List Int} (h : IR w A n c l) (hk : ∀ q, 0 < n → A = some q → w'.heap[q.block]? = w.heap[q.block]?) (hs : w.heap.size ≤ w'.heap.size) : IR w' A n c l :=
  ⟨h.1, h.2.1, fun hp => by
    obtain ⟨b, off, e, hlt, hc⟩ := h.2.2 hp
    have hb : w'.heap[b]? = w.heap[b]? := hk _ hp e
    exact ⟨b, off, e, Nat.lt_of_lt_of_le hlt hs, fun j hj => (World.cell?_of_block (w := w) (a := ⟨b, off + j, none⟩) hb).trans (hc j hj)⟩⟩
theorem KV.on {t : Nat} {own : Option Nat} {w w' : World} {xs : List Value} {i : Nat} {L : List Bk} (h : KV t own w xs i L) (hb : Below w.heap.size w w') : KV t own w' xs i L := fun j hj => by
  obtain ⟨A, n, c, B, m, d, h0, h1, h2, h3, hC, hW, hr, ha, hb'⟩ := h j hj
  exact ⟨A, n, c, B, m, d, h0, h1, h2, h3, hC.on hb, hW.on hb, hr, ha, hb'⟩
/-- A cell is written below the rows. -/
theorem KV.set {t g o : Nat} {own : Option Nat} {w : World} {xs : List Value} {i : Nat} {L : List Bk} {u : Value} (h : KV t own w xs i L) (hg : g < t) : KV t own (w.setCell ⟨g, o, none⟩ u) xs i L := fun j hj => by
  obtain ⟨A, n, c, B, m, d, h0, h1, h2, h3, hC, hW, hr, ha, hb'⟩ := h j hj
  have hs : w.heap.size ≤ (w.setCell ⟨g, o, none⟩ u).heap.size := by simp
  exact ⟨A, n, c, B, m, d, h0, h1, h2, h3, br_keep hC (fun q hp e => heap_setCell_other w ⟨g, o, none⟩ q.block u (by have := (ha hp q e).1; show q.block ≠ g; omega)) hs, ir_keep hW (fun q hp e => heap_setCell_other w ⟨g, o, none⟩ q.block u (by have := (hb' hp q e).1; show q.block ≠ g; omega)) hs, hr, ha, hb'⟩
/-- One block more: the row of blocks has grown. -/
theorem KV.push {t gq : Nat} {own : Option Nat} {w w' : World} {xs : List Value} {i : Nat} {L : List Bk} {x : Bk} {A B : Option Addr} {n c m d : Nat} (h : KV t own w xs i L) (hx : xs.length = i * 4) (hL : L.length = i) (hgrow : w.grownBy w' own) (hat : own = some gq ∨ gq = w.heap.size)
    (hC : BR w A n c x.2.2.1) (hW : IR w B m d x.2.2.2) (hr : n ≤ 9223372036854775807 ∧ m ≤ 9223372036854775807 ∧ I64 x.2.1 ∧ ∀ z ∈ x.2.2.2, I64 z) (ha : Apart t own A n) (hb : Apart t own B m) :
    KV t (some gq) w' (xs ++ [.int .i64 x.1, .int .i64 x.2.1, .slice A n c, .slice B m d]) (i + 1) (L ++ [x]) := by
  have keepA : ∀ {A : Option Addr} {n : Nat}, (∀ q, 0 < n → A = some q → q.block < w.heap.size) → Apart t own A n → (∀ q, 0 < n → A = some q → w'.heap[q.block]? = w.heap[q.block]?) ∧ Apart t (some gq) A n := fun hlt ha => by
    refine ⟨fun q hp e => hgrow.block q.block (hlt q hp e) (fun e2 => (ha hp q e).2 e2.symm), fun hp q e => ⟨(ha hp q e).1, fun e2 => ?_⟩⟩
    injection e2 with e2
    rcases hat with e3 | e3
    · exact (ha hp q e).2 (by rw [e3, e2])
    · have := hlt q hp e; omega
  have ltB : ∀ {A : Option Addr} {n c : Nat} {l : List Nat}, BR w A n c l → ∀ q, 0 < n → A = some q → q.block < w.heap.size := fun h q hp e => by
    obtain ⟨b, off, e2, hlt, _⟩ := h.2.2.2 hp
    rw [e] at e2; injection e2 with e2; rw [e2]; exact hlt
  have ltI : ∀ {A : Option Addr} {n c : Nat} {l : List Int}, IR w A n c l → ∀ q, 0 < n → A = some q → q.block < w.heap.size := fun h q hp e => by
    obtain ⟨b, off, e2, hlt, _⟩ := h.2.2 hp
    rw [e] at e2; injection e2 with e2; rw [e2]; exact hlt
  intro j hj
  rcases Nat.lt_or_ge j i with hlt | hge
  · obtain ⟨A, n, c, B, m, d, h0, h1, h2, h3, hC, hW, hr, ha, hb'⟩ := h j hlt
    obtain ⟨k1, k2⟩ := keepA (ltB hC) ha
    obtain ⟨k3, k4⟩ := keepA (ltI hW) hb'
    have hLj : (L ++ [x])[j]?.getD bk0 = L[j]?.getD bk0 := by rw [List.getElem?_append_left (by omega)]
    rw [hLj]
    refine ⟨A, n, c, B, m, d, ?_, ?_, ?_, ?_, br_keep hC k1 hgrow.size, ir_keep hW k3 hgrow.size, hr, k2, k4⟩
    · rw [List.getElem?_append_left (by omega)]; exact h0
    · rw [List.getElem?_append_left (by omega)]; exact h1
    · rw [List.getElem?_append_left (by omega)]; exact h2
    · rw [List.getElem?_append_left (by omega)]; exact h3
  · obtain rfl : j = i := by omega
    obtain ⟨k1, k2⟩ := keepA (ltB hC) ha
    obtain ⟨k3, k4⟩ := keepA (ltI hW) hb
    have hLj : (L ++ [x])[j]?.getD bk0 = x := by rw [List.getElem?_append_right (by omega), hL, Nat.sub_self]; rfl
    rw [hLj]
    refine ⟨A, n, c, B, m, d, ?_, ?_, ?_, ?_, br_keep hC k1 hgrow.size, ir_keep hW k3 hgrow.size, hr, k2, k4⟩
    · rw [List.getElem?_append_right (by omega), hx, Nat.sub_self]; rfl
    · rw [List.getElem?_append_right (by omega), hx, Nat.add_sub_cancel_left]; rfl
    · rw [List.getElem?_append_right (by omega), hx, Nat.add_sub_cancel_left]; rfl
    · rw [List.getElem?_append_right (by omega), hx, Nat.add_sub_cancel_left]; rfl
/-- What such a row reads as. -/
theorem KV.kr {t : Nat} {own : Option Nat} {w : World} {xs : List Value} {i c : Nat} {p : Option Addr} {L : List Bk} {e : TypeId} (h : KV t own w xs i L) (hL : L.length = i) (hO : w.ownsRow t e 4 (.slice p i c) i xs) : KR w p i c L := by
  refine ⟨hL.symm, ?_, fun hp => ?_⟩
  · rcases hO.2 with ⟨e1, h0⟩ | ⟨g, cap, cur, e1, _, _, hnc, _⟩
    · omega
    · injection e1 with _ _ e2; omega
  · have hO2 := hO
    rcases hO.2 with ⟨e1, h0⟩ | ⟨g, cap, cur, e1, _, _, hnc, _⟩
    · omega
    · injection e1 with e2 _ e3
      subst e2; subst e3
      have hlt := (hO2.lt g rfl).2
      refine ⟨g, 0, rfl, hlt, fun j hj => ?_⟩
      obtain ⟨A, n, c, B, m, d, h0, h1, h2, h3, hC, hW, hr, _, _⟩ := h j hj
      have hx := hO2.1
      have cl : ∀ r v, j * 4 + r < i * 4 → xs[j * 4 + r]? = some v → w.cell? ⟨g, 0 + j * 4 + r, none⟩ = some v := fun r v hr2 hv => by
        rw [show 0 + j * 4 + r = j * 4 + r by omega]
        have := hO2.cellAt (j * 4 + r) (by omega)
        rw [this, hv]
      exact ⟨A, n, c, B, m, d, cl 0 _ (by omega) h0, cl 1 _ (by omega) h1, cl 2 _ (by omega) h2, cl 3 _ (by omega) h3, hC, hW, hr.1, hr.2.1, hr.2.2.1, hr.2.2.2⟩
/-- A Store, and a code, are answered. -/
def GotSto (w : World) (kk ks km ko lg : Int) (L : List Bk) (e : Ending) (w' : World) : Prop :=
  ∃ A n c, e = .returned (.tuple #[.agg #[.int .i64 kk, .int .i64 ks, .int .i64 km, .int .i64 ko, .int .i64 lg, .slice A n c], .int .i64 0]) ∧ KR w' A n c L ∧ Below w.heap.size w w'
/-- All six cells of a Store's box are written. -/
@[reducible] def putT (W : World) (g : Nat) (a b c d e f : Value) : World := (((((W.setCell ⟨g, 0, none⟩ a).setCell ⟨g, 1, none⟩ b).setCell ⟨g, 2, none⟩ c).setCell ⟨g, 3, none⟩ d).setCell ⟨g, 4, none⟩ e).setCell ⟨g, 5, none⟩ f
theorem below_putT {C g : Nat} {V W : World} (h : Below C V W) (hg : C ≤ g) (a b c d e f : Value) : Below C V (putT W g a b c d e f) := (((((h.setCell (p := ⟨g, 0, none⟩) hg a).setCell (p := ⟨g, 1, none⟩) hg b).setCell (p := ⟨g, 2, none⟩) hg c).setCell (p := ⟨g, 3, none⟩) hg d).setCell (p := ⟨g, 4, none⟩) hg e).setCell (p := ⟨g, 5, none⟩) hg f
theorem own_lt {t g n c size : Nat} {w : World} {e : TypeId} {p : Option Addr} {xs : List Value} {o : Nat} {u : Value} (hO : w.ownsRow t e size (.slice p n c) n xs) (hg : g < t) : (w.setCell ⟨g, o, none⟩ u).ownsRow t e size (.slice p n c) n xs := by
  obtain ⟨h1, h2⟩ := hO
  refine ⟨h1, ?_⟩
  rcases h2 with h2 | ⟨g', cap', cur, hv, hb, hh, r⟩
  · exact Or.inl h2
  · refine Or.inr ⟨g', cap', cur, hv, hb, ?_, r⟩
    rw [heap_setCell_other w ⟨g, o, none⟩ g' u (by show g' ≠ g; omega)]; exact hh
/-- A window of a row. -/
theorem ir_win {w : World} {b off n c lo k : Nat} {L : List Int} (h : IR w (some ⟨b, off, none⟩) n c L) (hk : lo + k ≤ n) (hp : 0 < n) : IR w (some ⟨b, off + lo, none⟩) k (c - lo) ((L.drop lo).take k) := by
  have h1 := h.1
  have h2 := h.2.1
  refine ⟨by rw [List.length_take, List.length_drop]; omega, by omega, fun hk0 => ?_⟩
  obtain ⟨b', o', e, hlt, hc⟩ := h.2.2 hp
  injection e with e
  injection e with e1 e2
  subst e1 e2
  refine ⟨b, off + lo, rfl, hlt, fun j hj => ?_⟩
  rw [List.getElem?_take, if_pos hj, List.getElem?_drop, Nat.add_assoc]
  exact hc (lo + j) (by omega)
end Go.Proofs.YtpidpebgeblenaaGreat

/-
  Appends of rows that may be empty, in regions that draw; rows of blocks put together.
-/
namespace Go.Proofs.YtpidpebgeblenaaGreat
open Go.RowKit
set_option linter.unusedVariables false
set_option linter.unusedSimpArgs false

end Go.Proofs.YtpidpebgeblenaaGreat

/-
  Rows of blocks that keep off a block of cells.
-/
namespace Go.Proofs.YtpidpebgeblenaaGreat
open Go.RowKit
set_option linter.unusedVariables false
set_option linter.unusedSimpArgs false

theorem br_lt {w : World} {A : Option Addr} {n c : Nat} {l : List Nat} (h : BR w A n c l) : ∀ q, 0 < n → A = some q → q.block < w.heap.size := fun q hp e => by
  obtain ⟨b, off, e2, hlt, _⟩ := h.2.2.2 hp
  rw [e] at e2; injection e2 with e2; rw [e2]; exact hlt
theorem ir_lt {w : World} {A : Option Addr} {n c : Nat} {l : List Int} (h : IR w A n c l) : ∀ q, 0 < n → A = some q → q.block < w.heap.size := fun q hp e => by
  obtain ⟨b, off, e2, hlt, _⟩ := h.2.2 hp
  rw [e] at e2; injection e2 with e2; rw [e2]; exact hlt
/-- A cell of a block they keep off is written. -/
theorem KV.miss {t g o : Nat} {own : Option Nat} {w : World} {xs : List Value} {i : Nat} {L : List Bk} {u : Value} (h : KV t own w xs i L) (hg : g < t ∨ own = some g) : KV t own (w.setCell ⟨g, o, none⟩ u) xs i L := fun j hj => by
  obtain ⟨A, n, c, B, m, d, h0, h1, h2, h3, hC, hW, hr, ha, hb'⟩ := h j hj
  have hs : w.heap.size ≤ (w.setCell ⟨g, o, none⟩ u).heap.size := by simp
  have ne : ∀ b, t ≤ b → own ≠ some b → b ≠ g := fun b h1 h2 e => by
    rcases hg with hg | hg
    · omega
    · exact h2 (by rw [hg, e])
  exact ⟨A, n, c, B, m, d, h0, h1, h2, h3, br_keep hC (fun q hp e => heap_setCell_other w ⟨g, o, none⟩ q.block u (ne _ (ha hp q e).1 (ha hp q e).2)) hs, ir_keep hW (fun q hp e => heap_setCell_other w ⟨g, o, none⟩ q.block u (ne _ (hb' hp q e).1 (hb' hp q e).2)) hs, hr, ha, hb'⟩
/-- A block that is not there yet is kept off. -/
theorem KV.far {t g : Nat} {w : World} {xs : List Value} {i : Nat} {L : List Bk} (h : KV t none w xs i L) (hg : w.heap.size ≤ g) : KV t (some g) w xs i L := fun j hj => by
  obtain ⟨A, n, c, B, m, d, h0, h1, h2, h3, hC, hW, hr, ha, hb'⟩ := h j hj
  exact ⟨A, n, c, B, m, d, h0, h1, h2, h3, hC, hW, hr, fun hp q e => ⟨(ha hp q e).1, fun e2 => by injection e2 with e2; have := br_lt hC q hp e; omega⟩, fun hp q e => ⟨(hb' hp q e).1, fun e2 => by injection e2 with e2; have := ir_lt hW q hp e; omega⟩⟩
/-- New rows keep off what was there. -/
theorem KV.near {t g : Nat} {own : Option Nat} {w : World} {xs : List Value} {i : Nat} {L : List Bk} (h : KV t own w xs i L) (hg : g < t) : KV 0 (some g) w xs i L := fun j hj => by
  obtain ⟨A, n, c, B, m, d, h0, h1, h2, h3, hC, hW, hr, ha, hb'⟩ := h j hj
  exact ⟨A, n, c, B, m, d, h0, h1, h2, h3, hC, hW, hr, fun hp q e => ⟨Nat.zero_le _, fun e2 => by injection e2 with e2; have := (ha hp q e).1; omega⟩, fun hp q e => ⟨Nat.zero_le _, fun e2 => by injection e2 with e2; have := (hb' hp q e).1; omega⟩⟩
/-- The slice value '.slice A n c' holds the blocks L, none of whose cells lies below t, or in the block own. -/
def KF (t : Nat) (own : Option Nat) (w : World) (A : Option Addr) (n c : Nat) (L : List Bk) : Prop :=
  n = L.length ∧ n ≤ c ∧ ∃ xs : List Value, xs.length = n * 4 ∧ (∀ u ∈ xs, u.oneCell' = true) ∧ KV t own w xs n L ∧ (0 < n → ∃ b off, A = some ⟨b, off, none⟩ ∧ b < w.heap.size ∧ (t ≤ b ∧ own ≠ some b) ∧ ∀ j u, xs[j]? = some u → w.cell? ⟨b, off + j, none⟩ = some u)
section
variable {t : Nat} {own : Option Nat} {w : World} {A : Option Addr} {n c : Nat} {L : List Bk}
theorem KF.kr (h : KF t own w A n c L) : KR w A n c L := by
  obtain ⟨h1, h2, xs, hl, ho, hV, hc⟩ := h
  refine ⟨h1, h2, fun hp => ?_⟩
  obtain ⟨b, off, e, hlt, _, hx⟩ := hc hp
  refine ⟨b, off, e, hlt, fun j hj => ?_⟩
  obtain ⟨A', n', c', B', m', d', x0, x1, x2, x3, hC, hW, hr, _, _⟩ := hV j hj
  exact ⟨A', n', c', B', m', d', hx _ _ x0, hx _ _ x1, hx _ _ x2, hx _ _ x3, hC, hW, hr.1, hr.2.1, hr.2.2.1, hr.2.2.2⟩
theorem KF.on {w' : World} (h : KF t own w A n c L) (hb : Below w.heap.size w w') : KF t own w' A n c L := by
  obtain ⟨h1, h2, xs, hl, ho, hV, hc⟩ := h
  refine ⟨h1, h2, xs, hl, ho, hV.on hb, fun hp => ?_⟩
  obtain ⟨b, off, e, hlt, hne, hx⟩ := hc hp
  exact ⟨b, off, e, Nat.lt_of_lt_of_le hlt hb.size, hne, fun j u hu => (hb.cell (p := ⟨b, off + j, none⟩) hlt).trans (hx j u hu)⟩
theorem KF.alloc (h : KF t own w A n c L) (o : Obj) : KF t own (w.alloc o) A n c L := h.on (one_up _ _)
theorem KF.set {g o : Nat} {u : Value} (h : KF t own w A n c L) (hg : g < t ∨ own = some g) : KF t own (w.setCell ⟨g, o, none⟩ u) A n c L := by
  obtain ⟨h1, h2, xs, hl, ho, hV, hc⟩ := h
  refine ⟨h1, h2, xs, hl, ho, hV.miss hg, fun hp => ?_⟩
  obtain ⟨b, off, e, hlt, hne, hx⟩ := hc hp
  have hb : b ≠ g := fun e2 => by
    rcases hg with hg | hg
    · omega
    · exact hne.2 (by rw [hg, e2])
  exact ⟨b, off, e, by simp; exact hlt, hne, fun j v hv => (World.cell?_of_block (w := w) (a := ⟨b, off + j, none⟩) (heap_setCell_other w ⟨g, o, none⟩ b u hb)).trans (hx j v hv)⟩
theorem KF.putT {g : Nat} (h : KF t own w A n c L) (hg : g < t ∨ own = some g) (u1 u2 u3 u4 u5 u6 : Value) : KF t own (putT w g u1 u2 u3 u4 u5 u6) A n c L := (((((h.set hg).set hg).set hg).set hg).set hg).set hg
theorem KF.low {s : Nat} (h : KF t none w A n c L) (hs : s ≤ t) : KF s none w A n c L := by
  obtain ⟨h1, h2, xs, hl, ho, hV, hc⟩ := h
  refine ⟨h1, h2, xs, hl, ho, fun j hj => ?_, fun hp => ?_⟩
  · obtain ⟨A, n, c, B, m, d, h0, h1, h2, h3, hC, hW, hr, ha, hb'⟩ := hV j hj
    exact ⟨A, n, c, B, m, d, h0, h1, h2, h3, hC, hW, hr, fun hp q e => ⟨Nat.le_trans hs (ha hp q e).1, (ha hp q e).2⟩, fun hp q e => ⟨Nat.le_trans hs (hb' hp q e).1, (hb' hp q e).2⟩⟩
  · obtain ⟨b, off, e, hlt, hne, hx⟩ := hc hp
    exact ⟨b, off, e, hlt, ⟨Nat.le_trans hs hne.1, hne.2⟩, hx⟩
end
/-- What a row of the call's own reads as. -/
theorem kv_own {t s : Nat} {own : Option Nat} {w : World} {xs : List Value} {i c : Nat} {p : Option Addr} {L : List Bk} {e : TypeId} (h : KV s own w xs i L) (hL : L.length = i) (hO : w.ownsRow t e 4 (.slice p i c) i xs) : KR w p i c L := by
  refine ⟨hL.symm, ?_, fun hp => ?_⟩
  · rcases hO.2 with ⟨e1, h0⟩ | ⟨g, cap, cur, e1, _, _, hnc, _⟩
    · omega
    · injection e1 with _ _ e2; omega
  · have hO2 := hO
    rcases hO.2 with ⟨e1, h0⟩ | ⟨g, cap, cur, e1, _, _, hnc, _⟩
    · omega
    · injection e1 with e2 _ e3
      subst e2; subst e3
      have hlt := (hO2.lt g rfl).2
      refine ⟨g, 0, rfl, hlt, fun j hj => ?_⟩
      obtain ⟨A, n, c, B, m, d, h0, h1, h2, h3, hC, hW, hr, _, _⟩ := h j hj
      have cl : ∀ r v, j * 4 + r < i * 4 → xs[j * 4 + r]? = some v → w.cell? ⟨g, 0 + j * 4 + r, none⟩ = some v := fun r v hr2 hv => by
        rw [show 0 + j * 4 + r = j * 4 + r by omega]
        have := hO2.cellAt (j * 4 + r) (by omega)
        rw [this, hv]
      exact ⟨A, n, c, B, m, d, cl 0 _ (by omega) h0, cl 1 _ (by omega) h1, cl 2 _ (by omega) h2, cl 3 _ (by omega) h3, hC, hW, hr.1, hr.2.1, hr.2.2.1, hr.2.2.2⟩
/-- A Store, whose rows are new, and a code, are answered. -/
def GotStn (w : World) (kk ks km ko lg : Int) (L : List Bk) (e : Ending) (w' : World) : Prop :=
  ∃ A n c, e = .returned (.tuple #[.agg #[.int .i64 kk, .int .i64 ks, .int .i64 km, .int .i64 ko, .int .i64 lg, .slice A n c], .int .i64 0]) ∧ KF w.heap.size none w' A n c L ∧ Below w.heap.size w w'
theorem GotStn.sto {w : World} {kk ks km ko lg : Int} {L : List Bk} {e : Ending} {w' : World} (h : GotStn w kk ks km ko lg L e w') : GotSto w kk ks km ko lg L e w' := by
  obtain ⟨A, n, c, h1, h2, h3⟩ := h
  exact ⟨A, n, c, h1, h2.kr, h3⟩
/-- A row of blocks of the call's own, whose rows are new, is new. -/
theorem kf_new {t c i : Nat} {own : Option Nat} {w : World} {xs : List Value} {p : Option Addr} {L : List Bk} {e : TypeId} (h : KV t own w xs i L) (hL : L.length = i) (hO : w.ownsRow t e 4 (.slice p i c) i xs) (h1 : ∀ u ∈ xs, u.oneCell' = true) : KF t none w p i c L := by
  have hk := kv_own h hL hO
  refine ⟨hL.symm, hk.2.1, xs, hO.1, h1, fun j hj => ?_, fun hp => ?_⟩
  · obtain ⟨A, n, c, B, m, d, h0, h1, h2, h3, hC, hW, hr, ha, hb'⟩ := h j hj
    exact ⟨A, n, c, B, m, d, h0, h1, h2, h3, hC, hW, hr, fun hp q e => ⟨(ha hp q e).1, fun e2 => by cases e2⟩, fun hp q e => ⟨(hb' hp q e).1, fun e2 => by cases e2⟩⟩
  · rcases hO.2 with ⟨e1, h0⟩ | ⟨g', cap, cur, e1, _, _, hnc, _⟩
    · omega
    · injection e1 with e2 _ e3
      subst e2; subst e3
      have hlt := hO.lt g' rfl
      refine ⟨g', 0, rfl, hlt.2, ⟨hlt.1, fun e2 => by cases e2⟩, fun j u hu => ?_⟩
      have hj : j < xs.length := by
        rcases Nat.lt_or_ge j xs.length with h' | h'
        · exact h'
        · rw [List.getElem?_eq_none h'] at hu; cases hu
      rw [Nat.zero_add]
      exact (hO.cellAt j (by have := hO.1; omega)).trans hu
/-- A zero Store's box. -/
def BZ (w : World) (g : Nat) : Prop := w.heap[g]? = some (.cells #[.int .i64 0, .int .i64 0, .int .i64 0, .int .i64 0, .int .i64 0, .slice none 0 0] 26)
theorem BZ.lt {w : World} {g : Nat} (h : BZ w g) : g < w.heap.size := by
  rcases Nat.lt_or_ge g w.heap.size with h1 | h1
  · exact h1
  · unfold BZ at h; rw [Array.getElem?_eq_none h1] at h; cases h
theorem BZ.new (w : World) : BZ (w.alloc (.cells #[.int .i64 0, .int .i64 0, .int .i64 0, .int .i64 0, .int .i64 0, .slice none 0 0] 26)) w.heap.size := by unfold BZ World.alloc; exact Array.getElem?_push_size
theorem BZ.on {w w' : World} {g : Nat} (h : BZ w g) (hb : Below w.heap.size w w') : BZ w' g := (hb.block g h.lt).trans h
theorem BZ.up {w : World} {g : Nat} (h : BZ w g) (o : Obj) : BZ (w.alloc o) g := h.on (one_up _ _)
theorem BZ.grown {w w' : World} {g g0 : Nat} (h : BZ w g) (hg : w.grownBy w' (some g0)) (hne : g ≠ g0) : BZ w' g := (hg.block g h.lt (fun e => hne (by first | exact Option.some.inj e | exact (Option.some.inj e).symm))).trans h
theorem BZ.drew {w : World} {g : Nat} (h : BZ w g) : BZ w.drew g := h
theorem BZ.cells {w : World} {g : Nat} (h : BZ w g) : (w.cell? ⟨g, 0, none⟩ = some (.int .i64 0) ∧ w.cell? ⟨g, 1, none⟩ = some (.int .i64 0) ∧ w.cell? ⟨g, 2, none⟩ = some (.int .i64 0) ∧ w.cell? ⟨g, 3, none⟩ = some (.int .i64 0) ∧ w.cell? ⟨g, 4, none⟩ = some (.int .i64 0) ∧ w.cell? ⟨g, 5, none⟩ = some (.slice none 0 0)) ∧
    w.frozen? ⟨g, 0, none⟩ = false ∧ w.frozen? ⟨g, 1, none⟩ = false ∧ w.frozen? ⟨g, 2, none⟩ = false ∧ w.frozen? ⟨g, 3, none⟩ = false ∧ w.frozen? ⟨g, 4, none⟩ = false ∧ w.frozen? ⟨g, 5, none⟩ = false := by
  unfold BZ at h
  refine ⟨⟨?_, ?_, ?_, ?_, ?_, ?_⟩, ?_, ?_, ?_, ?_, ?_, ?_⟩ <;> simp [World.cell?, World.frozen?, h]
/-- Six cells. -/
def BoxT (U : World) (g : Nat) (a b c d e f : Value) : Prop := U.cell? ⟨g, 0, none⟩ = some a ∧ U.cell? ⟨g, 1, none⟩ = some b ∧ U.cell? ⟨g, 2, none⟩ = some c ∧ U.cell? ⟨g, 3, none⟩ = some d ∧ U.cell? ⟨g, 4, none⟩ = some e ∧ U.cell? ⟨g, 5, none⟩ = some f
/-- A new box of a Store. -/
def LoneT (V U : World) (g : Nat) (a b c d e f : Value) : Prop := BoxT U g a b c d e f ∧ Below V.heap.size V U ∧ V.heap.size ≤ g
end Go.Proofs.YtpidpebgeblenaaGreat

/-
  The contracts of the fourteenth reference: Of.
-/
namespace Go.Proofs.YtpidpebgeblenaaGreat
open Go.RowKit
set_option linter.unusedVariables false
set_option linter.unusedSimpArgs false

/-- The lesser of two, behind a name. -/
def mn2 (a b : Int) : Int := min a b
theorem mn2_run {P : Program} (w : World) (ts : Array TypeId) (t : TypeId) (a b : Int) : (Builtin.min_ ts t #[.int .i64 a, .int .i64 b]).run P w = .ok (.int .i64 (mn2 a b)) w := by
  rw [run_min_int2]
  congr 2
  unfold mn2
  split <;> omega
attribute [local go_sem ↓] mn2_run
theorem row_i64_14 {L : List Int} (hi : ∀ x ∈ L, I64 x) (hm : ∀ x ∈ L, x ≠ -9223372036854775808) : ∀ j : Nat, I64 (L[j]?.getD 0) ∧ L[j]?.getD 0 ≠ -9223372036854775808 := by
  intro j
  rcases Nat.lt_or_ge j L.length with h | h
  · exact ⟨hi _ (mem_at h), hm _ (mem_at h)⟩
  · rw [List.getElem?_eq_none h]; exact ⟨i64_z, by show (0 : Int) ≠ _; omega⟩
theorem cells_new (w : World) (cs : Array Value) (e : TypeId) : ∀ j u, cs.toList[j]? = some u → (w.alloc (.cells cs e)).cell? ((⟨w.heap.size, 0, none⟩ : Addr).add j) = some u := by
  intro j u h
  rw [addr_add]
  have h2 : cs[j]? = some u := by rw [← Array.getElem?_toList]; exact h
  rw [cell_of_row (w.alloc (.cells cs e)) w.heap.size (0 + j) cs e _ (heap_alloc_new w _), Nat.zero_add]
  exact h2
theorem cutL_eq {s : Nat} {L : List Int} {i a k : Nat} (ha : i * s = a) (hk : k = min s (L.length - a)) : (L.drop a).take k = cutL s L i := by
  unfold cutL
  rw [ha, hk]
  rcases Nat.le_total s (L.length - a) with h | h
  · rw [Nat.min_eq_left h]
  · rw [Nat.min_eq_right h, List.take_of_length_le (by rw [List.length_drop]; exact Nat.le_refl _), List.take_of_length_le (by rw [List.length_drop]; exact h)]

end Go.Proofs.YtpidpebgeblenaaGreat

/-
  The contracts of the fourteenth reference: Same.
-/
namespace Go.Proofs.YtpidpebgeblenaaGreat
set_option maxRecDepth 100000
set_option maxHeartbeats 8000000
open Go.RowKit
set_option linter.unusedVariables false
set_option linter.unusedSimpArgs false

theorem keep_eq (a b c d a' b' c' d' : Int) (w : World) : (Op.equalIn 10000 23 (.agg #[.int .i64 a, .int .i64 b, .int .i64 c, .int .i64 d]) (.agg #[.int .i64 a', .int .i64 b', .int .i64 c', .int .i64 d'])).run Tryz.prog w = .ok (decide (a = a' ∧ b = b' ∧ c = c' ∧ d = d')) w := by
  have u1 := Tryz.underlying3
  have u2 := Tryz.underlying2
  rw [show (10000 : Nat) = 9998 + 1 + 1 from rfl, run_equalIn_agg w (9998 + 1) 23 _ _ (by kernel_rfl) (by kernel_rfl)]
  rw [show Tryz.prog.fieldsOf 23 = (match Tryz.prog.underlying 23 with | some (.struct fs) => fs | _ => #[]) from rfl, Tryz.underlying23]
  go_simp
  by_cases h1 : a = a' <;> by_cases h2 : b = b' <;> by_cases h3 : c = c' <;> by_cases h4 : d = d' <;> simp [h1, h2, h3, h4]
theorem bk_eq (x y : Bk) : decide (x.1 = y.1 ∧ x.2.1 = y.2.1 ∧ x.2.2.1 = y.2.2.1 ∧ x.2.2.2 = y.2.2.2) = decide (x = y) := by
  refine decide_eq_decide.2 ⟨fun h => ?_, fun h => by rw [h]; exact ⟨rfl, rfl, rfl, rfl⟩⟩
  obtain ⟨a, b, c, d⟩ := x
  obtain ⟨a', b', c', d'⟩ := y
  obtain ⟨h1, h2, h3, h4⟩ := h
  simp only at h1 h2 h3 h4
  subst h1 h2 h3 h4
  rfl

attribute [local go_sem ↓] keep_eq
theorem rSame14_k {w : World} {kk ks km ko lg kk' ks' km' ko' lg' : Int} {A B : Option Addr} {n c m d : Nat} (hk : ¬ (kk = kk' ∧ ks = ks' ∧ km = km' ∧ ko = ko')) :
    Calls Tryz.prog 13 #[.agg #[.int .i64 kk, .int .i64 ks, .int .i64 km, .int .i64 ko, .int .i64 lg, .slice A n c], .agg #[.int .i64 kk', .int .i64 ks', .int .i64 km', .int .i64 ko', .int .i64 lg', .slice B m d]] w (GotV w (.bool false)) := by
  have tk : decide (kk = kk' ∧ ks = ks' ∧ km = km' ∧ ko = ko') = false := decide_eq_false hk
  clear hk
  have cc := Below.refl w.heap.size w
  have KE := keep_eq
  go_enter Tryz.func13, Tryz.ntmps13
  go_upto_region 1 with fail
  generalize hv_ : (w.alloc (.cells #[.int .i64 kk, .int .i64 ks, .int .i64 km, .int .i64 ko, .int .i64 lg, .slice A n c] 26)).alloc (.cells #[.int .i64 kk', .int .i64 ks', .int .i64 km', .int .i64 ko', .int .i64 lg', .slice B m d] 26) = v1
  have bA : Below w.heap.size w v1 := by rw [← hv_]; exact (((Below.refl _ w).alloc (by simp) _).alloc (by simp) _)
  replace cc := bK cc bA
  clear bA
  obtain ⟨xa0, xa1, xa2, xa3, xa4, xa5⟩ : Cs6 v1 w.heap.size (.int .i64 kk) (.int .i64 ks) (.int .i64 km) (.int .i64 ko) (.int .i64 lg) (.slice A n c) := by simp [Cs6, ← hv_, go_sem]
  have xal : w.heap.size < v1.heap.size := by simp [← hv_] <;> omega
  obtain ⟨xb0, xb1, xb2, xb3, xb4, xb5⟩ : Cs6 v1 (w.heap.size + 1) (.int .i64 kk') (.int .i64 ks') (.int .i64 km') (.int .i64 ko') (.int .i64 lg') (.slice B m d) := by simp [Cs6, ← hv_, go_sem]
  have xbl : w.heap.size + 1 < v1.heap.size := by simp [← hv_] <;> omega
  clear hv_
  go_wp2_with fail
  go_ret
  exact ⟨rfl, cc⟩

theorem rSame14_l {w : World} {kk ks km ko lg kk' ks' km' ko' lg' : Int} {A B : Option Addr} {n c m d : Nat} (hk : kk = kk' ∧ ks = ks' ∧ km = km' ∧ ko = ko') (hl : lg ≠ lg') :
    Calls Tryz.prog 13 #[.agg #[.int .i64 kk, .int .i64 ks, .int .i64 km, .int .i64 ko, .int .i64 lg, .slice A n c], .agg #[.int .i64 kk', .int .i64 ks', .int .i64 km', .int .i64 ko', .int .i64 lg', .slice B m d]] w (GotV w (.bool false)) := by
  have tk : decide (kk = kk' ∧ ks = ks' ∧ km = km' ∧ ko = ko') = true := decide_eq_true hk
  have t1 : (lg == lg') = false := beq_eq_false_iff_ne.2 hl
  have t2 : (lg != lg') = true := by simp; exact hl
  clear hk hl
  have cc := Below.refl w.heap.size w
  have KE := keep_eq
  go_enter Tryz.func13, Tryz.ntmps13
  go_upto_region 1 with fail
  generalize hv_ : (w.alloc (.cells #[.int .i64 kk, .int .i64 ks, .int .i64 km, .int .i64 ko, .int .i64 lg, .slice A n c] 26)).alloc (.cells #[.int .i64 kk', .int .i64 ks', .int .i64 km', .int .i64 ko', .int .i64 lg', .slice B m d] 26) = v1
  have bA : Below w.heap.size w v1 := by rw [← hv_]; exact (((Below.refl _ w).alloc (by simp) _).alloc (by simp) _)
  replace cc := bK cc bA
  clear bA
  obtain ⟨xa0, xa1, xa2, xa3, xa4, xa5⟩ : Cs6 v1 w.heap.size (.int .i64 kk) (.int .i64 ks) (.int .i64 km) (.int .i64 ko) (.int .i64 lg) (.slice A n c) := by simp [Cs6, ← hv_, go_sem]
  have xal : w.heap.size < v1.heap.size := by simp [← hv_] <;> omega
  obtain ⟨xb0, xb1, xb2, xb3, xb4, xb5⟩ : Cs6 v1 (w.heap.size + 1) (.int .i64 kk') (.int .i64 ks') (.int .i64 km') (.int .i64 ko') (.int .i64 lg') (.slice B m d) := by simp [Cs6, ← hv_, go_sem]
  have xbl : w.heap.size + 1 < v1.heap.size := by simp [← hv_] <;> omega
  clear hv_
  go_wp2_with fail
  go_ret
  exact ⟨rfl, cc⟩

theorem rSame14_n {w : World} {kk ks km ko lg kk' ks' km' ko' lg' : Int} {A B : Option Addr} {n c m d : Nat} (hk : kk = kk' ∧ ks = ks' ∧ km = km' ∧ ko = ko') (hl : lg = lg') (hnm : n ≠ m) :
    Calls Tryz.prog 13 #[.agg #[.int .i64 kk, .int .i64 ks, .int .i64 km, .int .i64 ko, .int .i64 lg, .slice A n c], .agg #[.int .i64 kk', .int .i64 ks', .int .i64 km', .int .i64 ko', .int .i64 lg', .slice B m d]] w (GotV w (.bool false)) := by
  have tk : decide (kk = kk' ∧ ks = ks' ∧ km = km' ∧ ko = ko') = true := decide_eq_true hk
  have e1 : ((n : Int) == (m : Int)) = false := beq_eq_false_iff_ne.2 (by omega)
  have e2 : ((n : Int) != (m : Int)) = true := by simp; omega
  have e3 : (n == m) = false := beq_eq_false_iff_ne.2 hnm
  have e4 : (n != m) = true := by simp; omega
  subst hl
  clear hk hnm
  have cc := Below.refl w.heap.size w
  have KE := keep_eq
  go_enter Tryz.func13, Tryz.ntmps13
  go_upto_region 1 with fail
  generalize hv_ : (w.alloc (.cells #[.int .i64 kk, .int .i64 ks, .int .i64 km, .int .i64 ko, .int .i64 lg, .slice A n c] 26)).alloc (.cells #[.int .i64 kk', .int .i64 ks', .int .i64 km', .int .i64 ko', .int .i64 lg, .slice B m d] 26) = v1
  have bA : Below w.heap.size w v1 := by rw [← hv_]; exact (((Below.refl _ w).alloc (by simp) _).alloc (by simp) _)
  replace cc := bK cc bA
  clear bA
  obtain ⟨xa0, xa1, xa2, xa3, xa4, xa5⟩ : Cs6 v1 w.heap.size (.int .i64 kk) (.int .i64 ks) (.int .i64 km) (.int .i64 ko) (.int .i64 lg) (.slice A n c) := by simp [Cs6, ← hv_, go_sem]
  have xal : w.heap.size < v1.heap.size := by simp [← hv_] <;> omega
  obtain ⟨xb0, xb1, xb2, xb3, xb4, xb5⟩ : Cs6 v1 (w.heap.size + 1) (.int .i64 kk') (.int .i64 ks') (.int .i64 km') (.int .i64 ko') (.int .i64 lg) (.slice B m d) := by simp [Cs6, ← hv_, go_sem]
  have xbl : w.heap.size + 1 < v1.heap.size := by simp [← hv_] <;> omega
  clear hv_
  go_wp2_with fail
  go_ret
  exact ⟨rfl, cc⟩

theorem rSame14_eq {w : World} {kk ks km ko lg kk' ks' km' ko' lg' : Int} {A B : Option Addr} {n c m d : Nat} (hk : kk = kk' ∧ ks = ks' ∧ km = km' ∧ ko = ko') (hl : lg = lg') (hnm : n = m) {L K : List Bk} (hA : KR w A n c L) (hB : KR w B m d K) (hn : n ≤ 9223372036854775807) :
    Calls Tryz.prog 13 #[.agg #[.int .i64 kk, .int .i64 ks, .int .i64 km, .int .i64 ko, .int .i64 lg, .slice A n c], .agg #[.int .i64 kk', .int .i64 ks', .int .i64 km', .int .i64 ko', .int .i64 lg', .slice B m d]] w (GotV w (.bool (decide (L = K)))) := by
  have tk : decide (kk = kk' ∧ ks = ks' ∧ km = km' ∧ ko = ko') = true := decide_eq_true hk
  subst hl
  subst hnm
  have HN := Lib.hid hn
  obtain ⟨R, hR⟩ : ∃ R, decide (L = K) = R := ⟨_, rfl⟩
  rw [hR]
  have HR := Lib.hid hR
  clear hR hk hn
  have cc := Below.refl w.heap.size w
  have KE := keep_eq
  go_enter Tryz.func13, Tryz.ntmps13
  go_upto_region 1 with fail
  generalize hv_ : (w.alloc (.cells #[.int .i64 kk, .int .i64 ks, .int .i64 km, .int .i64 ko, .int .i64 lg, .slice A n c] 26)).alloc (.cells #[.int .i64 kk', .int .i64 ks', .int .i64 km', .int .i64 ko', .int .i64 lg, .slice B n d] 26) = v1
  have bA : Below w.heap.size w v1 := by rw [← hv_]; exact (((Below.refl _ w).alloc (by simp) _).alloc (by simp) _)
  replace hA := hA.on bA
  replace hB := hB.on bA
  replace cc := bK cc bA
  clear bA
  obtain ⟨xa0, xa1, xa2, xa3, xa4, xa5⟩ : Cs6 v1 w.heap.size (.int .i64 kk) (.int .i64 ks) (.int .i64 km) (.int .i64 ko) (.int .i64 lg) (.slice A n c) := by simp [Cs6, ← hv_, go_sem]
  have xal : w.heap.size < v1.heap.size := by simp [← hv_] <;> omega
  obtain ⟨xb0, xb1, xb2, xb3, xb4, xb5⟩ : Cs6 v1 (w.heap.size + 1) (.int .i64 kk') (.int .i64 ks') (.int .i64 km') (.int .i64 ko') (.int .i64 lg) (.slice B n d) := by simp [Cs6, ← hv_, go_sem]
  have xbl : w.heap.size + 1 < v1.heap.size := by simp [← hv_] <;> omega
  clear hv_
  have Xa5 := Lib.hid xa5
  have Xb5 := Lib.hid xb5
  have XAL := Lib.hid xal
  have XBL := Lib.hid xbl
  have CCV := Lib.hid cc
  have HAV := Lib.hid hA
  have HBV := Lib.hid hB
  go_wp2_with fail
  clear xa0 xb0 xa1 xb1 xa2 xb2 xa3 xb3 xa4 xb4 xa5 xb5 xal xbl cc hA hB
  go_loopw [5] (fun iv wr => ∃ i : Nat, i ≤ n ∧ iv = .int .i64 (i : Int) ∧ (∀ j, j < i → L[j]?.getD bk0 = K[j]?.getD bk0) ∧ Below v1.heap.size v1 wr) (fun iv _ => n - (intOf iv).toNat)
  case atStart => exact ⟨0, by omega, rfl, fun j h => absurd h (by omega), Below.refl _ _⟩
  case round =>
    obtain ⟨i, hi, rfl, hj, hbl⟩ := hrel
    have xa5 := (hbl.cell (p := ⟨w.heap.size, 5, none⟩) XAL.out).trans Xa5.out
    have xb5 := (hbl.cell (p := ⟨w.heap.size + 1, 5, none⟩) XBL.out).trans Xb5.out
    have cc := CCV.out.trans (hbl.mono CCV.out.size)
    have l1 := HAV.out.1
    have l2 := HBV.out.1
    by_cases hlt : i < n
    · obtain ⟨b1, o1, rfl, hb1⟩ := HAV.out.some (by omega)
      obtain ⟨b2, o2, rfl, hb2⟩ := HBV.out.some (by omega)
      obtain ⟨A1, n1, c1, B1, m1, d1, g0, g1, g2, g3, hC, hW, hn1, hm1, hs1, hz1⟩ := kr_at (HAV.out.on hbl) hlt
      obtain ⟨A2, n2, c2, B2, m2, d2, f0, f1, f2, f3, hC2, hW2, hn2, hm2, hs2, hz2⟩ := kr_at (HBV.out.on hbl) hlt
      have bD : Below wr.heap.size wr wr.drew := below_drewN (Below.refl _ _) 1
      have CS0 := rSame_N (ka := (L[i]?.getD bk0).1) (sa := (L[i]?.getD bk0).2.1) (kb := (K[i]?.getD bk0).1) (sb := (K[i]?.getD bk0).2.1) (hC.on bD) (hW.on bD) hn1 hm1 (hC2.on bD) (hW2.on bD) hn2 hm2
      rw [bk_eq] at CS0
      obtain ⟨q, hq⟩ : ∃ q, decide (L[i]?.getD bk0 = K[i]?.getD bk0) = q := ⟨_, rfl⟩
      rw [hq] at CS0
      obtain ⟨x, hx⟩ : ∃ x, L[i]?.getD bk0 = x := ⟨_, rfl⟩
      obtain ⟨y, hy⟩ : ∃ y, K[i]?.getD bk0 = y := ⟨_, rfl⟩
      rw [hx] at CS0 g0 g1 hq
      rw [hy] at CS0 f0 f1 hq
      have k3 : IntKind.i64.wrap ((i : Int) + 1) = ((i + 1 : Nat) : Int) := by rw [IntWalk.i64_in _ (by have := HN.out; omega)]; omega
      have jl : (i : Int) < (n : Int) := by omega
      obtain ⟨x1, ex1⟩ : ∃ v, x.1 = v := ⟨_, rfl⟩
      obtain ⟨x2, ex2⟩ : ∃ v, x.2.1 = v := ⟨_, rfl⟩
      obtain ⟨y1, ey1⟩ : ∃ v, y.1 = v := ⟨_, rfl⟩
      obtain ⟨y2, ey2⟩ : ∃ v, y.2.1 = v := ⟨_, rfl⟩
      rw [ex1] at CS0 g0
      rw [ex2] at CS0 g1
      rw [ey1] at CS0 f0
      rw [ey2] at CS0 f1
      clear hC hW hn1 hm1 hC2 hW2 hn2 hm2 hs1 hz1 hs2 hz2 ex1 ex2 ey1 ey2
      have qa : w.heap.size < wr.heap.size := Nat.lt_of_lt_of_le XAL.out hbl.size
      have qb : w.heap.size + 1 < wr.heap.size := Nat.lt_of_lt_of_le XBL.out hbl.size
      have q1 : b1 < wr.heap.size := Nat.lt_of_lt_of_le hb1 hbl.size
      have q2 : b2 < wr.heap.size := Nat.lt_of_lt_of_le hb2 hbl.size
      by_cases hxy : x = y
      · have hq1 : q = true := by rw [← hq]; exact decide_eq_true hxy
        subst hq1
        have HJ : Hid (∀ j, j < i + 1 → L[j]?.getD bk0 = K[j]?.getD bk0) := Lib.hid (fun j h => by
          rcases Nat.lt_or_ge j i with e | e
          · exact hj j e
          · have e2 : j = i := by omega
            rw [e2, hx, hy, hxy])
        clear hj hx hy l1 l2 hq hxy hb1 hb2
        go_wp2_with fail
        go_region_held3 (fun w' => w'.cell? ⟨w.heap.size, 5, none⟩ = some (.slice (some ⟨b1, o1, none⟩) n c) ∧ w'.cell? ⟨w.heap.size + 1, 5, none⟩ = some (.slice (some ⟨b2, o2, none⟩) n d) ∧ w'.cell? ⟨b1, o1 + i * 4, none⟩ = some (.int .i64 x1) ∧ w'.cell? ⟨b1, o1 + i * 4 + 1, none⟩ = some (.int .i64 x2) ∧ w'.cell? ⟨b1, o1 + i * 4 + 2, none⟩ = some (.slice A1 n1 c1) ∧ w'.cell? ⟨b1, o1 + i * 4 + 3, none⟩ = some (.slice B1 m1 d1) ∧ w'.cell? ⟨b2, o2 + i * 4, none⟩ = some (.int .i64 y1) ∧ w'.cell? ⟨b2, o2 + i * 4 + 1, none⟩ = some (.int .i64 y2) ∧ w'.cell? ⟨b2, o2 + i * 4 + 2, none⟩ = some (.slice A2 n2 c2) ∧ w'.cell? ⟨b2, o2 + i * 4 + 3, none⟩ = some (.slice B2 m2 d2))
          (first | exact ⟨xa5, xb5, g0, g1, g2, g3, f0, f1, f2, f3⟩ | exact ⟨(qq.cell qa).trans xa5, (qq.cell qb).trans xb5, (qq.cell q1).trans g0, (qq.cell q1).trans g1, (qq.cell q1).trans g2, (qq.cell q1).trans g3, (qq.cell q2).trans f0, (qq.cell q2).trans f1, (qq.cell q2).trans f2, (qq.cell q2).trans f3⟩ | go_keep)
          (first | (go_at_call 31; refine CS0.mono ?_; rintro e y9 ⟨rfl, b⟩; have qq : Below wr.heap.size wr y9 := bD.trans (b.mono bD.size); clear b))
        go_wp2_with fail
        go_roundw
        case rel => exact ⟨i + 1, by omega, by go_num, HJ.out, hbl.trans (qq.mono hbl.size)⟩
        case measure => simp [intOf] <;> omega
      · have hq1 : q = false := by rw [← hq]; exact decide_eq_false hxy
        subst hq1
        have hF : R = false := by rw [← HR.out]; exact decide_eq_false (fun h => hxy (by rw [← hx, ← hy, h]))
        subst hF
        clear hj hx hy l1 l2 hq hxy hb1 hb2 HR
        go_wp2_with fail
        go_region_held3 (fun w' => w'.cell? ⟨w.heap.size, 5, none⟩ = some (.slice (some ⟨b1, o1, none⟩) n c) ∧ w'.cell? ⟨w.heap.size + 1, 5, none⟩ = some (.slice (some ⟨b2, o2, none⟩) n d) ∧ w'.cell? ⟨b1, o1 + i * 4, none⟩ = some (.int .i64 x1) ∧ w'.cell? ⟨b1, o1 + i * 4 + 1, none⟩ = some (.int .i64 x2) ∧ w'.cell? ⟨b1, o1 + i * 4 + 2, none⟩ = some (.slice A1 n1 c1) ∧ w'.cell? ⟨b1, o1 + i * 4 + 3, none⟩ = some (.slice B1 m1 d1) ∧ w'.cell? ⟨b2, o2 + i * 4, none⟩ = some (.int .i64 y1) ∧ w'.cell? ⟨b2, o2 + i * 4 + 1, none⟩ = some (.int .i64 y2) ∧ w'.cell? ⟨b2, o2 + i * 4 + 2, none⟩ = some (.slice A2 n2 c2) ∧ w'.cell? ⟨b2, o2 + i * 4 + 3, none⟩ = some (.slice B2 m2 d2))
          (first | exact ⟨xa5, xb5, g0, g1, g2, g3, f0, f1, f2, f3⟩ | exact ⟨(qq.cell qa).trans xa5, (qq.cell qb).trans xb5, (qq.cell q1).trans g0, (qq.cell q1).trans g1, (qq.cell q1).trans g2, (qq.cell q1).trans g3, (qq.cell q2).trans f0, (qq.cell q2).trans f1, (qq.cell q2).trans f2, (qq.cell q2).trans f3⟩ | go_keep)
          (first | (go_at_call 31; refine CS0.mono ?_; rintro e y9 ⟨rfl, b⟩; have qq : Below wr.heap.size wr y9 := bD.trans (b.mono bD.size); clear b))
        go_wp2_with fail
        go_ret
        exact ⟨rfl, cc.trans (qq.mono cc.size)⟩
    · obtain rfl : i = n := by omega
      have hE : R = true := by
        rw [← HR.out]
        refine decide_eq_true (List.ext_getElem (by omega) fun j h1 h2 => ?_)
        have := hj j (by omega)
        rwa [List.getElem?_eq_getElem h1, List.getElem?_eq_getElem h2] at this
      subst hE
      clear hj l1 l2 HR
      go_wp2_with fail
      go_ret
      exact ⟨rfl, cc⟩

theorem rSame14_N {w : World} {kk ks km ko lg kk' ks' km' ko' lg' : Int} {A B : Option Addr} {n c m d : Nat} {L K : List Bk} (hA : KR w A n c L) (hB : KR w B m d K) (hn : n ≤ 9223372036854775807) : Calls Tryz.prog 13 #[.agg #[.int .i64 kk, .int .i64 ks, .int .i64 km, .int .i64 ko, .int .i64 lg, .slice A n c], .agg #[.int .i64 kk', .int .i64 ks', .int .i64 km', .int .i64 ko', .int .i64 lg', .slice B m d]] w (GotV w (.bool (decide ((kk = kk' ∧ ks = ks' ∧ km = km' ∧ ko = ko') ∧ lg = lg' ∧ L = K)))) := by
  by_cases hk : kk = kk' ∧ ks = ks' ∧ km = km' ∧ ko = ko'
  · by_cases hl : lg = lg'
    · by_cases hnm : n = m
      · rw [show decide ((kk = kk' ∧ ks = ks' ∧ km = km' ∧ ko = ko') ∧ lg = lg' ∧ L = K) = decide (L = K) from decide_eq_decide.2 ⟨fun h => h.2.2, fun h => ⟨hk, hl, h⟩⟩]
        exact rSame14_eq hk hl hnm hA hB hn
      · rw [decide_eq_false (fun h => hnm (by rw [hA.1, hB.1, h.2.2]))]
        exact rSame14_n hk hl hnm
    · rw [decide_eq_false (fun h => hl h.2.1)]
      exact rSame14_l hk hl
  · rw [decide_eq_false (fun h => hk h.1)]
    exact rSame14_k hk

end Go.Proofs.YtpidpebgeblenaaGreat

/-
  What a row is kept as; Of of the fourteenth reference, for any Keep.
-/
namespace Go.Proofs.YtpidpebgeblenaaGreat
open Go.RowKit
set_option linter.unusedVariables false
set_option linter.unusedSimpArgs false

/-- May a row be kept? What it is kept as. -/
def OkT (kk ks km ko : Int) (L : List Int) : Prop := OkK kk ks km ko ∧ OkO kk km ko L.length ks.toNat L (nbk ks.toNat L.length)
def ofT (kk ks km ko : Int) (L : List Int) : List Bk := ofL kk km ko L.length ks.toNat L (nbk ks.toNat L.length)
theorem okT_size {kk ks km ko : Int} {L : List Int} (h : OkT kk ks km ko L) : 1 ≤ ks.toNat ∧ ks.toNat ≤ 4096 ∧ ((ks.toNat : Nat) : Int) = ks ∧ (0 ≤ kk ∧ kk ≤ 3) := by have := h.1; unfold OkK at this; omega
theorem okT_right {kk ks km ko : Int} {L : List Int} (h : OkT kk ks km ko L) (hl : L.length ≤ 4096) : OkS kk ks km ko L.length (ofT kk ks km ko L) := by
  obtain ⟨_, _, e, _⟩ := okT_size h
  have := okS_of (kk := kk) (km := km) (ko := ko) (s := ks.toNat) (L := L) (by rw [e]; exact h.1) hl h.2
  rw [e] at this
  exact this
theorem ofT_len (kk ks km ko : Int) (L : List Int) : (ofT kk ks km ko L).length = nbk ks.toNat L.length := ofL_len _ _ _ _ _ _ _
theorem nbk_le {s n : Nat} (hs : 1 ≤ s) : nbk s n ≤ n := by
  rcases Nat.lt_or_ge n (nbk s n) with h | h
  · have h1 := (nbk_lt (s := s) (n := n) (i := n) hs).1 h
    have h2 := Nat.le_mul_of_pos_right n (show 0 < s by omega)
    omega
  · exact h
end Go.Proofs.YtpidpebgeblenaaGreat
