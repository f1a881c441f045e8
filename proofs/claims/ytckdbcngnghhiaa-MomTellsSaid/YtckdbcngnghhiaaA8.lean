/-
  Several texts in one: C17c.
-/
import Derived.Test.YtckdbcngnghhiaaA7
import Derived.Test.YtckdbcngnghhiaaA5

/-
  The seventeenth reference: the regions of a step that draw their order.
-/
namespace Go.Proofs.Ytckdbcngnghhiaa
set_option maxRecDepth 100000
set_option maxHeartbeats 8000000
open Go.RowKit
set_option linter.unusedVariables false
set_option linter.unusedSimpArgs false

def rg_stepR1 : { o : Array Oper // regOf 1 Try.f25 = o } := ⟨_, by
  simp only [regOf, regIn, Try.f25, reduceIte, Nat.reduceEqDiff, Option.or, Option.getD, Nat.one_ne_zero, Nat.zero_ne_one]
  rfl⟩
theorem stepR1 {V : World} {C : Nat} {Q : Exit → Act → World → Prop} {u0 u1 u2 u3 u4 u6 u7 u8 u9 u10 u11 u12 u13 u14 u15 u16 u17 u18 u19 u20 u21 u22 u23 u24 u25 u26 u27 u28 u29 u30 u31 u32 u33 u34 u35 u36 u37 u38 u39 u40 u41 u42 u43 u44 u45 u46 u47 u48 u49 u50 u51 u52 u53 u54 u55 u56 u57 u58 : Value} {bl : Nat} {x0 x1 x2 : Int} (hP : ∀ c (a : Act) (d : Option Tmp) (v : Value) (w : World), Q (.panic c) (a.put d v) w → Q (.panic c) a w) (hC : C ≤ V.heap.size) (zbl : V.heap[bl]? = some (.cells #[.int .i64 x0, .int .i64 x1, .int .i64 x2] 61)) (hQ : ∀ (W : World) (ga gb gc : Nat), Below C V W → W.heap[bl]? = some (.cells #[.int .i64 x0, .int .i64 x1, .int .i64 x2] 61) → W.heap[ga]? = some (.cells #[.int .i64 x0, .bool true] 58) → W.heap[gb]? = some (.cells #[.int .i64 x1, .bool true] 58) → W.heap[gc]? = some (.cells #[.int .i64 x2, .bool true] 58) → C ≤ ga → C ≤ gb → C ≤ gc → Q .normal { tmps := #[u0, u1, u2, u3, u4, .pointer (some ⟨bl, 0, none⟩), u6, u7, .pointer (some ⟨ga, 0, none⟩), .pointer (some ⟨gb, 0, none⟩), .pointer (some ⟨gc, 0, none⟩), u11, u12, u13, .pointer (some ⟨bl, 0, none⟩), .int .i64 x0, .agg #[.int .i64 x0, .bool true], .pointer (some ⟨bl, 1, none⟩), .int .i64 x1, .agg #[.int .i64 x1, .bool true], .pointer (some ⟨bl, 2, none⟩), .int .i64 x2, .agg #[.int .i64 x2, .bool true], u23, u24, u25, u26, u27, u28, u29, u30, u31, u32, u33, u34, u35, u36, u37, u38, u39, u40, u41, u42, u43, u44, u45, u46, u47, u48, u49, u50, u51, u52, u53, u54, u55, u56, u57, u58], defers := [] } W) :
    (Code.region 1 rg_stepR1.1 true).wp Try.prog Q { tmps := #[u0, u1, u2, u3, u4, .pointer (some ⟨bl, 0, none⟩), u6, u7, u8, u9, u10, u11, u12, u13, u14, u15, u16, u17, u18, u19, u20, u21, u22, u23, u24, u25, u26, u27, u28, u29, u30, u31, u32, u33, u34, u35, u36, u37, u38, u39, u40, u41, u42, u43, u44, u45, u46, u47, u48, u49, u50, u51, u52, u53, u54, u55, u56, u57, u58], defers := [] } V := by
  have HS : ∀ W : World, Below C V W → W.heap[bl]? = some (.cells #[.int .i64 x0, .int .i64 x1, .int .i64 x2] 61) → (fun w' : World => w'.cell? ⟨bl, 0, none⟩ = some (.int .i64 x0) ∧ w'.cell? ⟨bl, 1, none⟩ = some (.int .i64 x1) ∧ w'.cell? ⟨bl, 2, none⟩ = some (.int .i64 x2)) W := fun W yb ybl => ⟨cell_of_row W bl 0 #[.int .i64 x0, .int .i64 x1, .int .i64 x2] 61 _ ybl, cell_of_row W bl 1 #[.int .i64 x0, .int .i64 x1, .int .i64 x2] 61 _ ybl, cell_of_row W bl 2 #[.int .i64 x0, .int .i64 x1, .int .i64 x2] 61 _ ybl⟩
  have s_111111111 : ∀ (W : World) (ga gb gc : Nat), Below C V W → W.heap[bl]? = some (.cells #[.int .i64 x0, .int .i64 x1, .int .i64 x2] 61) → W.heap[ga]? = some (.cells #[.int .i64 x0, .bool true] 58) → W.heap[gb]? = some (.cells #[.int .i64 x1, .bool true] 58) → W.heap[gc]? = some (.cells #[.int .i64 x2, .bool true] 58) → C ≤ ga → C ≤ gb → C ≤ gc → bl ≠ ga → bl ≠ gb → ga ≠ gb → bl ≠ gc → ga ≠ gc → gb ≠ gc → wpAnyH Try.prog .any rg_stepR1.1 Q (fun w' => w'.cell? ⟨bl, 0, none⟩ = some (.int .i64 x0) ∧ w'.cell? ⟨bl, 1, none⟩ = some (.int .i64 x1) ∧ w'.cell? ⟨bl, 2, none⟩ = some (.int .i64 x2)) 0 #[true, true, true, true, true, true, true, true, true, true, true, true, true, true, true] { tmps := #[u0, u1, u2, u3, u4, .pointer (some ⟨bl, 0, none⟩), u6, u7, .pointer (some ⟨ga, 0, none⟩), .pointer (some ⟨gb, 0, none⟩), .pointer (some ⟨gc, 0, none⟩), u11, u12, u13, .pointer (some ⟨bl, 0, none⟩), .int .i64 x0, .agg #[.int .i64 x0, .bool true], .pointer (some ⟨bl, 1, none⟩), .int .i64 x1, .agg #[.int .i64 x1, .bool true], .pointer (some ⟨bl, 2, none⟩), .int .i64 x2, .agg #[.int .i64 x2, .bool true], u23, u24, u25, u26, u27, u28, u29, u30, u31, u32, u33, u34, u35, u36, u37, u38, u39, u40, u41, u42, u43, u44, u45, u46, u47, u48, u49, u50, u51, u52, u53, u54, u55, u56, u57, u58], defers := [] } W := by
    intro W ga gb gc hb zbl zga zgb zgc mga mgb mgc dbl_ga dbl_gb dga_gb dbl_gc dga_gc dgb_gc
    dsimp only [rg_stepR1]
    exact wpAnyH_done (by kernel_rfl) (hQ W ga gb gc hb zbl zga zgb zgc mga mgb mgc) _
  have s_111111110 : ∀ (W : World) (ga gb gc : Nat), Below C V W → W.heap[bl]? = some (.cells #[.int .i64 x0, .int .i64 x1, .int .i64 x2] 61) → W.heap[ga]? = some (.cells #[.int .i64 x0, .bool true] 58) → W.heap[gb]? = some (.cells #[.int .i64 x1, .bool true] 58) → W.heap[gc]? = some (.cells #[.int .i64 0, .bool false] 58) → C ≤ ga → C ≤ gb → C ≤ gc → bl ≠ ga → bl ≠ gb → ga ≠ gb → bl ≠ gc → ga ≠ gc → gb ≠ gc → wpAnyH Try.prog .any rg_stepR1.1 Q (fun w' => w'.cell? ⟨bl, 0, none⟩ = some (.int .i64 x0) ∧ w'.cell? ⟨bl, 1, none⟩ = some (.int .i64 x1) ∧ w'.cell? ⟨bl, 2, none⟩ = some (.int .i64 x2)) 1 #[true, true, true, true, true, true, true, true, true, true, true, true, true, true, false] { tmps := #[u0, u1, u2, u3, u4, .pointer (some ⟨bl, 0, none⟩), u6, u7, .pointer (some ⟨ga, 0, none⟩), .pointer (some ⟨gb, 0, none⟩), .pointer (some ⟨gc, 0, none⟩), u11, u12, u13, .pointer (some ⟨bl, 0, none⟩), .int .i64 x0, .agg #[.int .i64 x0, .bool true], .pointer (some ⟨bl, 1, none⟩), .int .i64 x1, .agg #[.int .i64 x1, .bool true], .pointer (some ⟨bl, 2, none⟩), .int .i64 x2, .agg #[.int .i64 x2, .bool true], u23, u24, u25, u26, u27, u28, u29, u30, u31, u32, u33, u34, u35, u36, u37, u38, u39, u40, u41, u42, u43, u44, u45, u46, u47, u48, u49, u50, u51, u52, u53, u54, u55, u56, u57, u58], defers := [] } W := by
    intro W ga gb gc hb zbl zga zgb zgc mga mgb mgc dbl_ga dbl_gb dga_gb dbl_gc dga_gc dgb_gc
    dsimp only [rg_stepR1]
    refine wpAnyH_ready (rs := [14]) (by kernel_rfl) (by simp) ?_
    refine AllReadyH.cons rfl (fun K hK => ?_) (AllReadyH.nil)
    · (try simp only [pT])
      rw [if_pos (by rfl)]
      have c0 : W.cell? ⟨gc, 0, none⟩ = some (.int .i64 0) := cell_of_row W gc 0 #[.int .i64 0, .bool false] 58 _ zgc
      have f0 : W.frozen? ⟨gc, 0, none⟩ = false := by simp [World.frozen?, zgc]
      have c1 : W.cell? ⟨gc, 1, none⟩ = some (.bool false) := cell_of_row W gc 1 #[.int .i64 0, .bool false] 58 _ zgc
      have f1 : W.frozen? ⟨gc, 1, none⟩ = false := by simp [World.frozen?, zgc]
      go_simp
      refine hK.out _ _ (HS _ ((hb.setCell (p := ⟨gc, 0, none⟩) mgc _).setCell (p := ⟨gc, 1, none⟩) mgc _) (put_far2 zbl dbl_gc)) (fun hHeld => ?_)
      exact s_111111111 ((W.setCell ⟨gc, 0, none⟩ (.int .i64 x2)).setCell ⟨gc, 1, none⟩ (.bool true)) ga gb gc ((hb.setCell (p := ⟨gc, 0, none⟩) mgc _).setCell (p := ⟨gc, 1, none⟩) mgc _) (put_far2 zbl dbl_gc) (put_far2 zga dga_gc) (put_far2 zgb dgb_gc) (put_cells2 zgc) mga mgb mgc dbl_ga dbl_gb dga_gb dbl_gc dga_gc dgb_gc
  have s_111111100 : ∀ (W : World) (ga gb gc : Nat), Below C V W → W.heap[bl]? = some (.cells #[.int .i64 x0, .int .i64 x1, .int .i64 x2] 61) → W.heap[ga]? = some (.cells #[.int .i64 x0, .bool true] 58) → W.heap[gb]? = some (.cells #[.int .i64 0, .bool false] 58) → W.heap[gc]? = some (.cells #[.int .i64 0, .bool false] 58) → C ≤ ga → C ≤ gb → C ≤ gc → bl ≠ ga → bl ≠ gb → ga ≠ gb → bl ≠ gc → ga ≠ gc → gb ≠ gc → wpAnyH Try.prog .any rg_stepR1.1 Q (fun w' => w'.cell? ⟨bl, 0, none⟩ = some (.int .i64 x0) ∧ w'.cell? ⟨bl, 1, none⟩ = some (.int .i64 x1) ∧ w'.cell? ⟨bl, 2, none⟩ = some (.int .i64 x2)) 2 #[true, true, true, true, true, true, true, true, true, true, true, true, true, false, false] { tmps := #[u0, u1, u2, u3, u4, .pointer (some ⟨bl, 0, none⟩), u6, u7, .pointer (some ⟨ga, 0, none⟩), .pointer (some ⟨gb, 0, none⟩), .pointer (some ⟨gc, 0, none⟩), u11, u12, u13, .pointer (some ⟨bl, 0, none⟩), .int .i64 x0, .agg #[.int .i64 x0, .bool true], .pointer (some ⟨bl, 1, none⟩), .int .i64 x1, .agg #[.int .i64 x1, .bool true], .pointer (some ⟨bl, 2, none⟩), .int .i64 x2, .agg #[.int .i64 x2, .bool true], u23, u24, u25, u26, u27, u28, u29, u30, u31, u32, u33, u34, u35, u36, u37, u38, u39, u40, u41, u42, u43, u44, u45, u46, u47, u48, u49, u50, u51, u52, u53, u54, u55, u56, u57, u58], defers := [] } W := by
    intro W ga gb gc hb zbl zga zgb zgc mga mgb mgc dbl_ga dbl_gb dga_gb dbl_gc dga_gc dgb_gc
    dsimp only [rg_stepR1]
    refine wpAnyH_ready (rs := [13]) (by kernel_rfl) (by simp) ?_
    refine AllReadyH.cons rfl (fun K hK => ?_) (AllReadyH.nil)
    · (try simp only [pT])
      rw [if_pos (by rfl)]
      have c0 : W.cell? ⟨gb, 0, none⟩ = some (.int .i64 0) := cell_of_row W gb 0 #[.int .i64 0, .bool false] 58 _ zgb
      have f0 : W.frozen? ⟨gb, 0, none⟩ = false := by simp [World.frozen?, zgb]
      have c1 : W.cell? ⟨gb, 1, none⟩ = some (.bool false) := cell_of_row W gb 1 #[.int .i64 0, .bool false] 58 _ zgb
      have f1 : W.frozen? ⟨gb, 1, none⟩ = false := by simp [World.frozen?, zgb]
      go_simp
      refine hK.out _ _ (HS _ ((hb.setCell (p := ⟨gb, 0, none⟩) mgb _).setCell (p := ⟨gb, 1, none⟩) mgb _) (put_far2 zbl dbl_gb)) (fun hHeld => ?_)
      exact s_111111110 ((W.setCell ⟨gb, 0, none⟩ (.int .i64 x1)).setCell ⟨gb, 1, none⟩ (.bool true)) ga gb gc ((hb.setCell (p := ⟨gb, 0, none⟩) mgb _).setCell (p := ⟨gb, 1, none⟩) mgb _) (put_far2 zbl dbl_gb) (put_far2 zga dga_gb) (put_cells2 zgb) (put_far2 zgc (Ne.symm dgb_gc)) mga mgb mgc dbl_ga dbl_gb dga_gb dbl_gc dga_gc dgb_gc
  have s_111111000 : ∀ (W : World) (ga gb gc : Nat), Below C V W → W.heap[bl]? = some (.cells #[.int .i64 x0, .int .i64 x1, .int .i64 x2] 61) → W.heap[ga]? = some (.cells #[.int .i64 0, .bool false] 58) → W.heap[gb]? = some (.cells #[.int .i64 0, .bool false] 58) → W.heap[gc]? = some (.cells #[.int .i64 0, .bool false] 58) → C ≤ ga → C ≤ gb → C ≤ gc → bl ≠ ga → bl ≠ gb → ga ≠ gb → bl ≠ gc → ga ≠ gc → gb ≠ gc → wpAnyH Try.prog .any rg_stepR1.1 Q (fun w' => w'.cell? ⟨bl, 0, none⟩ = some (.int .i64 x0) ∧ w'.cell? ⟨bl, 1, none⟩ = some (.int .i64 x1) ∧ w'.cell? ⟨bl, 2, none⟩ = some (.int .i64 x2)) 3 #[true, true, true, true, true, true, true, true, true, true, true, true, false, false, false] { tmps := #[u0, u1, u2, u3, u4, .pointer (some ⟨bl, 0, none⟩), u6, u7, .pointer (some ⟨ga, 0, none⟩), .pointer (some ⟨gb, 0, none⟩), .pointer (some ⟨gc, 0, none⟩), u11, u12, u13, .pointer (some ⟨bl, 0, none⟩), .int .i64 x0, .agg #[.int .i64 x0, .bool true], .pointer (some ⟨bl, 1, none⟩), .int .i64 x1, .agg #[.int .i64 x1, .bool true], .pointer (some ⟨bl, 2, none⟩), .int .i64 x2, .agg #[.int .i64 x2, .bool true], u23, u24, u25, u26, u27, u28, u29, u30, u31, u32, u33, u34, u35, u36, u37, u38, u39, u40, u41, u42, u43, u44, u45, u46, u47, u48, u49, u50, u51, u52, u53, u54, u55, u56, u57, u58], defers := [] } W := by
    intro W ga gb gc hb zbl zga zgb zgc mga mgb mgc dbl_ga dbl_gb dga_gb dbl_gc dga_gc dgb_gc
    dsimp only [rg_stepR1]
    refine wpAnyH_ready (rs := [12]) (by kernel_rfl) (by simp) ?_
    refine AllReadyH.cons rfl (fun K hK => ?_) (AllReadyH.nil)
    · (try simp only [pT])
      rw [if_pos (by rfl)]
      have c0 : W.cell? ⟨ga, 0, none⟩ = some (.int .i64 0) := cell_of_row W ga 0 #[.int .i64 0, .bool false] 58 _ zga
      have f0 : W.frozen? ⟨ga, 0, none⟩ = false := by simp [World.frozen?, zga]
      have c1 : W.cell? ⟨ga, 1, none⟩ = some (.bool false) := cell_of_row W ga 1 #[.int .i64 0, .bool false] 58 _ zga
      have f1 : W.frozen? ⟨ga, 1, none⟩ = false := by simp [World.frozen?, zga]
      go_simp
      refine hK.out _ _ (HS _ ((hb.setCell (p := ⟨ga, 0, none⟩) mga _).setCell (p := ⟨ga, 1, none⟩) mga _) (put_far2 zbl dbl_ga)) (fun hHeld => ?_)
      exact s_111111100 ((W.setCell ⟨ga, 0, none⟩ (.int .i64 x0)).setCell ⟨ga, 1, none⟩ (.bool true)) ga gb gc ((hb.setCell (p := ⟨ga, 0, none⟩) mga _).setCell (p := ⟨ga, 1, none⟩) mga _) (put_far2 zbl dbl_ga) (put_cells2 zga) (put_far2 zgb (Ne.symm dga_gb)) (put_far2 zgc (Ne.symm dga_gc)) mga mgb mgc dbl_ga dbl_gb dga_gb dbl_gc dga_gc dgb_gc
  have s_110111000 : ∀ (W : World) (ga gb gc : Nat), Below C V W → W.heap[bl]? = some (.cells #[.int .i64 x0, .int .i64 x1, .int .i64 x2] 61) → W.heap[ga]? = some (.cells #[.int .i64 0, .bool false] 58) → W.heap[gb]? = some (.cells #[.int .i64 0, .bool false] 58) → W.heap[gc]? = some (.cells #[.int .i64 0, .bool false] 58) → C ≤ ga → C ≤ gb → C ≤ gc → bl ≠ ga → bl ≠ gb → ga ≠ gb → bl ≠ gc → ga ≠ gc → gb ≠ gc → wpAnyH Try.prog .any rg_stepR1.1 Q (fun w' => w'.cell? ⟨bl, 0, none⟩ = some (.int .i64 x0) ∧ w'.cell? ⟨bl, 1, none⟩ = some (.int .i64 x1) ∧ w'.cell? ⟨bl, 2, none⟩ = some (.int .i64 x2)) 4 #[true, true, true, true, true, true, true, true, false, true, true, true, false, false, false] { tmps := #[u0, u1, u2, u3, u4, .pointer (some ⟨bl, 0, none⟩), u6, u7, .pointer (some ⟨ga, 0, none⟩), .pointer (some ⟨gb, 0, none⟩), .pointer (some ⟨gc, 0, none⟩), u11, u12, u13, .pointer (some ⟨bl, 0, none⟩), .int .i64 x0, .agg #[.int .i64 x0, .bool true], .pointer (some ⟨bl, 1, none⟩), .int .i64 x1, .agg #[.int .i64 x1, .bool true], .pointer (some ⟨bl, 2, none⟩), .int .i64 x2, u22, u23, u24, u25, u26, u27, u28, u29, u30, u31, u32, u33, u34, u35, u36, u37, u38, u39, u40, u41, u42, u43, u44, u45, u46, u47, u48, u49, u50, u51, u52, u53, u54, u55, u56, u57, u58], defers := [] } W := by
    intro W ga gb gc hb zbl zga zgb zgc mga mgb mgc dbl_ga dbl_gb dga_gb dbl_gc dga_gc dgb_gc
    dsimp only [rg_stepR1]
    refine wpAnyH_ready (rs := [8]) (by kernel_rfl) (by simp) ?_
    refine AllReadyH.cons rfl (fun K hK => ?_) (AllReadyH.nil)
    · (try simp only [pT])
      rw [if_pos (by rfl)]
      go_simp
      go_at_call 40
      refine (nOf17_N _ x2).mono ?_
      rintro e W2 ⟨rfl, b_⟩
      refine hK.out _ _ (HS _ (hb.trans (b_.mono (Nat.le_trans hC hb.size))) ((b_.block bl (Array.getElem?_eq_some_iff.1 zbl).1).trans zbl)) (fun hHeld => ?_)
      exact s_111111000 W2 ga gb gc (hb.trans (b_.mono (Nat.le_trans hC hb.size))) ((b_.block bl (Array.getElem?_eq_some_iff.1 zbl).1).trans zbl) ((b_.block ga (Array.getElem?_eq_some_iff.1 zga).1).trans zga) ((b_.block gb (Array.getElem?_eq_some_iff.1 zgb).1).trans zgb) ((b_.block gc (Array.getElem?_eq_some_iff.1 zgc).1).trans zgc) mga mgb mgc dbl_ga dbl_gb dga_gb dbl_gc dga_gc dgb_gc
  have s_111011000 : ∀ (W : World) (gb gc : Nat), Below C V W → W.heap[bl]? = some (.cells #[.int .i64 x0, .int .i64 x1, .int .i64 x2] 61) → W.heap[gb]? = some (.cells #[.int .i64 0, .bool false] 58) → W.heap[gc]? = some (.cells #[.int .i64 0, .bool false] 58) → C ≤ gb → C ≤ gc → bl ≠ gb → bl ≠ gc → gb ≠ gc → wpAnyH Try.prog .any rg_stepR1.1 Q (fun w' => w'.cell? ⟨bl, 0, none⟩ = some (.int .i64 x0) ∧ w'.cell? ⟨bl, 1, none⟩ = some (.int .i64 x1) ∧ w'.cell? ⟨bl, 2, none⟩ = some (.int .i64 x2)) 4 #[true, true, true, true, true, true, true, true, true, false, true, true, false, false, false] { tmps := #[u0, u1, u2, u3, u4, .pointer (some ⟨bl, 0, none⟩), u6, u7, u8, .pointer (some ⟨gb, 0, none⟩), .pointer (some ⟨gc, 0, none⟩), u11, u12, u13, .pointer (some ⟨bl, 0, none⟩), .int .i64 x0, .agg #[.int .i64 x0, .bool true], .pointer (some ⟨bl, 1, none⟩), .int .i64 x1, .agg #[.int .i64 x1, .bool true], .pointer (some ⟨bl, 2, none⟩), .int .i64 x2, .agg #[.int .i64 x2, .bool true], u23, u24, u25, u26, u27, u28, u29, u30, u31, u32, u33, u34, u35, u36, u37, u38, u39, u40, u41, u42, u43, u44, u45, u46, u47, u48, u49, u50, u51, u52, u53, u54, u55, u56, u57, u58], defers := [] } W := by
    intro W gb gc hb zbl zgb zgc mgb mgc dbl_gb dbl_gc dgb_gc
    dsimp only [rg_stepR1]
    refine wpAnyH_ready (rs := [9]) (by kernel_rfl) (by simp) ?_
    refine AllReadyH.cons rfl (fun K hK => ?_) (AllReadyH.nil)
    · (try simp only [pT])
      rw [if_pos (by rfl)]
      go_simp
      refine hK.out _ _ (HS _ (hb.alloc (Nat.le_trans hC hb.size) _) (((one_upD W _).block bl (Array.getElem?_eq_some_iff.1 zbl).1).trans zbl)) (fun hHeld => ?_)
      exact s_111111000 (W.alloc (.cells #[.int .i64 0, .bool false] 58)) W.heap.size gb gc (hb.alloc (Nat.le_trans hC hb.size) _) (((one_upD W _).block bl (Array.getElem?_eq_some_iff.1 zbl).1).trans zbl) (World.alloc_heap_new W _) (((one_upD W _).block gb (Array.getElem?_eq_some_iff.1 zgb).1).trans zgb) (((one_upD W _).block gc (Array.getElem?_eq_some_iff.1 zgc).1).trans zgc) (Nat.le_trans hC hb.size) mgb mgc (Nat.ne_of_lt (Array.getElem?_eq_some_iff.1 zbl).1) dbl_gb (Nat.ne_of_gt (Array.getElem?_eq_some_iff.1 zgb).1) dbl_gc (Nat.ne_of_gt (Array.getElem?_eq_some_iff.1 zgc).1) dgb_gc
  have s_111101000 : ∀ (W : World) (ga gc : Nat), Below C V W → W.heap[bl]? = some (.cells #[.int .i64 x0, .int .i64 x1, .int .i64 x2] 61) → W.heap[ga]? = some (.cells #[.int .i64 0, .bool false] 58) → W.heap[gc]? = some (.cells #[.int .i64 0, .bool false] 58) → C ≤ ga → C ≤ gc → bl ≠ ga → bl ≠ gc → ga ≠ gc → wpAnyH Try.prog .any rg_stepR1.1 Q (fun w' => w'.cell? ⟨bl, 0, none⟩ = some (.int .i64 x0) ∧ w'.cell? ⟨bl, 1, none⟩ = some (.int .i64 x1) ∧ w'.cell? ⟨bl, 2, none⟩ = some (.int .i64 x2)) 4 #[true, true, true, true, true, true, true, true, true, true, false, true, false, false, false] { tmps := #[u0, u1, u2, u3, u4, .pointer (some ⟨bl, 0, none⟩), u6, u7, .pointer (some ⟨ga, 0, none⟩), u9, .pointer (some ⟨gc, 0, none⟩), u11, u12, u13, .pointer (some ⟨bl, 0, none⟩), .int .i64 x0, .agg #[.int .i64 x0, .bool true], .pointer (some ⟨bl, 1, none⟩), .int .i64 x1, .agg #[.int .i64 x1, .bool true], .pointer (some ⟨bl, 2, none⟩), .int .i64 x2, .agg #[.int .i64 x2, .bool true], u23, u24, u25, u26, u27, u28, u29, u30, u31, u32, u33, u34, u35, u36, u37, u38, u39, u40, u41, u42, u43, u44, u45, u46, u47, u48, u49, u50, u51, u52, u53, u54, u55, u56, u57, u58], defers := [] } W := by
    intro W ga gc hb zbl zga zgc mga mgc dbl_ga dbl_gc dga_gc
    dsimp only [rg_stepR1]
    refine wpAnyH_ready (rs := [10]) (by kernel_rfl) (by simp) ?_
    refine AllReadyH.cons rfl (fun K hK => ?_) (AllReadyH.nil)
    · (try simp only [pT])
      rw [if_pos (by rfl)]
      go_simp
      refine hK.out _ _ (HS _ (hb.alloc (Nat.le_trans hC hb.size) _) (((one_upD W _).block bl (Array.getElem?_eq_some_iff.1 zbl).1).trans zbl)) (fun hHeld => ?_)
      exact s_111111000 (W.alloc (.cells #[.int .i64 0, .bool false] 58)) ga W.heap.size gc (hb.alloc (Nat.le_trans hC hb.size) _) (((one_upD W _).block bl (Array.getElem?_eq_some_iff.1 zbl).1).trans zbl) (((one_upD W _).block ga (Array.getElem?_eq_some_iff.1 zga).1).trans zga) (World.alloc_heap_new W _) (((one_upD W _).block gc (Array.getElem?_eq_some_iff.1 zgc).1).trans zgc) mga (Nat.le_trans hC hb.size) mgc dbl_ga (Nat.ne_of_lt (Array.getElem?_eq_some_iff.1 zbl).1) (Nat.ne_of_lt (Array.getElem?_eq_some_iff.1 zga).1) dbl_gc dga_gc (Nat.ne_of_gt (Array.getElem?_eq_some_iff.1 zgc).1)
  have s_111110000 : ∀ (W : World) (ga gb : Nat), Below C V W → W.heap[bl]? = some (.cells #[.int .i64 x0, .int .i64 x1, .int .i64 x2] 61) → W.heap[ga]? = some (.cells #[.int .i64 0, .bool false] 58) → W.heap[gb]? = some (.cells #[.int .i64 0, .bool false] 58) → C ≤ ga → C ≤ gb → bl ≠ ga → bl ≠ gb → ga ≠ gb → wpAnyH Try.prog .any rg_stepR1.1 Q (fun w' => w'.cell? ⟨bl, 0, none⟩ = some (.int .i64 x0) ∧ w'.cell? ⟨bl, 1, none⟩ = some (.int .i64 x1) ∧ w'.cell? ⟨bl, 2, none⟩ = some (.int .i64 x2)) 4 #[true, true, true, true, true, true, true, true, true, true, true, false, false, false, false] { tmps := #[u0, u1, u2, u3, u4, .pointer (some ⟨bl, 0, none⟩), u6, u7, .pointer (some ⟨ga, 0, none⟩), .pointer (some ⟨gb, 0, none⟩), u10, u11, u12, u13, .pointer (some ⟨bl, 0, none⟩), .int .i64 x0, .agg #[.int .i64 x0, .bool true], .pointer (some ⟨bl, 1, none⟩), .int .i64 x1, .agg #[.int .i64 x1, .bool true], .pointer (some ⟨bl, 2, none⟩), .int .i64 x2, .agg #[.int .i64 x2, .bool true], u23, u24, u25, u26, u27, u28, u29, u30, u31, u32, u33, u34, u35, u36, u37, u38, u39, u40, u41, u42, u43, u44, u45, u46, u47, u48, u49, u50, u51, u52, u53, u54, u55, u56, u57, u58], defers := [] } W := by
    intro W ga gb hb zbl zga zgb mga mgb dbl_ga dbl_gb dga_gb
    dsimp only [rg_stepR1]
    refine wpAnyH_ready (rs := [11]) (by kernel_rfl) (by simp) ?_
    refine AllReadyH.cons rfl (fun K hK => ?_) (AllReadyH.nil)
    · (try simp only [pT])
      rw [if_pos (by rfl)]
      go_simp
      refine hK.out _ _ (HS _ (hb.alloc (Nat.le_trans hC hb.size) _) (((one_upD W _).block bl (Array.getElem?_eq_some_iff.1 zbl).1).trans zbl)) (fun hHeld => ?_)
      exact s_111111000 (W.alloc (.cells #[.int .i64 0, .bool false] 58)) ga gb W.heap.size (hb.alloc (Nat.le_trans hC hb.size) _) (((one_upD W _).block bl (Array.getElem?_eq_some_iff.1 zbl).1).trans zbl) (((one_upD W _).block ga (Array.getElem?_eq_some_iff.1 zga).1).trans zga) (((one_upD W _).block gb (Array.getElem?_eq_some_iff.1 zgb).1).trans zgb) (World.alloc_heap_new W _) mga mgb (Nat.le_trans hC hb.size) dbl_ga dbl_gb dga_gb (Nat.ne_of_lt (Array.getElem?_eq_some_iff.1 zbl).1) (Nat.ne_of_lt (Array.getElem?_eq_some_iff.1 zga).1) (Nat.ne_of_lt (Array.getElem?_eq_some_iff.1 zgb).1)
  have s_100111000 : ∀ (W : World) (ga gb gc : Nat), Below C V W → W.heap[bl]? = some (.cells #[.int .i64 x0, .int .i64 x1, .int .i64 x2] 61) → W.heap[ga]? = some (.cells #[.int .i64 0, .bool false] 58) → W.heap[gb]? = some (.cells #[.int .i64 0, .bool false] 58) → W.heap[gc]? = some (.cells #[.int .i64 0, .bool false] 58) → C ≤ ga → C ≤ gb → C ≤ gc → bl ≠ ga → bl ≠ gb → ga ≠ gb → bl ≠ gc → ga ≠ gc → gb ≠ gc → wpAnyH Try.prog .any rg_stepR1.1 Q (fun w' => w'.cell? ⟨bl, 0, none⟩ = some (.int .i64 x0) ∧ w'.cell? ⟨bl, 1, none⟩ = some (.int .i64 x1) ∧ w'.cell? ⟨bl, 2, none⟩ = some (.int .i64 x2)) 5 #[true, true, true, true, true, false, true, true, false, true, true, true, false, false, false] { tmps := #[u0, u1, u2, u3, u4, .pointer (some ⟨bl, 0, none⟩), u6, u7, .pointer (some ⟨ga, 0, none⟩), .pointer (some ⟨gb, 0, none⟩), .pointer (some ⟨gc, 0, none⟩), u11, u12, u13, .pointer (some ⟨bl, 0, none⟩), .int .i64 x0, .agg #[.int .i64 x0, .bool true], .pointer (some ⟨bl, 1, none⟩), .int .i64 x1, u19, .pointer (some ⟨bl, 2, none⟩), .int .i64 x2, u22, u23, u24, u25, u26, u27, u28, u29, u30, u31, u32, u33, u34, u35, u36, u37, u38, u39, u40, u41, u42, u43, u44, u45, u46, u47, u48, u49, u50, u51, u52, u53, u54, u55, u56, u57, u58], defers := [] } W := by
    intro W ga gb gc hb zbl zga zgb zgc mga mgb mgc dbl_ga dbl_gb dga_gb dbl_gc dga_gc dgb_gc
    dsimp only [rg_stepR1]
    refine wpAnyH_ready (rs := [5]) (by kernel_rfl) (by simp) ?_
    refine AllReadyH.cons rfl (fun K hK => ?_) (AllReadyH.nil)
    · (try simp only [pT])
      rw [if_pos (by rfl)]
      go_simp
      go_at_call 40
      refine (nOf17_N _ x1).mono ?_
      rintro e W2 ⟨rfl, b_⟩
      refine hK.out _ _ (HS _ (hb.trans (b_.mono (Nat.le_trans hC hb.size))) ((b_.block bl (Array.getElem?_eq_some_iff.1 zbl).1).trans zbl)) (fun hHeld => ?_)
      exact s_110111000 W2 ga gb gc (hb.trans (b_.mono (Nat.le_trans hC hb.size))) ((b_.block bl (Array.getElem?_eq_some_iff.1 zbl).1).trans zbl) ((b_.block ga (Array.getElem?_eq_some_iff.1 zga).1).trans zga) ((b_.block gb (Array.getElem?_eq_some_iff.1 zgb).1).trans zgb) ((b_.block gc (Array.getElem?_eq_some_iff.1 zgc).1).trans zgc) mga mgb mgc dbl_ga dbl_gb dga_gb dbl_gc dga_gc dgb_gc
  have s_110011000 : ∀ (W : World) (gb gc : Nat), Below C V W → W.heap[bl]? = some (.cells #[.int .i64 x0, .int .i64 x1, .int .i64 x2] 61) → W.heap[gb]? = some (.cells #[.int .i64 0, .bool false] 58) → W.heap[gc]? = some (.cells #[.int .i64 0, .bool false] 58) → C ≤ gb → C ≤ gc → bl ≠ gb → bl ≠ gc → gb ≠ gc → wpAnyH Try.prog .any rg_stepR1.1 Q (fun w' => w'.cell? ⟨bl, 0, none⟩ = some (.int .i64 x0) ∧ w'.cell? ⟨bl, 1, none⟩ = some (.int .i64 x1) ∧ w'.cell? ⟨bl, 2, none⟩ = some (.int .i64 x2)) 5 #[true, true, true, true, true, true, true, true, false, false, true, true, false, false, false] { tmps := #[u0, u1, u2, u3, u4, .pointer (some ⟨bl, 0, none⟩), u6, u7, u8, .pointer (some ⟨gb, 0, none⟩), .pointer (some ⟨gc, 0, none⟩), u11, u12, u13, .pointer (some ⟨bl, 0, none⟩), .int .i64 x0, .agg #[.int .i64 x0, .bool true], .pointer (some ⟨bl, 1, none⟩), .int .i64 x1, .agg #[.int .i64 x1, .bool true], .pointer (some ⟨bl, 2, none⟩), .int .i64 x2, u22, u23, u24, u25, u26, u27, u28, u29, u30, u31, u32, u33, u34, u35, u36, u37, u38, u39, u40, u41, u42, u43, u44, u45, u46, u47, u48, u49, u50, u51, u52, u53, u54, u55, u56, u57, u58], defers := [] } W := by
    intro W gb gc hb zbl zgb zgc mgb mgc dbl_gb dbl_gc dgb_gc
    dsimp only [rg_stepR1]
    refine wpAnyH_ready (rs := [8, 9]) (by kernel_rfl) (by simp) ?_
    refine AllReadyH.cons rfl (fun K hK => ?_) (AllReadyH.cons rfl (fun K hK => ?_) (AllReadyH.nil))
    · (try simp only [pT])
      rw [if_pos (by rfl)]
      go_simp
      go_at_call 40
      refine (nOf17_N _ x2).mono ?_
      rintro e W2 ⟨rfl, b_⟩
      refine hK.out _ _ (HS _ (hb.trans (b_.mono (Nat.le_trans hC hb.size))) ((b_.block bl (Array.getElem?_eq_some_iff.1 zbl).1).trans zbl)) (fun hHeld => ?_)
      exact s_111011000 W2 gb gc (hb.trans (b_.mono (Nat.le_trans hC hb.size))) ((b_.block bl (Array.getElem?_eq_some_iff.1 zbl).1).trans zbl) ((b_.block gb (Array.getElem?_eq_some_iff.1 zgb).1).trans zgb) ((b_.block gc (Array.getElem?_eq_some_iff.1 zgc).1).trans zgc) mgb mgc dbl_gb dbl_gc dgb_gc
    · (try simp only [pT])
      rw [if_pos (by rfl)]
      go_simp
      refine hK.out _ _ (HS _ (hb.alloc (Nat.le_trans hC hb.size) _) (((one_upD W _).block bl (Array.getElem?_eq_some_iff.1 zbl).1).trans zbl)) (fun hHeld => ?_)
      exact s_110111000 (W.alloc (.cells #[.int .i64 0, .bool false] 58)) W.heap.size gb gc (hb.alloc (Nat.le_trans hC hb.size) _) (((one_upD W _).block bl (Array.getElem?_eq_some_iff.1 zbl).1).trans zbl) (World.alloc_heap_new W _) (((one_upD W _).block gb (Array.getElem?_eq_some_iff.1 zgb).1).trans zgb) (((one_upD W _).block gc (Array.getElem?_eq_some_iff.1 zgc).1).trans zgc) (Nat.le_trans hC hb.size) mgb mgc (Nat.ne_of_lt (Array.getElem?_eq_some_iff.1 zbl).1) dbl_gb (Nat.ne_of_gt (Array.getElem?_eq_some_iff.1 zgb).1) dbl_gc (Nat.ne_of_gt (Array.getElem?_eq_some_iff.1 zgc).1) dgb_gc
  have s_110101000 : ∀ (W : World) (ga gc : Nat), Below C V W → W.heap[bl]? = some (.cells #[.int .i64 x0, .int .i64 x1, .int .i64 x2] 61) → W.heap[ga]? = some (.cells #[.int .i64 0, .bool false] 58) → W.heap[gc]? = some (.cells #[.int .i64 0, .bool false] 58) → C ≤ ga → C ≤ gc → bl ≠ ga → bl ≠ gc → ga ≠ gc → wpAnyH Try.prog .any rg_stepR1.1 Q (fun w' => w'.cell? ⟨bl, 0, none⟩ = some (.int .i64 x0) ∧ w'.cell? ⟨bl, 1, none⟩ = some (.int .i64 x1) ∧ w'.cell? ⟨bl, 2, none⟩ = some (.int .i64 x2)) 5 #[true, true, true, true, true, true, true, true, false, true, false, true, false, false, false] { tmps := #[u0, u1, u2, u3, u4, .pointer (some ⟨bl, 0, none⟩), u6, u7, .pointer (some ⟨ga, 0, none⟩), u9, .pointer (some ⟨gc, 0, none⟩), u11, u12, u13, .pointer (some ⟨bl, 0, none⟩), .int .i64 x0, .agg #[.int .i64 x0, .bool true], .pointer (some ⟨bl, 1, none⟩), .int .i64 x1, .agg #[.int .i64 x1, .bool true], .pointer (some ⟨bl, 2, none⟩), .int .i64 x2, u22, u23, u24, u25, u26, u27, u28, u29, u30, u31, u32, u33, u34, u35, u36, u37, u38, u39, u40, u41, u42, u43, u44, u45, u46, u47, u48, u49, u50, u51, u52, u53, u54, u55, u56, u57, u58], defers := [] } W := by
    intro W ga gc hb zbl zga zgc mga mgc dbl_ga dbl_gc dga_gc
    dsimp only [rg_stepR1]
    refine wpAnyH_ready (rs := [8, 10]) (by kernel_rfl) (by simp) ?_
    refine AllReadyH.cons rfl (fun K hK => ?_) (AllReadyH.cons rfl (fun K hK => ?_) (AllReadyH.nil))
    · (try simp only [pT])
      rw [if_pos (by rfl)]
      go_simp
      go_at_call 40
      refine (nOf17_N _ x2).mono ?_
      rintro e W2 ⟨rfl, b_⟩
      refine hK.out _ _ (HS _ (hb.trans (b_.mono (Nat.le_trans hC hb.size))) ((b_.block bl (Array.getElem?_eq_some_iff.1 zbl).1).trans zbl)) (fun hHeld => ?_)
      exact s_111101000 W2 ga gc (hb.trans (b_.mono (Nat.le_trans hC hb.size))) ((b_.block bl (Array.getElem?_eq_some_iff.1 zbl).1).trans zbl) ((b_.block ga (Array.getElem?_eq_some_iff.1 zga).1).trans zga) ((b_.block gc (Array.getElem?_eq_some_iff.1 zgc).1).trans zgc) mga mgc dbl_ga dbl_gc dga_gc
    · (try simp only [pT])
      rw [if_pos (by rfl)]
      go_simp
      refine hK.out _ _ (HS _ (hb.alloc (Nat.le_trans hC hb.size) _) (((one_upD W _).block bl (Array.getElem?_eq_some_iff.1 zbl).1).trans zbl)) (fun hHeld => ?_)
      exact s_110111000 (W.alloc (.cells #[.int .i64 0, .bool false] 58)) ga W.heap.size gc (hb.alloc (Nat.le_trans hC hb.size) _) (((one_upD W _).block bl (Array.getElem?_eq_some_iff.1 zbl).1).trans zbl) (((one_upD W _).block ga (Array.getElem?_eq_some_iff.1 zga).1).trans zga) (World.alloc_heap_new W _) (((one_upD W _).block gc (Array.getElem?_eq_some_iff.1 zgc).1).trans zgc) mga (Nat.le_trans hC hb.size) mgc dbl_ga (Nat.ne_of_lt (Array.getElem?_eq_some_iff.1 zbl).1) (Nat.ne_of_lt (Array.getElem?_eq_some_iff.1 zga).1) dbl_gc dga_gc (Nat.ne_of_gt (Array.getElem?_eq_some_iff.1 zgc).1)
  have s_111001000 : ∀ (W : World) (gc : Nat), Below C V W → W.heap[bl]? = some (.cells #[.int .i64 x0, .int .i64 x1, .int .i64 x2] 61) → W.heap[gc]? = some (.cells #[.int .i64 0, .bool false] 58) → C ≤ gc → bl ≠ gc → wpAnyH Try.prog .any rg_stepR1.1 Q (fun w' => w'.cell? ⟨bl, 0, none⟩ = some (.int .i64 x0) ∧ w'.cell? ⟨bl, 1, none⟩ = some (.int .i64 x1) ∧ w'.cell? ⟨bl, 2, none⟩ = some (.int .i64 x2)) 5 #[true, true, true, true, true, true, true, true, true, false, false, true, false, false, false] { tmps := #[u0, u1, u2, u3, u4, .pointer (some ⟨bl, 0, none⟩), u6, u7, u8, u9, .pointer (some ⟨gc, 0, none⟩), u11, u12, u13, .pointer (some ⟨bl, 0, none⟩), .int .i64 x0, .agg #[.int .i64 x0, .bool true], .pointer (some ⟨bl, 1, none⟩), .int .i64 x1, .agg #[.int .i64 x1, .bool true], .pointer (some ⟨bl, 2, none⟩), .int .i64 x2, .agg #[.int .i64 x2, .bool true], u23, u24, u25, u26, u27, u28, u29, u30, u31, u32, u33, u34, u35, u36, u37, u38, u39, u40, u41, u42, u43, u44, u45, u46, u47, u48, u49, u50, u51, u52, u53, u54, u55, u56, u57, u58], defers := [] } W := by
    intro W gc hb zbl zgc mgc dbl_gc
    dsimp only [rg_stepR1]
    refine wpAnyH_ready (rs := [9, 10]) (by kernel_rfl) (by simp) ?_
    refine AllReadyH.cons rfl (fun K hK => ?_) (AllReadyH.cons rfl (fun K hK => ?_) (AllReadyH.nil))
    · (try simp only [pT])
      rw [if_pos (by rfl)]
      go_simp
      refine hK.out _ _ (HS _ (hb.alloc (Nat.le_trans hC hb.size) _) (((one_upD W _).block bl (Array.getElem?_eq_some_iff.1 zbl).1).trans zbl)) (fun hHeld => ?_)
      exact s_111101000 (W.alloc (.cells #[.int .i64 0, .bool false] 58)) W.heap.size gc (hb.alloc (Nat.le_trans hC hb.size) _) (((one_upD W _).block bl (Array.getElem?_eq_some_iff.1 zbl).1).trans zbl) (World.alloc_heap_new W _) (((one_upD W _).block gc (Array.getElem?_eq_some_iff.1 zgc).1).trans zgc) (Nat.le_trans hC hb.size) mgc (Nat.ne_of_lt (Array.getElem?_eq_some_iff.1 zbl).1) dbl_gc (Nat.ne_of_gt (Array.getElem?_eq_some_iff.1 zgc).1)
    · (try simp only [pT])
      rw [if_pos (by rfl)]
      go_simp
      refine hK.out _ _ (HS _ (hb.alloc (Nat.le_trans hC hb.size) _) (((one_upD W _).block bl (Array.getElem?_eq_some_iff.1 zbl).1).trans zbl)) (fun hHeld => ?_)
      exact s_111011000 (W.alloc (.cells #[.int .i64 0, .bool false] 58)) W.heap.size gc (hb.alloc (Nat.le_trans hC hb.size) _) (((one_upD W _).block bl (Array.getElem?_eq_some_iff.1 zbl).1).trans zbl) (World.alloc_heap_new W _) (((one_upD W _).block gc (Array.getElem?_eq_some_iff.1 zgc).1).trans zgc) (Nat.le_trans hC hb.size) mgc (Nat.ne_of_lt (Array.getElem?_eq_some_iff.1 zbl).1) dbl_gc (Nat.ne_of_gt (Array.getElem?_eq_some_iff.1 zgc).1)
  have s_110110000 : ∀ (W : World) (ga gb : Nat), Below C V W → W.heap[bl]? = some (.cells #[.int .i64 x0, .int .i64 x1, .int .i64 x2] 61) → W.heap[ga]? = some (.cells #[.int .i64 0, .bool false] 58) → W.heap[gb]? = some (.cells #[.int .i64 0, .bool false] 58) → C ≤ ga → C ≤ gb → bl ≠ ga → bl ≠ gb → ga ≠ gb → wpAnyH Try.prog .any rg_stepR1.1 Q (fun w' => w'.cell? ⟨bl, 0, none⟩ = some (.int .i64 x0) ∧ w'.cell? ⟨bl, 1, none⟩ = some (.int .i64 x1) ∧ w'.cell? ⟨bl, 2, none⟩ = some (.int .i64 x2)) 5 #[true, true, true, true, true, true, true, true, false, true, true, false, false, false, false] { tmps := #[u0, u1, u2, u3, u4, .pointer (some ⟨bl, 0, none⟩), u6, u7, .pointer (some ⟨ga, 0, none⟩), .pointer (some ⟨gb, 0, none⟩), u10, u11, u12, u13, .pointer (some ⟨bl, 0, none⟩), .int .i64 x0, .agg #[.int .i64 x0, .bool true], .pointer (some ⟨bl, 1, none⟩), .int .i64 x1, .agg #[.int .i64 x1, .bool true], .pointer (some ⟨bl, 2, none⟩), .int .i64 x2, u22, u23, u24, u25, u26, u27, u28, u29, u30, u31, u32, u33, u34, u35, u36, u37, u38, u39, u40, u41, u42, u43, u44, u45, u46, u47, u48, u49, u50, u51, u52, u53, u54, u55, u56, u57, u58], defers := [] } W := by
    intro W ga gb hb zbl zga zgb mga mgb dbl_ga dbl_gb dga_gb
    dsimp only [rg_stepR1]
    refine wpAnyH_ready (rs := [8, 11]) (by kernel_rfl) (by simp) ?_
    refine AllReadyH.cons rfl (fun K hK => ?_) (AllReadyH.cons rfl (fun K hK => ?_) (AllReadyH.nil))
    · (try simp only [pT])
      rw [if_pos (by rfl)]
      go_simp
      go_at_call 40
      refine (nOf17_N _ x2).mono ?_
      rintro e W2 ⟨rfl, b_⟩
      refine hK.out _ _ (HS _ (hb.trans (b_.mono (Nat.le_trans hC hb.size))) ((b_.block bl (Array.getElem?_eq_some_iff.1 zbl).1).trans zbl)) (fun hHeld => ?_)
      exact s_111110000 W2 ga gb (hb.trans (b_.mono (Nat.le_trans hC hb.size))) ((b_.block bl (Array.getElem?_eq_some_iff.1 zbl).1).trans zbl) ((b_.block ga (Array.getElem?_eq_some_iff.1 zga).1).trans zga) ((b_.block gb (Array.getElem?_eq_some_iff.1 zgb).1).trans zgb) mga mgb dbl_ga dbl_gb dga_gb
    · (try simp only [pT])
      rw [if_pos (by rfl)]
      go_simp
      refine hK.out _ _ (HS _ (hb.alloc (Nat.le_trans hC hb.size) _) (((one_upD W _).block bl (Array.getElem?_eq_some_iff.1 zbl).1).trans zbl)) (fun hHeld => ?_)
      exact s_110111000 (W.alloc (.cells #[.int .i64 0, .bool false] 58)) ga gb W.heap.size (hb.alloc (Nat.le_trans hC hb.size) _) (((one_upD W _).block bl (Array.getElem?_eq_some_iff.1 zbl).1).trans zbl) (((one_upD W _).block ga (Array.getElem?_eq_some_iff.1 zga).1).trans zga) (((one_upD W _).block gb (Array.getElem?_eq_some_iff.1 zgb).1).trans zgb) (World.alloc_heap_new W _) mga mgb (Nat.le_trans hC hb.size) dbl_ga dbl_gb dga_gb (Nat.ne_of_lt (Array.getElem?_eq_some_iff.1 zbl).1) (Nat.ne_of_lt (Array.getElem?_eq_some_iff.1 zga).1) (Nat.ne_of_lt (Array.getElem?_eq_some_iff.1 zgb).1)
  have s_111010000 : ∀ (W : World) (gb : Nat), Below C V W → W.heap[bl]? = some (.cells #[.int .i64 x0, .int .i64 x1, .int .i64 x2] 61) → W.heap[gb]? = some (.cells #[.int .i64 0, .bool false] 58) → C ≤ gb → bl ≠ gb → wpAnyH Try.prog .any rg_stepR1.1 Q (fun w' => w'.cell? ⟨bl, 0, none⟩ = some (.int .i64 x0) ∧ w'.cell? ⟨bl, 1, none⟩ = some (.int .i64 x1) ∧ w'.cell? ⟨bl, 2, none⟩ = some (.int .i64 x2)) 5 #[true, true, true, true, true, true, true, true, true, false, true, false, false, false, false] { tmps := #[u0, u1, u2, u3, u4, .pointer (some ⟨bl, 0, none⟩), u6, u7, u8, .pointer (some ⟨gb, 0, none⟩), u10, u11, u12, u13, .pointer (some ⟨bl, 0, none⟩), .int .i64 x0, .agg #[.int .i64 x0, .bool true], .pointer (some ⟨bl, 1, none⟩), .int .i64 x1, .agg #[.int .i64 x1, .bool true], .pointer (some ⟨bl, 2, none⟩), .int .i64 x2, .agg #[.int .i64 x2, .bool true], u23, u24, u25, u26, u27, u28, u29, u30, u31, u32, u33, u34, u35, u36, u37, u38, u39, u40, u41, u42, u43, u44, u45, u46, u47, u48, u49, u50, u51, u52, u53, u54, u55, u56, u57, u58], defers := [] } W := by
    intro W gb hb zbl zgb mgb dbl_gb
    dsimp only [rg_stepR1]
    refine wpAnyH_ready (rs := [9, 11]) (by kernel_rfl) (by simp) ?_
    refine AllReadyH.cons rfl (fun K hK => ?_) (AllReadyH.cons rfl (fun K hK => ?_) (AllReadyH.nil))
    · (try simp only [pT])
      rw [if_pos (by rfl)]
      go_simp
      refine hK.out _ _ (HS _ (hb.alloc (Nat.le_trans hC hb.size) _) (((one_upD W _).block bl (Array.getElem?_eq_some_iff.1 zbl).1).trans zbl)) (fun hHeld => ?_)
      exact s_111110000 (W.alloc (.cells #[.int .i64 0, .bool false] 58)) W.heap.size gb (hb.alloc (Nat.le_trans hC hb.size) _) (((one_upD W _).block bl (Array.getElem?_eq_some_iff.1 zbl).1).trans zbl) (World.alloc_heap_new W _) (((one_upD W _).block gb (Array.getElem?_eq_some_iff.1 zgb).1).trans zgb) (Nat.le_trans hC hb.size) mgb (Nat.ne_of_lt (Array.getElem?_eq_some_iff.1 zbl).1) dbl_gb (Nat.ne_of_gt (Array.getElem?_eq_some_iff.1 zgb).1)
    · (try simp only [pT])
      rw [if_pos (by rfl)]
      go_simp
      refine hK.out _ _ (HS _ (hb.alloc (Nat.le_trans hC hb.size) _) (((one_upD W _).block bl (Array.getElem?_eq_some_iff.1 zbl).1).trans zbl)) (fun hHeld => ?_)
      exact s_111011000 (W.alloc (.cells #[.int .i64 0, .bool false] 58)) gb W.heap.size (hb.alloc (Nat.le_trans hC hb.size) _) (((one_upD W _).block bl (Array.getElem?_eq_some_iff.1 zbl).1).trans zbl) (((one_upD W _).block gb (Array.getElem?_eq_some_iff.1 zgb).1).trans zgb) (World.alloc_heap_new W _) mgb (Nat.le_trans hC hb.size) dbl_gb (Nat.ne_of_lt (Array.getElem?_eq_some_iff.1 zbl).1) (Nat.ne_of_lt (Array.getElem?_eq_some_iff.1 zgb).1)
  have s_111100000 : ∀ (W : World) (ga : Nat), Below C V W → W.heap[bl]? = some (.cells #[.int .i64 x0, .int .i64 x1, .int .i64 x2] 61) → W.heap[ga]? = some (.cells #[.int .i64 0, .bool false] 58) → C ≤ ga → bl ≠ ga → wpAnyH Try.prog .any rg_stepR1.1 Q (fun w' => w'.cell? ⟨bl, 0, none⟩ = some (.int .i64 x0) ∧ w'.cell? ⟨bl, 1, none⟩ = some (.int .i64 x1) ∧ w'.cell? ⟨bl, 2, none⟩ = some (.int .i64 x2)) 5 #[true, true, true, true, true, true, true, true, true, true, false, false, false, false, false] { tmps := #[u0, u1, u2, u3, u4, .pointer (some ⟨bl, 0, none⟩), u6, u7, .pointer (some ⟨ga, 0, none⟩), u9, u10, u11, u12, u13, .pointer (some ⟨bl, 0, none⟩), .int .i64 x0, .agg #[.int .i64 x0, .bool true], .pointer (some ⟨bl, 1, none⟩), .int .i64 x1, .agg #[.int .i64 x1, .bool true], .pointer (some ⟨bl, 2, none⟩), .int .i64 x2, .agg #[.int .i64 x2, .bool true], u23, u24, u25, u26, u27, u28, u29, u30, u31, u32, u33, u34, u35, u36, u37, u38, u39, u40, u41, u42, u43, u44, u45, u46, u47, u48, u49, u50, u51, u52, u53, u54, u55, u56, u57, u58], defers := [] } W := by
    intro W ga hb zbl zga mga dbl_ga
    dsimp only [rg_stepR1]
    refine wpAnyH_ready (rs := [10, 11]) (by kernel_rfl) (by simp) ?_
    refine AllReadyH.cons rfl (fun K hK => ?_) (AllReadyH.cons rfl (fun K hK => ?_) (AllReadyH.nil))
    · (try simp only [pT])
      rw [if_pos (by rfl)]
      go_simp
      refine hK.out _ _ (HS _ (hb.alloc (Nat.le_trans hC hb.size) _) (((one_upD W _).block bl (Array.getElem?_eq_some_iff.1 zbl).1).trans zbl)) (fun hHeld => ?_)
      exact s_111110000 (W.alloc (.cells #[.int .i64 0, .bool false] 58)) ga W.heap.size (hb.alloc (Nat.le_trans hC hb.size) _) (((one_upD W _).block bl (Array.getElem?_eq_some_iff.1 zbl).1).trans zbl) (((one_upD W _).block ga (Array.getElem?_eq_some_iff.1 zga).1).trans zga) (World.alloc_heap_new W _) mga (Nat.le_trans hC hb.size) dbl_ga (Nat.ne_of_lt (Array.getElem?_eq_some_iff.1 zbl).1) (Nat.ne_of_lt (Array.getElem?_eq_some_iff.1 zga).1)
    · (try simp only [pT])
      rw [if_pos (by rfl)]
      go_simp
      refine hK.out _ _ (HS _ (hb.alloc (Nat.le_trans hC hb.size) _) (((one_upD W _).block bl (Array.getElem?_eq_some_iff.1 zbl).1).trans zbl)) (fun hHeld => ?_)
      exact s_111101000 (W.alloc (.cells #[.int .i64 0, .bool false] 58)) ga W.heap.size (hb.alloc (Nat.le_trans hC hb.size) _) (((one_upD W _).block bl (Array.getElem?_eq_some_iff.1 zbl).1).trans zbl) (((one_upD W _).block ga (Array.getElem?_eq_some_iff.1 zga).1).trans zga) (World.alloc_heap_new W _) mga (Nat.le_trans hC hb.size) dbl_ga (Nat.ne_of_lt (Array.getElem?_eq_some_iff.1 zbl).1) (Nat.ne_of_lt (Array.getElem?_eq_some_iff.1 zga).1)
  have s_000111000 : ∀ (W : World) (ga gb gc : Nat), Below C V W → W.heap[bl]? = some (.cells #[.int .i64 x0, .int .i64 x1, .int .i64 x2] 61) → W.heap[ga]? = some (.cells #[.int .i64 0, .bool false] 58) → W.heap[gb]? = some (.cells #[.int .i64 0, .bool false] 58) → W.heap[gc]? = some (.cells #[.int .i64 0, .bool false] 58) → C ≤ ga → C ≤ gb → C ≤ gc → bl ≠ ga → bl ≠ gb → ga ≠ gb → bl ≠ gc → ga ≠ gc → gb ≠ gc → wpAnyH Try.prog .any rg_stepR1.1 Q (fun w' => w'.cell? ⟨bl, 0, none⟩ = some (.int .i64 x0) ∧ w'.cell? ⟨bl, 1, none⟩ = some (.int .i64 x1) ∧ w'.cell? ⟨bl, 2, none⟩ = some (.int .i64 x2)) 6 #[true, true, false, true, true, false, true, true, false, true, true, true, false, false, false] { tmps := #[u0, u1, u2, u3, u4, .pointer (some ⟨bl, 0, none⟩), u6, u7, .pointer (some ⟨ga, 0, none⟩), .pointer (some ⟨gb, 0, none⟩), .pointer (some ⟨gc, 0, none⟩), u11, u12, u13, .pointer (some ⟨bl, 0, none⟩), .int .i64 x0, u16, .pointer (some ⟨bl, 1, none⟩), .int .i64 x1, u19, .pointer (some ⟨bl, 2, none⟩), .int .i64 x2, u22, u23, u24, u25, u26, u27, u28, u29, u30, u31, u32, u33, u34, u35, u36, u37, u38, u39, u40, u41, u42, u43, u44, u45, u46, u47, u48, u49, u50, u51, u52, u53, u54, u55, u56, u57, u58], defers := [] } W := by
    intro W ga gb gc hb zbl zga zgb zgc mga mgb mgc dbl_ga dbl_gb dga_gb dbl_gc dga_gc dgb_gc
    dsimp only [rg_stepR1]
    refine wpAnyH_ready (rs := [2]) (by kernel_rfl) (by simp) ?_
    refine AllReadyH.cons rfl (fun K hK => ?_) (AllReadyH.nil)
    · (try simp only [pT])
      rw [if_pos (by rfl)]
      go_simp
      go_at_call 40
      refine (nOf17_N _ x0).mono ?_
      rintro e W2 ⟨rfl, b_⟩
      refine hK.out _ _ (HS _ (hb.trans (b_.mono (Nat.le_trans hC hb.size))) ((b_.block bl (Array.getElem?_eq_some_iff.1 zbl).1).trans zbl)) (fun hHeld => ?_)
      exact s_100111000 W2 ga gb gc (hb.trans (b_.mono (Nat.le_trans hC hb.size))) ((b_.block bl (Array.getElem?_eq_some_iff.1 zbl).1).trans zbl) ((b_.block ga (Array.getElem?_eq_some_iff.1 zga).1).trans zga) ((b_.block gb (Array.getElem?_eq_some_iff.1 zgb).1).trans zgb) ((b_.block gc (Array.getElem?_eq_some_iff.1 zgc).1).trans zgc) mga mgb mgc dbl_ga dbl_gb dga_gb dbl_gc dga_gc dgb_gc
  have s_100011000 : ∀ (W : World) (gb gc : Nat), Below C V W → W.heap[bl]? = some (.cells #[.int .i64 x0, .int .i64 x1, .int .i64 x2] 61) → W.heap[gb]? = some (.cells #[.int .i64 0, .bool false] 58) → W.heap[gc]? = some (.cells #[.int .i64 0, .bool false] 58) → C ≤ gb → C ≤ gc → bl ≠ gb → bl ≠ gc → gb ≠ gc → wpAnyH Try.prog .any rg_stepR1.1 Q (fun w' => w'.cell? ⟨bl, 0, none⟩ = some (.int .i64 x0) ∧ w'.cell? ⟨bl, 1, none⟩ = some (.int .i64 x1) ∧ w'.cell? ⟨bl, 2, none⟩ = some (.int .i64 x2)) 6 #[true, true, true, true, true, false, true, true, false, false, true, true, false, false, false] { tmps := #[u0, u1, u2, u3, u4, .pointer (some ⟨bl, 0, none⟩), u6, u7, u8, .pointer (some ⟨gb, 0, none⟩), .pointer (some ⟨gc, 0, none⟩), u11, u12, u13, .pointer (some ⟨bl, 0, none⟩), .int .i64 x0, .agg #[.int .i64 x0, .bool true], .pointer (some ⟨bl, 1, none⟩), .int .i64 x1, u19, .pointer (some ⟨bl, 2, none⟩), .int .i64 x2, u22, u23, u24, u25, u26, u27, u28, u29, u30, u31, u32, u33, u34, u35, u36, u37, u38, u39, u40, u41, u42, u43, u44, u45, u46, u47, u48, u49, u50, u51, u52, u53, u54, u55, u56, u57, u58], defers := [] } W := by
    intro W gb gc hb zbl zgb zgc mgb mgc dbl_gb dbl_gc dgb_gc
    dsimp only [rg_stepR1]
    refine wpAnyH_ready (rs := [5, 9]) (by kernel_rfl) (by simp) ?_
    refine AllReadyH.cons rfl (fun K hK => ?_) (AllReadyH.cons rfl (fun K hK => ?_) (AllReadyH.nil))
    · (try simp only [pT])
      rw [if_pos (by rfl)]
      go_simp
      go_at_call 40
      refine (nOf17_N _ x1).mono ?_
      rintro e W2 ⟨rfl, b_⟩
      refine hK.out _ _ (HS _ (hb.trans (b_.mono (Nat.le_trans hC hb.size))) ((b_.block bl (Array.getElem?_eq_some_iff.1 zbl).1).trans zbl)) (fun hHeld => ?_)
      exact s_110011000 W2 gb gc (hb.trans (b_.mono (Nat.le_trans hC hb.size))) ((b_.block bl (Array.getElem?_eq_some_iff.1 zbl).1).trans zbl) ((b_.block gb (Array.getElem?_eq_some_iff.1 zgb).1).trans zgb) ((b_.block gc (Array.getElem?_eq_some_iff.1 zgc).1).trans zgc) mgb mgc dbl_gb dbl_gc dgb_gc
    · (try simp only [pT])
      rw [if_pos (by rfl)]
      go_simp
      refine hK.out _ _ (HS _ (hb.alloc (Nat.le_trans hC hb.size) _) (((one_upD W _).block bl (Array.getElem?_eq_some_iff.1 zbl).1).trans zbl)) (fun hHeld => ?_)
      exact s_100111000 (W.alloc (.cells #[.int .i64 0, .bool false] 58)) W.heap.size gb gc (hb.alloc (Nat.le_trans hC hb.size) _) (((one_upD W _).block bl (Array.getElem?_eq_some_iff.1 zbl).1).trans zbl) (World.alloc_heap_new W _) (((one_upD W _).block gb (Array.getElem?_eq_some_iff.1 zgb).1).trans zgb) (((one_upD W _).block gc (Array.getElem?_eq_some_iff.1 zgc).1).trans zgc) (Nat.le_trans hC hb.size) mgb mgc (Nat.ne_of_lt (Array.getElem?_eq_some_iff.1 zbl).1) dbl_gb (Nat.ne_of_gt (Array.getElem?_eq_some_iff.1 zgb).1) dbl_gc (Nat.ne_of_gt (Array.getElem?_eq_some_iff.1 zgc).1) dgb_gc
  have s_100101000 : ∀ (W : World) (ga gc : Nat), Below C V W → W.heap[bl]? = some (.cells #[.int .i64 x0, .int .i64 x1, .int .i64 x2] 61) → W.heap[ga]? = some (.cells #[.int .i64 0, .bool false] 58) → W.heap[gc]? = some (.cells #[.int .i64 0, .bool false] 58) → C ≤ ga → C ≤ gc → bl ≠ ga → bl ≠ gc → ga ≠ gc → wpAnyH Try.prog .any rg_stepR1.1 Q (fun w' => w'.cell? ⟨bl, 0, none⟩ = some (.int .i64 x0) ∧ w'.cell? ⟨bl, 1, none⟩ = some (.int .i64 x1) ∧ w'.cell? ⟨bl, 2, none⟩ = some (.int .i64 x2)) 6 #[true, true, true, true, true, false, true, true, false, true, false, true, false, false, false] { tmps := #[u0, u1, u2, u3, u4, .pointer (some ⟨bl, 0, none⟩), u6, u7, .pointer (some ⟨ga, 0, none⟩), u9, .pointer (some ⟨gc, 0, none⟩), u11, u12, u13, .pointer (some ⟨bl, 0, none⟩), .int .i64 x0, .agg #[.int .i64 x0, .bool true], .pointer (some ⟨bl, 1, none⟩), .int .i64 x1, u19, .pointer (some ⟨bl, 2, none⟩), .int .i64 x2, u22, u23, u24, u25, u26, u27, u28, u29, u30, u31, u32, u33, u34, u35, u36, u37, u38, u39, u40, u41, u42, u43, u44, u45, u46, u47, u48, u49, u50, u51, u52, u53, u54, u55, u56, u57, u58], defers := [] } W := by
    intro W ga gc hb zbl zga zgc mga mgc dbl_ga dbl_gc dga_gc
    dsimp only [rg_stepR1]
    refine wpAnyH_ready (rs := [5, 10]) (by kernel_rfl) (by simp) ?_
    refine AllReadyH.cons rfl (fun K hK => ?_) (AllReadyH.cons rfl (fun K hK => ?_) (AllReadyH.nil))
    · (try simp only [pT])
      rw [if_pos (by rfl)]
      go_simp
      go_at_call 40
      refine (nOf17_N _ x1).mono ?_
      rintro e W2 ⟨rfl, b_⟩
      refine hK.out _ _ (HS _ (hb.trans (b_.mono (Nat.le_trans hC hb.size))) ((b_.block bl (Array.getElem?_eq_some_iff.1 zbl).1).trans zbl)) (fun hHeld => ?_)
      exact s_110101000 W2 ga gc (hb.trans (b_.mono (Nat.le_trans hC hb.size))) ((b_.block bl (Array.getElem?_eq_some_iff.1 zbl).1).trans zbl) ((b_.block ga (Array.getElem?_eq_some_iff.1 zga).1).trans zga) ((b_.block gc (Array.getElem?_eq_some_iff.1 zgc).1).trans zgc) mga mgc dbl_ga dbl_gc dga_gc
    · (try simp only [pT])
      rw [if_pos (by rfl)]
      go_simp
      refine hK.out _ _ (HS _ (hb.alloc (Nat.le_trans hC hb.size) _) (((one_upD W _).block bl (Array.getElem?_eq_some_iff.1 zbl).1).trans zbl)) (fun hHeld => ?_)
      exact s_100111000 (W.alloc (.cells #[.int .i64 0, .bool false] 58)) ga W.heap.size gc (hb.alloc (Nat.le_trans hC hb.size) _) (((one_upD W _).block bl (Array.getElem?_eq_some_iff.1 zbl).1).trans zbl) (((one_upD W _).block ga (Array.getElem?_eq_some_iff.1 zga).1).trans zga) (World.alloc_heap_new W _) (((one_upD W _).block gc (Array.getElem?_eq_some_iff.1 zgc).1).trans zgc) mga (Nat.le_trans hC hb.size) mgc dbl_ga (Nat.ne_of_lt (Array.getElem?_eq_some_iff.1 zbl).1) (Nat.ne_of_lt (Array.getElem?_eq_some_iff.1 zga).1) dbl_gc dga_gc (Nat.ne_of_gt (Array.getElem?_eq_some_iff.1 zgc).1)
  have s_110001000 : ∀ (W : World) (gc : Nat), Below C V W → W.heap[bl]? = some (.cells #[.int .i64 x0, .int .i64 x1, .int .i64 x2] 61) → W.heap[gc]? = some (.cells #[.int .i64 0, .bool false] 58) → C ≤ gc → bl ≠ gc → wpAnyH Try.prog .any rg_stepR1.1 Q (fun w' => w'.cell? ⟨bl, 0, none⟩ = some (.int .i64 x0) ∧ w'.cell? ⟨bl, 1, none⟩ = some (.int .i64 x1) ∧ w'.cell? ⟨bl, 2, none⟩ = some (.int .i64 x2)) 6 #[true, true, true, true, true, true, true, true, false, false, false, true, false, false, false] { tmps := #[u0, u1, u2, u3, u4, .pointer (some ⟨bl, 0, none⟩), u6, u7, u8, u9, .pointer (some ⟨gc, 0, none⟩), u11, u12, u13, .pointer (some ⟨bl, 0, none⟩), .int .i64 x0, .agg #[.int .i64 x0, .bool true], .pointer (some ⟨bl, 1, none⟩), .int .i64 x1, .agg #[.int .i64 x1, .bool true], .pointer (some ⟨bl, 2, none⟩), .int .i64 x2, u22, u23, u24, u25, u26, u27, u28, u29, u30, u31, u32, u33, u34, u35, u36, u37, u38, u39, u40, u41, u42, u43, u44, u45, u46, u47, u48, u49, u50, u51, u52, u53, u54, u55, u56, u57, u58], defers := [] } W := by
    intro W gc hb zbl zgc mgc dbl_gc
    dsimp only [rg_stepR1]
    refine wpAnyH_ready (rs := [8, 9, 10]) (by kernel_rfl) (by simp) ?_
    refine AllReadyH.cons rfl (fun K hK => ?_) (AllReadyH.cons rfl (fun K hK => ?_) (AllReadyH.cons rfl (fun K hK => ?_) (AllReadyH.nil)))
    · (try simp only [pT])
      rw [if_pos (by rfl)]
      go_simp
      go_at_call 40
      refine (nOf17_N _ x2).mono ?_
      rintro e W2 ⟨rfl, b_⟩
      refine hK.out _ _ (HS _ (hb.trans (b_.mono (Nat.le_trans hC hb.size))) ((b_.block bl (Array.getElem?_eq_some_iff.1 zbl).1).trans zbl)) (fun hHeld => ?_)
      exact s_111001000 W2 gc (hb.trans (b_.mono (Nat.le_trans hC hb.size))) ((b_.block bl (Array.getElem?_eq_some_iff.1 zbl).1).trans zbl) ((b_.block gc (Array.getElem?_eq_some_iff.1 zgc).1).trans zgc) mgc dbl_gc
    · (try simp only [pT])
      rw [if_pos (by rfl)]
      go_simp
      refine hK.out _ _ (HS _ (hb.alloc (Nat.le_trans hC hb.size) _) (((one_upD W _).block bl (Array.getElem?_eq_some_iff.1 zbl).1).trans zbl)) (fun hHeld => ?_)
      exact s_110101000 (W.alloc (.cells #[.int .i64 0, .bool false] 58)) W.heap.size gc (hb.alloc (Nat.le_trans hC hb.size) _) (((one_upD W _).block bl (Array.getElem?_eq_some_iff.1 zbl).1).trans zbl) (World.alloc_heap_new W _) (((one_upD W _).block gc (Array.getElem?_eq_some_iff.1 zgc).1).trans zgc) (Nat.le_trans hC hb.size) mgc (Nat.ne_of_lt (Array.getElem?_eq_some_iff.1 zbl).1) dbl_gc (Nat.ne_of_gt (Array.getElem?_eq_some_iff.1 zgc).1)
    · (try simp only [pT])
      rw [if_pos (by rfl)]
      go_simp
      refine hK.out _ _ (HS _ (hb.alloc (Nat.le_trans hC hb.size) _) (((one_upD W _).block bl (Array.getElem?_eq_some_iff.1 zbl).1).trans zbl)) (fun hHeld => ?_)
      exact s_110011000 (W.alloc (.cells #[.int .i64 0, .bool false] 58)) W.heap.size gc (hb.alloc (Nat.le_trans hC hb.size) _) (((one_upD W _).block bl (Array.getElem?_eq_some_iff.1 zbl).1).trans zbl) (World.alloc_heap_new W _) (((one_upD W _).block gc (Array.getElem?_eq_some_iff.1 zgc).1).trans zgc) (Nat.le_trans hC hb.size) mgc (Nat.ne_of_lt (Array.getElem?_eq_some_iff.1 zbl).1) dbl_gc (Nat.ne_of_gt (Array.getElem?_eq_some_iff.1 zgc).1)
  have s_100110000 : ∀ (W : World) (ga gb : Nat), Below C V W → W.heap[bl]? = some (.cells #[.int .i64 x0, .int .i64 x1, .int .i64 x2] 61) → W.heap[ga]? = some (.cells #[.int .i64 0, .bool false] 58) → W.heap[gb]? = some (.cells #[.int .i64 0, .bool false] 58) → C ≤ ga → C ≤ gb → bl ≠ ga → bl ≠ gb → ga ≠ gb → wpAnyH Try.prog .any rg_stepR1.1 Q (fun w' => w'.cell? ⟨bl, 0, none⟩ = some (.int .i64 x0) ∧ w'.cell? ⟨bl, 1, none⟩ = some (.int .i64 x1) ∧ w'.cell? ⟨bl, 2, none⟩ = some (.int .i64 x2)) 6 #[true, true, true, true, true, false, true, true, false, true, true, false, false, false, false] { tmps := #[u0, u1, u2, u3, u4, .pointer (some ⟨bl, 0, none⟩), u6, u7, .pointer (some ⟨ga, 0, none⟩), .pointer (some ⟨gb, 0, none⟩), u10, u11, u12, u13, .pointer (some ⟨bl, 0, none⟩), .int .i64 x0, .agg #[.int .i64 x0, .bool true], .pointer (some ⟨bl, 1, none⟩), .int .i64 x1, u19, .pointer (some ⟨bl, 2, none⟩), .int .i64 x2, u22, u23, u24, u25, u26, u27, u28, u29, u30, u31, u32, u33, u34, u35, u36, u37, u38, u39, u40, u41, u42, u43, u44, u45, u46, u47, u48, u49, u50, u51, u52, u53, u54, u55, u56, u57, u58], defers := [] } W := by
    intro W ga gb hb zbl zga zgb mga mgb dbl_ga dbl_gb dga_gb
    dsimp only [rg_stepR1]
    refine wpAnyH_ready (rs := [5, 11]) (by kernel_rfl) (by simp) ?_
    refine AllReadyH.cons rfl (fun K hK => ?_) (AllReadyH.cons rfl (fun K hK => ?_) (AllReadyH.nil))
    · (try simp only [pT])
      rw [if_pos (by rfl)]
      go_simp
      go_at_call 40
      refine (nOf17_N _ x1).mono ?_
      rintro e W2 ⟨rfl, b_⟩
      refine hK.out _ _ (HS _ (hb.trans (b_.mono (Nat.le_trans hC hb.size))) ((b_.block bl (Array.getElem?_eq_some_iff.1 zbl).1).trans zbl)) (fun hHeld => ?_)
      exact s_110110000 W2 ga gb (hb.trans (b_.mono (Nat.le_trans hC hb.size))) ((b_.block bl (Array.getElem?_eq_some_iff.1 zbl).1).trans zbl) ((b_.block ga (Array.getElem?_eq_some_iff.1 zga).1).trans zga) ((b_.block gb (Array.getElem?_eq_some_iff.1 zgb).1).trans zgb) mga mgb dbl_ga dbl_gb dga_gb
    · (try simp only [pT])
      rw [if_pos (by rfl)]
      go_simp
      refine hK.out _ _ (HS _ (hb.alloc (Nat.le_trans hC hb.size) _) (((one_upD W _).block bl (Array.getElem?_eq_some_iff.1 zbl).1).trans zbl)) (fun hHeld => ?_)
      exact s_100111000 (W.alloc (.cells #[.int .i64 0, .bool false] 58)) ga gb W.heap.size (hb.alloc (Nat.le_trans hC hb.size) _) (((one_upD W _).block bl (Array.getElem?_eq_some_iff.1 zbl).1).trans zbl) (((one_upD W _).block ga (Array.getElem?_eq_some_iff.1 zga).1).trans zga) (((one_upD W _).block gb (Array.getElem?_eq_some_iff.1 zgb).1).trans zgb) (World.alloc_heap_new W _) mga mgb (Nat.le_trans hC hb.size) dbl_ga dbl_gb dga_gb (Nat.ne_of_lt (Array.getElem?_eq_some_iff.1 zbl).1) (Nat.ne_of_lt (Array.getElem?_eq_some_iff.1 zga).1) (Nat.ne_of_lt (Array.getElem?_eq_some_iff.1 zgb).1)
  have s_110010000 : ∀ (W : World) (gb : Nat), Below C V W → W.heap[bl]? = some (.cells #[.int .i64 x0, .int .i64 x1, .int .i64 x2] 61) → W.heap[gb]? = some (.cells #[.int .i64 0, .bool false] 58) → C ≤ gb → bl ≠ gb → wpAnyH Try.prog .any rg_stepR1.1 Q (fun w' => w'.cell? ⟨bl, 0, none⟩ = some (.int .i64 x0) ∧ w'.cell? ⟨bl, 1, none⟩ = some (.int .i64 x1) ∧ w'.cell? ⟨bl, 2, none⟩ = some (.int .i64 x2)) 6 #[true, true, true, true, true, true, true, true, false, false, true, false, false, false, false] { tmps := #[u0, u1, u2, u3, u4, .pointer (some ⟨bl, 0, none⟩), u6, u7, u8, .pointer (some ⟨gb, 0, none⟩), u10, u11, u12, u13, .pointer (some ⟨bl, 0, none⟩), .int .i64 x0, .agg #[.int .i64 x0, .bool true], .pointer (some ⟨bl, 1, none⟩), .int .i64 x1, .agg #[.int .i64 x1, .bool true], .pointer (some ⟨bl, 2, none⟩), .int .i64 x2, u22, u23, u24, u25, u26, u27, u28, u29, u30, u31, u32, u33, u34, u35, u36, u37, u38, u39, u40, u41, u42, u43, u44, u45, u46, u47, u48, u49, u50, u51, u52, u53, u54, u55, u56, u57, u58], defers := [] } W := by
    intro W gb hb zbl zgb mgb dbl_gb
    dsimp only [rg_stepR1]
    refine wpAnyH_ready (rs := [8, 9, 11]) (by kernel_rfl) (by simp) ?_
    refine AllReadyH.cons rfl (fun K hK => ?_) (AllReadyH.cons rfl (fun K hK => ?_) (AllReadyH.cons rfl (fun K hK => ?_) (AllReadyH.nil)))
    · (try simp only [pT])
      rw [if_pos (by rfl)]
      go_simp
      go_at_call 40
      refine (nOf17_N _ x2).mono ?_
      rintro e W2 ⟨rfl, b_⟩
      refine hK.out _ _ (HS _ (hb.trans (b_.mono (Nat.le_trans hC hb.size))) ((b_.block bl (Array.getElem?_eq_some_iff.1 zbl).1).trans zbl)) (fun hHeld => ?_)
      exact s_111010000 W2 gb (hb.trans (b_.mono (Nat.le_trans hC hb.size))) ((b_.block bl (Array.getElem?_eq_some_iff.1 zbl).1).trans zbl) ((b_.block gb (Array.getElem?_eq_some_iff.1 zgb).1).trans zgb) mgb dbl_gb
    · (try simp only [pT])
      rw [if_pos (by rfl)]
      go_simp
      refine hK.out _ _ (HS _ (hb.alloc (Nat.le_trans hC hb.size) _) (((one_upD W _).block bl (Array.getElem?_eq_some_iff.1 zbl).1).trans zbl)) (fun hHeld => ?_)
      exact s_110110000 (W.alloc (.cells #[.int .i64 0, .bool false] 58)) W.heap.size gb (hb.alloc (Nat.le_trans hC hb.size) _) (((one_upD W _).block bl (Array.getElem?_eq_some_iff.1 zbl).1).trans zbl) (World.alloc_heap_new W _) (((one_upD W _).block gb (Array.getElem?_eq_some_iff.1 zgb).1).trans zgb) (Nat.le_trans hC hb.size) mgb (Nat.ne_of_lt (Array.getElem?_eq_some_iff.1 zbl).1) dbl_gb (Nat.ne_of_gt (Array.getElem?_eq_some_iff.1 zgb).1)
    · (try simp only [pT])
      rw [if_pos (by rfl)]
      go_simp
      refine hK.out _ _ (HS _ (hb.alloc (Nat.le_trans hC hb.size) _) (((one_upD W _).block bl (Array.getElem?_eq_some_iff.1 zbl).1).trans zbl)) (fun hHeld => ?_)
      exact s_110011000 (W.alloc (.cells #[.int .i64 0, .bool false] 58)) gb W.heap.size (hb.alloc (Nat.le_trans hC hb.size) _) (((one_upD W _).block bl (Array.getElem?_eq_some_iff.1 zbl).1).trans zbl) (((one_upD W _).block gb (Array.getElem?_eq_some_iff.1 zgb).1).trans zgb) (World.alloc_heap_new W _) mgb (Nat.le_trans hC hb.size) dbl_gb (Nat.ne_of_lt (Array.getElem?_eq_some_iff.1 zbl).1) (Nat.ne_of_lt (Array.getElem?_eq_some_iff.1 zgb).1)
  have s_110100000 : ∀ (W : World) (ga : Nat), Below C V W → W.heap[bl]? = some (.cells #[.int .i64 x0, .int .i64 x1, .int .i64 x2] 61) → W.heap[ga]? = some (.cells #[.int .i64 0, .bool false] 58) → C ≤ ga → bl ≠ ga → wpAnyH Try.prog .any rg_stepR1.1 Q (fun w' => w'.cell? ⟨bl, 0, none⟩ = some (.int .i64 x0) ∧ w'.cell? ⟨bl, 1, none⟩ = some (.int .i64 x1) ∧ w'.cell? ⟨bl, 2, none⟩ = some (.int .i64 x2)) 6 #[true, true, true, true, true, true, true, true, false, true, false, false, false, false, false] { tmps := #[u0, u1, u2, u3, u4, .pointer (some ⟨bl, 0, none⟩), u6, u7, .pointer (some ⟨ga, 0, none⟩), u9, u10, u11, u12, u13, .pointer (some ⟨bl, 0, none⟩), .int .i64 x0, .agg #[.int .i64 x0, .bool true], .pointer (some ⟨bl, 1, none⟩), .int .i64 x1, .agg #[.int .i64 x1, .bool true], .pointer (some ⟨bl, 2, none⟩), .int .i64 x2, u22, u23, u24, u25, u26, u27, u28, u29, u30, u31, u32, u33, u34, u35, u36, u37, u38, u39, u40, u41, u42, u43, u44, u45, u46, u47, u48, u49, u50, u51, u52, u53, u54, u55, u56, u57, u58], defers := [] } W := by
    intro W ga hb zbl zga mga dbl_ga
    dsimp only [rg_stepR1]
    refine wpAnyH_ready (rs := [8, 10, 11]) (by kernel_rfl) (by simp) ?_
    refine AllReadyH.cons rfl (fun K hK => ?_) (AllReadyH.cons rfl (fun K hK => ?_) (AllReadyH.cons rfl (fun K hK => ?_) (AllReadyH.nil)))
    · (try simp only [pT])
      rw [if_pos (by rfl)]
      go_simp
      go_at_call 40
      refine (nOf17_N _ x2).mono ?_
      rintro e W2 ⟨rfl, b_⟩
      refine hK.out _ _ (HS _ (hb.trans (b_.mono (Nat.le_trans hC hb.size))) ((b_.block bl (Array.getElem?_eq_some_iff.1 zbl).1).trans zbl)) (fun hHeld => ?_)
      exact s_111100000 W2 ga (hb.trans (b_.mono (Nat.le_trans hC hb.size))) ((b_.block bl (Array.getElem?_eq_some_iff.1 zbl).1).trans zbl) ((b_.block ga (Array.getElem?_eq_some_iff.1 zga).1).trans zga) mga dbl_ga
    · (try simp only [pT])
      rw [if_pos (by rfl)]
      go_simp
      refine hK.out _ _ (HS _ (hb.alloc (Nat.le_trans hC hb.size) _) (((one_upD W _).block bl (Array.getElem?_eq_some_iff.1 zbl).1).trans zbl)) (fun hHeld => ?_)
      exact s_110110000 (W.alloc (.cells #[.int .i64 0, .bool false] 58)) ga W.heap.size (hb.alloc (Nat.le_trans hC hb.size) _) (((one_upD W _).block bl (Array.getElem?_eq_some_iff.1 zbl).1).trans zbl) (((one_upD W _).block ga (Array.getElem?_eq_some_iff.1 zga).1).trans zga) (World.alloc_heap_new W _) mga (Nat.le_trans hC hb.size) dbl_ga (Nat.ne_of_lt (Array.getElem?_eq_some_iff.1 zbl).1) (Nat.ne_of_lt (Array.getElem?_eq_some_iff.1 zga).1)
    · (try simp only [pT])
      rw [if_pos (by rfl)]
      go_simp
      refine hK.out _ _ (HS _ (hb.alloc (Nat.le_trans hC hb.size) _) (((one_upD W _).block bl (Array.getElem?_eq_some_iff.1 zbl).1).trans zbl)) (fun hHeld => ?_)
      exact s_110101000 (W.alloc (.cells #[.int .i64 0, .bool false] 58)) ga W.heap.size (hb.alloc (Nat.le_trans hC hb.size) _) (((one_upD W _).block bl (Array.getElem?_eq_some_iff.1 zbl).1).trans zbl) (((one_upD W _).block ga (Array.getElem?_eq_some_iff.1 zga).1).trans zga) (World.alloc_heap_new W _) mga (Nat.le_trans hC hb.size) dbl_ga (Nat.ne_of_lt (Array.getElem?_eq_some_iff.1 zbl).1) (Nat.ne_of_lt (Array.getElem?_eq_some_iff.1 zga).1)
  have s_111000000 : ∀ (W : World), Below C V W → W.heap[bl]? = some (.cells #[.int .i64 x0, .int .i64 x1, .int .i64 x2] 61) → wpAnyH Try.prog .any rg_stepR1.1 Q (fun w' => w'.cell? ⟨bl, 0, none⟩ = some (.int .i64 x0) ∧ w'.cell? ⟨bl, 1, none⟩ = some (.int .i64 x1) ∧ w'.cell? ⟨bl, 2, none⟩ = some (.int .i64 x2)) 6 #[true, true, true, true, true, true, true, true, true, false, false, false, false, false, false] { tmps := #[u0, u1, u2, u3, u4, .pointer (some ⟨bl, 0, none⟩), u6, u7, u8, u9, u10, u11, u12, u13, .pointer (some ⟨bl, 0, none⟩), .int .i64 x0, .agg #[.int .i64 x0, .bool true], .pointer (some ⟨bl, 1, none⟩), .int .i64 x1, .agg #[.int .i64 x1, .bool true], .pointer (some ⟨bl, 2, none⟩), .int .i64 x2, .agg #[.int .i64 x2, .bool true], u23, u24, u25, u26, u27, u28, u29, u30, u31, u32, u33, u34, u35, u36, u37, u38, u39, u40, u41, u42, u43, u44, u45, u46, u47, u48, u49, u50, u51, u52, u53, u54, u55, u56, u57, u58], defers := [] } W := by
    intro W hb zbl
    dsimp only [rg_stepR1]
    refine wpAnyH_ready (rs := [9, 10, 11]) (by kernel_rfl) (by simp) ?_
    refine AllReadyH.cons rfl (fun K hK => ?_) (AllReadyH.cons rfl (fun K hK => ?_) (AllReadyH.cons rfl (fun K hK => ?_) (AllReadyH.nil)))
    · (try simp only [pT])
      rw [if_pos (by rfl)]
      go_simp
      refine hK.out _ _ (HS _ (hb.alloc (Nat.le_trans hC hb.size) _) (((one_upD W _).block bl (Array.getElem?_eq_some_iff.1 zbl).1).trans zbl)) (fun hHeld => ?_)
      exact s_111100000 (W.alloc (.cells #[.int .i64 0, .bool false] 58)) W.heap.size (hb.alloc (Nat.le_trans hC hb.size) _) (((one_upD W _).block bl (Array.getElem?_eq_some_iff.1 zbl).1).trans zbl) (World.alloc_heap_new W _) (Nat.le_trans hC hb.size) (Nat.ne_of_lt (Array.getElem?_eq_some_iff.1 zbl).1)
    · (try simp only [pT])
      rw [if_pos (by rfl)]
      go_simp
      refine hK.out _ _ (HS _ (hb.alloc (Nat.le_trans hC hb.size) _) (((one_upD W _).block bl (Array.getElem?_eq_some_iff.1 zbl).1).trans zbl)) (fun hHeld => ?_)
      exact s_111010000 (W.alloc (.cells #[.int .i64 0, .bool false] 58)) W.heap.size (hb.alloc (Nat.le_trans hC hb.size) _) (((one_upD W _).block bl (Array.getElem?_eq_some_iff.1 zbl).1).trans zbl) (World.alloc_heap_new W _) (Nat.le_trans hC hb.size) (Nat.ne_of_lt (Array.getElem?_eq_some_iff.1 zbl).1)
    · (try simp only [pT])
      rw [if_pos (by rfl)]
      go_simp
      refine hK.out _ _ (HS _ (hb.alloc (Nat.le_trans hC hb.size) _) (((one_upD W _).block bl (Array.getElem?_eq_some_iff.1 zbl).1).trans zbl)) (fun hHeld => ?_)
      exact s_111001000 (W.alloc (.cells #[.int .i64 0, .bool false] 58)) W.heap.size (hb.alloc (Nat.le_trans hC hb.size) _) (((one_upD W _).block bl (Array.getElem?_eq_some_iff.1 zbl).1).trans zbl) (World.alloc_heap_new W _) (Nat.le_trans hC hb.size) (Nat.ne_of_lt (Array.getElem?_eq_some_iff.1 zbl).1)
  have s_000011000 : ∀ (W : World) (gb gc : Nat), Below C V W → W.heap[bl]? = some (.cells #[.int .i64 x0, .int .i64 x1, .int .i64 x2] 61) → W.heap[gb]? = some (.cells #[.int .i64 0, .bool false] 58) → W.heap[gc]? = some (.cells #[.int .i64 0, .bool false] 58) → C ≤ gb → C ≤ gc → bl ≠ gb → bl ≠ gc → gb ≠ gc → wpAnyH Try.prog .any rg_stepR1.1 Q (fun w' => w'.cell? ⟨bl, 0, none⟩ = some (.int .i64 x0) ∧ w'.cell? ⟨bl, 1, none⟩ = some (.int .i64 x1) ∧ w'.cell? ⟨bl, 2, none⟩ = some (.int .i64 x2)) 7 #[true, true, false, true, true, false, true, true, false, false, true, true, false, false, false] { tmps := #[u0, u1, u2, u3, u4, .pointer (some ⟨bl, 0, none⟩), u6, u7, u8, .pointer (some ⟨gb, 0, none⟩), .pointer (some ⟨gc, 0, none⟩), u11, u12, u13, .pointer (some ⟨bl, 0, none⟩), .int .i64 x0, u16, .pointer (some ⟨bl, 1, none⟩), .int .i64 x1, u19, .pointer (some ⟨bl, 2, none⟩), .int .i64 x2, u22, u23, u24, u25, u26, u27, u28, u29, u30, u31, u32, u33, u34, u35, u36, u37, u38, u39, u40, u41, u42, u43, u44, u45, u46, u47, u48, u49, u50, u51, u52, u53, u54, u55, u56, u57, u58], defers := [] } W := by
    intro W gb gc hb zbl zgb zgc mgb mgc dbl_gb dbl_gc dgb_gc
    dsimp only [rg_stepR1]
    refine wpAnyH_ready (rs := [2, 9]) (by kernel_rfl) (by simp) ?_
    refine AllReadyH.cons rfl (fun K hK => ?_) (AllReadyH.cons rfl (fun K hK => ?_) (AllReadyH.nil))
    · (try simp only [pT])
      rw [if_pos (by rfl)]
      go_simp
      go_at_call 40
      refine (nOf17_N _ x0).mono ?_
      rintro e W2 ⟨rfl, b_⟩
      refine hK.out _ _ (HS _ (hb.trans (b_.mono (Nat.le_trans hC hb.size))) ((b_.block bl (Array.getElem?_eq_some_iff.1 zbl).1).trans zbl)) (fun hHeld => ?_)
      exact s_100011000 W2 gb gc (hb.trans (b_.mono (Nat.le_trans hC hb.size))) ((b_.block bl (Array.getElem?_eq_some_iff.1 zbl).1).trans zbl) ((b_.block gb (Array.getElem?_eq_some_iff.1 zgb).1).trans zgb) ((b_.block gc (Array.getElem?_eq_some_iff.1 zgc).1).trans zgc) mgb mgc dbl_gb dbl_gc dgb_gc
    · (try simp only [pT])
      rw [if_pos (by rfl)]
      go_simp
      refine hK.out _ _ (HS _ (hb.alloc (Nat.le_trans hC hb.size) _) (((one_upD W _).block bl (Array.getElem?_eq_some_iff.1 zbl).1).trans zbl)) (fun hHeld => ?_)
      exact s_000111000 (W.alloc (.cells #[.int .i64 0, .bool false] 58)) W.heap.size gb gc (hb.alloc (Nat.le_trans hC hb.size) _) (((one_upD W _).block bl (Array.getElem?_eq_some_iff.1 zbl).1).trans zbl) (World.alloc_heap_new W _) (((one_upD W _).block gb (Array.getElem?_eq_some_iff.1 zgb).1).trans zgb) (((one_upD W _).block gc (Array.getElem?_eq_some_iff.1 zgc).1).trans zgc) (Nat.le_trans hC hb.size) mgb mgc (Nat.ne_of_lt (Array.getElem?_eq_some_iff.1 zbl).1) dbl_gb (Nat.ne_of_gt (Array.getElem?_eq_some_iff.1 zgb).1) dbl_gc (Nat.ne_of_gt (Array.getElem?_eq_some_iff.1 zgc).1) dgb_gc
  have s_000101000 : ∀ (W : World) (ga gc : Nat), Below C V W → W.heap[bl]? = some (.cells #[.int .i64 x0, .int .i64 x1, .int .i64 x2] 61) → W.heap[ga]? = some (.cells #[.int .i64 0, .bool false] 58) → W.heap[gc]? = some (.cells #[.int .i64 0, .bool false] 58) → C ≤ ga → C ≤ gc → bl ≠ ga → bl ≠ gc → ga ≠ gc → wpAnyH Try.prog .any rg_stepR1.1 Q (fun w' => w'.cell? ⟨bl, 0, none⟩ = some (.int .i64 x0) ∧ w'.cell? ⟨bl, 1, none⟩ = some (.int .i64 x1) ∧ w'.cell? ⟨bl, 2, none⟩ = some (.int .i64 x2)) 7 #[true, true, false, true, true, false, true, true, false, true, false, true, false, false, false] { tmps := #[u0, u1, u2, u3, u4, .pointer (some ⟨bl, 0, none⟩), u6, u7, .pointer (some ⟨ga, 0, none⟩), u9, .pointer (some ⟨gc, 0, none⟩), u11, u12, u13, .pointer (some ⟨bl, 0, none⟩), .int .i64 x0, u16, .pointer (some ⟨bl, 1, none⟩), .int .i64 x1, u19, .pointer (some ⟨bl, 2, none⟩), .int .i64 x2, u22, u23, u24, u25, u26, u27, u28, u29, u30, u31, u32, u33, u34, u35, u36, u37, u38, u39, u40, u41, u42, u43, u44, u45, u46, u47, u48, u49, u50, u51, u52, u53, u54, u55, u56, u57, u58], defers := [] } W := by
    intro W ga gc hb zbl zga zgc mga mgc dbl_ga dbl_gc dga_gc
    dsimp only [rg_stepR1]
    refine wpAnyH_ready (rs := [2, 10]) (by kernel_rfl) (by simp) ?_
    refine AllReadyH.cons rfl (fun K hK => ?_) (AllReadyH.cons rfl (fun K hK => ?_) (AllReadyH.nil))
    · (try simp only [pT])
      rw [if_pos (by rfl)]
      go_simp
      go_at_call 40
      refine (nOf17_N _ x0).mono ?_
      rintro e W2 ⟨rfl, b_⟩
      refine hK.out _ _ (HS _ (hb.trans (b_.mono (Nat.le_trans hC hb.size))) ((b_.block bl (Array.getElem?_eq_some_iff.1 zbl).1).trans zbl)) (fun hHeld => ?_)
      exact s_100101000 W2 ga gc (hb.trans (b_.mono (Nat.le_trans hC hb.size))) ((b_.block bl (Array.getElem?_eq_some_iff.1 zbl).1).trans zbl) ((b_.block ga (Array.getElem?_eq_some_iff.1 zga).1).trans zga) ((b_.block gc (Array.getElem?_eq_some_iff.1 zgc).1).trans zgc) mga mgc dbl_ga dbl_gc dga_gc
    · (try simp only [pT])
      rw [if_pos (by rfl)]
      go_simp
      refine hK.out _ _ (HS _ (hb.alloc (Nat.le_trans hC hb.size) _) (((one_upD W _).block bl (Array.getElem?_eq_some_iff.1 zbl).1).trans zbl)) (fun hHeld => ?_)
      exact s_000111000 (W.alloc (.cells #[.int .i64 0, .bool false] 58)) ga W.heap.size gc (hb.alloc (Nat.le_trans hC hb.size) _) (((one_upD W _).block bl (Array.getElem?_eq_some_iff.1 zbl).1).trans zbl) (((one_upD W _).block ga (Array.getElem?_eq_some_iff.1 zga).1).trans zga) (World.alloc_heap_new W _) (((one_upD W _).block gc (Array.getElem?_eq_some_iff.1 zgc).1).trans zgc) mga (Nat.le_trans hC hb.size) mgc dbl_ga (Nat.ne_of_lt (Array.getElem?_eq_some_iff.1 zbl).1) (Nat.ne_of_lt (Array.getElem?_eq_some_iff.1 zga).1) dbl_gc dga_gc (Nat.ne_of_gt (Array.getElem?_eq_some_iff.1 zgc).1)
  have s_100001000 : ∀ (W : World) (gc : Nat), Below C V W → W.heap[bl]? = some (.cells #[.int .i64 x0, .int .i64 x1, .int .i64 x2] 61) → W.heap[gc]? = some (.cells #[.int .i64 0, .bool false] 58) → C ≤ gc → bl ≠ gc → wpAnyH Try.prog .any rg_stepR1.1 Q (fun w' => w'.cell? ⟨bl, 0, none⟩ = some (.int .i64 x0) ∧ w'.cell? ⟨bl, 1, none⟩ = some (.int .i64 x1) ∧ w'.cell? ⟨bl, 2, none⟩ = some (.int .i64 x2)) 7 #[true, true, true, true, true, false, true, true, false, false, false, true, false, false, false] { tmps := #[u0, u1, u2, u3, u4, .pointer (some ⟨bl, 0, none⟩), u6, u7, u8, u9, .pointer (some ⟨gc, 0, none⟩), u11, u12, u13, .pointer (some ⟨bl, 0, none⟩), .int .i64 x0, .agg #[.int .i64 x0, .bool true], .pointer (some ⟨bl, 1, none⟩), .int .i64 x1, u19, .pointer (some ⟨bl, 2, none⟩), .int .i64 x2, u22, u23, u24, u25, u26, u27, u28, u29, u30, u31, u32, u33, u34, u35, u36, u37, u38, u39, u40, u41, u42, u43, u44, u45, u46, u47, u48, u49, u50, u51, u52, u53, u54, u55, u56, u57, u58], defers := [] } W := by
    intro W gc hb zbl zgc mgc dbl_gc
    dsimp only [rg_stepR1]
    refine wpAnyH_ready (rs := [5, 9, 10]) (by kernel_rfl) (by simp) ?_
    refine AllReadyH.cons rfl (fun K hK => ?_) (AllReadyH.cons rfl (fun K hK => ?_) (AllReadyH.cons rfl (fun K hK => ?_) (AllReadyH.nil)))
    · (try simp only [pT])
      rw [if_pos (by rfl)]
      go_simp
      go_at_call 40
      refine (nOf17_N _ x1).mono ?_
      rintro e W2 ⟨rfl, b_⟩
      refine hK.out _ _ (HS _ (hb.trans (b_.mono (Nat.le_trans hC hb.size))) ((b_.block bl (Array.getElem?_eq_some_iff.1 zbl).1).trans zbl)) (fun hHeld => ?_)
      exact s_110001000 W2 gc (hb.trans (b_.mono (Nat.le_trans hC hb.size))) ((b_.block bl (Array.getElem?_eq_some_iff.1 zbl).1).trans zbl) ((b_.block gc (Array.getElem?_eq_some_iff.1 zgc).1).trans zgc) mgc dbl_gc
    · (try simp only [pT])
      rw [if_pos (by rfl)]
      go_simp
      refine hK.out _ _ (HS _ (hb.alloc (Nat.le_trans hC hb.size) _) (((one_upD W _).block bl (Array.getElem?_eq_some_iff.1 zbl).1).trans zbl)) (fun hHeld => ?_)
      exact s_100101000 (W.alloc (.cells #[.int .i64 0, .bool false] 58)) W.heap.size gc (hb.alloc (Nat.le_trans hC hb.size) _) (((one_upD W _).block bl (Array.getElem?_eq_some_iff.1 zbl).1).trans zbl) (World.alloc_heap_new W _) (((one_upD W _).block gc (Array.getElem?_eq_some_iff.1 zgc).1).trans zgc) (Nat.le_trans hC hb.size) mgc (Nat.ne_of_lt (Array.getElem?_eq_some_iff.1 zbl).1) dbl_gc (Nat.ne_of_gt (Array.getElem?_eq_some_iff.1 zgc).1)
    · (try simp only [pT])
      rw [if_pos (by rfl)]
      go_simp
      refine hK.out _ _ (HS _ (hb.alloc (Nat.le_trans hC hb.size) _) (((one_upD W _).block bl (Array.getElem?_eq_some_iff.1 zbl).1).trans zbl)) (fun hHeld => ?_)
      exact s_100011000 (W.alloc (.cells #[.int .i64 0, .bool false] 58)) W.heap.size gc (hb.alloc (Nat.le_trans hC hb.size) _) (((one_upD W _).block bl (Array.getElem?_eq_some_iff.1 zbl).1).trans zbl) (World.alloc_heap_new W _) (((one_upD W _).block gc (Array.getElem?_eq_some_iff.1 zgc).1).trans zgc) (Nat.le_trans hC hb.size) mgc (Nat.ne_of_lt (Array.getElem?_eq_some_iff.1 zbl).1) dbl_gc (Nat.ne_of_gt (Array.getElem?_eq_some_iff.1 zgc).1)
  have s_000110000 : ∀ (W : World) (ga gb : Nat), Below C V W → W.heap[bl]? = some (.cells #[.int .i64 x0, .int .i64 x1, .int .i64 x2] 61) → W.heap[ga]? = some (.cells #[.int .i64 0, .bool false] 58) → W.heap[gb]? = some (.cells #[.int .i64 0, .bool false] 58) → C ≤ ga → C ≤ gb → bl ≠ ga → bl ≠ gb → ga ≠ gb → wpAnyH Try.prog .any rg_stepR1.1 Q (fun w' => w'.cell? ⟨bl, 0, none⟩ = some (.int .i64 x0) ∧ w'.cell? ⟨bl, 1, none⟩ = some (.int .i64 x1) ∧ w'.cell? ⟨bl, 2, none⟩ = some (.int .i64 x2)) 7 #[true, true, false, true, true, false, true, true, false, true, true, false, false, false, false] { tmps := #[u0, u1, u2, u3, u4, .pointer (some ⟨bl, 0, none⟩), u6, u7, .pointer (some ⟨ga, 0, none⟩), .pointer (some ⟨gb, 0, none⟩), u10, u11, u12, u13, .pointer (some ⟨bl, 0, none⟩), .int .i64 x0, u16, .pointer (some ⟨bl, 1, none⟩), .int .i64 x1, u19, .pointer (some ⟨bl, 2, none⟩), .int .i64 x2, u22, u23, u24, u25, u26, u27, u28, u29, u30, u31, u32, u33, u34, u35, u36, u37, u38, u39, u40, u41, u42, u43, u44, u45, u46, u47, u48, u49, u50, u51, u52, u53, u54, u55, u56, u57, u58], defers := [] } W := by
    intro W ga gb hb zbl zga zgb mga mgb dbl_ga dbl_gb dga_gb
    dsimp only [rg_stepR1]
    refine wpAnyH_ready (rs := [2, 11]) (by kernel_rfl) (by simp) ?_
    refine AllReadyH.cons rfl (fun K hK => ?_) (AllReadyH.cons rfl (fun K hK => ?_) (AllReadyH.nil))
    · (try simp only [pT])
      rw [if_pos (by rfl)]
      go_simp
      go_at_call 40
      refine (nOf17_N _ x0).mono ?_
      rintro e W2 ⟨rfl, b_⟩
      refine hK.out _ _ (HS _ (hb.trans (b_.mono (Nat.le_trans hC hb.size))) ((b_.block bl (Array.getElem?_eq_some_iff.1 zbl).1).trans zbl)) (fun hHeld => ?_)
      exact s_100110000 W2 ga gb (hb.trans (b_.mono (Nat.le_trans hC hb.size))) ((b_.block bl (Array.getElem?_eq_some_iff.1 zbl).1).trans zbl) ((b_.block ga (Array.getElem?_eq_some_iff.1 zga).1).trans zga) ((b_.block gb (Array.getElem?_eq_some_iff.1 zgb).1).trans zgb) mga mgb dbl_ga dbl_gb dga_gb
    · (try simp only [pT])
      rw [if_pos (by rfl)]
      go_simp
      refine hK.out _ _ (HS _ (hb.alloc (Nat.le_trans hC hb.size) _) (((one_upD W _).block bl (Array.getElem?_eq_some_iff.1 zbl).1).trans zbl)) (fun hHeld => ?_)
      exact s_000111000 (W.alloc (.cells #[.int .i64 0, .bool false] 58)) ga gb W.heap.size (hb.alloc (Nat.le_trans hC hb.size) _) (((one_upD W _).block bl (Array.getElem?_eq_some_iff.1 zbl).1).trans zbl) (((one_upD W _).block ga (Array.getElem?_eq_some_iff.1 zga).1).trans zga) (((one_upD W _).block gb (Array.getElem?_eq_some_iff.1 zgb).1).trans zgb) (World.alloc_heap_new W _) mga mgb (Nat.le_trans hC hb.size) dbl_ga dbl_gb dga_gb (Nat.ne_of_lt (Array.getElem?_eq_some_iff.1 zbl).1) (Nat.ne_of_lt (Array.getElem?_eq_some_iff.1 zga).1) (Nat.ne_of_lt (Array.getElem?_eq_some_iff.1 zgb).1)
  have s_100010000 : ∀ (W : World) (gb : Nat), Below C V W → W.heap[bl]? = some (.cells #[.int .i64 x0, .int .i64 x1, .int .i64 x2] 61) → W.heap[gb]? = some (.cells #[.int .i64 0, .bool false] 58) → C ≤ gb → bl ≠ gb → wpAnyH Try.prog .any rg_stepR1.1 Q (fun w' => w'.cell? ⟨bl, 0, none⟩ = some (.int .i64 x0) ∧ w'.cell? ⟨bl, 1, none⟩ = some (.int .i64 x1) ∧ w'.cell? ⟨bl, 2, none⟩ = some (.int .i64 x2)) 7 #[true, true, true, true, true, false, true, true, false, false, true, false, false, false, false] { tmps := #[u0, u1, u2, u3, u4, .pointer (some ⟨bl, 0, none⟩), u6, u7, u8, .pointer (some ⟨gb, 0, none⟩), u10, u11, u12, u13, .pointer (some ⟨bl, 0, none⟩), .int .i64 x0, .agg #[.int .i64 x0, .bool true], .pointer (some ⟨bl, 1, none⟩), .int .i64 x1, u19, .pointer (some ⟨bl, 2, none⟩), .int .i64 x2, u22, u23, u24, u25, u26, u27, u28, u29, u30, u31, u32, u33, u34, u35, u36, u37, u38, u39, u40, u41, u42, u43, u44, u45, u46, u47, u48, u49, u50, u51, u52, u53, u54, u55, u56, u57, u58], defers := [] } W := by
    intro W gb hb zbl zgb mgb dbl_gb
    dsimp only [rg_stepR1]
    refine wpAnyH_ready (rs := [5, 9, 11]) (by kernel_rfl) (by simp) ?_
    refine AllReadyH.cons rfl (fun K hK => ?_) (AllReadyH.cons rfl (fun K hK => ?_) (AllReadyH.cons rfl (fun K hK => ?_) (AllReadyH.nil)))
    · (try simp only [pT])
      rw [if_pos (by rfl)]
      go_simp
      go_at_call 40
      refine (nOf17_N _ x1).mono ?_
      rintro e W2 ⟨rfl, b_⟩
      refine hK.out _ _ (HS _ (hb.trans (b_.mono (Nat.le_trans hC hb.size))) ((b_.block bl (Array.getElem?_eq_some_iff.1 zbl).1).trans zbl)) (fun hHeld => ?_)
      exact s_110010000 W2 gb (hb.trans (b_.mono (Nat.le_trans hC hb.size))) ((b_.block bl (Array.getElem?_eq_some_iff.1 zbl).1).trans zbl) ((b_.block gb (Array.getElem?_eq_some_iff.1 zgb).1).trans zgb) mgb dbl_gb
    · (try simp only [pT])
      rw [if_pos (by rfl)]
      go_simp
      refine hK.out _ _ (HS _ (hb.alloc (Nat.le_trans hC hb.size) _) (((one_upD W _).block bl (Array.getElem?_eq_some_iff.1 zbl).1).trans zbl)) (fun hHeld => ?_)
      exact s_100110000 (W.alloc (.cells #[.int .i64 0, .bool false] 58)) W.heap.size gb (hb.alloc (Nat.le_trans hC hb.size) _) (((one_upD W _).block bl (Array.getElem?_eq_some_iff.1 zbl).1).trans zbl) (World.alloc_heap_new W _) (((one_upD W _).block gb (Array.getElem?_eq_some_iff.1 zgb).1).trans zgb) (Nat.le_trans hC hb.size) mgb (Nat.ne_of_lt (Array.getElem?_eq_some_iff.1 zbl).1) dbl_gb (Nat.ne_of_gt (Array.getElem?_eq_some_iff.1 zgb).1)
    · (try simp only [pT])
      rw [if_pos (by rfl)]
      go_simp
      refine hK.out _ _ (HS _ (hb.alloc (Nat.le_trans hC hb.size) _) (((one_upD W _).block bl (Array.getElem?_eq_some_iff.1 zbl).1).trans zbl)) (fun hHeld => ?_)
      exact s_100011000 (W.alloc (.cells #[.int .i64 0, .bool false] 58)) gb W.heap.size (hb.alloc (Nat.le_trans hC hb.size) _) (((one_upD W _).block bl (Array.getElem?_eq_some_iff.1 zbl).1).trans zbl) (((one_upD W _).block gb (Array.getElem?_eq_some_iff.1 zgb).1).trans zgb) (World.alloc_heap_new W _) mgb (Nat.le_trans hC hb.size) dbl_gb (Nat.ne_of_lt (Array.getElem?_eq_some_iff.1 zbl).1) (Nat.ne_of_lt (Array.getElem?_eq_some_iff.1 zgb).1)
  have s_100100000 : ∀ (W : World) (ga : Nat), Below C V W → W.heap[bl]? = some (.cells #[.int .i64 x0, .int .i64 x1, .int .i64 x2] 61) → W.heap[ga]? = some (.cells #[.int .i64 0, .bool false] 58) → C ≤ ga → bl ≠ ga → wpAnyH Try.prog .any rg_stepR1.1 Q (fun w' => w'.cell? ⟨bl, 0, none⟩ = some (.int .i64 x0) ∧ w'.cell? ⟨bl, 1, none⟩ = some (.int .i64 x1) ∧ w'.cell? ⟨bl, 2, none⟩ = some (.int .i64 x2)) 7 #[true, true, true, true, true, false, true, true, false, true, false, false, false, false, false] { tmps := #[u0, u1, u2, u3, u4, .pointer (some ⟨bl, 0, none⟩), u6, u7, .pointer (some ⟨ga, 0, none⟩), u9, u10, u11, u12, u13, .pointer (some ⟨bl, 0, none⟩), .int .i64 x0, .agg #[.int .i64 x0, .bool true], .pointer (some ⟨bl, 1, none⟩), .int .i64 x1, u19, .pointer (some ⟨bl, 2, none⟩), .int .i64 x2, u22, u23, u24, u25, u26, u27, u28, u29, u30, u31, u32, u33, u34, u35, u36, u37, u38, u39, u40, u41, u42, u43, u44, u45, u46, u47, u48, u49, u50, u51, u52, u53, u54, u55, u56, u57, u58], defers := [] } W := by
    intro W ga hb zbl zga mga dbl_ga
    dsimp only [rg_stepR1]
    refine wpAnyH_ready (rs := [5, 10, 11]) (by kernel_rfl) (by simp) ?_
    refine AllReadyH.cons rfl (fun K hK => ?_) (AllReadyH.cons rfl (fun K hK => ?_) (AllReadyH.cons rfl (fun K hK => ?_) (AllReadyH.nil)))
    · (try simp only [pT])
      rw [if_pos (by rfl)]
      go_simp
      go_at_call 40
      refine (nOf17_N _ x1).mono ?_
      rintro e W2 ⟨rfl, b_⟩
      refine hK.out _ _ (HS _ (hb.trans (b_.mono (Nat.le_trans hC hb.size))) ((b_.block bl (Array.getElem?_eq_some_iff.1 zbl).1).trans zbl)) (fun hHeld => ?_)
      exact s_110100000 W2 ga (hb.trans (b_.mono (Nat.le_trans hC hb.size))) ((b_.block bl (Array.getElem?_eq_some_iff.1 zbl).1).trans zbl) ((b_.block ga (Array.getElem?_eq_some_iff.1 zga).1).trans zga) mga dbl_ga
    · (try simp only [pT])
      rw [if_pos (by rfl)]
      go_simp
      refine hK.out _ _ (HS _ (hb.alloc (Nat.le_trans hC hb.size) _) (((one_upD W _).block bl (Array.getElem?_eq_some_iff.1 zbl).1).trans zbl)) (fun hHeld => ?_)
      exact s_100110000 (W.alloc (.cells #[.int .i64 0, .bool false] 58)) ga W.heap.size (hb.alloc (Nat.le_trans hC hb.size) _) (((one_upD W _).block bl (Array.getElem?_eq_some_iff.1 zbl).1).trans zbl) (((one_upD W _).block ga (Array.getElem?_eq_some_iff.1 zga).1).trans zga) (World.alloc_heap_new W _) mga (Nat.le_trans hC hb.size) dbl_ga (Nat.ne_of_lt (Array.getElem?_eq_some_iff.1 zbl).1) (Nat.ne_of_lt (Array.getElem?_eq_some_iff.1 zga).1)
    · (try simp only [pT])
      rw [if_pos (by rfl)]
      go_simp
      refine hK.out _ _ (HS _ (hb.alloc (Nat.le_trans hC hb.size) _) (((one_upD W _).block bl (Array.getElem?_eq_some_iff.1 zbl).1).trans zbl)) (fun hHeld => ?_)
      exact s_100101000 (W.alloc (.cells #[.int .i64 0, .bool false] 58)) ga W.heap.size (hb.alloc (Nat.le_trans hC hb.size) _) (((one_upD W _).block bl (Array.getElem?_eq_some_iff.1 zbl).1).trans zbl) (((one_upD W _).block ga (Array.getElem?_eq_some_iff.1 zga).1).trans zga) (World.alloc_heap_new W _) mga (Nat.le_trans hC hb.size) dbl_ga (Nat.ne_of_lt (Array.getElem?_eq_some_iff.1 zbl).1) (Nat.ne_of_lt (Array.getElem?_eq_some_iff.1 zga).1)
  have s_110000000 : ∀ (W : World), Below C V W → W.heap[bl]? = some (.cells #[.int .i64 x0, .int .i64 x1, .int .i64 x2] 61) → wpAnyH Try.prog .any rg_stepR1.1 Q (fun w' => w'.cell? ⟨bl, 0, none⟩ = some (.int .i64 x0) ∧ w'.cell? ⟨bl, 1, none⟩ = some (.int .i64 x1) ∧ w'.cell? ⟨bl, 2, none⟩ = some (.int .i64 x2)) 7 #[true, true, true, true, true, true, true, true, false, false, false, false, false, false, false] { tmps := #[u0, u1, u2, u3, u4, .pointer (some ⟨bl, 0, none⟩), u6, u7, u8, u9, u10, u11, u12, u13, .pointer (some ⟨bl, 0, none⟩), .int .i64 x0, .agg #[.int .i64 x0, .bool true], .pointer (some ⟨bl, 1, none⟩), .int .i64 x1, .agg #[.int .i64 x1, .bool true], .pointer (some ⟨bl, 2, none⟩), .int .i64 x2, u22, u23, u24, u25, u26, u27, u28, u29, u30, u31, u32, u33, u34, u35, u36, u37, u38, u39, u40, u41, u42, u43, u44, u45, u46, u47, u48, u49, u50, u51, u52, u53, u54, u55, u56, u57, u58], defers := [] } W := by
    intro W hb zbl
    dsimp only [rg_stepR1]
    refine wpAnyH_ready (rs := [8, 9, 10, 11]) (by kernel_rfl) (by simp) ?_
    refine AllReadyH.cons rfl (fun K hK => ?_) (AllReadyH.cons rfl (fun K hK => ?_) (AllReadyH.cons rfl (fun K hK => ?_) (AllReadyH.cons rfl (fun K hK => ?_) (AllReadyH.nil))))
    · (try simp only [pT])
      rw [if_pos (by rfl)]
      go_simp
      go_at_call 40
      refine (nOf17_N _ x2).mono ?_
      rintro e W2 ⟨rfl, b_⟩
      refine hK.out _ _ (HS _ (hb.trans (b_.mono (Nat.le_trans hC hb.size))) ((b_.block bl (Array.getElem?_eq_some_iff.1 zbl).1).trans zbl)) (fun hHeld => ?_)
      exact s_111000000 W2 (hb.trans (b_.mono (Nat.le_trans hC hb.size))) ((b_.block bl (Array.getElem?_eq_some_iff.1 zbl).1).trans zbl)
    · (try simp only [pT])
      rw [if_pos (by rfl)]
      go_simp
      refine hK.out _ _ (HS _ (hb.alloc (Nat.le_trans hC hb.size) _) (((one_upD W _).block bl (Array.getElem?_eq_some_iff.1 zbl).1).trans zbl)) (fun hHeld => ?_)
      exact s_110100000 (W.alloc (.cells #[.int .i64 0, .bool false] 58)) W.heap.size (hb.alloc (Nat.le_trans hC hb.size) _) (((one_upD W _).block bl (Array.getElem?_eq_some_iff.1 zbl).1).trans zbl) (World.alloc_heap_new W _) (Nat.le_trans hC hb.size) (Nat.ne_of_lt (Array.getElem?_eq_some_iff.1 zbl).1)
    · (try simp only [pT])
      rw [if_pos (by rfl)]
      go_simp
      refine hK.out _ _ (HS _ (hb.alloc (Nat.le_trans hC hb.size) _) (((one_upD W _).block bl (Array.getElem?_eq_some_iff.1 zbl).1).trans zbl)) (fun hHeld => ?_)
      exact s_110010000 (W.alloc (.cells #[.int .i64 0, .bool false] 58)) W.heap.size (hb.alloc (Nat.le_trans hC hb.size) _) (((one_upD W _).block bl (Array.getElem?_eq_some_iff.1 zbl).1).trans zbl) (World.alloc_heap_new W _) (Nat.le_trans hC hb.size) (Nat.ne_of_lt (Array.getElem?_eq_some_iff.1 zbl).1)
    · (try simp only [pT])
      rw [if_pos (by rfl)]
      go_simp
      refine hK.out _ _ (HS _ (hb.alloc (Nat.le_trans hC hb.size) _) (((one_upD W _).block bl (Array.getElem?_eq_some_iff.1 zbl).1).trans zbl)) (fun hHeld => ?_)
      exact s_110001000 (W.alloc (.cells #[.int .i64 0, .bool false] 58)) W.heap.size (hb.alloc (Nat.le_trans hC hb.size) _) (((one_upD W _).block bl (Array.getElem?_eq_some_iff.1 zbl).1).trans zbl) (World.alloc_heap_new W _) (Nat.le_trans hC hb.size) (Nat.ne_of_lt (Array.getElem?_eq_some_iff.1 zbl).1)
  have s_000001000 : ∀ (W : World) (gc : Nat), Below C V W → W.heap[bl]? = some (.cells #[.int .i64 x0, .int .i64 x1, .int .i64 x2] 61) → W.heap[gc]? = some (.cells #[.int .i64 0, .bool false] 58) → C ≤ gc → bl ≠ gc → wpAnyH Try.prog .any rg_stepR1.1 Q (fun w' => w'.cell? ⟨bl, 0, none⟩ = some (.int .i64 x0) ∧ w'.cell? ⟨bl, 1, none⟩ = some (.int .i64 x1) ∧ w'.cell? ⟨bl, 2, none⟩ = some (.int .i64 x2)) 8 #[true, true, false, true, true, false, true, true, false, false, false, true, false, false, false] { tmps := #[u0, u1, u2, u3, u4, .pointer (some ⟨bl, 0, none⟩), u6, u7, u8, u9, .pointer (some ⟨gc, 0, none⟩), u11, u12, u13, .pointer (some ⟨bl, 0, none⟩), .int .i64 x0, u16, .pointer (some ⟨bl, 1, none⟩), .int .i64 x1, u19, .pointer (some ⟨bl, 2, none⟩), .int .i64 x2, u22, u23, u24, u25, u26, u27, u28, u29, u30, u31, u32, u33, u34, u35, u36, u37, u38, u39, u40, u41, u42, u43, u44, u45, u46, u47, u48, u49, u50, u51, u52, u53, u54, u55, u56, u57, u58], defers := [] } W := by
    intro W gc hb zbl zgc mgc dbl_gc
    dsimp only [rg_stepR1]
    refine wpAnyH_ready (rs := [2, 9, 10]) (by kernel_rfl) (by simp) ?_
    refine AllReadyH.cons rfl (fun K hK => ?_) (AllReadyH.cons rfl (fun K hK => ?_) (AllReadyH.cons rfl (fun K hK => ?_) (AllReadyH.nil)))
    · (try simp only [pT])
      rw [if_pos (by rfl)]
      go_simp
      go_at_call 40
      refine (nOf17_N _ x0).mono ?_
      rintro e W2 ⟨rfl, b_⟩
      refine hK.out _ _ (HS _ (hb.trans (b_.mono (Nat.le_trans hC hb.size))) ((b_.block bl (Array.getElem?_eq_some_iff.1 zbl).1).trans zbl)) (fun hHeld => ?_)
      exact s_100001000 W2 gc (hb.trans (b_.mono (Nat.le_trans hC hb.size))) ((b_.block bl (Array.getElem?_eq_some_iff.1 zbl).1).trans zbl) ((b_.block gc (Array.getElem?_eq_some_iff.1 zgc).1).trans zgc) mgc dbl_gc
    · (try simp only [pT])
      rw [if_pos (by rfl)]
      go_simp
      refine hK.out _ _ (HS _ (hb.alloc (Nat.le_trans hC hb.size) _) (((one_upD W _).block bl (Array.getElem?_eq_some_iff.1 zbl).1).trans zbl)) (fun hHeld => ?_)
      exact s_000101000 (W.alloc (.cells #[.int .i64 0, .bool false] 58)) W.heap.size gc (hb.alloc (Nat.le_trans hC hb.size) _) (((one_upD W _).block bl (Array.getElem?_eq_some_iff.1 zbl).1).trans zbl) (World.alloc_heap_new W _) (((one_upD W _).block gc (Array.getElem?_eq_some_iff.1 zgc).1).trans zgc) (Nat.le_trans hC hb.size) mgc (Nat.ne_of_lt (Array.getElem?_eq_some_iff.1 zbl).1) dbl_gc (Nat.ne_of_gt (Array.getElem?_eq_some_iff.1 zgc).1)
    · (try simp only [pT])
      rw [if_pos (by rfl)]
      go_simp
      refine hK.out _ _ (HS _ (hb.alloc (Nat.le_trans hC hb.size) _) (((one_upD W _).block bl (Array.getElem?_eq_some_iff.1 zbl).1).trans zbl)) (fun hHeld => ?_)
      exact s_000011000 (W.alloc (.cells #[.int .i64 0, .bool false] 58)) W.heap.size gc (hb.alloc (Nat.le_trans hC hb.size) _) (((one_upD W _).block bl (Array.getElem?_eq_some_iff.1 zbl).1).trans zbl) (World.alloc_heap_new W _) (((one_upD W _).block gc (Array.getElem?_eq_some_iff.1 zgc).1).trans zgc) (Nat.le_trans hC hb.size) mgc (Nat.ne_of_lt (Array.getElem?_eq_some_iff.1 zbl).1) dbl_gc (Nat.ne_of_gt (Array.getElem?_eq_some_iff.1 zgc).1)
  have s_000010000 : ∀ (W : World) (gb : Nat), Below C V W → W.heap[bl]? = some (.cells #[.int .i64 x0, .int .i64 x1, .int .i64 x2] 61) → W.heap[gb]? = some (.cells #[.int .i64 0, .bool false] 58) → C ≤ gb → bl ≠ gb → wpAnyH Try.prog .any rg_stepR1.1 Q (fun w' => w'.cell? ⟨bl, 0, none⟩ = some (.int .i64 x0) ∧ w'.cell? ⟨bl, 1, none⟩ = some (.int .i64 x1) ∧ w'.cell? ⟨bl, 2, none⟩ = some (.int .i64 x2)) 8 #[true, true, false, true, true, false, true, true, false, false, true, false, false, false, false] { tmps := #[u0, u1, u2, u3, u4, .pointer (some ⟨bl, 0, none⟩), u6, u7, u8, .pointer (some ⟨gb, 0, none⟩), u10, u11, u12, u13, .pointer (some ⟨bl, 0, none⟩), .int .i64 x0, u16, .pointer (some ⟨bl, 1, none⟩), .int .i64 x1, u19, .pointer (some ⟨bl, 2, none⟩), .int .i64 x2, u22, u23, u24, u25, u26, u27, u28, u29, u30, u31, u32, u33, u34, u35, u36, u37, u38, u39, u40, u41, u42, u43, u44, u45, u46, u47, u48, u49, u50, u51, u52, u53, u54, u55, u56, u57, u58], defers := [] } W := by
    intro W gb hb zbl zgb mgb dbl_gb
    dsimp only [rg_stepR1]
    refine wpAnyH_ready (rs := [2, 9, 11]) (by kernel_rfl) (by simp) ?_
    refine AllReadyH.cons rfl (fun K hK => ?_) (AllReadyH.cons rfl (fun K hK => ?_) (AllReadyH.cons rfl (fun K hK => ?_) (AllReadyH.nil)))
    · (try simp only [pT])
      rw [if_pos (by rfl)]
      go_simp
      go_at_call 40
      refine (nOf17_N _ x0).mono ?_
      rintro e W2 ⟨rfl, b_⟩
      refine hK.out _ _ (HS _ (hb.trans (b_.mono (Nat.le_trans hC hb.size))) ((b_.block bl (Array.getElem?_eq_some_iff.1 zbl).1).trans zbl)) (fun hHeld => ?_)
      exact s_100010000 W2 gb (hb.trans (b_.mono (Nat.le_trans hC hb.size))) ((b_.block bl (Array.getElem?_eq_some_iff.1 zbl).1).trans zbl) ((b_.block gb (Array.getElem?_eq_some_iff.1 zgb).1).trans zgb) mgb dbl_gb
    · (try simp only [pT])
      rw [if_pos (by rfl)]
      go_simp
      refine hK.out _ _ (HS _ (hb.alloc (Nat.le_trans hC hb.size) _) (((one_upD W _).block bl (Array.getElem?_eq_some_iff.1 zbl).1).trans zbl)) (fun hHeld => ?_)
      exact s_000110000 (W.alloc (.cells #[.int .i64 0, .bool false] 58)) W.heap.size gb (hb.alloc (Nat.le_trans hC hb.size) _) (((one_upD W _).block bl (Array.getElem?_eq_some_iff.1 zbl).1).trans zbl) (World.alloc_heap_new W _) (((one_upD W _).block gb (Array.getElem?_eq_some_iff.1 zgb).1).trans zgb) (Nat.le_trans hC hb.size) mgb (Nat.ne_of_lt (Array.getElem?_eq_some_iff.1 zbl).1) dbl_gb (Nat.ne_of_gt (Array.getElem?_eq_some_iff.1 zgb).1)
    · (try simp only [pT])
      rw [if_pos (by rfl)]
      go_simp
      refine hK.out _ _ (HS _ (hb.alloc (Nat.le_trans hC hb.size) _) (((one_upD W _).block bl (Array.getElem?_eq_some_iff.1 zbl).1).trans zbl)) (fun hHeld => ?_)
      exact s_000011000 (W.alloc (.cells #[.int .i64 0, .bool false] 58)) gb W.heap.size (hb.alloc (Nat.le_trans hC hb.size) _) (((one_upD W _).block bl (Array.getElem?_eq_some_iff.1 zbl).1).trans zbl) (((one_upD W _).block gb (Array.getElem?_eq_some_iff.1 zgb).1).trans zgb) (World.alloc_heap_new W _) mgb (Nat.le_trans hC hb.size) dbl_gb (Nat.ne_of_lt (Array.getElem?_eq_some_iff.1 zbl).1) (Nat.ne_of_lt (Array.getElem?_eq_some_iff.1 zgb).1)
  have s_000100000 : ∀ (W : World) (ga : Nat), Below C V W → W.heap[bl]? = some (.cells #[.int .i64 x0, .int .i64 x1, .int .i64 x2] 61) → W.heap[ga]? = some (.cells #[.int .i64 0, .bool false] 58) → C ≤ ga → bl ≠ ga → wpAnyH Try.prog .any rg_stepR1.1 Q (fun w' => w'.cell? ⟨bl, 0, none⟩ = some (.int .i64 x0) ∧ w'.cell? ⟨bl, 1, none⟩ = some (.int .i64 x1) ∧ w'.cell? ⟨bl, 2, none⟩ = some (.int .i64 x2)) 8 #[true, true, false, true, true, false, true, true, false, true, false, false, false, false, false] { tmps := #[u0, u1, u2, u3, u4, .pointer (some ⟨bl, 0, none⟩), u6, u7, .pointer (some ⟨ga, 0, none⟩), u9, u10, u11, u12, u13, .pointer (some ⟨bl, 0, none⟩), .int .i64 x0, u16, .pointer (some ⟨bl, 1, none⟩), .int .i64 x1, u19, .pointer (some ⟨bl, 2, none⟩), .int .i64 x2, u22, u23, u24, u25, u26, u27, u28, u29, u30, u31, u32, u33, u34, u35, u36, u37, u38, u39, u40, u41, u42, u43, u44, u45, u46, u47, u48, u49, u50, u51, u52, u53, u54, u55, u56, u57, u58], defers := [] } W := by
    intro W ga hb zbl zga mga dbl_ga
    dsimp only [rg_stepR1]
    refine wpAnyH_ready (rs := [2, 10, 11]) (by kernel_rfl) (by simp) ?_
    refine AllReadyH.cons rfl (fun K hK => ?_) (AllReadyH.cons rfl (fun K hK => ?_) (AllReadyH.cons rfl (fun K hK => ?_) (AllReadyH.nil)))
    · (try simp only [pT])
      rw [if_pos (by rfl)]
      go_simp
      go_at_call 40
      refine (nOf17_N _ x0).mono ?_
      rintro e W2 ⟨rfl, b_⟩
      refine hK.out _ _ (HS _ (hb.trans (b_.mono (Nat.le_trans hC hb.size))) ((b_.block bl (Array.getElem?_eq_some_iff.1 zbl).1).trans zbl)) (fun hHeld => ?_)
      exact s_100100000 W2 ga (hb.trans (b_.mono (Nat.le_trans hC hb.size))) ((b_.block bl (Array.getElem?_eq_some_iff.1 zbl).1).trans zbl) ((b_.block ga (Array.getElem?_eq_some_iff.1 zga).1).trans zga) mga dbl_ga
    · (try simp only [pT])
      rw [if_pos (by rfl)]
      go_simp
      refine hK.out _ _ (HS _ (hb.alloc (Nat.le_trans hC hb.size) _) (((one_upD W _).block bl (Array.getElem?_eq_some_iff.1 zbl).1).trans zbl)) (fun hHeld => ?_)
      exact s_000110000 (W.alloc (.cells #[.int .i64 0, .bool false] 58)) ga W.heap.size (hb.alloc (Nat.le_trans hC hb.size) _) (((one_upD W _).block bl (Array.getElem?_eq_some_iff.1 zbl).1).trans zbl) (((one_upD W _).block ga (Array.getElem?_eq_some_iff.1 zga).1).trans zga) (World.alloc_heap_new W _) mga (Nat.le_trans hC hb.size) dbl_ga (Nat.ne_of_lt (Array.getElem?_eq_some_iff.1 zbl).1) (Nat.ne_of_lt (Array.getElem?_eq_some_iff.1 zga).1)
    · (try simp only [pT])
      rw [if_pos (by rfl)]
      go_simp
      refine hK.out _ _ (HS _ (hb.alloc (Nat.le_trans hC hb.size) _) (((one_upD W _).block bl (Array.getElem?_eq_some_iff.1 zbl).1).trans zbl)) (fun hHeld => ?_)
      exact s_000101000 (W.alloc (.cells #[.int .i64 0, .bool false] 58)) ga W.heap.size (hb.alloc (Nat.le_trans hC hb.size) _) (((one_upD W _).block bl (Array.getElem?_eq_some_iff.1 zbl).1).trans zbl) (((one_upD W _).block ga (Array.getElem?_eq_some_iff.1 zga).1).trans zga) (World.alloc_heap_new W _) mga (Nat.le_trans hC hb.size) dbl_ga (Nat.ne_of_lt (Array.getElem?_eq_some_iff.1 zbl).1) (Nat.ne_of_lt (Array.getElem?_eq_some_iff.1 zga).1)
  have s_100000000 : ∀ (W : World), Below C V W → W.heap[bl]? = some (.cells #[.int .i64 x0, .int .i64 x1, .int .i64 x2] 61) → wpAnyH Try.prog .any rg_stepR1.1 Q (fun w' => w'.cell? ⟨bl, 0, none⟩ = some (.int .i64 x0) ∧ w'.cell? ⟨bl, 1, none⟩ = some (.int .i64 x1) ∧ w'.cell? ⟨bl, 2, none⟩ = some (.int .i64 x2)) 8 #[true, true, true, true, true, false, true, true, false, false, false, false, false, false, false] { tmps := #[u0, u1, u2, u3, u4, .pointer (some ⟨bl, 0, none⟩), u6, u7, u8, u9, u10, u11, u12, u13, .pointer (some ⟨bl, 0, none⟩), .int .i64 x0, .agg #[.int .i64 x0, .bool true], .pointer (some ⟨bl, 1, none⟩), .int .i64 x1, u19, .pointer (some ⟨bl, 2, none⟩), .int .i64 x2, u22, u23, u24, u25, u26, u27, u28, u29, u30, u31, u32, u33, u34, u35, u36, u37, u38, u39, u40, u41, u42, u43, u44, u45, u46, u47, u48, u49, u50, u51, u52, u53, u54, u55, u56, u57, u58], defers := [] } W := by
    intro W hb zbl
    dsimp only [rg_stepR1]
    refine wpAnyH_ready (rs := [5, 9, 10, 11]) (by kernel_rfl) (by simp) ?_
    refine AllReadyH.cons rfl (fun K hK => ?_) (AllReadyH.cons rfl (fun K hK => ?_) (AllReadyH.cons rfl (fun K hK => ?_) (AllReadyH.cons rfl (fun K hK => ?_) (AllReadyH.nil))))
    · (try simp only [pT])
      rw [if_pos (by rfl)]
      go_simp
      go_at_call 40
      refine (nOf17_N _ x1).mono ?_
      rintro e W2 ⟨rfl, b_⟩
      refine hK.out _ _ (HS _ (hb.trans (b_.mono (Nat.le_trans hC hb.size))) ((b_.block bl (Array.getElem?_eq_some_iff.1 zbl).1).trans zbl)) (fun hHeld => ?_)
      exact s_110000000 W2 (hb.trans (b_.mono (Nat.le_trans hC hb.size))) ((b_.block bl (Array.getElem?_eq_some_iff.1 zbl).1).trans zbl)
    · (try simp only [pT])
      rw [if_pos (by rfl)]
      go_simp
      refine hK.out _ _ (HS _ (hb.alloc (Nat.le_trans hC hb.size) _) (((one_upD W _).block bl (Array.getElem?_eq_some_iff.1 zbl).1).trans zbl)) (fun hHeld => ?_)
      exact s_100100000 (W.alloc (.cells #[.int .i64 0, .bool false] 58)) W.heap.size (hb.alloc (Nat.le_trans hC hb.size) _) (((one_upD W _).block bl (Array.getElem?_eq_some_iff.1 zbl).1).trans zbl) (World.alloc_heap_new W _) (Nat.le_trans hC hb.size) (Nat.ne_of_lt (Array.getElem?_eq_some_iff.1 zbl).1)
    · (try simp only [pT])
      rw [if_pos (by rfl)]
      go_simp
      refine hK.out _ _ (HS _ (hb.alloc (Nat.le_trans hC hb.size) _) (((one_upD W _).block bl (Array.getElem?_eq_some_iff.1 zbl).1).trans zbl)) (fun hHeld => ?_)
      exact s_100010000 (W.alloc (.cells #[.int .i64 0, .bool false] 58)) W.heap.size (hb.alloc (Nat.le_trans hC hb.size) _) (((one_upD W _).block bl (Array.getElem?_eq_some_iff.1 zbl).1).trans zbl) (World.alloc_heap_new W _) (Nat.le_trans hC hb.size) (Nat.ne_of_lt (Array.getElem?_eq_some_iff.1 zbl).1)
    · (try simp only [pT])
      rw [if_pos (by rfl)]
      go_simp
      refine hK.out _ _ (HS _ (hb.alloc (Nat.le_trans hC hb.size) _) (((one_upD W _).block bl (Array.getElem?_eq_some_iff.1 zbl).1).trans zbl)) (fun hHeld => ?_)
      exact s_100001000 (W.alloc (.cells #[.int .i64 0, .bool false] 58)) W.heap.size (hb.alloc (Nat.le_trans hC hb.size) _) (((one_upD W _).block bl (Array.getElem?_eq_some_iff.1 zbl).1).trans zbl) (World.alloc_heap_new W _) (Nat.le_trans hC hb.size) (Nat.ne_of_lt (Array.getElem?_eq_some_iff.1 zbl).1)
  have s_000000000 : ∀ (W : World), Below C V W → W.heap[bl]? = some (.cells #[.int .i64 x0, .int .i64 x1, .int .i64 x2] 61) → wpAnyH Try.prog .any rg_stepR1.1 Q (fun w' => w'.cell? ⟨bl, 0, none⟩ = some (.int .i64 x0) ∧ w'.cell? ⟨bl, 1, none⟩ = some (.int .i64 x1) ∧ w'.cell? ⟨bl, 2, none⟩ = some (.int .i64 x2)) 9 #[true, true, false, true, true, false, true, true, false, false, false, false, false, false, false] { tmps := #[u0, u1, u2, u3, u4, .pointer (some ⟨bl, 0, none⟩), u6, u7, u8, u9, u10, u11, u12, u13, .pointer (some ⟨bl, 0, none⟩), .int .i64 x0, u16, .pointer (some ⟨bl, 1, none⟩), .int .i64 x1, u19, .pointer (some ⟨bl, 2, none⟩), .int .i64 x2, u22, u23, u24, u25, u26, u27, u28, u29, u30, u31, u32, u33, u34, u35, u36, u37, u38, u39, u40, u41, u42, u43, u44, u45, u46, u47, u48, u49, u50, u51, u52, u53, u54, u55, u56, u57, u58], defers := [] } W := by
    intro W hb zbl
    dsimp only [rg_stepR1]
    refine wpAnyH_ready (rs := [2, 9, 10, 11]) (by kernel_rfl) (by simp) ?_
    refine AllReadyH.cons rfl (fun K hK => ?_) (AllReadyH.cons rfl (fun K hK => ?_) (AllReadyH.cons rfl (fun K hK => ?_) (AllReadyH.cons rfl (fun K hK => ?_) (AllReadyH.nil))))
    · (try simp only [pT])
      rw [if_pos (by rfl)]
      go_simp
      go_at_call 40
      refine (nOf17_N _ x0).mono ?_
      rintro e W2 ⟨rfl, b_⟩
      refine hK.out _ _ (HS _ (hb.trans (b_.mono (Nat.le_trans hC hb.size))) ((b_.block bl (Array.getElem?_eq_some_iff.1 zbl).1).trans zbl)) (fun hHeld => ?_)
      exact s_100000000 W2 (hb.trans (b_.mono (Nat.le_trans hC hb.size))) ((b_.block bl (Array.getElem?_eq_some_iff.1 zbl).1).trans zbl)
    · (try simp only [pT])
      rw [if_pos (by rfl)]
      go_simp
      refine hK.out _ _ (HS _ (hb.alloc (Nat.le_trans hC hb.size) _) (((one_upD W _).block bl (Array.getElem?_eq_some_iff.1 zbl).1).trans zbl)) (fun hHeld => ?_)
      exact s_000100000 (W.alloc (.cells #[.int .i64 0, .bool false] 58)) W.heap.size (hb.alloc (Nat.le_trans hC hb.size) _) (((one_upD W _).block bl (Array.getElem?_eq_some_iff.1 zbl).1).trans zbl) (World.alloc_heap_new W _) (Nat.le_trans hC hb.size) (Nat.ne_of_lt (Array.getElem?_eq_some_iff.1 zbl).1)
    · (try simp only [pT])
      rw [if_pos (by rfl)]
      go_simp
      refine hK.out _ _ (HS _ (hb.alloc (Nat.le_trans hC hb.size) _) (((one_upD W _).block bl (Array.getElem?_eq_some_iff.1 zbl).1).trans zbl)) (fun hHeld => ?_)
      exact s_000010000 (W.alloc (.cells #[.int .i64 0, .bool false] 58)) W.heap.size (hb.alloc (Nat.le_trans hC hb.size) _) (((one_upD W _).block bl (Array.getElem?_eq_some_iff.1 zbl).1).trans zbl) (World.alloc_heap_new W _) (Nat.le_trans hC hb.size) (Nat.ne_of_lt (Array.getElem?_eq_some_iff.1 zbl).1)
    · (try simp only [pT])
      rw [if_pos (by rfl)]
      go_simp
      refine hK.out _ _ (HS _ (hb.alloc (Nat.le_trans hC hb.size) _) (((one_upD W _).block bl (Array.getElem?_eq_some_iff.1 zbl).1).trans zbl)) (fun hHeld => ?_)
      exact s_000001000 (W.alloc (.cells #[.int .i64 0, .bool false] 58)) W.heap.size (hb.alloc (Nat.le_trans hC hb.size) _) (((one_upD W _).block bl (Array.getElem?_eq_some_iff.1 zbl).1).trans zbl) (World.alloc_heap_new W _) (Nat.le_trans hC hb.size) (Nat.ne_of_lt (Array.getElem?_eq_some_iff.1 zbl).1)
  refine wp_region_n (S := fun w' => w'.cell? ⟨bl, 0, none⟩ = some (.int .i64 x0) ∧ w'.cell? ⟨bl, 1, none⟩ = some (.int .i64 x1) ∧ w'.cell? ⟨bl, 2, none⟩ = some (.int .i64 x2)) (n := 15) (by kernel_rfl) (by kernel_rfl) (HS _ (below_drewN (Below.refl C V) 1) zbl) (fun hHeld => ?_)
  dsimp only [rg_stepR1]
  refine wpAnyH_take (i := 0) (v := ?_) rfl (by kernel_rfl) (by kernel_rfl) (by kernel_rfl) (fun _ _ _ h => hP _ _ _ _ _ h) (Or.inl ⟨by rfl, ?_⟩) hHeld ?_
  rotate_left
  · (intro w hSw; (try dsimp only at hSw); go_simp; (try with_reducible rfl))
  try simp only [Act.put, pT]
  refine wpAnyH_take (i := 1) (v := ?_) rfl (by kernel_rfl) (by kernel_rfl) (by kernel_rfl) (fun _ _ _ h => hP _ _ _ _ _ h) (Or.inl ⟨by rfl, ?_⟩) hHeld ?_
  rotate_left
  · (intro w hSw; (try dsimp only at hSw); go_simp; (try with_reducible rfl))
  try simp only [Act.put, pT]
  refine wpAnyH_take (i := 3) (v := ?_) rfl (by kernel_rfl) (by kernel_rfl) (by kernel_rfl) (fun _ _ _ h => hP _ _ _ _ _ h) (Or.inl ⟨by rfl, ?_⟩) hHeld ?_
  rotate_left
  · (intro w hSw; (try dsimp only at hSw); go_simp; (try with_reducible rfl))
  try simp only [Act.put, pT]
  refine wpAnyH_take (i := 4) (v := ?_) rfl (by kernel_rfl) (by kernel_rfl) (by kernel_rfl) (fun _ _ _ h => hP _ _ _ _ _ h) (Or.inl ⟨by rfl, ?_⟩) hHeld ?_
  rotate_left
  · (intro w hSw; (try dsimp only at hSw); go_simp; (try with_reducible rfl))
  try simp only [Act.put, pT]
  refine wpAnyH_take (i := 6) (v := ?_) rfl (by kernel_rfl) (by kernel_rfl) (by kernel_rfl) (fun _ _ _ h => hP _ _ _ _ _ h) (Or.inl ⟨by rfl, ?_⟩) hHeld ?_
  rotate_left
  · (intro w hSw; (try dsimp only at hSw); go_simp; (try with_reducible rfl))
  try simp only [Act.put, pT]
  refine wpAnyH_take (i := 7) (v := ?_) rfl (by kernel_rfl) (by kernel_rfl) (by kernel_rfl) (fun _ _ _ h => hP _ _ _ _ _ h) (Or.inl ⟨by rfl, ?_⟩) hHeld ?_
  rotate_left
  · (intro w hSw; (try dsimp only at hSw); go_simp; (try with_reducible rfl))
  try simp only [Act.put, pT]
  exact s_000000000 _ (below_drewN (Below.refl C V) 1) zbl

def rg_stepR2 : { o : Array Oper // regOf 2 Try.f25 = o } := ⟨_, by
  simp only [regOf, regIn, Try.f25, reduceIte, Nat.reduceEqDiff, Option.or, Option.getD, Nat.one_ne_zero, Nat.zero_ne_one]
  rfl⟩
theorem stepR2 {V : World} {C : Nat} {Q : Exit → Act → World → Prop} {u0 u2 u4 u5 u6 u7 u9 u11 u12 u13 u14 u15 u16 u17 u18 u19 u20 u21 u22 u23 u24 u25 u26 u27 u28 u29 u30 u31 u32 u33 u34 u35 u36 u37 u38 u39 u40 u41 u42 u43 u44 u45 u46 u47 u48 u49 u50 u51 u52 u53 u54 u55 u56 u57 u58 : Value} {bm ga gc : Nat} {lr mu wd j : Int} {ne : Bool} {x0 x2 p d : Int} {pb db : Bool} (CM : ∀ W : World, Calls Try.prog 42 #[.agg #[.int .i64 wd, .bool true], .agg #[.int .i64 x0, .bool true], .int .i64 j] W (GotV W (.agg #[.int .i64 p, .bool pb]))) (CA : ∀ W : World, Calls Try.prog 41 #[.agg #[.int .i64 x2, .bool true], .agg #[.int .i64 p, .bool pb]] W (GotV W (.agg #[.int .i64 d, .bool db]))) (hP : ∀ c (a : Act) (d : Option Tmp) (v : Value) (w : World), Q (.panic c) (a.put d v) w → Q (.panic c) a w) (hC : C ≤ V.heap.size) (zbm : V.heap[bm]? = some (.cells #[.int .i64 lr, .int .i64 mu, .int .i64 wd, .bool ne] 23)) (zga : V.heap[ga]? = some (.cells #[.int .i64 x0, .bool true] 58)) (zgc : V.heap[gc]? = some (.cells #[.int .i64 x2, .bool true] 58)) (hQ : ∀ (W : World) (gd : Nat), Below C V W → W.heap[bm]? = some (.cells #[.int .i64 lr, .int .i64 mu, .int .i64 wd, .bool ne] 23) → W.heap[ga]? = some (.cells #[.int .i64 x0, .bool true] 58) → W.heap[gc]? = some (.cells #[.int .i64 x2, .bool true] 58) → W.heap[gd]? = some (.cells #[.int .i64 d, .bool db] 58) → C ≤ gd → Q .normal { tmps := #[u0, .int .i64 j, u2, .pointer (some ⟨bm, 0, none⟩), u4, u5, u6, u7, .pointer (some ⟨ga, 0, none⟩), u9, .pointer (some ⟨gc, 0, none⟩), .pointer (some ⟨gd, 0, none⟩), u12, u13, u14, u15, u16, u17, u18, u19, u20, u21, u22, .agg #[.int .i64 x2, .bool true], .pointer (some ⟨bm, 2, none⟩), .int .i64 wd, .agg #[.int .i64 wd, .bool true], .agg #[.int .i64 x0, .bool true], .int .i64 j, .agg #[.int .i64 p, .bool pb], .agg #[.int .i64 d, .bool db], u31, u32, u33, u34, u35, u36, u37, u38, u39, u40, u41, u42, u43, u44, u45, u46, u47, u48, u49, u50, u51, u52, u53, u54, u55, u56, u57, u58], defers := [] } W) :
    (Code.region 2 rg_stepR2.1 true).wp Try.prog Q { tmps := #[u0, .int .i64 j, u2, .pointer (some ⟨bm, 0, none⟩), u4, u5, u6, u7, .pointer (some ⟨ga, 0, none⟩), u9, .pointer (some ⟨gc, 0, none⟩), u11, u12, u13, u14, u15, u16, u17, u18, u19, u20, u21, u22, u23, u24, u25, u26, u27, u28, u29, u30, u31, u32, u33, u34, u35, u36, u37, u38, u39, u40, u41, u42, u43, u44, u45, u46, u47, u48, u49, u50, u51, u52, u53, u54, u55, u56, u57, u58], defers := [] } V := by
  have HS : ∀ W : World, Below C V W → W.heap[bm]? = some (.cells #[.int .i64 lr, .int .i64 mu, .int .i64 wd, .bool ne] 23) → W.heap[ga]? = some (.cells #[.int .i64 x0, .bool true] 58) → W.heap[gc]? = some (.cells #[.int .i64 x2, .bool true] 58) → (fun w' : World => w'.cell? ⟨bm, 2, none⟩ = some (.int .i64 wd) ∧ w'.cell? ⟨ga, 0, none⟩ = some (.int .i64 x0) ∧ w'.cell? ⟨ga, 1, none⟩ = some (.bool true) ∧ w'.cell? ⟨gc, 0, none⟩ = some (.int .i64 x2) ∧ w'.cell? ⟨gc, 1, none⟩ = some (.bool true)) W := fun W yb ybm yga ygc => ⟨cell_of_row W bm 2 #[.int .i64 lr, .int .i64 mu, .int .i64 wd, .bool ne] 23 _ ybm, cell_of_row W ga 0 #[.int .i64 x0, .bool true] 58 _ yga, cell_of_row W ga 1 #[.int .i64 x0, .bool true] 58 _ yga, cell_of_row W gc 0 #[.int .i64 x2, .bool true] 58 _ ygc, cell_of_row W gc 1 #[.int .i64 x2, .bool true] 58 _ ygc⟩
  have s_11111 : ∀ (W : World) (gd : Nat), Below C V W → W.heap[bm]? = some (.cells #[.int .i64 lr, .int .i64 mu, .int .i64 wd, .bool ne] 23) → W.heap[ga]? = some (.cells #[.int .i64 x0, .bool true] 58) → W.heap[gc]? = some (.cells #[.int .i64 x2, .bool true] 58) → W.heap[gd]? = some (.cells #[.int .i64 d, .bool db] 58) → C ≤ gd → bm ≠ gd → ga ≠ gd → gc ≠ gd → wpAnyH Try.prog .any rg_stepR2.1 Q (fun w' => w'.cell? ⟨bm, 2, none⟩ = some (.int .i64 wd) ∧ w'.cell? ⟨ga, 0, none⟩ = some (.int .i64 x0) ∧ w'.cell? ⟨ga, 1, none⟩ = some (.bool true) ∧ w'.cell? ⟨gc, 0, none⟩ = some (.int .i64 x2) ∧ w'.cell? ⟨gc, 1, none⟩ = some (.bool true)) 0 #[true, true, true, true, true, true, true, true, true, true] { tmps := #[u0, .int .i64 j, u2, .pointer (some ⟨bm, 0, none⟩), u4, u5, u6, u7, .pointer (some ⟨ga, 0, none⟩), u9, .pointer (some ⟨gc, 0, none⟩), .pointer (some ⟨gd, 0, none⟩), u12, u13, u14, u15, u16, u17, u18, u19, u20, u21, u22, .agg #[.int .i64 x2, .bool true], .pointer (some ⟨bm, 2, none⟩), .int .i64 wd, .agg #[.int .i64 wd, .bool true], .agg #[.int .i64 x0, .bool true], .int .i64 j, .agg #[.int .i64 p, .bool pb], .agg #[.int .i64 d, .bool db], u31, u32, u33, u34, u35, u36, u37, u38, u39, u40, u41, u42, u43, u44, u45, u46, u47, u48, u49, u50, u51, u52, u53, u54, u55, u56, u57, u58], defers := [] } W := by
    intro W gd hb zbm zga zgc zgd mgd dbm_gd dga_gd dgc_gd
    dsimp only [rg_stepR2]
    exact wpAnyH_done (by kernel_rfl) (hQ W gd hb zbm zga zgc zgd mgd) _
  have s_11110 : ∀ (W : World) (gd : Nat), Below C V W → W.heap[bm]? = some (.cells #[.int .i64 lr, .int .i64 mu, .int .i64 wd, .bool ne] 23) → W.heap[ga]? = some (.cells #[.int .i64 x0, .bool true] 58) → W.heap[gc]? = some (.cells #[.int .i64 x2, .bool true] 58) → W.heap[gd]? = some (.cells #[.int .i64 0, .bool false] 58) → C ≤ gd → bm ≠ gd → ga ≠ gd → gc ≠ gd → wpAnyH Try.prog .any rg_stepR2.1 Q (fun w' => w'.cell? ⟨bm, 2, none⟩ = some (.int .i64 wd) ∧ w'.cell? ⟨ga, 0, none⟩ = some (.int .i64 x0) ∧ w'.cell? ⟨ga, 1, none⟩ = some (.bool true) ∧ w'.cell? ⟨gc, 0, none⟩ = some (.int .i64 x2) ∧ w'.cell? ⟨gc, 1, none⟩ = some (.bool true)) 1 #[true, true, true, true, true, true, true, true, true, false] { tmps := #[u0, .int .i64 j, u2, .pointer (some ⟨bm, 0, none⟩), u4, u5, u6, u7, .pointer (some ⟨ga, 0, none⟩), u9, .pointer (some ⟨gc, 0, none⟩), .pointer (some ⟨gd, 0, none⟩), u12, u13, u14, u15, u16, u17, u18, u19, u20, u21, u22, .agg #[.int .i64 x2, .bool true], .pointer (some ⟨bm, 2, none⟩), .int .i64 wd, .agg #[.int .i64 wd, .bool true], .agg #[.int .i64 x0, .bool true], .int .i64 j, .agg #[.int .i64 p, .bool pb], .agg #[.int .i64 d, .bool db], u31, u32, u33, u34, u35, u36, u37, u38, u39, u40, u41, u42, u43, u44, u45, u46, u47, u48, u49, u50, u51, u52, u53, u54, u55, u56, u57, u58], defers := [] } W := by
    intro W gd hb zbm zga zgc zgd mgd dbm_gd dga_gd dgc_gd
    dsimp only [rg_stepR2]
    refine wpAnyH_ready (rs := [9]) (by kernel_rfl) (by simp) ?_
    refine AllReadyH.cons rfl (fun K hK => ?_) (AllReadyH.nil)
    · (try simp only [pT])
      rw [if_pos (by rfl)]
      have c0 : W.cell? ⟨gd, 0, none⟩ = some (.int .i64 0) := cell_of_row W gd 0 #[.int .i64 0, .bool false] 58 _ zgd
      have f0 : W.frozen? ⟨gd, 0, none⟩ = false := by simp [World.frozen?, zgd]
      have c1 : W.cell? ⟨gd, 1, none⟩ = some (.bool false) := cell_of_row W gd 1 #[.int .i64 0, .bool false] 58 _ zgd
      have f1 : W.frozen? ⟨gd, 1, none⟩ = false := by simp [World.frozen?, zgd]
      go_simp
      refine hK.out _ _ (HS _ ((hb.setCell (p := ⟨gd, 0, none⟩) mgd _).setCell (p := ⟨gd, 1, none⟩) mgd _) (put_far2 zbm dbm_gd) (put_far2 zga dga_gd) (put_far2 zgc dgc_gd)) (fun hHeld => ?_)
      exact s_11111 ((W.setCell ⟨gd, 0, none⟩ (.int .i64 d)).setCell ⟨gd, 1, none⟩ (.bool db)) gd ((hb.setCell (p := ⟨gd, 0, none⟩) mgd _).setCell (p := ⟨gd, 1, none⟩) mgd _) (put_far2 zbm dbm_gd) (put_far2 zga dga_gd) (put_far2 zgc dgc_gd) (put_cells2 zgd) mgd dbm_gd dga_gd dgc_gd
  have s_11010 : ∀ (W : World) (gd : Nat), Below C V W → W.heap[bm]? = some (.cells #[.int .i64 lr, .int .i64 mu, .int .i64 wd, .bool ne] 23) → W.heap[ga]? = some (.cells #[.int .i64 x0, .bool true] 58) → W.heap[gc]? = some (.cells #[.int .i64 x2, .bool true] 58) → W.heap[gd]? = some (.cells #[.int .i64 0, .bool false] 58) → C ≤ gd → bm ≠ gd → ga ≠ gd → gc ≠ gd → wpAnyH Try.prog .any rg_stepR2.1 Q (fun w' => w'.cell? ⟨bm, 2, none⟩ = some (.int .i64 wd) ∧ w'.cell? ⟨ga, 0, none⟩ = some (.int .i64 x0) ∧ w'.cell? ⟨ga, 1, none⟩ = some (.bool true) ∧ w'.cell? ⟨gc, 0, none⟩ = some (.int .i64 x2) ∧ w'.cell? ⟨gc, 1, none⟩ = some (.bool true)) 2 #[true, true, true, true, true, true, true, false, true, false] { tmps := #[u0, .int .i64 j, u2, .pointer (some ⟨bm, 0, none⟩), u4, u5, u6, u7, .pointer (some ⟨ga, 0, none⟩), u9, .pointer (some ⟨gc, 0, none⟩), .pointer (some ⟨gd, 0, none⟩), u12, u13, u14, u15, u16, u17, u18, u19, u20, u21, u22, .agg #[.int .i64 x2, .bool true], .pointer (some ⟨bm, 2, none⟩), .int .i64 wd, .agg #[.int .i64 wd, .bool true], .agg #[.int .i64 x0, .bool true], .int .i64 j, .agg #[.int .i64 p, .bool pb], u30, u31, u32, u33, u34, u35, u36, u37, u38, u39, u40, u41, u42, u43, u44, u45, u46, u47, u48, u49, u50, u51, u52, u53, u54, u55, u56, u57, u58], defers := [] } W := by
    intro W gd hb zbm zga zgc zgd mgd dbm_gd dga_gd dgc_gd
    dsimp only [rg_stepR2]
    refine wpAnyH_ready (rs := [7]) (by kernel_rfl) (by simp) ?_
    refine AllReadyH.cons rfl (fun K hK => ?_) (AllReadyH.nil)
    · (try simp only [pT])
      rw [if_pos (by rfl)]
      go_simp
      go_at_call 41
      refine (CA _).mono ?_
      rintro e W2 ⟨rfl, b_⟩
      refine hK.out _ _ (HS _ (hb.trans (b_.mono (Nat.le_trans hC hb.size))) ((b_.block bm (Array.getElem?_eq_some_iff.1 zbm).1).trans zbm) ((b_.block ga (Array.getElem?_eq_some_iff.1 zga).1).trans zga) ((b_.block gc (Array.getElem?_eq_some_iff.1 zgc).1).trans zgc)) (fun hHeld => ?_)
      exact s_11110 W2 gd (hb.trans (b_.mono (Nat.le_trans hC hb.size))) ((b_.block bm (Array.getElem?_eq_some_iff.1 zbm).1).trans zbm) ((b_.block ga (Array.getElem?_eq_some_iff.1 zga).1).trans zga) ((b_.block gc (Array.getElem?_eq_some_iff.1 zgc).1).trans zgc) ((b_.block gd (Array.getElem?_eq_some_iff.1 zgd).1).trans zgd) mgd dbm_gd dga_gd dgc_gd
  have s_11100 : ∀ (W : World), Below C V W → W.heap[bm]? = some (.cells #[.int .i64 lr, .int .i64 mu, .int .i64 wd, .bool ne] 23) → W.heap[ga]? = some (.cells #[.int .i64 x0, .bool true] 58) → W.heap[gc]? = some (.cells #[.int .i64 x2, .bool true] 58) → wpAnyH Try.prog .any rg_stepR2.1 Q (fun w' => w'.cell? ⟨bm, 2, none⟩ = some (.int .i64 wd) ∧ w'.cell? ⟨ga, 0, none⟩ = some (.int .i64 x0) ∧ w'.cell? ⟨ga, 1, none⟩ = some (.bool true) ∧ w'.cell? ⟨gc, 0, none⟩ = some (.int .i64 x2) ∧ w'.cell? ⟨gc, 1, none⟩ = some (.bool true)) 2 #[true, true, true, true, true, true, true, true, false, false] { tmps := #[u0, .int .i64 j, u2, .pointer (some ⟨bm, 0, none⟩), u4, u5, u6, u7, .pointer (some ⟨ga, 0, none⟩), u9, .pointer (some ⟨gc, 0, none⟩), u11, u12, u13, u14, u15, u16, u17, u18, u19, u20, u21, u22, .agg #[.int .i64 x2, .bool true], .pointer (some ⟨bm, 2, none⟩), .int .i64 wd, .agg #[.int .i64 wd, .bool true], .agg #[.int .i64 x0, .bool true], .int .i64 j, .agg #[.int .i64 p, .bool pb], .agg #[.int .i64 d, .bool db], u31, u32, u33, u34, u35, u36, u37, u38, u39, u40, u41, u42, u43, u44, u45, u46, u47, u48, u49, u50, u51, u52, u53, u54, u55, u56, u57, u58], defers := [] } W := by
    intro W hb zbm zga zgc
    dsimp only [rg_stepR2]
    refine wpAnyH_ready (rs := [8]) (by kernel_rfl) (by simp) ?_
    refine AllReadyH.cons rfl (fun K hK => ?_) (AllReadyH.nil)
    · (try simp only [pT])
      rw [if_pos (by rfl)]
      go_simp
      refine hK.out _ _ (HS _ (hb.alloc (Nat.le_trans hC hb.size) _) (((one_upD W _).block bm (Array.getElem?_eq_some_iff.1 zbm).1).trans zbm) (((one_upD W _).block ga (Array.getElem?_eq_some_iff.1 zga).1).trans zga) (((one_upD W _).block gc (Array.getElem?_eq_some_iff.1 zgc).1).trans zgc)) (fun hHeld => ?_)
      exact s_11110 (W.alloc (.cells #[.int .i64 0, .bool false] 58)) W.heap.size (hb.alloc (Nat.le_trans hC hb.size) _) (((one_upD W _).block bm (Array.getElem?_eq_some_iff.1 zbm).1).trans zbm) (((one_upD W _).block ga (Array.getElem?_eq_some_iff.1 zga).1).trans zga) (((one_upD W _).block gc (Array.getElem?_eq_some_iff.1 zgc).1).trans zgc) (World.alloc_heap_new W _) (Nat.le_trans hC hb.size) (Nat.ne_of_lt (Array.getElem?_eq_some_iff.1 zbm).1) (Nat.ne_of_lt (Array.getElem?_eq_some_iff.1 zga).1) (Nat.ne_of_lt (Array.getElem?_eq_some_iff.1 zgc).1)
  have s_10010 : ∀ (W : World) (gd : Nat), Below C V W → W.heap[bm]? = some (.cells #[.int .i64 lr, .int .i64 mu, .int .i64 wd, .bool ne] 23) → W.heap[ga]? = some (.cells #[.int .i64 x0, .bool true] 58) → W.heap[gc]? = some (.cells #[.int .i64 x2, .bool true] 58) → W.heap[gd]? = some (.cells #[.int .i64 0, .bool false] 58) → C ≤ gd → bm ≠ gd → ga ≠ gd → gc ≠ gd → wpAnyH Try.prog .any rg_stepR2.1 Q (fun w' => w'.cell? ⟨bm, 2, none⟩ = some (.int .i64 wd) ∧ w'.cell? ⟨ga, 0, none⟩ = some (.int .i64 x0) ∧ w'.cell? ⟨ga, 1, none⟩ = some (.bool true) ∧ w'.cell? ⟨gc, 0, none⟩ = some (.int .i64 x2) ∧ w'.cell? ⟨gc, 1, none⟩ = some (.bool true)) 3 #[true, true, true, true, true, true, false, false, true, false] { tmps := #[u0, .int .i64 j, u2, .pointer (some ⟨bm, 0, none⟩), u4, u5, u6, u7, .pointer (some ⟨ga, 0, none⟩), u9, .pointer (some ⟨gc, 0, none⟩), .pointer (some ⟨gd, 0, none⟩), u12, u13, u14, u15, u16, u17, u18, u19, u20, u21, u22, .agg #[.int .i64 x2, .bool true], .pointer (some ⟨bm, 2, none⟩), .int .i64 wd, .agg #[.int .i64 wd, .bool true], .agg #[.int .i64 x0, .bool true], .int .i64 j, u29, u30, u31, u32, u33, u34, u35, u36, u37, u38, u39, u40, u41, u42, u43, u44, u45, u46, u47, u48, u49, u50, u51, u52, u53, u54, u55, u56, u57, u58], defers := [] } W := by
    intro W gd hb zbm zga zgc zgd mgd dbm_gd dga_gd dgc_gd
    dsimp only [rg_stepR2]
    refine wpAnyH_ready (rs := [6]) (by kernel_rfl) (by simp) ?_
    refine AllReadyH.cons rfl (fun K hK => ?_) (AllReadyH.nil)
    · (try simp only [pT])
      rw [if_pos (by rfl)]
      go_simp
      go_at_call 42
      refine (CM _).mono ?_
      rintro e W2 ⟨rfl, b_⟩
      refine hK.out _ _ (HS _ (hb.trans (b_.mono (Nat.le_trans hC hb.size))) ((b_.block bm (Array.getElem?_eq_some_iff.1 zbm).1).trans zbm) ((b_.block ga (Array.getElem?_eq_some_iff.1 zga).1).trans zga) ((b_.block gc (Array.getElem?_eq_some_iff.1 zgc).1).trans zgc)) (fun hHeld => ?_)
      exact s_11010 W2 gd (hb.trans (b_.mono (Nat.le_trans hC hb.size))) ((b_.block bm (Array.getElem?_eq_some_iff.1 zbm).1).trans zbm) ((b_.block ga (Array.getElem?_eq_some_iff.1 zga).1).trans zga) ((b_.block gc (Array.getElem?_eq_some_iff.1 zgc).1).trans zgc) ((b_.block gd (Array.getElem?_eq_some_iff.1 zgd).1).trans zgd) mgd dbm_gd dga_gd dgc_gd
  have s_11000 : ∀ (W : World), Below C V W → W.heap[bm]? = some (.cells #[.int .i64 lr, .int .i64 mu, .int .i64 wd, .bool ne] 23) → W.heap[ga]? = some (.cells #[.int .i64 x0, .bool true] 58) → W.heap[gc]? = some (.cells #[.int .i64 x2, .bool true] 58) → wpAnyH Try.prog .any rg_stepR2.1 Q (fun w' => w'.cell? ⟨bm, 2, none⟩ = some (.int .i64 wd) ∧ w'.cell? ⟨ga, 0, none⟩ = some (.int .i64 x0) ∧ w'.cell? ⟨ga, 1, none⟩ = some (.bool true) ∧ w'.cell? ⟨gc, 0, none⟩ = some (.int .i64 x2) ∧ w'.cell? ⟨gc, 1, none⟩ = some (.bool true)) 3 #[true, true, true, true, true, true, true, false, false, false] { tmps := #[u0, .int .i64 j, u2, .pointer (some ⟨bm, 0, none⟩), u4, u5, u6, u7, .pointer (some ⟨ga, 0, none⟩), u9, .pointer (some ⟨gc, 0, none⟩), u11, u12, u13, u14, u15, u16, u17, u18, u19, u20, u21, u22, .agg #[.int .i64 x2, .bool true], .pointer (some ⟨bm, 2, none⟩), .int .i64 wd, .agg #[.int .i64 wd, .bool true], .agg #[.int .i64 x0, .bool true], .int .i64 j, .agg #[.int .i64 p, .bool pb], u30, u31, u32, u33, u34, u35, u36, u37, u38, u39, u40, u41, u42, u43, u44, u45, u46, u47, u48, u49, u50, u51, u52, u53, u54, u55, u56, u57, u58], defers := [] } W := by
    intro W hb zbm zga zgc
    dsimp only [rg_stepR2]
    refine wpAnyH_ready (rs := [7, 8]) (by kernel_rfl) (by simp) ?_
    refine AllReadyH.cons rfl (fun K hK => ?_) (AllReadyH.cons rfl (fun K hK => ?_) (AllReadyH.nil))
    · (try simp only [pT])
      rw [if_pos (by rfl)]
      go_simp
      go_at_call 41
      refine (CA _).mono ?_
      rintro e W2 ⟨rfl, b_⟩
      refine hK.out _ _ (HS _ (hb.trans (b_.mono (Nat.le_trans hC hb.size))) ((b_.block bm (Array.getElem?_eq_some_iff.1 zbm).1).trans zbm) ((b_.block ga (Array.getElem?_eq_some_iff.1 zga).1).trans zga) ((b_.block gc (Array.getElem?_eq_some_iff.1 zgc).1).trans zgc)) (fun hHeld => ?_)
      exact s_11100 W2 (hb.trans (b_.mono (Nat.le_trans hC hb.size))) ((b_.block bm (Array.getElem?_eq_some_iff.1 zbm).1).trans zbm) ((b_.block ga (Array.getElem?_eq_some_iff.1 zga).1).trans zga) ((b_.block gc (Array.getElem?_eq_some_iff.1 zgc).1).trans zgc)
    · (try simp only [pT])
      rw [if_pos (by rfl)]
      go_simp
      refine hK.out _ _ (HS _ (hb.alloc (Nat.le_trans hC hb.size) _) (((one_upD W _).block bm (Array.getElem?_eq_some_iff.1 zbm).1).trans zbm) (((one_upD W _).block ga (Array.getElem?_eq_some_iff.1 zga).1).trans zga) (((one_upD W _).block gc (Array.getElem?_eq_some_iff.1 zgc).1).trans zgc)) (fun hHeld => ?_)
      exact s_11010 (W.alloc (.cells #[.int .i64 0, .bool false] 58)) W.heap.size (hb.alloc (Nat.le_trans hC hb.size) _) (((one_upD W _).block bm (Array.getElem?_eq_some_iff.1 zbm).1).trans zbm) (((one_upD W _).block ga (Array.getElem?_eq_some_iff.1 zga).1).trans zga) (((one_upD W _).block gc (Array.getElem?_eq_some_iff.1 zgc).1).trans zgc) (World.alloc_heap_new W _) (Nat.le_trans hC hb.size) (Nat.ne_of_lt (Array.getElem?_eq_some_iff.1 zbm).1) (Nat.ne_of_lt (Array.getElem?_eq_some_iff.1 zga).1) (Nat.ne_of_lt (Array.getElem?_eq_some_iff.1 zgc).1)
  have s_00010 : ∀ (W : World) (gd : Nat), Below C V W → W.heap[bm]? = some (.cells #[.int .i64 lr, .int .i64 mu, .int .i64 wd, .bool ne] 23) → W.heap[ga]? = some (.cells #[.int .i64 x0, .bool true] 58) → W.heap[gc]? = some (.cells #[.int .i64 x2, .bool true] 58) → W.heap[gd]? = some (.cells #[.int .i64 0, .bool false] 58) → C ≤ gd → bm ≠ gd → ga ≠ gd → gc ≠ gd → wpAnyH Try.prog .any rg_stepR2.1 Q (fun w' => w'.cell? ⟨bm, 2, none⟩ = some (.int .i64 wd) ∧ w'.cell? ⟨ga, 0, none⟩ = some (.int .i64 x0) ∧ w'.cell? ⟨ga, 1, none⟩ = some (.bool true) ∧ w'.cell? ⟨gc, 0, none⟩ = some (.int .i64 x2) ∧ w'.cell? ⟨gc, 1, none⟩ = some (.bool true)) 4 #[true, true, true, false, true, true, false, false, true, false] { tmps := #[u0, .int .i64 j, u2, .pointer (some ⟨bm, 0, none⟩), u4, u5, u6, u7, .pointer (some ⟨ga, 0, none⟩), u9, .pointer (some ⟨gc, 0, none⟩), .pointer (some ⟨gd, 0, none⟩), u12, u13, u14, u15, u16, u17, u18, u19, u20, u21, u22, .agg #[.int .i64 x2, .bool true], .pointer (some ⟨bm, 2, none⟩), .int .i64 wd, u26, .agg #[.int .i64 x0, .bool true], .int .i64 j, u29, u30, u31, u32, u33, u34, u35, u36, u37, u38, u39, u40, u41, u42, u43, u44, u45, u46, u47, u48, u49, u50, u51, u52, u53, u54, u55, u56, u57, u58], defers := [] } W := by
    intro W gd hb zbm zga zgc zgd mgd dbm_gd dga_gd dgc_gd
    dsimp only [rg_stepR2]
    refine wpAnyH_ready (rs := [3]) (by kernel_rfl) (by simp) ?_
    refine AllReadyH.cons rfl (fun K hK => ?_) (AllReadyH.nil)
    · (try simp only [pT])
      rw [if_pos (by rfl)]
      go_simp
      go_at_call 40
      refine (nOf17_N _ wd).mono ?_
      rintro e W2 ⟨rfl, b_⟩
      refine hK.out _ _ (HS _ (hb.trans (b_.mono (Nat.le_trans hC hb.size))) ((b_.block bm (Array.getElem?_eq_some_iff.1 zbm).1).trans zbm) ((b_.block ga (Array.getElem?_eq_some_iff.1 zga).1).trans zga) ((b_.block gc (Array.getElem?_eq_some_iff.1 zgc).1).trans zgc)) (fun hHeld => ?_)
      exact s_10010 W2 gd (hb.trans (b_.mono (Nat.le_trans hC hb.size))) ((b_.block bm (Array.getElem?_eq_some_iff.1 zbm).1).trans zbm) ((b_.block ga (Array.getElem?_eq_some_iff.1 zga).1).trans zga) ((b_.block gc (Array.getElem?_eq_some_iff.1 zgc).1).trans zgc) ((b_.block gd (Array.getElem?_eq_some_iff.1 zgd).1).trans zgd) mgd dbm_gd dga_gd dgc_gd
  have s_10000 : ∀ (W : World), Below C V W → W.heap[bm]? = some (.cells #[.int .i64 lr, .int .i64 mu, .int .i64 wd, .bool ne] 23) → W.heap[ga]? = some (.cells #[.int .i64 x0, .bool true] 58) → W.heap[gc]? = some (.cells #[.int .i64 x2, .bool true] 58) → wpAnyH Try.prog .any rg_stepR2.1 Q (fun w' => w'.cell? ⟨bm, 2, none⟩ = some (.int .i64 wd) ∧ w'.cell? ⟨ga, 0, none⟩ = some (.int .i64 x0) ∧ w'.cell? ⟨ga, 1, none⟩ = some (.bool true) ∧ w'.cell? ⟨gc, 0, none⟩ = some (.int .i64 x2) ∧ w'.cell? ⟨gc, 1, none⟩ = some (.bool true)) 4 #[true, true, true, true, true, true, false, false, false, false] { tmps := #[u0, .int .i64 j, u2, .pointer (some ⟨bm, 0, none⟩), u4, u5, u6, u7, .pointer (some ⟨ga, 0, none⟩), u9, .pointer (some ⟨gc, 0, none⟩), u11, u12, u13, u14, u15, u16, u17, u18, u19, u20, u21, u22, .agg #[.int .i64 x2, .bool true], .pointer (some ⟨bm, 2, none⟩), .int .i64 wd, .agg #[.int .i64 wd, .bool true], .agg #[.int .i64 x0, .bool true], .int .i64 j, u29, u30, u31, u32, u33, u34, u35, u36, u37, u38, u39, u40, u41, u42, u43, u44, u45, u46, u47, u48, u49, u50, u51, u52, u53, u54, u55, u56, u57, u58], defers := [] } W := by
    intro W hb zbm zga zgc
    dsimp only [rg_stepR2]
    refine wpAnyH_ready (rs := [6, 8]) (by kernel_rfl) (by simp) ?_
    refine AllReadyH.cons rfl (fun K hK => ?_) (AllReadyH.cons rfl (fun K hK => ?_) (AllReadyH.nil))
    · (try simp only [pT])
      rw [if_pos (by rfl)]
      go_simp
      go_at_call 42
      refine (CM _).mono ?_
      rintro e W2 ⟨rfl, b_⟩
      refine hK.out _ _ (HS _ (hb.trans (b_.mono (Nat.le_trans hC hb.size))) ((b_.block bm (Array.getElem?_eq_some_iff.1 zbm).1).trans zbm) ((b_.block ga (Array.getElem?_eq_some_iff.1 zga).1).trans zga) ((b_.block gc (Array.getElem?_eq_some_iff.1 zgc).1).trans zgc)) (fun hHeld => ?_)
      exact s_11000 W2 (hb.trans (b_.mono (Nat.le_trans hC hb.size))) ((b_.block bm (Array.getElem?_eq_some_iff.1 zbm).1).trans zbm) ((b_.block ga (Array.getElem?_eq_some_iff.1 zga).1).trans zga) ((b_.block gc (Array.getElem?_eq_some_iff.1 zgc).1).trans zgc)
    · (try simp only [pT])
      rw [if_pos (by rfl)]
      go_simp
      refine hK.out _ _ (HS _ (hb.alloc (Nat.le_trans hC hb.size) _) (((one_upD W _).block bm (Array.getElem?_eq_some_iff.1 zbm).1).trans zbm) (((one_upD W _).block ga (Array.getElem?_eq_some_iff.1 zga).1).trans zga) (((one_upD W _).block gc (Array.getElem?_eq_some_iff.1 zgc).1).trans zgc)) (fun hHeld => ?_)
      exact s_10010 (W.alloc (.cells #[.int .i64 0, .bool false] 58)) W.heap.size (hb.alloc (Nat.le_trans hC hb.size) _) (((one_upD W _).block bm (Array.getElem?_eq_some_iff.1 zbm).1).trans zbm) (((one_upD W _).block ga (Array.getElem?_eq_some_iff.1 zga).1).trans zga) (((one_upD W _).block gc (Array.getElem?_eq_some_iff.1 zgc).1).trans zgc) (World.alloc_heap_new W _) (Nat.le_trans hC hb.size) (Nat.ne_of_lt (Array.getElem?_eq_some_iff.1 zbm).1) (Nat.ne_of_lt (Array.getElem?_eq_some_iff.1 zga).1) (Nat.ne_of_lt (Array.getElem?_eq_some_iff.1 zgc).1)
  have s_00000 : ∀ (W : World), Below C V W → W.heap[bm]? = some (.cells #[.int .i64 lr, .int .i64 mu, .int .i64 wd, .bool ne] 23) → W.heap[ga]? = some (.cells #[.int .i64 x0, .bool true] 58) → W.heap[gc]? = some (.cells #[.int .i64 x2, .bool true] 58) → wpAnyH Try.prog .any rg_stepR2.1 Q (fun w' => w'.cell? ⟨bm, 2, none⟩ = some (.int .i64 wd) ∧ w'.cell? ⟨ga, 0, none⟩ = some (.int .i64 x0) ∧ w'.cell? ⟨ga, 1, none⟩ = some (.bool true) ∧ w'.cell? ⟨gc, 0, none⟩ = some (.int .i64 x2) ∧ w'.cell? ⟨gc, 1, none⟩ = some (.bool true)) 5 #[true, true, true, false, true, true, false, false, false, false] { tmps := #[u0, .int .i64 j, u2, .pointer (some ⟨bm, 0, none⟩), u4, u5, u6, u7, .pointer (some ⟨ga, 0, none⟩), u9, .pointer (some ⟨gc, 0, none⟩), u11, u12, u13, u14, u15, u16, u17, u18, u19, u20, u21, u22, .agg #[.int .i64 x2, .bool true], .pointer (some ⟨bm, 2, none⟩), .int .i64 wd, u26, .agg #[.int .i64 x0, .bool true], .int .i64 j, u29, u30, u31, u32, u33, u34, u35, u36, u37, u38, u39, u40, u41, u42, u43, u44, u45, u46, u47, u48, u49, u50, u51, u52, u53, u54, u55, u56, u57, u58], defers := [] } W := by
    intro W hb zbm zga zgc
    dsimp only [rg_stepR2]
    refine wpAnyH_ready (rs := [3, 8]) (by kernel_rfl) (by simp) ?_
    refine AllReadyH.cons rfl (fun K hK => ?_) (AllReadyH.cons rfl (fun K hK => ?_) (AllReadyH.nil))
    · (try simp only [pT])
      rw [if_pos (by rfl)]
      go_simp
      go_at_call 40
      refine (nOf17_N _ wd).mono ?_
      rintro e W2 ⟨rfl, b_⟩
      refine hK.out _ _ (HS _ (hb.trans (b_.mono (Nat.le_trans hC hb.size))) ((b_.block bm (Array.getElem?_eq_some_iff.1 zbm).1).trans zbm) ((b_.block ga (Array.getElem?_eq_some_iff.1 zga).1).trans zga) ((b_.block gc (Array.getElem?_eq_some_iff.1 zgc).1).trans zgc)) (fun hHeld => ?_)
      exact s_10000 W2 (hb.trans (b_.mono (Nat.le_trans hC hb.size))) ((b_.block bm (Array.getElem?_eq_some_iff.1 zbm).1).trans zbm) ((b_.block ga (Array.getElem?_eq_some_iff.1 zga).1).trans zga) ((b_.block gc (Array.getElem?_eq_some_iff.1 zgc).1).trans zgc)
    · (try simp only [pT])
      rw [if_pos (by rfl)]
      go_simp
      refine hK.out _ _ (HS _ (hb.alloc (Nat.le_trans hC hb.size) _) (((one_upD W _).block bm (Array.getElem?_eq_some_iff.1 zbm).1).trans zbm) (((one_upD W _).block ga (Array.getElem?_eq_some_iff.1 zga).1).trans zga) (((one_upD W _).block gc (Array.getElem?_eq_some_iff.1 zgc).1).trans zgc)) (fun hHeld => ?_)
      exact s_00010 (W.alloc (.cells #[.int .i64 0, .bool false] 58)) W.heap.size (hb.alloc (Nat.le_trans hC hb.size) _) (((one_upD W _).block bm (Array.getElem?_eq_some_iff.1 zbm).1).trans zbm) (((one_upD W _).block ga (Array.getElem?_eq_some_iff.1 zga).1).trans zga) (((one_upD W _).block gc (Array.getElem?_eq_some_iff.1 zgc).1).trans zgc) (World.alloc_heap_new W _) (Nat.le_trans hC hb.size) (Nat.ne_of_lt (Array.getElem?_eq_some_iff.1 zbm).1) (Nat.ne_of_lt (Array.getElem?_eq_some_iff.1 zga).1) (Nat.ne_of_lt (Array.getElem?_eq_some_iff.1 zgc).1)
  refine wp_region_n (S := fun w' => w'.cell? ⟨bm, 2, none⟩ = some (.int .i64 wd) ∧ w'.cell? ⟨ga, 0, none⟩ = some (.int .i64 x0) ∧ w'.cell? ⟨ga, 1, none⟩ = some (.bool true) ∧ w'.cell? ⟨gc, 0, none⟩ = some (.int .i64 x2) ∧ w'.cell? ⟨gc, 1, none⟩ = some (.bool true)) (n := 10) (by kernel_rfl) (by kernel_rfl) (HS _ (below_drewN (Below.refl C V) 1) zbm zga zgc) (fun hHeld => ?_)
  dsimp only [rg_stepR2]
  refine wpAnyH_take (i := 0) (v := ?_) rfl (by kernel_rfl) (by kernel_rfl) (by kernel_rfl) (fun _ _ _ h => hP _ _ _ _ _ h) (Or.inl ⟨by rfl, ?_⟩) hHeld ?_
  rotate_left
  · (intro w hSw; (try dsimp only at hSw); go_simp; (try with_reducible rfl))
  try simp only [Act.put, pT]
  refine wpAnyH_take (i := 1) (v := ?_) rfl (by kernel_rfl) (by kernel_rfl) (by kernel_rfl) (fun _ _ _ h => hP _ _ _ _ _ h) (Or.inl ⟨by rfl, ?_⟩) hHeld ?_
  rotate_left
  · (intro w hSw; (try dsimp only at hSw); go_simp; (try with_reducible rfl))
  try simp only [Act.put, pT]
  refine wpAnyH_take (i := 2) (v := ?_) rfl (by kernel_rfl) (by kernel_rfl) (by kernel_rfl) (fun _ _ _ h => hP _ _ _ _ _ h) (Or.inl ⟨by rfl, ?_⟩) hHeld ?_
  rotate_left
  · (intro w hSw; (try dsimp only at hSw); go_simp; (try with_reducible rfl))
  try simp only [Act.put, pT]
  refine wpAnyH_take (i := 4) (v := ?_) rfl (by kernel_rfl) (by kernel_rfl) (by kernel_rfl) (fun _ _ _ h => hP _ _ _ _ _ h) (Or.inl ⟨by rfl, ?_⟩) hHeld ?_
  rotate_left
  · (intro w hSw; (try dsimp only at hSw); go_simp; (try with_reducible rfl))
  try simp only [Act.put, pT]
  refine wpAnyH_take (i := 5) (v := ?_) rfl (by kernel_rfl) (by kernel_rfl) (by kernel_rfl) (fun _ _ _ h => hP _ _ _ _ _ h) (Or.inl ⟨by rfl, ?_⟩) hHeld ?_
  rotate_left
  · (intro w hSw; (try dsimp only at hSw); go_simp; (try with_reducible rfl))
  try simp only [Act.put, pT]
  exact s_00000 _ (below_drewN (Below.refl C V) 1) zbm zga zgc

def rg_stepR3 : { o : Array Oper // regOf 3 Try.f25 = o } := ⟨_, by
  simp only [regOf, regIn, Try.f25, reduceIte, Nat.reduceEqDiff, Option.or, Option.getD, Nat.one_ne_zero, Nat.zero_ne_one]
  rfl⟩
theorem stepR3 {V : World} {C : Nat} {Q : Exit → Act → World → Prop} {u0 u2 u4 u5 u6 u7 u8 u10 u12 u13 u14 u15 u16 u17 u18 u19 u20 u21 u22 u23 u24 u25 u26 u27 u28 u29 u30 u31 u32 u33 u34 u35 u36 u37 u38 u39 u40 u41 u42 u43 u44 u45 u46 u47 u48 u49 u50 u51 u52 u53 u54 u55 u56 u57 u58 : Value} {bm gb gd : Nat} {lr mu wd j : Int} {ne : Bool} {x1 d p v : Int} {pb db vb : Bool} (CM : ∀ W : World, Calls Try.prog 42 #[.agg #[.int .i64 mu, .bool true], .agg #[.int .i64 x1, .bool true], .int .i64 j] W (GotV W (.agg #[.int .i64 p, .bool pb]))) (CA : ∀ W : World, Calls Try.prog 41 #[.agg #[.int .i64 p, .bool pb], .agg #[.int .i64 d, .bool db]] W (GotV W (.agg #[.int .i64 v, .bool vb]))) (hP : ∀ c (a : Act) (d : Option Tmp) (v : Value) (w : World), Q (.panic c) (a.put d v) w → Q (.panic c) a w) (hC : C ≤ V.heap.size) (zbm : V.heap[bm]? = some (.cells #[.int .i64 lr, .int .i64 mu, .int .i64 wd, .bool ne] 23)) (zgb : V.heap[gb]? = some (.cells #[.int .i64 x1, .bool true] 58)) (zgd : V.heap[gd]? = some (.cells #[.int .i64 d, .bool db] 58)) (hQ : ∀ (W : World) (ge : Nat), Below C V W → W.heap[bm]? = some (.cells #[.int .i64 lr, .int .i64 mu, .int .i64 wd, .bool ne] 23) → W.heap[gb]? = some (.cells #[.int .i64 x1, .bool true] 58) → W.heap[gd]? = some (.cells #[.int .i64 d, .bool db] 58) → W.heap[ge]? = some (.cells #[.int .i64 v, .bool vb] 58) → C ≤ ge → Q .normal { tmps := #[u0, .int .i64 j, u2, .pointer (some ⟨bm, 0, none⟩), u4, u5, u6, u7, u8, .pointer (some ⟨gb, 0, none⟩), u10, .pointer (some ⟨gd, 0, none⟩), .pointer (some ⟨ge, 0, none⟩), u13, u14, u15, u16, u17, u18, u19, u20, u21, u22, u23, u24, u25, u26, u27, u28, u29, u30, .pointer (some ⟨bm, 1, none⟩), .int .i64 mu, .agg #[.int .i64 mu, .bool true], .agg #[.int .i64 x1, .bool true], .int .i64 j, .agg #[.int .i64 p, .bool pb], .agg #[.int .i64 d, .bool db], .agg #[.int .i64 v, .bool vb], u39, u40, u41, u42, u43, u44, u45, u46, u47, u48, u49, u50, u51, u52, u53, u54, u55, u56, u57, u58], defers := [] } W) :
    (Code.region 3 rg_stepR3.1 true).wp Try.prog Q { tmps := #[u0, .int .i64 j, u2, .pointer (some ⟨bm, 0, none⟩), u4, u5, u6, u7, u8, .pointer (some ⟨gb, 0, none⟩), u10, .pointer (some ⟨gd, 0, none⟩), u12, u13, u14, u15, u16, u17, u18, u19, u20, u21, u22, u23, u24, u25, u26, u27, u28, u29, u30, u31, u32, u33, u34, u35, u36, u37, u38, u39, u40, u41, u42, u43, u44, u45, u46, u47, u48, u49, u50, u51, u52, u53, u54, u55, u56, u57, u58], defers := [] } V := by
  have HS : ∀ W : World, Below C V W → W.heap[bm]? = some (.cells #[.int .i64 lr, .int .i64 mu, .int .i64 wd, .bool ne] 23) → W.heap[gb]? = some (.cells #[.int .i64 x1, .bool true] 58) → W.heap[gd]? = some (.cells #[.int .i64 d, .bool db] 58) → (fun w' : World => w'.cell? ⟨bm, 1, none⟩ = some (.int .i64 mu) ∧ w'.cell? ⟨gb, 0, none⟩ = some (.int .i64 x1) ∧ w'.cell? ⟨gb, 1, none⟩ = some (.bool true) ∧ w'.cell? ⟨gd, 0, none⟩ = some (.int .i64 d) ∧ w'.cell? ⟨gd, 1, none⟩ = some (.bool db)) W := fun W yb ybm ygb ygd => ⟨cell_of_row W bm 1 #[.int .i64 lr, .int .i64 mu, .int .i64 wd, .bool ne] 23 _ ybm, cell_of_row W gb 0 #[.int .i64 x1, .bool true] 58 _ ygb, cell_of_row W gb 1 #[.int .i64 x1, .bool true] 58 _ ygb, cell_of_row W gd 0 #[.int .i64 d, .bool db] 58 _ ygd, cell_of_row W gd 1 #[.int .i64 d, .bool db] 58 _ ygd⟩
  have s_11111 : ∀ (W : World) (ge : Nat), Below C V W → W.heap[bm]? = some (.cells #[.int .i64 lr, .int .i64 mu, .int .i64 wd, .bool ne] 23) → W.heap[gb]? = some (.cells #[.int .i64 x1, .bool true] 58) → W.heap[gd]? = some (.cells #[.int .i64 d, .bool db] 58) → W.heap[ge]? = some (.cells #[.int .i64 v, .bool vb] 58) → C ≤ ge → bm ≠ ge → gb ≠ ge → gd ≠ ge → wpAnyH Try.prog .any rg_stepR3.1 Q (fun w' => w'.cell? ⟨bm, 1, none⟩ = some (.int .i64 mu) ∧ w'.cell? ⟨gb, 0, none⟩ = some (.int .i64 x1) ∧ w'.cell? ⟨gb, 1, none⟩ = some (.bool true) ∧ w'.cell? ⟨gd, 0, none⟩ = some (.int .i64 d) ∧ w'.cell? ⟨gd, 1, none⟩ = some (.bool db)) 0 #[true, true, true, true, true, true, true, true, true, true] { tmps := #[u0, .int .i64 j, u2, .pointer (some ⟨bm, 0, none⟩), u4, u5, u6, u7, u8, .pointer (some ⟨gb, 0, none⟩), u10, .pointer (some ⟨gd, 0, none⟩), .pointer (some ⟨ge, 0, none⟩), u13, u14, u15, u16, u17, u18, u19, u20, u21, u22, u23, u24, u25, u26, u27, u28, u29, u30, .pointer (some ⟨bm, 1, none⟩), .int .i64 mu, .agg #[.int .i64 mu, .bool true], .agg #[.int .i64 x1, .bool true], .int .i64 j, .agg #[.int .i64 p, .bool pb], .agg #[.int .i64 d, .bool db], .agg #[.int .i64 v, .bool vb], u39, u40, u41, u42, u43, u44, u45, u46, u47, u48, u49, u50, u51, u52, u53, u54, u55, u56, u57, u58], defers := [] } W := by
    intro W ge hb zbm zgb zgd zge mge dbm_ge dgb_ge dgd_ge
    dsimp only [rg_stepR3]
    exact wpAnyH_done (by kernel_rfl) (hQ W ge hb zbm zgb zgd zge mge) _
  have s_11110 : ∀ (W : World) (ge : Nat), Below C V W → W.heap[bm]? = some (.cells #[.int .i64 lr, .int .i64 mu, .int .i64 wd, .bool ne] 23) → W.heap[gb]? = some (.cells #[.int .i64 x1, .bool true] 58) → W.heap[gd]? = some (.cells #[.int .i64 d, .bool db] 58) → W.heap[ge]? = some (.cells #[.int .i64 0, .bool false] 58) → C ≤ ge → bm ≠ ge → gb ≠ ge → gd ≠ ge → wpAnyH Try.prog .any rg_stepR3.1 Q (fun w' => w'.cell? ⟨bm, 1, none⟩ = some (.int .i64 mu) ∧ w'.cell? ⟨gb, 0, none⟩ = some (.int .i64 x1) ∧ w'.cell? ⟨gb, 1, none⟩ = some (.bool true) ∧ w'.cell? ⟨gd, 0, none⟩ = some (.int .i64 d) ∧ w'.cell? ⟨gd, 1, none⟩ = some (.bool db)) 1 #[true, true, true, true, true, true, true, true, true, false] { tmps := #[u0, .int .i64 j, u2, .pointer (some ⟨bm, 0, none⟩), u4, u5, u6, u7, u8, .pointer (some ⟨gb, 0, none⟩), u10, .pointer (some ⟨gd, 0, none⟩), .pointer (some ⟨ge, 0, none⟩), u13, u14, u15, u16, u17, u18, u19, u20, u21, u22, u23, u24, u25, u26, u27, u28, u29, u30, .pointer (some ⟨bm, 1, none⟩), .int .i64 mu, .agg #[.int .i64 mu, .bool true], .agg #[.int .i64 x1, .bool true], .int .i64 j, .agg #[.int .i64 p, .bool pb], .agg #[.int .i64 d, .bool db], .agg #[.int .i64 v, .bool vb], u39, u40, u41, u42, u43, u44, u45, u46, u47, u48, u49, u50, u51, u52, u53, u54, u55, u56, u57, u58], defers := [] } W := by
    intro W ge hb zbm zgb zgd zge mge dbm_ge dgb_ge dgd_ge
    dsimp only [rg_stepR3]
    refine wpAnyH_ready (rs := [9]) (by kernel_rfl) (by simp) ?_
    refine AllReadyH.cons rfl (fun K hK => ?_) (AllReadyH.nil)
    · (try simp only [pT])
      rw [if_pos (by rfl)]
      have c0 : W.cell? ⟨ge, 0, none⟩ = some (.int .i64 0) := cell_of_row W ge 0 #[.int .i64 0, .bool false] 58 _ zge
      have f0 : W.frozen? ⟨ge, 0, none⟩ = false := by simp [World.frozen?, zge]
      have c1 : W.cell? ⟨ge, 1, none⟩ = some (.bool false) := cell_of_row W ge 1 #[.int .i64 0, .bool false] 58 _ zge
      have f1 : W.frozen? ⟨ge, 1, none⟩ = false := by simp [World.frozen?, zge]
      go_simp
      refine hK.out _ _ (HS _ ((hb.setCell (p := ⟨ge, 0, none⟩) mge _).setCell (p := ⟨ge, 1, none⟩) mge _) (put_far2 zbm dbm_ge) (put_far2 zgb dgb_ge) (put_far2 zgd dgd_ge)) (fun hHeld => ?_)
      exact s_11111 ((W.setCell ⟨ge, 0, none⟩ (.int .i64 v)).setCell ⟨ge, 1, none⟩ (.bool vb)) ge ((hb.setCell (p := ⟨ge, 0, none⟩) mge _).setCell (p := ⟨ge, 1, none⟩) mge _) (put_far2 zbm dbm_ge) (put_far2 zgb dgb_ge) (put_far2 zgd dgd_ge) (put_cells2 zge) mge dbm_ge dgb_ge dgd_ge
  have s_11010 : ∀ (W : World) (ge : Nat), Below C V W → W.heap[bm]? = some (.cells #[.int .i64 lr, .int .i64 mu, .int .i64 wd, .bool ne] 23) → W.heap[gb]? = some (.cells #[.int .i64 x1, .bool true] 58) → W.heap[gd]? = some (.cells #[.int .i64 d, .bool db] 58) → W.heap[ge]? = some (.cells #[.int .i64 0, .bool false] 58) → C ≤ ge → bm ≠ ge → gb ≠ ge → gd ≠ ge → wpAnyH Try.prog .any rg_stepR3.1 Q (fun w' => w'.cell? ⟨bm, 1, none⟩ = some (.int .i64 mu) ∧ w'.cell? ⟨gb, 0, none⟩ = some (.int .i64 x1) ∧ w'.cell? ⟨gb, 1, none⟩ = some (.bool true) ∧ w'.cell? ⟨gd, 0, none⟩ = some (.int .i64 d) ∧ w'.cell? ⟨gd, 1, none⟩ = some (.bool db)) 2 #[true, true, true, true, true, true, true, false, true, false] { tmps := #[u0, .int .i64 j, u2, .pointer (some ⟨bm, 0, none⟩), u4, u5, u6, u7, u8, .pointer (some ⟨gb, 0, none⟩), u10, .pointer (some ⟨gd, 0, none⟩), .pointer (some ⟨ge, 0, none⟩), u13, u14, u15, u16, u17, u18, u19, u20, u21, u22, u23, u24, u25, u26, u27, u28, u29, u30, .pointer (some ⟨bm, 1, none⟩), .int .i64 mu, .agg #[.int .i64 mu, .bool true], .agg #[.int .i64 x1, .bool true], .int .i64 j, .agg #[.int .i64 p, .bool pb], .agg #[.int .i64 d, .bool db], u38, u39, u40, u41, u42, u43, u44, u45, u46, u47, u48, u49, u50, u51, u52, u53, u54, u55, u56, u57, u58], defers := [] } W := by
    intro W ge hb zbm zgb zgd zge mge dbm_ge dgb_ge dgd_ge
    dsimp only [rg_stepR3]
    refine wpAnyH_ready (rs := [7]) (by kernel_rfl) (by simp) ?_
    refine AllReadyH.cons rfl (fun K hK => ?_) (AllReadyH.nil)
    · (try simp only [pT])
      rw [if_pos (by rfl)]
      go_simp
      go_at_call 41
      refine (CA _).mono ?_
      rintro e W2 ⟨rfl, b_⟩
      refine hK.out _ _ (HS _ (hb.trans (b_.mono (Nat.le_trans hC hb.size))) ((b_.block bm (Array.getElem?_eq_some_iff.1 zbm).1).trans zbm) ((b_.block gb (Array.getElem?_eq_some_iff.1 zgb).1).trans zgb) ((b_.block gd (Array.getElem?_eq_some_iff.1 zgd).1).trans zgd)) (fun hHeld => ?_)
      exact s_11110 W2 ge (hb.trans (b_.mono (Nat.le_trans hC hb.size))) ((b_.block bm (Array.getElem?_eq_some_iff.1 zbm).1).trans zbm) ((b_.block gb (Array.getElem?_eq_some_iff.1 zgb).1).trans zgb) ((b_.block gd (Array.getElem?_eq_some_iff.1 zgd).1).trans zgd) ((b_.block ge (Array.getElem?_eq_some_iff.1 zge).1).trans zge) mge dbm_ge dgb_ge dgd_ge
  have s_11100 : ∀ (W : World), Below C V W → W.heap[bm]? = some (.cells #[.int .i64 lr, .int .i64 mu, .int .i64 wd, .bool ne] 23) → W.heap[gb]? = some (.cells #[.int .i64 x1, .bool true] 58) → W.heap[gd]? = some (.cells #[.int .i64 d, .bool db] 58) → wpAnyH Try.prog .any rg_stepR3.1 Q (fun w' => w'.cell? ⟨bm, 1, none⟩ = some (.int .i64 mu) ∧ w'.cell? ⟨gb, 0, none⟩ = some (.int .i64 x1) ∧ w'.cell? ⟨gb, 1, none⟩ = some (.bool true) ∧ w'.cell? ⟨gd, 0, none⟩ = some (.int .i64 d) ∧ w'.cell? ⟨gd, 1, none⟩ = some (.bool db)) 2 #[true, true, true, true, true, true, true, true, false, false] { tmps := #[u0, .int .i64 j, u2, .pointer (some ⟨bm, 0, none⟩), u4, u5, u6, u7, u8, .pointer (some ⟨gb, 0, none⟩), u10, .pointer (some ⟨gd, 0, none⟩), u12, u13, u14, u15, u16, u17, u18, u19, u20, u21, u22, u23, u24, u25, u26, u27, u28, u29, u30, .pointer (some ⟨bm, 1, none⟩), .int .i64 mu, .agg #[.int .i64 mu, .bool true], .agg #[.int .i64 x1, .bool true], .int .i64 j, .agg #[.int .i64 p, .bool pb], .agg #[.int .i64 d, .bool db], .agg #[.int .i64 v, .bool vb], u39, u40, u41, u42, u43, u44, u45, u46, u47, u48, u49, u50, u51, u52, u53, u54, u55, u56, u57, u58], defers := [] } W := by
    intro W hb zbm zgb zgd
    dsimp only [rg_stepR3]
    refine wpAnyH_ready (rs := [8]) (by kernel_rfl) (by simp) ?_
    refine AllReadyH.cons rfl (fun K hK => ?_) (AllReadyH.nil)
    · (try simp only [pT])
      rw [if_pos (by rfl)]
      go_simp
      refine hK.out _ _ (HS _ (hb.alloc (Nat.le_trans hC hb.size) _) (((one_upD W _).block bm (Array.getElem?_eq_some_iff.1 zbm).1).trans zbm) (((one_upD W _).block gb (Array.getElem?_eq_some_iff.1 zgb).1).trans zgb) (((one_upD W _).block gd (Array.getElem?_eq_some_iff.1 zgd).1).trans zgd)) (fun hHeld => ?_)
      exact s_11110 (W.alloc (.cells #[.int .i64 0, .bool false] 58)) W.heap.size (hb.alloc (Nat.le_trans hC hb.size) _) (((one_upD W _).block bm (Array.getElem?_eq_some_iff.1 zbm).1).trans zbm) (((one_upD W _).block gb (Array.getElem?_eq_some_iff.1 zgb).1).trans zgb) (((one_upD W _).block gd (Array.getElem?_eq_some_iff.1 zgd).1).trans zgd) (World.alloc_heap_new W _) (Nat.le_trans hC hb.size) (Nat.ne_of_lt (Array.getElem?_eq_some_iff.1 zbm).1) (Nat.ne_of_lt (Array.getElem?_eq_some_iff.1 zgb).1) (Nat.ne_of_lt (Array.getElem?_eq_some_iff.1 zgd).1)
  have s_10010 : ∀ (W : World) (ge : Nat), Below C V W → W.heap[bm]? = some (.cells #[.int .i64 lr, .int .i64 mu, .int .i64 wd, .bool ne] 23) → W.heap[gb]? = some (.cells #[.int .i64 x1, .bool true] 58) → W.heap[gd]? = some (.cells #[.int .i64 d, .bool db] 58) → W.heap[ge]? = some (.cells #[.int .i64 0, .bool false] 58) → C ≤ ge → bm ≠ ge → gb ≠ ge → gd ≠ ge → wpAnyH Try.prog .any rg_stepR3.1 Q (fun w' => w'.cell? ⟨bm, 1, none⟩ = some (.int .i64 mu) ∧ w'.cell? ⟨gb, 0, none⟩ = some (.int .i64 x1) ∧ w'.cell? ⟨gb, 1, none⟩ = some (.bool true) ∧ w'.cell? ⟨gd, 0, none⟩ = some (.int .i64 d) ∧ w'.cell? ⟨gd, 1, none⟩ = some (.bool db)) 3 #[true, true, true, true, true, false, true, false, true, false] { tmps := #[u0, .int .i64 j, u2, .pointer (some ⟨bm, 0, none⟩), u4, u5, u6, u7, u8, .pointer (some ⟨gb, 0, none⟩), u10, .pointer (some ⟨gd, 0, none⟩), .pointer (some ⟨ge, 0, none⟩), u13, u14, u15, u16, u17, u18, u19, u20, u21, u22, u23, u24, u25, u26, u27, u28, u29, u30, .pointer (some ⟨bm, 1, none⟩), .int .i64 mu, .agg #[.int .i64 mu, .bool true], .agg #[.int .i64 x1, .bool true], .int .i64 j, u36, .agg #[.int .i64 d, .bool db], u38, u39, u40, u41, u42, u43, u44, u45, u46, u47, u48, u49, u50, u51, u52, u53, u54, u55, u56, u57, u58], defers := [] } W := by
    intro W ge hb zbm zgb zgd zge mge dbm_ge dgb_ge dgd_ge
    dsimp only [rg_stepR3]
    refine wpAnyH_ready (rs := [5]) (by kernel_rfl) (by simp) ?_
    refine AllReadyH.cons rfl (fun K hK => ?_) (AllReadyH.nil)
    · (try simp only [pT])
      rw [if_pos (by rfl)]
      go_simp
      go_at_call 42
      refine (CM _).mono ?_
      rintro e W2 ⟨rfl, b_⟩
      refine hK.out _ _ (HS _ (hb.trans (b_.mono (Nat.le_trans hC hb.size))) ((b_.block bm (Array.getElem?_eq_some_iff.1 zbm).1).trans zbm) ((b_.block gb (Array.getElem?_eq_some_iff.1 zgb).1).trans zgb) ((b_.block gd (Array.getElem?_eq_some_iff.1 zgd).1).trans zgd)) (fun hHeld => ?_)
      exact s_11010 W2 ge (hb.trans (b_.mono (Nat.le_trans hC hb.size))) ((b_.block bm (Array.getElem?_eq_some_iff.1 zbm).1).trans zbm) ((b_.block gb (Array.getElem?_eq_some_iff.1 zgb).1).trans zgb) ((b_.block gd (Array.getElem?_eq_some_iff.1 zgd).1).trans zgd) ((b_.block ge (Array.getElem?_eq_some_iff.1 zge).1).trans zge) mge dbm_ge dgb_ge dgd_ge
  have s_11000 : ∀ (W : World), Below C V W → W.heap[bm]? = some (.cells #[.int .i64 lr, .int .i64 mu, .int .i64 wd, .bool ne] 23) → W.heap[gb]? = some (.cells #[.int .i64 x1, .bool true] 58) → W.heap[gd]? = some (.cells #[.int .i64 d, .bool db] 58) → wpAnyH Try.prog .any rg_stepR3.1 Q (fun w' => w'.cell? ⟨bm, 1, none⟩ = some (.int .i64 mu) ∧ w'.cell? ⟨gb, 0, none⟩ = some (.int .i64 x1) ∧ w'.cell? ⟨gb, 1, none⟩ = some (.bool true) ∧ w'.cell? ⟨gd, 0, none⟩ = some (.int .i64 d) ∧ w'.cell? ⟨gd, 1, none⟩ = some (.bool db)) 3 #[true, true, true, true, true, true, true, false, false, false] { tmps := #[u0, .int .i64 j, u2, .pointer (some ⟨bm, 0, none⟩), u4, u5, u6, u7, u8, .pointer (some ⟨gb, 0, none⟩), u10, .pointer (some ⟨gd, 0, none⟩), u12, u13, u14, u15, u16, u17, u18, u19, u20, u21, u22, u23, u24, u25, u26, u27, u28, u29, u30, .pointer (some ⟨bm, 1, none⟩), .int .i64 mu, .agg #[.int .i64 mu, .bool true], .agg #[.int .i64 x1, .bool true], .int .i64 j, .agg #[.int .i64 p, .bool pb], .agg #[.int .i64 d, .bool db], u38, u39, u40, u41, u42, u43, u44, u45, u46, u47, u48, u49, u50, u51, u52, u53, u54, u55, u56, u57, u58], defers := [] } W := by
    intro W hb zbm zgb zgd
    dsimp only [rg_stepR3]
    refine wpAnyH_ready (rs := [7, 8]) (by kernel_rfl) (by simp) ?_
    refine AllReadyH.cons rfl (fun K hK => ?_) (AllReadyH.cons rfl (fun K hK => ?_) (AllReadyH.nil))
    · (try simp only [pT])
      rw [if_pos (by rfl)]
      go_simp
      go_at_call 41
      refine (CA _).mono ?_
      rintro e W2 ⟨rfl, b_⟩
      refine hK.out _ _ (HS _ (hb.trans (b_.mono (Nat.le_trans hC hb.size))) ((b_.block bm (Array.getElem?_eq_some_iff.1 zbm).1).trans zbm) ((b_.block gb (Array.getElem?_eq_some_iff.1 zgb).1).trans zgb) ((b_.block gd (Array.getElem?_eq_some_iff.1 zgd).1).trans zgd)) (fun hHeld => ?_)
      exact s_11100 W2 (hb.trans (b_.mono (Nat.le_trans hC hb.size))) ((b_.block bm (Array.getElem?_eq_some_iff.1 zbm).1).trans zbm) ((b_.block gb (Array.getElem?_eq_some_iff.1 zgb).1).trans zgb) ((b_.block gd (Array.getElem?_eq_some_iff.1 zgd).1).trans zgd)
    · (try simp only [pT])
      rw [if_pos (by rfl)]
      go_simp
      refine hK.out _ _ (HS _ (hb.alloc (Nat.le_trans hC hb.size) _) (((one_upD W _).block bm (Array.getElem?_eq_some_iff.1 zbm).1).trans zbm) (((one_upD W _).block gb (Array.getElem?_eq_some_iff.1 zgb).1).trans zgb) (((one_upD W _).block gd (Array.getElem?_eq_some_iff.1 zgd).1).trans zgd)) (fun hHeld => ?_)
      exact s_11010 (W.alloc (.cells #[.int .i64 0, .bool false] 58)) W.heap.size (hb.alloc (Nat.le_trans hC hb.size) _) (((one_upD W _).block bm (Array.getElem?_eq_some_iff.1 zbm).1).trans zbm) (((one_upD W _).block gb (Array.getElem?_eq_some_iff.1 zgb).1).trans zgb) (((one_upD W _).block gd (Array.getElem?_eq_some_iff.1 zgd).1).trans zgd) (World.alloc_heap_new W _) (Nat.le_trans hC hb.size) (Nat.ne_of_lt (Array.getElem?_eq_some_iff.1 zbm).1) (Nat.ne_of_lt (Array.getElem?_eq_some_iff.1 zgb).1) (Nat.ne_of_lt (Array.getElem?_eq_some_iff.1 zgd).1)
  have s_00010 : ∀ (W : World) (ge : Nat), Below C V W → W.heap[bm]? = some (.cells #[.int .i64 lr, .int .i64 mu, .int .i64 wd, .bool ne] 23) → W.heap[gb]? = some (.cells #[.int .i64 x1, .bool true] 58) → W.heap[gd]? = some (.cells #[.int .i64 d, .bool db] 58) → W.heap[ge]? = some (.cells #[.int .i64 0, .bool false] 58) → C ≤ ge → bm ≠ ge → gb ≠ ge → gd ≠ ge → wpAnyH Try.prog .any rg_stepR3.1 Q (fun w' => w'.cell? ⟨bm, 1, none⟩ = some (.int .i64 mu) ∧ w'.cell? ⟨gb, 0, none⟩ = some (.int .i64 x1) ∧ w'.cell? ⟨gb, 1, none⟩ = some (.bool true) ∧ w'.cell? ⟨gd, 0, none⟩ = some (.int .i64 d) ∧ w'.cell? ⟨gd, 1, none⟩ = some (.bool db)) 4 #[true, true, false, true, true, false, true, false, true, false] { tmps := #[u0, .int .i64 j, u2, .pointer (some ⟨bm, 0, none⟩), u4, u5, u6, u7, u8, .pointer (some ⟨gb, 0, none⟩), u10, .pointer (some ⟨gd, 0, none⟩), .pointer (some ⟨ge, 0, none⟩), u13, u14, u15, u16, u17, u18, u19, u20, u21, u22, u23, u24, u25, u26, u27, u28, u29, u30, .pointer (some ⟨bm, 1, none⟩), .int .i64 mu, u33, .agg #[.int .i64 x1, .bool true], .int .i64 j, u36, .agg #[.int .i64 d, .bool db], u38, u39, u40, u41, u42, u43, u44, u45, u46, u47, u48, u49, u50, u51, u52, u53, u54, u55, u56, u57, u58], defers := [] } W := by
    intro W ge hb zbm zgb zgd zge mge dbm_ge dgb_ge dgd_ge
    dsimp only [rg_stepR3]
    refine wpAnyH_ready (rs := [2]) (by kernel_rfl) (by simp) ?_
    refine AllReadyH.cons rfl (fun K hK => ?_) (AllReadyH.nil)
    · (try simp only [pT])
      rw [if_pos (by rfl)]
      go_simp
      go_at_call 40
      refine (nOf17_N _ mu).mono ?_
      rintro e W2 ⟨rfl, b_⟩
      refine hK.out _ _ (HS _ (hb.trans (b_.mono (Nat.le_trans hC hb.size))) ((b_.block bm (Array.getElem?_eq_some_iff.1 zbm).1).trans zbm) ((b_.block gb (Array.getElem?_eq_some_iff.1 zgb).1).trans zgb) ((b_.block gd (Array.getElem?_eq_some_iff.1 zgd).1).trans zgd)) (fun hHeld => ?_)
      exact s_10010 W2 ge (hb.trans (b_.mono (Nat.le_trans hC hb.size))) ((b_.block bm (Array.getElem?_eq_some_iff.1 zbm).1).trans zbm) ((b_.block gb (Array.getElem?_eq_some_iff.1 zgb).1).trans zgb) ((b_.block gd (Array.getElem?_eq_some_iff.1 zgd).1).trans zgd) ((b_.block ge (Array.getElem?_eq_some_iff.1 zge).1).trans zge) mge dbm_ge dgb_ge dgd_ge
  have s_10000 : ∀ (W : World), Below C V W → W.heap[bm]? = some (.cells #[.int .i64 lr, .int .i64 mu, .int .i64 wd, .bool ne] 23) → W.heap[gb]? = some (.cells #[.int .i64 x1, .bool true] 58) → W.heap[gd]? = some (.cells #[.int .i64 d, .bool db] 58) → wpAnyH Try.prog .any rg_stepR3.1 Q (fun w' => w'.cell? ⟨bm, 1, none⟩ = some (.int .i64 mu) ∧ w'.cell? ⟨gb, 0, none⟩ = some (.int .i64 x1) ∧ w'.cell? ⟨gb, 1, none⟩ = some (.bool true) ∧ w'.cell? ⟨gd, 0, none⟩ = some (.int .i64 d) ∧ w'.cell? ⟨gd, 1, none⟩ = some (.bool db)) 4 #[true, true, true, true, true, false, true, false, false, false] { tmps := #[u0, .int .i64 j, u2, .pointer (some ⟨bm, 0, none⟩), u4, u5, u6, u7, u8, .pointer (some ⟨gb, 0, none⟩), u10, .pointer (some ⟨gd, 0, none⟩), u12, u13, u14, u15, u16, u17, u18, u19, u20, u21, u22, u23, u24, u25, u26, u27, u28, u29, u30, .pointer (some ⟨bm, 1, none⟩), .int .i64 mu, .agg #[.int .i64 mu, .bool true], .agg #[.int .i64 x1, .bool true], .int .i64 j, u36, .agg #[.int .i64 d, .bool db], u38, u39, u40, u41, u42, u43, u44, u45, u46, u47, u48, u49, u50, u51, u52, u53, u54, u55, u56, u57, u58], defers := [] } W := by
    intro W hb zbm zgb zgd
    dsimp only [rg_stepR3]
    refine wpAnyH_ready (rs := [5, 8]) (by kernel_rfl) (by simp) ?_
    refine AllReadyH.cons rfl (fun K hK => ?_) (AllReadyH.cons rfl (fun K hK => ?_) (AllReadyH.nil))
    · (try simp only [pT])
      rw [if_pos (by rfl)]
      go_simp
      go_at_call 42
      refine (CM _).mono ?_
      rintro e W2 ⟨rfl, b_⟩
      refine hK.out _ _ (HS _ (hb.trans (b_.mono (Nat.le_trans hC hb.size))) ((b_.block bm (Array.getElem?_eq_some_iff.1 zbm).1).trans zbm) ((b_.block gb (Array.getElem?_eq_some_iff.1 zgb).1).trans zgb) ((b_.block gd (Array.getElem?_eq_some_iff.1 zgd).1).trans zgd)) (fun hHeld => ?_)
      exact s_11000 W2 (hb.trans (b_.mono (Nat.le_trans hC hb.size))) ((b_.block bm (Array.getElem?_eq_some_iff.1 zbm).1).trans zbm) ((b_.block gb (Array.getElem?_eq_some_iff.1 zgb).1).trans zgb) ((b_.block gd (Array.getElem?_eq_some_iff.1 zgd).1).trans zgd)
    · (try simp only [pT])
      rw [if_pos (by rfl)]
      go_simp
      refine hK.out _ _ (HS _ (hb.alloc (Nat.le_trans hC hb.size) _) (((one_upD W _).block bm (Array.getElem?_eq_some_iff.1 zbm).1).trans zbm) (((one_upD W _).block gb (Array.getElem?_eq_some_iff.1 zgb).1).trans zgb) (((one_upD W _).block gd (Array.getElem?_eq_some_iff.1 zgd).1).trans zgd)) (fun hHeld => ?_)
      exact s_10010 (W.alloc (.cells #[.int .i64 0, .bool false] 58)) W.heap.size (hb.alloc (Nat.le_trans hC hb.size) _) (((one_upD W _).block bm (Array.getElem?_eq_some_iff.1 zbm).1).trans zbm) (((one_upD W _).block gb (Array.getElem?_eq_some_iff.1 zgb).1).trans zgb) (((one_upD W _).block gd (Array.getElem?_eq_some_iff.1 zgd).1).trans zgd) (World.alloc_heap_new W _) (Nat.le_trans hC hb.size) (Nat.ne_of_lt (Array.getElem?_eq_some_iff.1 zbm).1) (Nat.ne_of_lt (Array.getElem?_eq_some_iff.1 zgb).1) (Nat.ne_of_lt (Array.getElem?_eq_some_iff.1 zgd).1)
  have s_00000 : ∀ (W : World), Below C V W → W.heap[bm]? = some (.cells #[.int .i64 lr, .int .i64 mu, .int .i64 wd, .bool ne] 23) → W.heap[gb]? = some (.cells #[.int .i64 x1, .bool true] 58) → W.heap[gd]? = some (.cells #[.int .i64 d, .bool db] 58) → wpAnyH Try.prog .any rg_stepR3.1 Q (fun w' => w'.cell? ⟨bm, 1, none⟩ = some (.int .i64 mu) ∧ w'.cell? ⟨gb, 0, none⟩ = some (.int .i64 x1) ∧ w'.cell? ⟨gb, 1, none⟩ = some (.bool true) ∧ w'.cell? ⟨gd, 0, none⟩ = some (.int .i64 d) ∧ w'.cell? ⟨gd, 1, none⟩ = some (.bool db)) 5 #[true, true, false, true, true, false, true, false, false, false] { tmps := #[u0, .int .i64 j, u2, .pointer (some ⟨bm, 0, none⟩), u4, u5, u6, u7, u8, .pointer (some ⟨gb, 0, none⟩), u10, .pointer (some ⟨gd, 0, none⟩), u12, u13, u14, u15, u16, u17, u18, u19, u20, u21, u22, u23, u24, u25, u26, u27, u28, u29, u30, .pointer (some ⟨bm, 1, none⟩), .int .i64 mu, u33, .agg #[.int .i64 x1, .bool true], .int .i64 j, u36, .agg #[.int .i64 d, .bool db], u38, u39, u40, u41, u42, u43, u44, u45, u46, u47, u48, u49, u50, u51, u52, u53, u54, u55, u56, u57, u58], defers := [] } W := by
    intro W hb zbm zgb zgd
    dsimp only [rg_stepR3]
    refine wpAnyH_ready (rs := [2, 8]) (by kernel_rfl) (by simp) ?_
    refine AllReadyH.cons rfl (fun K hK => ?_) (AllReadyH.cons rfl (fun K hK => ?_) (AllReadyH.nil))
    · (try simp only [pT])
      rw [if_pos (by rfl)]
      go_simp
      go_at_call 40
      refine (nOf17_N _ mu).mono ?_
      rintro e W2 ⟨rfl, b_⟩
      refine hK.out _ _ (HS _ (hb.trans (b_.mono (Nat.le_trans hC hb.size))) ((b_.block bm (Array.getElem?_eq_some_iff.1 zbm).1).trans zbm) ((b_.block gb (Array.getElem?_eq_some_iff.1 zgb).1).trans zgb) ((b_.block gd (Array.getElem?_eq_some_iff.1 zgd).1).trans zgd)) (fun hHeld => ?_)
      exact s_10000 W2 (hb.trans (b_.mono (Nat.le_trans hC hb.size))) ((b_.block bm (Array.getElem?_eq_some_iff.1 zbm).1).trans zbm) ((b_.block gb (Array.getElem?_eq_some_iff.1 zgb).1).trans zgb) ((b_.block gd (Array.getElem?_eq_some_iff.1 zgd).1).trans zgd)
    · (try simp only [pT])
      rw [if_pos (by rfl)]
      go_simp
      refine hK.out _ _ (HS _ (hb.alloc (Nat.le_trans hC hb.size) _) (((one_upD W _).block bm (Array.getElem?_eq_some_iff.1 zbm).1).trans zbm) (((one_upD W _).block gb (Array.getElem?_eq_some_iff.1 zgb).1).trans zgb) (((one_upD W _).block gd (Array.getElem?_eq_some_iff.1 zgd).1).trans zgd)) (fun hHeld => ?_)
      exact s_00010 (W.alloc (.cells #[.int .i64 0, .bool false] 58)) W.heap.size (hb.alloc (Nat.le_trans hC hb.size) _) (((one_upD W _).block bm (Array.getElem?_eq_some_iff.1 zbm).1).trans zbm) (((one_upD W _).block gb (Array.getElem?_eq_some_iff.1 zgb).1).trans zgb) (((one_upD W _).block gd (Array.getElem?_eq_some_iff.1 zgd).1).trans zgd) (World.alloc_heap_new W _) (Nat.le_trans hC hb.size) (Nat.ne_of_lt (Array.getElem?_eq_some_iff.1 zbm).1) (Nat.ne_of_lt (Array.getElem?_eq_some_iff.1 zgb).1) (Nat.ne_of_lt (Array.getElem?_eq_some_iff.1 zgd).1)
  refine wp_region_n (S := fun w' => w'.cell? ⟨bm, 1, none⟩ = some (.int .i64 mu) ∧ w'.cell? ⟨gb, 0, none⟩ = some (.int .i64 x1) ∧ w'.cell? ⟨gb, 1, none⟩ = some (.bool true) ∧ w'.cell? ⟨gd, 0, none⟩ = some (.int .i64 d) ∧ w'.cell? ⟨gd, 1, none⟩ = some (.bool db)) (n := 10) (by kernel_rfl) (by kernel_rfl) (HS _ (below_drewN (Below.refl C V) 1) zbm zgb zgd) (fun hHeld => ?_)
  dsimp only [rg_stepR3]
  refine wpAnyH_take (i := 0) (v := ?_) rfl (by kernel_rfl) (by kernel_rfl) (by kernel_rfl) (fun _ _ _ h => hP _ _ _ _ _ h) (Or.inl ⟨by rfl, ?_⟩) hHeld ?_
  rotate_left
  · (intro w hSw; (try dsimp only at hSw); go_simp; (try with_reducible rfl))
  try simp only [Act.put, pT]
  refine wpAnyH_take (i := 1) (v := ?_) rfl (by kernel_rfl) (by kernel_rfl) (by kernel_rfl) (fun _ _ _ h => hP _ _ _ _ _ h) (Or.inl ⟨by rfl, ?_⟩) hHeld ?_
  rotate_left
  · (intro w hSw; (try dsimp only at hSw); go_simp; (try with_reducible rfl))
  try simp only [Act.put, pT]
  refine wpAnyH_take (i := 3) (v := ?_) rfl (by kernel_rfl) (by kernel_rfl) (by kernel_rfl) (fun _ _ _ h => hP _ _ _ _ _ h) (Or.inl ⟨by rfl, ?_⟩) hHeld ?_
  rotate_left
  · (intro w hSw; (try dsimp only at hSw); go_simp; (try with_reducible rfl))
  try simp only [Act.put, pT]
  refine wpAnyH_take (i := 4) (v := ?_) rfl (by kernel_rfl) (by kernel_rfl) (by kernel_rfl) (fun _ _ _ h => hP _ _ _ _ _ h) (Or.inl ⟨by rfl, ?_⟩) hHeld ?_
  rotate_left
  · (intro w hSw; (try dsimp only at hSw); go_simp; (try with_reducible rfl))
  try simp only [Act.put, pT]
  refine wpAnyH_take (i := 6) (v := ?_) rfl (by kernel_rfl) (by kernel_rfl) (by kernel_rfl) (fun _ _ _ h => hP _ _ _ _ _ h) (Or.inl ⟨by rfl, ?_⟩) hHeld ?_
  rotate_left
  · (intro w hSw; (try dsimp only at hSw); go_simp; (try with_reducible rfl))
  try simp only [Act.put, pT]
  exact s_00000 _ (below_drewN (Below.refl C V) 1) zbm zgb zgd

def rg_stepR6 : { o : Array Oper // regOf 6 Try.f25 = o } := ⟨_, by
  simp only [regOf, regIn, Try.f25, reduceIte, Nat.reduceEqDiff, Option.or, Option.getD, Nat.one_ne_zero, Nat.zero_ne_one]
  rfl⟩
theorem stepR6 {V : World} {C : Nat} {Q : Exit → Act → World → Prop} {u0 u2 u4 u5 u6 u7 u8 u9 u10 u14 u15 u16 u17 u18 u19 u20 u21 u22 u23 u24 u25 u26 u27 u28 u29 u30 u31 u32 u33 u34 u35 u36 u37 u38 u39 u40 u41 u42 u43 u44 u45 u46 u47 u48 u49 u50 u51 u52 u53 u54 u55 u56 u57 u58 : Value} {bm gd ge gu : Nat} {lr mu wd j : Int} {ne : Bool} {d p v u u_ : Int} {pb db vb ub ub_ : Bool} (CM : ∀ W : World, Calls Try.prog 42 #[.agg #[.int .i64 mu, .bool true], .agg #[.int .i64 v, .bool vb], .int .i64 j] W (GotV W (.agg #[.int .i64 p, .bool pb]))) (CA : ∀ W : World, Calls Try.prog 41 #[.agg #[.int .i64 d, .bool db], .agg #[.int .i64 p, .bool pb]] W (GotV W (.agg #[.int .i64 u, .bool ub]))) (hP : ∀ c (a : Act) (d : Option Tmp) (v : Value) (w : World), Q (.panic c) (a.put d v) w → Q (.panic c) a w) (hC : C ≤ V.heap.size) (zbm : V.heap[bm]? = some (.cells #[.int .i64 lr, .int .i64 mu, .int .i64 wd, .bool ne] 23)) (zgd : V.heap[gd]? = some (.cells #[.int .i64 d, .bool db] 58)) (zge : V.heap[ge]? = some (.cells #[.int .i64 v, .bool vb] 58)) (zgu : V.heap[gu]? = some (.cells #[.int .i64 u_, .bool ub_] 58)) (mgu : C ≤ gu) (dbm_gu : bm ≠ gu) (dgd_gu : gd ≠ gu) (dge_gu : ge ≠ gu) (hQ : ∀ (W : World), Below C V W → W.heap[bm]? = some (.cells #[.int .i64 lr, .int .i64 mu, .int .i64 wd, .bool ne] 23) → W.heap[gd]? = some (.cells #[.int .i64 d, .bool db] 58) → W.heap[ge]? = some (.cells #[.int .i64 v, .bool vb] 58) → W.heap[gu]? = some (.cells #[.int .i64 u, .bool ub] 58) → Q .normal { tmps := #[u0, .int .i64 j, u2, .pointer (some ⟨bm, 0, none⟩), u4, u5, u6, u7, u8, u9, u10, .pointer (some ⟨gd, 0, none⟩), .pointer (some ⟨ge, 0, none⟩), .pointer (some ⟨gu, 0, none⟩), u14, u15, u16, u17, u18, u19, u20, u21, u22, u23, u24, u25, u26, u27, u28, u29, u30, u31, u32, u33, u34, u35, u36, u37, u38, u39, u40, u41, .agg #[.int .i64 d, .bool db], .pointer (some ⟨bm, 1, none⟩), .int .i64 mu, .agg #[.int .i64 mu, .bool true], .agg #[.int .i64 v, .bool vb], .int .i64 j, .agg #[.int .i64 p, .bool pb], .agg #[.int .i64 u, .bool ub], u50, u51, u52, u53, u54, u55, u56, u57, u58], defers := [] } W) :
    (Code.region 6 rg_stepR6.1 true).wp Try.prog Q { tmps := #[u0, .int .i64 j, u2, .pointer (some ⟨bm, 0, none⟩), u4, u5, u6, u7, u8, u9, u10, .pointer (some ⟨gd, 0, none⟩), .pointer (some ⟨ge, 0, none⟩), .pointer (some ⟨gu, 0, none⟩), u14, u15, u16, u17, u18, u19, u20, u21, u22, u23, u24, u25, u26, u27, u28, u29, u30, u31, u32, u33, u34, u35, u36, u37, u38, u39, u40, u41, u42, u43, u44, u45, u46, u47, u48, u49, u50, u51, u52, u53, u54, u55, u56, u57, u58], defers := [] } V := by
  have HS : ∀ W : World, Below C V W → W.heap[bm]? = some (.cells #[.int .i64 lr, .int .i64 mu, .int .i64 wd, .bool ne] 23) → W.heap[gd]? = some (.cells #[.int .i64 d, .bool db] 58) → W.heap[ge]? = some (.cells #[.int .i64 v, .bool vb] 58) → (fun w' : World => w'.cell? ⟨bm, 1, none⟩ = some (.int .i64 mu) ∧ w'.cell? ⟨gd, 0, none⟩ = some (.int .i64 d) ∧ w'.cell? ⟨gd, 1, none⟩ = some (.bool db) ∧ w'.cell? ⟨ge, 0, none⟩ = some (.int .i64 v) ∧ w'.cell? ⟨ge, 1, none⟩ = some (.bool vb)) W := fun W yb ybm ygd yge => ⟨cell_of_row W bm 1 #[.int .i64 lr, .int .i64 mu, .int .i64 wd, .bool ne] 23 _ ybm, cell_of_row W gd 0 #[.int .i64 d, .bool db] 58 _ ygd, cell_of_row W gd 1 #[.int .i64 d, .bool db] 58 _ ygd, cell_of_row W ge 0 #[.int .i64 v, .bool vb] 58 _ yge, cell_of_row W ge 1 #[.int .i64 v, .bool vb] 58 _ yge⟩
  have s_1111 : ∀ (W : World), Below C V W → W.heap[bm]? = some (.cells #[.int .i64 lr, .int .i64 mu, .int .i64 wd, .bool ne] 23) → W.heap[gd]? = some (.cells #[.int .i64 d, .bool db] 58) → W.heap[ge]? = some (.cells #[.int .i64 v, .bool vb] 58) → W.heap[gu]? = some (.cells #[.int .i64 u, .bool ub] 58) → wpAnyH Try.prog .any rg_stepR6.1 Q (fun w' => w'.cell? ⟨bm, 1, none⟩ = some (.int .i64 mu) ∧ w'.cell? ⟨gd, 0, none⟩ = some (.int .i64 d) ∧ w'.cell? ⟨gd, 1, none⟩ = some (.bool db) ∧ w'.cell? ⟨ge, 0, none⟩ = some (.int .i64 v) ∧ w'.cell? ⟨ge, 1, none⟩ = some (.bool vb)) 0 #[true, true, true, true, true, true, true, true, true] { tmps := #[u0, .int .i64 j, u2, .pointer (some ⟨bm, 0, none⟩), u4, u5, u6, u7, u8, u9, u10, .pointer (some ⟨gd, 0, none⟩), .pointer (some ⟨ge, 0, none⟩), .pointer (some ⟨gu, 0, none⟩), u14, u15, u16, u17, u18, u19, u20, u21, u22, u23, u24, u25, u26, u27, u28, u29, u30, u31, u32, u33, u34, u35, u36, u37, u38, u39, u40, u41, .agg #[.int .i64 d, .bool db], .pointer (some ⟨bm, 1, none⟩), .int .i64 mu, .agg #[.int .i64 mu, .bool true], .agg #[.int .i64 v, .bool vb], .int .i64 j, .agg #[.int .i64 p, .bool pb], .agg #[.int .i64 u, .bool ub], u50, u51, u52, u53, u54, u55, u56, u57, u58], defers := [] } W := by
    intro W hb zbm zgd zge zgu
    dsimp only [rg_stepR6]
    exact wpAnyH_done (by kernel_rfl) (hQ W hb zbm zgd zge zgu) _
  have s_1110 : ∀ (W : World), Below C V W → W.heap[bm]? = some (.cells #[.int .i64 lr, .int .i64 mu, .int .i64 wd, .bool ne] 23) → W.heap[gd]? = some (.cells #[.int .i64 d, .bool db] 58) → W.heap[ge]? = some (.cells #[.int .i64 v, .bool vb] 58) → W.heap[gu]? = some (.cells #[.int .i64 u_, .bool ub_] 58) → wpAnyH Try.prog .any rg_stepR6.1 Q (fun w' => w'.cell? ⟨bm, 1, none⟩ = some (.int .i64 mu) ∧ w'.cell? ⟨gd, 0, none⟩ = some (.int .i64 d) ∧ w'.cell? ⟨gd, 1, none⟩ = some (.bool db) ∧ w'.cell? ⟨ge, 0, none⟩ = some (.int .i64 v) ∧ w'.cell? ⟨ge, 1, none⟩ = some (.bool vb)) 1 #[true, true, true, true, true, true, true, true, false] { tmps := #[u0, .int .i64 j, u2, .pointer (some ⟨bm, 0, none⟩), u4, u5, u6, u7, u8, u9, u10, .pointer (some ⟨gd, 0, none⟩), .pointer (some ⟨ge, 0, none⟩), .pointer (some ⟨gu, 0, none⟩), u14, u15, u16, u17, u18, u19, u20, u21, u22, u23, u24, u25, u26, u27, u28, u29, u30, u31, u32, u33, u34, u35, u36, u37, u38, u39, u40, u41, .agg #[.int .i64 d, .bool db], .pointer (some ⟨bm, 1, none⟩), .int .i64 mu, .agg #[.int .i64 mu, .bool true], .agg #[.int .i64 v, .bool vb], .int .i64 j, .agg #[.int .i64 p, .bool pb], .agg #[.int .i64 u, .bool ub], u50, u51, u52, u53, u54, u55, u56, u57, u58], defers := [] } W := by
    intro W hb zbm zgd zge zgu
    dsimp only [rg_stepR6]
    refine wpAnyH_ready (rs := [8]) (by kernel_rfl) (by simp) ?_
    refine AllReadyH.cons rfl (fun K hK => ?_) (AllReadyH.nil)
    · (try simp only [pT])
      rw [if_pos (by rfl)]
      have c0 : W.cell? ⟨gu, 0, none⟩ = some (.int .i64 u_) := cell_of_row W gu 0 #[.int .i64 u_, .bool ub_] 58 _ zgu
      have f0 : W.frozen? ⟨gu, 0, none⟩ = false := by simp [World.frozen?, zgu]
      have c1 : W.cell? ⟨gu, 1, none⟩ = some (.bool ub_) := cell_of_row W gu 1 #[.int .i64 u_, .bool ub_] 58 _ zgu
      have f1 : W.frozen? ⟨gu, 1, none⟩ = false := by simp [World.frozen?, zgu]
      go_simp
      refine hK.out _ _ (HS _ ((hb.setCell (p := ⟨gu, 0, none⟩) mgu _).setCell (p := ⟨gu, 1, none⟩) mgu _) (put_far2 zbm dbm_gu) (put_far2 zgd dgd_gu) (put_far2 zge dge_gu)) (fun hHeld => ?_)
      exact s_1111 ((W.setCell ⟨gu, 0, none⟩ (.int .i64 u)).setCell ⟨gu, 1, none⟩ (.bool ub)) ((hb.setCell (p := ⟨gu, 0, none⟩) mgu _).setCell (p := ⟨gu, 1, none⟩) mgu _) (put_far2 zbm dbm_gu) (put_far2 zgd dgd_gu) (put_far2 zge dge_gu) (put_cells2 zgu)
  have s_1100 : ∀ (W : World), Below C V W → W.heap[bm]? = some (.cells #[.int .i64 lr, .int .i64 mu, .int .i64 wd, .bool ne] 23) → W.heap[gd]? = some (.cells #[.int .i64 d, .bool db] 58) → W.heap[ge]? = some (.cells #[.int .i64 v, .bool vb] 58) → W.heap[gu]? = some (.cells #[.int .i64 u_, .bool ub_] 58) → wpAnyH Try.prog .any rg_stepR6.1 Q (fun w' => w'.cell? ⟨bm, 1, none⟩ = some (.int .i64 mu) ∧ w'.cell? ⟨gd, 0, none⟩ = some (.int .i64 d) ∧ w'.cell? ⟨gd, 1, none⟩ = some (.bool db) ∧ w'.cell? ⟨ge, 0, none⟩ = some (.int .i64 v) ∧ w'.cell? ⟨ge, 1, none⟩ = some (.bool vb)) 2 #[true, true, true, true, true, true, true, false, false] { tmps := #[u0, .int .i64 j, u2, .pointer (some ⟨bm, 0, none⟩), u4, u5, u6, u7, u8, u9, u10, .pointer (some ⟨gd, 0, none⟩), .pointer (some ⟨ge, 0, none⟩), .pointer (some ⟨gu, 0, none⟩), u14, u15, u16, u17, u18, u19, u20, u21, u22, u23, u24, u25, u26, u27, u28, u29, u30, u31, u32, u33, u34, u35, u36, u37, u38, u39, u40, u41, .agg #[.int .i64 d, .bool db], .pointer (some ⟨bm, 1, none⟩), .int .i64 mu, .agg #[.int .i64 mu, .bool true], .agg #[.int .i64 v, .bool vb], .int .i64 j, .agg #[.int .i64 p, .bool pb], u49, u50, u51, u52, u53, u54, u55, u56, u57, u58], defers := [] } W := by
    intro W hb zbm zgd zge zgu
    dsimp only [rg_stepR6]
    refine wpAnyH_ready (rs := [7]) (by kernel_rfl) (by simp) ?_
    refine AllReadyH.cons rfl (fun K hK => ?_) (AllReadyH.nil)
    · (try simp only [pT])
      rw [if_pos (by rfl)]
      go_simp
      go_at_call 41
      refine (CA _).mono ?_
      rintro e W2 ⟨rfl, b_⟩
      refine hK.out _ _ (HS _ (hb.trans (b_.mono (Nat.le_trans hC hb.size))) ((b_.block bm (Array.getElem?_eq_some_iff.1 zbm).1).trans zbm) ((b_.block gd (Array.getElem?_eq_some_iff.1 zgd).1).trans zgd) ((b_.block ge (Array.getElem?_eq_some_iff.1 zge).1).trans zge)) (fun hHeld => ?_)
      exact s_1110 W2 (hb.trans (b_.mono (Nat.le_trans hC hb.size))) ((b_.block bm (Array.getElem?_eq_some_iff.1 zbm).1).trans zbm) ((b_.block gd (Array.getElem?_eq_some_iff.1 zgd).1).trans zgd) ((b_.block ge (Array.getElem?_eq_some_iff.1 zge).1).trans zge) ((b_.block gu (Array.getElem?_eq_some_iff.1 zgu).1).trans zgu)
  have s_1000 : ∀ (W : World), Below C V W → W.heap[bm]? = some (.cells #[.int .i64 lr, .int .i64 mu, .int .i64 wd, .bool ne] 23) → W.heap[gd]? = some (.cells #[.int .i64 d, .bool db] 58) → W.heap[ge]? = some (.cells #[.int .i64 v, .bool vb] 58) → W.heap[gu]? = some (.cells #[.int .i64 u_, .bool ub_] 58) → wpAnyH Try.prog .any rg_stepR6.1 Q (fun w' => w'.cell? ⟨bm, 1, none⟩ = some (.int .i64 mu) ∧ w'.cell? ⟨gd, 0, none⟩ = some (.int .i64 d) ∧ w'.cell? ⟨gd, 1, none⟩ = some (.bool db) ∧ w'.cell? ⟨ge, 0, none⟩ = some (.int .i64 v) ∧ w'.cell? ⟨ge, 1, none⟩ = some (.bool vb)) 3 #[true, true, true, true, true, true, false, false, false] { tmps := #[u0, .int .i64 j, u2, .pointer (some ⟨bm, 0, none⟩), u4, u5, u6, u7, u8, u9, u10, .pointer (some ⟨gd, 0, none⟩), .pointer (some ⟨ge, 0, none⟩), .pointer (some ⟨gu, 0, none⟩), u14, u15, u16, u17, u18, u19, u20, u21, u22, u23, u24, u25, u26, u27, u28, u29, u30, u31, u32, u33, u34, u35, u36, u37, u38, u39, u40, u41, .agg #[.int .i64 d, .bool db], .pointer (some ⟨bm, 1, none⟩), .int .i64 mu, .agg #[.int .i64 mu, .bool true], .agg #[.int .i64 v, .bool vb], .int .i64 j, u48, u49, u50, u51, u52, u53, u54, u55, u56, u57, u58], defers := [] } W := by
    intro W hb zbm zgd zge zgu
    dsimp only [rg_stepR6]
    refine wpAnyH_ready (rs := [6]) (by kernel_rfl) (by simp) ?_
    refine AllReadyH.cons rfl (fun K hK => ?_) (AllReadyH.nil)
    · (try simp only [pT])
      rw [if_pos (by rfl)]
      go_simp
      go_at_call 42
      refine (CM _).mono ?_
      rintro e W2 ⟨rfl, b_⟩
      refine hK.out _ _ (HS _ (hb.trans (b_.mono (Nat.le_trans hC hb.size))) ((b_.block bm (Array.getElem?_eq_some_iff.1 zbm).1).trans zbm) ((b_.block gd (Array.getElem?_eq_some_iff.1 zgd).1).trans zgd) ((b_.block ge (Array.getElem?_eq_some_iff.1 zge).1).trans zge)) (fun hHeld => ?_)
      exact s_1100 W2 (hb.trans (b_.mono (Nat.le_trans hC hb.size))) ((b_.block bm (Array.getElem?_eq_some_iff.1 zbm).1).trans zbm) ((b_.block gd (Array.getElem?_eq_some_iff.1 zgd).1).trans zgd) ((b_.block ge (Array.getElem?_eq_some_iff.1 zge).1).trans zge) ((b_.block gu (Array.getElem?_eq_some_iff.1 zgu).1).trans zgu)
  have s_0000 : ∀ (W : World), Below C V W → W.heap[bm]? = some (.cells #[.int .i64 lr, .int .i64 mu, .int .i64 wd, .bool ne] 23) → W.heap[gd]? = some (.cells #[.int .i64 d, .bool db] 58) → W.heap[ge]? = some (.cells #[.int .i64 v, .bool vb] 58) → W.heap[gu]? = some (.cells #[.int .i64 u_, .bool ub_] 58) → wpAnyH Try.prog .any rg_stepR6.1 Q (fun w' => w'.cell? ⟨bm, 1, none⟩ = some (.int .i64 mu) ∧ w'.cell? ⟨gd, 0, none⟩ = some (.int .i64 d) ∧ w'.cell? ⟨gd, 1, none⟩ = some (.bool db) ∧ w'.cell? ⟨ge, 0, none⟩ = some (.int .i64 v) ∧ w'.cell? ⟨ge, 1, none⟩ = some (.bool vb)) 4 #[true, true, true, false, true, true, false, false, false] { tmps := #[u0, .int .i64 j, u2, .pointer (some ⟨bm, 0, none⟩), u4, u5, u6, u7, u8, u9, u10, .pointer (some ⟨gd, 0, none⟩), .pointer (some ⟨ge, 0, none⟩), .pointer (some ⟨gu, 0, none⟩), u14, u15, u16, u17, u18, u19, u20, u21, u22, u23, u24, u25, u26, u27, u28, u29, u30, u31, u32, u33, u34, u35, u36, u37, u38, u39, u40, u41, .agg #[.int .i64 d, .bool db], .pointer (some ⟨bm, 1, none⟩), .int .i64 mu, u45, .agg #[.int .i64 v, .bool vb], .int .i64 j, u48, u49, u50, u51, u52, u53, u54, u55, u56, u57, u58], defers := [] } W := by
    intro W hb zbm zgd zge zgu
    dsimp only [rg_stepR6]
    refine wpAnyH_ready (rs := [3]) (by kernel_rfl) (by simp) ?_
    refine AllReadyH.cons rfl (fun K hK => ?_) (AllReadyH.nil)
    · (try simp only [pT])
      rw [if_pos (by rfl)]
      go_simp
      go_at_call 40
      refine (nOf17_N _ mu).mono ?_
      rintro e W2 ⟨rfl, b_⟩
      refine hK.out _ _ (HS _ (hb.trans (b_.mono (Nat.le_trans hC hb.size))) ((b_.block bm (Array.getElem?_eq_some_iff.1 zbm).1).trans zbm) ((b_.block gd (Array.getElem?_eq_some_iff.1 zgd).1).trans zgd) ((b_.block ge (Array.getElem?_eq_some_iff.1 zge).1).trans zge)) (fun hHeld => ?_)
      exact s_1000 W2 (hb.trans (b_.mono (Nat.le_trans hC hb.size))) ((b_.block bm (Array.getElem?_eq_some_iff.1 zbm).1).trans zbm) ((b_.block gd (Array.getElem?_eq_some_iff.1 zgd).1).trans zgd) ((b_.block ge (Array.getElem?_eq_some_iff.1 zge).1).trans zge) ((b_.block gu (Array.getElem?_eq_some_iff.1 zgu).1).trans zgu)
  refine wp_region_n (S := fun w' => w'.cell? ⟨bm, 1, none⟩ = some (.int .i64 mu) ∧ w'.cell? ⟨gd, 0, none⟩ = some (.int .i64 d) ∧ w'.cell? ⟨gd, 1, none⟩ = some (.bool db) ∧ w'.cell? ⟨ge, 0, none⟩ = some (.int .i64 v) ∧ w'.cell? ⟨ge, 1, none⟩ = some (.bool vb)) (n := 9) (by kernel_rfl) (by kernel_rfl) (HS _ (below_drewN (Below.refl C V) 1) zbm zgd zge) (fun hHeld => ?_)
  dsimp only [rg_stepR6]
  refine wpAnyH_take (i := 0) (v := ?_) rfl (by kernel_rfl) (by kernel_rfl) (by kernel_rfl) (fun _ _ _ h => hP _ _ _ _ _ h) (Or.inl ⟨by rfl, ?_⟩) hHeld ?_
  rotate_left
  · (intro w hSw; (try dsimp only at hSw); go_simp; (try with_reducible rfl))
  try simp only [Act.put, pT]
  refine wpAnyH_take (i := 1) (v := ?_) rfl (by kernel_rfl) (by kernel_rfl) (by kernel_rfl) (fun _ _ _ h => hP _ _ _ _ _ h) (Or.inl ⟨by rfl, ?_⟩) hHeld ?_
  rotate_left
  · (intro w hSw; (try dsimp only at hSw); go_simp; (try with_reducible rfl))
  try simp only [Act.put, pT]
  refine wpAnyH_take (i := 2) (v := ?_) rfl (by kernel_rfl) (by kernel_rfl) (by kernel_rfl) (fun _ _ _ h => hP _ _ _ _ _ h) (Or.inl ⟨by rfl, ?_⟩) hHeld ?_
  rotate_left
  · (intro w hSw; (try dsimp only at hSw); go_simp; (try with_reducible rfl))
  try simp only [Act.put, pT]
  refine wpAnyH_take (i := 4) (v := ?_) rfl (by kernel_rfl) (by kernel_rfl) (by kernel_rfl) (fun _ _ _ h => hP _ _ _ _ _ h) (Or.inl ⟨by rfl, ?_⟩) hHeld ?_
  rotate_left
  · (intro w hSw; (try dsimp only at hSw); go_simp; (try with_reducible rfl))
  try simp only [Act.put, pT]
  refine wpAnyH_take (i := 5) (v := ?_) rfl (by kernel_rfl) (by kernel_rfl) (by kernel_rfl) (fun _ _ _ h => hP _ _ _ _ _ h) (Or.inl ⟨by rfl, ?_⟩) hHeld ?_
  rotate_left
  · (intro w hSw; (try dsimp only at hSw); go_simp; (try with_reducible rfl))
  try simp only [Act.put, pT]
  exact s_0000 _ (below_drewN (Below.refl C V) 1) zbm zgd zge zgu

def rg_stepR7 : { o : Array Oper // regOf 7 Try.f25 = o } := ⟨_, by
  simp only [regOf, regIn, Try.f25, reduceIte, Nat.reduceEqDiff, Option.or, Option.getD, Nat.one_ne_zero, Nat.zero_ne_one]
  rfl⟩
theorem stepR7 {V : World} {C : Nat} {Q : Exit → Act → World → Prop} {u0 u2 u4 u5 u9 u10 u11 u14 u15 u16 u17 u18 u19 u20 u21 u22 u23 u24 u25 u26 u27 u28 u29 u30 u31 u32 u33 u34 u35 u36 u37 u38 u39 u40 u41 u42 u43 u44 u45 u46 u47 u48 u49 u50 u51 u52 u53 u54 u55 u56 u57 u58 : Value} {bm r6 r7 ga ge gu : Nat} {lr mu wd j : Int} {ne : Bool} {x0 p v u y y6 y7 : Int} {pb vb ub yb b6 b7 : Bool} (CM : ∀ W : World, Calls Try.prog 42 #[.agg #[.int .i64 lr, .bool true], .agg #[.int .i64 u, .bool ub], .int .i64 j] W (GotV W (.agg #[.int .i64 p, .bool pb]))) (CS : ∀ W : World, Calls Try.prog 43 #[.agg #[.int .i64 x0, .bool true], .agg #[.int .i64 p, .bool pb]] W (GotV W (.agg #[.int .i64 y, .bool yb]))) (hP : ∀ c (a : Act) (d : Option Tmp) (v : Value) (w : World), Q (.panic c) (a.put d v) w → Q (.panic c) a w) (hC : C ≤ V.heap.size) (zbm : V.heap[bm]? = some (.cells #[.int .i64 lr, .int .i64 mu, .int .i64 wd, .bool ne] 23)) (zr6 : V.heap[r6]? = some (.cells #[.int .i64 y6, .bool b6] 58)) (zr7 : V.heap[r7]? = some (.cells #[.int .i64 y7, .bool b7] 58)) (zga : V.heap[ga]? = some (.cells #[.int .i64 x0, .bool true] 58)) (zge : V.heap[ge]? = some (.cells #[.int .i64 v, .bool vb] 58)) (zgu : V.heap[gu]? = some (.cells #[.int .i64 u, .bool ub] 58)) (mr6 : C ≤ r6) (mr7 : C ≤ r7) (dbm_r6 : bm ≠ r6) (dbm_r7 : bm ≠ r7) (dr6_r7 : r6 ≠ r7) (dr6_ga : r6 ≠ ga) (dr7_ga : r7 ≠ ga) (dr6_ge : r6 ≠ ge) (dr7_ge : r7 ≠ ge) (dr6_gu : r6 ≠ gu) (dr7_gu : r7 ≠ gu) (hQ : ∀ (W : World), Below C V W → W.heap[bm]? = some (.cells #[.int .i64 lr, .int .i64 mu, .int .i64 wd, .bool ne] 23) → W.heap[r6]? = some (.cells #[.int .i64 v, .bool vb] 58) → W.heap[r7]? = some (.cells #[.int .i64 y, .bool yb] 58) → W.heap[ga]? = some (.cells #[.int .i64 x0, .bool true] 58) → W.heap[ge]? = some (.cells #[.int .i64 v, .bool vb] 58) → W.heap[gu]? = some (.cells #[.int .i64 u, .bool ub] 58) → Q .normal { tmps := #[u0, .int .i64 j, u2, .pointer (some ⟨bm, 0, none⟩), u4, u5, .pointer (some ⟨r6, 0, none⟩), .pointer (some ⟨r7, 0, none⟩), .pointer (some ⟨ga, 0, none⟩), u9, u10, u11, .pointer (some ⟨ge, 0, none⟩), .pointer (some ⟨gu, 0, none⟩), u14, u15, u16, u17, u18, u19, u20, u21, u22, u23, u24, u25, u26, u27, u28, u29, u30, u31, u32, u33, u34, u35, u36, u37, u38, u39, u40, u41, u42, u43, u44, u45, u46, u47, u48, u49, .agg #[.int .i64 v, .bool vb], .agg #[.int .i64 x0, .bool true], .pointer (some ⟨bm, 0, none⟩), .int .i64 lr, .agg #[.int .i64 lr, .bool true], .agg #[.int .i64 u, .bool ub], .int .i64 j, .agg #[.int .i64 p, .bool pb], .agg #[.int .i64 y, .bool yb]], defers := [] } W) :
    (Code.region 7 rg_stepR7.1 true).wp Try.prog Q { tmps := #[u0, .int .i64 j, u2, .pointer (some ⟨bm, 0, none⟩), u4, u5, .pointer (some ⟨r6, 0, none⟩), .pointer (some ⟨r7, 0, none⟩), .pointer (some ⟨ga, 0, none⟩), u9, u10, u11, .pointer (some ⟨ge, 0, none⟩), .pointer (some ⟨gu, 0, none⟩), u14, u15, u16, u17, u18, u19, u20, u21, u22, u23, u24, u25, u26, u27, u28, u29, u30, u31, u32, u33, u34, u35, u36, u37, u38, u39, u40, u41, u42, u43, u44, u45, u46, u47, u48, u49, u50, u51, u52, u53, u54, u55, u56, u57, u58], defers := [] } V := by
  have HS : ∀ W : World, Below C V W → W.heap[bm]? = some (.cells #[.int .i64 lr, .int .i64 mu, .int .i64 wd, .bool ne] 23) → W.heap[ga]? = some (.cells #[.int .i64 x0, .bool true] 58) → W.heap[ge]? = some (.cells #[.int .i64 v, .bool vb] 58) → W.heap[gu]? = some (.cells #[.int .i64 u, .bool ub] 58) → (fun w' : World => w'.cell? ⟨bm, 0, none⟩ = some (.int .i64 lr) ∧ w'.cell? ⟨ga, 0, none⟩ = some (.int .i64 x0) ∧ w'.cell? ⟨ga, 1, none⟩ = some (.bool true) ∧ w'.cell? ⟨ge, 0, none⟩ = some (.int .i64 v) ∧ w'.cell? ⟨ge, 1, none⟩ = some (.bool vb) ∧ w'.cell? ⟨gu, 0, none⟩ = some (.int .i64 u) ∧ w'.cell? ⟨gu, 1, none⟩ = some (.bool ub)) W := fun W yb ybm yga yge ygu => ⟨cell_of_row W bm 0 #[.int .i64 lr, .int .i64 mu, .int .i64 wd, .bool ne] 23 _ ybm, cell_of_row W ga 0 #[.int .i64 x0, .bool true] 58 _ yga, cell_of_row W ga 1 #[.int .i64 x0, .bool true] 58 _ yga, cell_of_row W ge 0 #[.int .i64 v, .bool vb] 58 _ yge, cell_of_row W ge 1 #[.int .i64 v, .bool vb] 58 _ yge, cell_of_row W gu 0 #[.int .i64 u, .bool ub] 58 _ ygu, cell_of_row W gu 1 #[.int .i64 u, .bool ub] 58 _ ygu⟩
  have s_11111 : ∀ (W : World), Below C V W → W.heap[bm]? = some (.cells #[.int .i64 lr, .int .i64 mu, .int .i64 wd, .bool ne] 23) → W.heap[r6]? = some (.cells #[.int .i64 v, .bool vb] 58) → W.heap[r7]? = some (.cells #[.int .i64 y, .bool yb] 58) → W.heap[ga]? = some (.cells #[.int .i64 x0, .bool true] 58) → W.heap[ge]? = some (.cells #[.int .i64 v, .bool vb] 58) → W.heap[gu]? = some (.cells #[.int .i64 u, .bool ub] 58) → wpAnyH Try.prog .any rg_stepR7.1 Q (fun w' => w'.cell? ⟨bm, 0, none⟩ = some (.int .i64 lr) ∧ w'.cell? ⟨ga, 0, none⟩ = some (.int .i64 x0) ∧ w'.cell? ⟨ga, 1, none⟩ = some (.bool true) ∧ w'.cell? ⟨ge, 0, none⟩ = some (.int .i64 v) ∧ w'.cell? ⟨ge, 1, none⟩ = some (.bool vb) ∧ w'.cell? ⟨gu, 0, none⟩ = some (.int .i64 u) ∧ w'.cell? ⟨gu, 1, none⟩ = some (.bool ub)) 0 #[true, true, true, true, true, true, true, true, true, true, true] { tmps := #[u0, .int .i64 j, u2, .pointer (some ⟨bm, 0, none⟩), u4, u5, .pointer (some ⟨r6, 0, none⟩), .pointer (some ⟨r7, 0, none⟩), .pointer (some ⟨ga, 0, none⟩), u9, u10, u11, .pointer (some ⟨ge, 0, none⟩), .pointer (some ⟨gu, 0, none⟩), u14, u15, u16, u17, u18, u19, u20, u21, u22, u23, u24, u25, u26, u27, u28, u29, u30, u31, u32, u33, u34, u35, u36, u37, u38, u39, u40, u41, u42, u43, u44, u45, u46, u47, u48, u49, .agg #[.int .i64 v, .bool vb], .agg #[.int .i64 x0, .bool true], .pointer (some ⟨bm, 0, none⟩), .int .i64 lr, .agg #[.int .i64 lr, .bool true], .agg #[.int .i64 u, .bool ub], .int .i64 j, .agg #[.int .i64 p, .bool pb], .agg #[.int .i64 y, .bool yb]], defers := [] } W := by
    intro W hb zbm zr6 zr7 zga zge zgu
    dsimp only [rg_stepR7]
    exact wpAnyH_done (by kernel_rfl) (hQ W hb zbm zr6 zr7 zga zge zgu) _
  have s_11110 : ∀ (W : World), Below C V W → W.heap[bm]? = some (.cells #[.int .i64 lr, .int .i64 mu, .int .i64 wd, .bool ne] 23) → W.heap[r6]? = some (.cells #[.int .i64 v, .bool vb] 58) → W.heap[r7]? = some (.cells #[.int .i64 y7, .bool b7] 58) → W.heap[ga]? = some (.cells #[.int .i64 x0, .bool true] 58) → W.heap[ge]? = some (.cells #[.int .i64 v, .bool vb] 58) → W.heap[gu]? = some (.cells #[.int .i64 u, .bool ub] 58) → wpAnyH Try.prog .any rg_stepR7.1 Q (fun w' => w'.cell? ⟨bm, 0, none⟩ = some (.int .i64 lr) ∧ w'.cell? ⟨ga, 0, none⟩ = some (.int .i64 x0) ∧ w'.cell? ⟨ga, 1, none⟩ = some (.bool true) ∧ w'.cell? ⟨ge, 0, none⟩ = some (.int .i64 v) ∧ w'.cell? ⟨ge, 1, none⟩ = some (.bool vb) ∧ w'.cell? ⟨gu, 0, none⟩ = some (.int .i64 u) ∧ w'.cell? ⟨gu, 1, none⟩ = some (.bool ub)) 1 #[true, true, true, true, true, true, true, true, true, true, false] { tmps := #[u0, .int .i64 j, u2, .pointer (some ⟨bm, 0, none⟩), u4, u5, .pointer (some ⟨r6, 0, none⟩), .pointer (some ⟨r7, 0, none⟩), .pointer (some ⟨ga, 0, none⟩), u9, u10, u11, .pointer (some ⟨ge, 0, none⟩), .pointer (some ⟨gu, 0, none⟩), u14, u15, u16, u17, u18, u19, u20, u21, u22, u23, u24, u25, u26, u27, u28, u29, u30, u31, u32, u33, u34, u35, u36, u37, u38, u39, u40, u41, u42, u43, u44, u45, u46, u47, u48, u49, .agg #[.int .i64 v, .bool vb], .agg #[.int .i64 x0, .bool true], .pointer (some ⟨bm, 0, none⟩), .int .i64 lr, .agg #[.int .i64 lr, .bool true], .agg #[.int .i64 u, .bool ub], .int .i64 j, .agg #[.int .i64 p, .bool pb], .agg #[.int .i64 y, .bool yb]], defers := [] } W := by
    intro W hb zbm zr6 zr7 zga zge zgu
    dsimp only [rg_stepR7]
    refine wpAnyH_ready (rs := [10]) (by kernel_rfl) (by simp) ?_
    refine AllReadyH.cons rfl (fun K hK => ?_) (AllReadyH.nil)
    · (try simp only [pT])
      rw [if_pos (by rfl)]
      have c0 : W.cell? ⟨r7, 0, none⟩ = some (.int .i64 y7) := cell_of_row W r7 0 #[.int .i64 y7, .bool b7] 58 _ zr7
      have f0 : W.frozen? ⟨r7, 0, none⟩ = false := by simp [World.frozen?, zr7]
      have c1 : W.cell? ⟨r7, 1, none⟩ = some (.bool b7) := cell_of_row W r7 1 #[.int .i64 y7, .bool b7] 58 _ zr7
      have f1 : W.frozen? ⟨r7, 1, none⟩ = false := by simp [World.frozen?, zr7]
      go_simp
      refine hK.out _ _ (HS _ ((hb.setCell (p := ⟨r7, 0, none⟩) mr7 _).setCell (p := ⟨r7, 1, none⟩) mr7 _) (put_far2 zbm dbm_r7) (put_far2 zga (Ne.symm dr7_ga)) (put_far2 zge (Ne.symm dr7_ge)) (put_far2 zgu (Ne.symm dr7_gu))) (fun hHeld => ?_)
      exact s_11111 ((W.setCell ⟨r7, 0, none⟩ (.int .i64 y)).setCell ⟨r7, 1, none⟩ (.bool yb)) ((hb.setCell (p := ⟨r7, 0, none⟩) mr7 _).setCell (p := ⟨r7, 1, none⟩) mr7 _) (put_far2 zbm dbm_r7) (put_far2 zr6 dr6_r7) (put_cells2 zr7) (put_far2 zga (Ne.symm dr7_ga)) (put_far2 zge (Ne.symm dr7_ge)) (put_far2 zgu (Ne.symm dr7_gu))
  have s_11100 : ∀ (W : World), Below C V W → W.heap[bm]? = some (.cells #[.int .i64 lr, .int .i64 mu, .int .i64 wd, .bool ne] 23) → W.heap[r6]? = some (.cells #[.int .i64 y6, .bool b6] 58) → W.heap[r7]? = some (.cells #[.int .i64 y7, .bool b7] 58) → W.heap[ga]? = some (.cells #[.int .i64 x0, .bool true] 58) → W.heap[ge]? = some (.cells #[.int .i64 v, .bool vb] 58) → W.heap[gu]? = some (.cells #[.int .i64 u, .bool ub] 58) → wpAnyH Try.prog .any rg_stepR7.1 Q (fun w' => w'.cell? ⟨bm, 0, none⟩ = some (.int .i64 lr) ∧ w'.cell? ⟨ga, 0, none⟩ = some (.int .i64 x0) ∧ w'.cell? ⟨ga, 1, none⟩ = some (.bool true) ∧ w'.cell? ⟨ge, 0, none⟩ = some (.int .i64 v) ∧ w'.cell? ⟨ge, 1, none⟩ = some (.bool vb) ∧ w'.cell? ⟨gu, 0, none⟩ = some (.int .i64 u) ∧ w'.cell? ⟨gu, 1, none⟩ = some (.bool ub)) 2 #[true, true, true, true, true, true, true, true, true, false, false] { tmps := #[u0, .int .i64 j, u2, .pointer (some ⟨bm, 0, none⟩), u4, u5, .pointer (some ⟨r6, 0, none⟩), .pointer (some ⟨r7, 0, none⟩), .pointer (some ⟨ga, 0, none⟩), u9, u10, u11, .pointer (some ⟨ge, 0, none⟩), .pointer (some ⟨gu, 0, none⟩), u14, u15, u16, u17, u18, u19, u20, u21, u22, u23, u24, u25, u26, u27, u28, u29, u30, u31, u32, u33, u34, u35, u36, u37, u38, u39, u40, u41, u42, u43, u44, u45, u46, u47, u48, u49, .agg #[.int .i64 v, .bool vb], .agg #[.int .i64 x0, .bool true], .pointer (some ⟨bm, 0, none⟩), .int .i64 lr, .agg #[.int .i64 lr, .bool true], .agg #[.int .i64 u, .bool ub], .int .i64 j, .agg #[.int .i64 p, .bool pb], .agg #[.int .i64 y, .bool yb]], defers := [] } W := by
    intro W hb zbm zr6 zr7 zga zge zgu
    dsimp only [rg_stepR7]
    refine wpAnyH_ready (rs := [9]) (by kernel_rfl) (by simp) ?_
    refine AllReadyH.cons rfl (fun K hK => ?_) (AllReadyH.nil)
    · (try simp only [pT])
      rw [if_pos (by rfl)]
      have c0 : W.cell? ⟨r6, 0, none⟩ = some (.int .i64 y6) := cell_of_row W r6 0 #[.int .i64 y6, .bool b6] 58 _ zr6
      have f0 : W.frozen? ⟨r6, 0, none⟩ = false := by simp [World.frozen?, zr6]
      have c1 : W.cell? ⟨r6, 1, none⟩ = some (.bool b6) := cell_of_row W r6 1 #[.int .i64 y6, .bool b6] 58 _ zr6
      have f1 : W.frozen? ⟨r6, 1, none⟩ = false := by simp [World.frozen?, zr6]
      go_simp
      refine hK.out _ _ (HS _ ((hb.setCell (p := ⟨r6, 0, none⟩) mr6 _).setCell (p := ⟨r6, 1, none⟩) mr6 _) (put_far2 zbm dbm_r6) (put_far2 zga (Ne.symm dr6_ga)) (put_far2 zge (Ne.symm dr6_ge)) (put_far2 zgu (Ne.symm dr6_gu))) (fun hHeld => ?_)
      exact s_11110 ((W.setCell ⟨r6, 0, none⟩ (.int .i64 v)).setCell ⟨r6, 1, none⟩ (.bool vb)) ((hb.setCell (p := ⟨r6, 0, none⟩) mr6 _).setCell (p := ⟨r6, 1, none⟩) mr6 _) (put_far2 zbm dbm_r6) (put_cells2 zr6) (put_far2 zr7 (Ne.symm dr6_r7)) (put_far2 zga (Ne.symm dr6_ga)) (put_far2 zge (Ne.symm dr6_ge)) (put_far2 zgu (Ne.symm dr6_gu))
  have s_11000 : ∀ (W : World), Below C V W → W.heap[bm]? = some (.cells #[.int .i64 lr, .int .i64 mu, .int .i64 wd, .bool ne] 23) → W.heap[r6]? = some (.cells #[.int .i64 y6, .bool b6] 58) → W.heap[r7]? = some (.cells #[.int .i64 y7, .bool b7] 58) → W.heap[ga]? = some (.cells #[.int .i64 x0, .bool true] 58) → W.heap[ge]? = some (.cells #[.int .i64 v, .bool vb] 58) → W.heap[gu]? = some (.cells #[.int .i64 u, .bool ub] 58) → wpAnyH Try.prog .any rg_stepR7.1 Q (fun w' => w'.cell? ⟨bm, 0, none⟩ = some (.int .i64 lr) ∧ w'.cell? ⟨ga, 0, none⟩ = some (.int .i64 x0) ∧ w'.cell? ⟨ga, 1, none⟩ = some (.bool true) ∧ w'.cell? ⟨ge, 0, none⟩ = some (.int .i64 v) ∧ w'.cell? ⟨ge, 1, none⟩ = some (.bool vb) ∧ w'.cell? ⟨gu, 0, none⟩ = some (.int .i64 u) ∧ w'.cell? ⟨gu, 1, none⟩ = some (.bool ub)) 3 #[true, true, true, true, true, true, true, true, false, false, false] { tmps := #[u0, .int .i64 j, u2, .pointer (some ⟨bm, 0, none⟩), u4, u5, .pointer (some ⟨r6, 0, none⟩), .pointer (some ⟨r7, 0, none⟩), .pointer (some ⟨ga, 0, none⟩), u9, u10, u11, .pointer (some ⟨ge, 0, none⟩), .pointer (some ⟨gu, 0, none⟩), u14, u15, u16, u17, u18, u19, u20, u21, u22, u23, u24, u25, u26, u27, u28, u29, u30, u31, u32, u33, u34, u35, u36, u37, u38, u39, u40, u41, u42, u43, u44, u45, u46, u47, u48, u49, .agg #[.int .i64 v, .bool vb], .agg #[.int .i64 x0, .bool true], .pointer (some ⟨bm, 0, none⟩), .int .i64 lr, .agg #[.int .i64 lr, .bool true], .agg #[.int .i64 u, .bool ub], .int .i64 j, .agg #[.int .i64 p, .bool pb], u58], defers := [] } W := by
    intro W hb zbm zr6 zr7 zga zge zgu
    dsimp only [rg_stepR7]
    refine wpAnyH_ready (rs := [8]) (by kernel_rfl) (by simp) ?_
    refine AllReadyH.cons rfl (fun K hK => ?_) (AllReadyH.nil)
    · (try simp only [pT])
      rw [if_pos (by rfl)]
      go_simp
      go_at_call 43
      refine (CS _).mono ?_
      rintro e W2 ⟨rfl, b_⟩
      refine hK.out _ _ (HS _ (hb.trans (b_.mono (Nat.le_trans hC hb.size))) ((b_.block bm (Array.getElem?_eq_some_iff.1 zbm).1).trans zbm) ((b_.block ga (Array.getElem?_eq_some_iff.1 zga).1).trans zga) ((b_.block ge (Array.getElem?_eq_some_iff.1 zge).1).trans zge) ((b_.block gu (Array.getElem?_eq_some_iff.1 zgu).1).trans zgu)) (fun hHeld => ?_)
      exact s_11100 W2 (hb.trans (b_.mono (Nat.le_trans hC hb.size))) ((b_.block bm (Array.getElem?_eq_some_iff.1 zbm).1).trans zbm) ((b_.block r6 (Array.getElem?_eq_some_iff.1 zr6).1).trans zr6) ((b_.block r7 (Array.getElem?_eq_some_iff.1 zr7).1).trans zr7) ((b_.block ga (Array.getElem?_eq_some_iff.1 zga).1).trans zga) ((b_.block ge (Array.getElem?_eq_some_iff.1 zge).1).trans zge) ((b_.block gu (Array.getElem?_eq_some_iff.1 zgu).1).trans zgu)
  have s_10000 : ∀ (W : World), Below C V W → W.heap[bm]? = some (.cells #[.int .i64 lr, .int .i64 mu, .int .i64 wd, .bool ne] 23) → W.heap[r6]? = some (.cells #[.int .i64 y6, .bool b6] 58) → W.heap[r7]? = some (.cells #[.int .i64 y7, .bool b7] 58) → W.heap[ga]? = some (.cells #[.int .i64 x0, .bool true] 58) → W.heap[ge]? = some (.cells #[.int .i64 v, .bool vb] 58) → W.heap[gu]? = some (.cells #[.int .i64 u, .bool ub] 58) → wpAnyH Try.prog .any rg_stepR7.1 Q (fun w' => w'.cell? ⟨bm, 0, none⟩ = some (.int .i64 lr) ∧ w'.cell? ⟨ga, 0, none⟩ = some (.int .i64 x0) ∧ w'.cell? ⟨ga, 1, none⟩ = some (.bool true) ∧ w'.cell? ⟨ge, 0, none⟩ = some (.int .i64 v) ∧ w'.cell? ⟨ge, 1, none⟩ = some (.bool vb) ∧ w'.cell? ⟨gu, 0, none⟩ = some (.int .i64 u) ∧ w'.cell? ⟨gu, 1, none⟩ = some (.bool ub)) 4 #[true, true, true, true, true, true, true, false, false, false, false] { tmps := #[u0, .int .i64 j, u2, .pointer (some ⟨bm, 0, none⟩), u4, u5, .pointer (some ⟨r6, 0, none⟩), .pointer (some ⟨r7, 0, none⟩), .pointer (some ⟨ga, 0, none⟩), u9, u10, u11, .pointer (some ⟨ge, 0, none⟩), .pointer (some ⟨gu, 0, none⟩), u14, u15, u16, u17, u18, u19, u20, u21, u22, u23, u24, u25, u26, u27, u28, u29, u30, u31, u32, u33, u34, u35, u36, u37, u38, u39, u40, u41, u42, u43, u44, u45, u46, u47, u48, u49, .agg #[.int .i64 v, .bool vb], .agg #[.int .i64 x0, .bool true], .pointer (some ⟨bm, 0, none⟩), .int .i64 lr, .agg #[.int .i64 lr, .bool true], .agg #[.int .i64 u, .bool ub], .int .i64 j, u57, u58], defers := [] } W := by
    intro W hb zbm zr6 zr7 zga zge zgu
    dsimp only [rg_stepR7]
    refine wpAnyH_ready (rs := [7]) (by kernel_rfl) (by simp) ?_
    refine AllReadyH.cons rfl (fun K hK => ?_) (AllReadyH.nil)
    · (try simp only [pT])
      rw [if_pos (by rfl)]
      go_simp
      go_at_call 42
      refine (CM _).mono ?_
      rintro e W2 ⟨rfl, b_⟩
      refine hK.out _ _ (HS _ (hb.trans (b_.mono (Nat.le_trans hC hb.size))) ((b_.block bm (Array.getElem?_eq_some_iff.1 zbm).1).trans zbm) ((b_.block ga (Array.getElem?_eq_some_iff.1 zga).1).trans zga) ((b_.block ge (Array.getElem?_eq_some_iff.1 zge).1).trans zge) ((b_.block gu (Array.getElem?_eq_some_iff.1 zgu).1).trans zgu)) (fun hHeld => ?_)
      exact s_11000 W2 (hb.trans (b_.mono (Nat.le_trans hC hb.size))) ((b_.block bm (Array.getElem?_eq_some_iff.1 zbm).1).trans zbm) ((b_.block r6 (Array.getElem?_eq_some_iff.1 zr6).1).trans zr6) ((b_.block r7 (Array.getElem?_eq_some_iff.1 zr7).1).trans zr7) ((b_.block ga (Array.getElem?_eq_some_iff.1 zga).1).trans zga) ((b_.block ge (Array.getElem?_eq_some_iff.1 zge).1).trans zge) ((b_.block gu (Array.getElem?_eq_some_iff.1 zgu).1).trans zgu)
  have s_00000 : ∀ (W : World), Below C V W → W.heap[bm]? = some (.cells #[.int .i64 lr, .int .i64 mu, .int .i64 wd, .bool ne] 23) → W.heap[r6]? = some (.cells #[.int .i64 y6, .bool b6] 58) → W.heap[r7]? = some (.cells #[.int .i64 y7, .bool b7] 58) → W.heap[ga]? = some (.cells #[.int .i64 x0, .bool true] 58) → W.heap[ge]? = some (.cells #[.int .i64 v, .bool vb] 58) → W.heap[gu]? = some (.cells #[.int .i64 u, .bool ub] 58) → wpAnyH Try.prog .any rg_stepR7.1 Q (fun w' => w'.cell? ⟨bm, 0, none⟩ = some (.int .i64 lr) ∧ w'.cell? ⟨ga, 0, none⟩ = some (.int .i64 x0) ∧ w'.cell? ⟨ga, 1, none⟩ = some (.bool true) ∧ w'.cell? ⟨ge, 0, none⟩ = some (.int .i64 v) ∧ w'.cell? ⟨ge, 1, none⟩ = some (.bool vb) ∧ w'.cell? ⟨gu, 0, none⟩ = some (.int .i64 u) ∧ w'.cell? ⟨gu, 1, none⟩ = some (.bool ub)) 5 #[true, true, true, true, false, true, true, false, false, false, false] { tmps := #[u0, .int .i64 j, u2, .pointer (some ⟨bm, 0, none⟩), u4, u5, .pointer (some ⟨r6, 0, none⟩), .pointer (some ⟨r7, 0, none⟩), .pointer (some ⟨ga, 0, none⟩), u9, u10, u11, .pointer (some ⟨ge, 0, none⟩), .pointer (some ⟨gu, 0, none⟩), u14, u15, u16, u17, u18, u19, u20, u21, u22, u23, u24, u25, u26, u27, u28, u29, u30, u31, u32, u33, u34, u35, u36, u37, u38, u39, u40, u41, u42, u43, u44, u45, u46, u47, u48, u49, .agg #[.int .i64 v, .bool vb], .agg #[.int .i64 x0, .bool true], .pointer (some ⟨bm, 0, none⟩), .int .i64 lr, u54, .agg #[.int .i64 u, .bool ub], .int .i64 j, u57, u58], defers := [] } W := by
    intro W hb zbm zr6 zr7 zga zge zgu
    dsimp only [rg_stepR7]
    refine wpAnyH_ready (rs := [4]) (by kernel_rfl) (by simp) ?_
    refine AllReadyH.cons rfl (fun K hK => ?_) (AllReadyH.nil)
    · (try simp only [pT])
      rw [if_pos (by rfl)]
      go_simp
      go_at_call 40
      refine (nOf17_N _ lr).mono ?_
      rintro e W2 ⟨rfl, b_⟩
      refine hK.out _ _ (HS _ (hb.trans (b_.mono (Nat.le_trans hC hb.size))) ((b_.block bm (Array.getElem?_eq_some_iff.1 zbm).1).trans zbm) ((b_.block ga (Array.getElem?_eq_some_iff.1 zga).1).trans zga) ((b_.block ge (Array.getElem?_eq_some_iff.1 zge).1).trans zge) ((b_.block gu (Array.getElem?_eq_some_iff.1 zgu).1).trans zgu)) (fun hHeld => ?_)
      exact s_10000 W2 (hb.trans (b_.mono (Nat.le_trans hC hb.size))) ((b_.block bm (Array.getElem?_eq_some_iff.1 zbm).1).trans zbm) ((b_.block r6 (Array.getElem?_eq_some_iff.1 zr6).1).trans zr6) ((b_.block r7 (Array.getElem?_eq_some_iff.1 zr7).1).trans zr7) ((b_.block ga (Array.getElem?_eq_some_iff.1 zga).1).trans zga) ((b_.block ge (Array.getElem?_eq_some_iff.1 zge).1).trans zge) ((b_.block gu (Array.getElem?_eq_some_iff.1 zgu).1).trans zgu)
  refine wp_region_n (S := fun w' => w'.cell? ⟨bm, 0, none⟩ = some (.int .i64 lr) ∧ w'.cell? ⟨ga, 0, none⟩ = some (.int .i64 x0) ∧ w'.cell? ⟨ga, 1, none⟩ = some (.bool true) ∧ w'.cell? ⟨ge, 0, none⟩ = some (.int .i64 v) ∧ w'.cell? ⟨ge, 1, none⟩ = some (.bool vb) ∧ w'.cell? ⟨gu, 0, none⟩ = some (.int .i64 u) ∧ w'.cell? ⟨gu, 1, none⟩ = some (.bool ub)) (n := 11) (by kernel_rfl) (by kernel_rfl) (HS _ (below_drewN (Below.refl C V) 1) zbm zga zge zgu) (fun hHeld => ?_)
  dsimp only [rg_stepR7]
  refine wpAnyH_take (i := 0) (v := ?_) rfl (by kernel_rfl) (by kernel_rfl) (by kernel_rfl) (fun _ _ _ h => hP _ _ _ _ _ h) (Or.inl ⟨by rfl, ?_⟩) hHeld ?_
  rotate_left
  · (intro w hSw; (try dsimp only at hSw); go_simp; (try with_reducible rfl))
  try simp only [Act.put, pT]
  refine wpAnyH_take (i := 1) (v := ?_) rfl (by kernel_rfl) (by kernel_rfl) (by kernel_rfl) (fun _ _ _ h => hP _ _ _ _ _ h) (Or.inl ⟨by rfl, ?_⟩) hHeld ?_
  rotate_left
  · (intro w hSw; (try dsimp only at hSw); go_simp; (try with_reducible rfl))
  try simp only [Act.put, pT]
  refine wpAnyH_take (i := 2) (v := ?_) rfl (by kernel_rfl) (by kernel_rfl) (by kernel_rfl) (fun _ _ _ h => hP _ _ _ _ _ h) (Or.inl ⟨by rfl, ?_⟩) hHeld ?_
  rotate_left
  · (intro w hSw; (try dsimp only at hSw); go_simp; (try with_reducible rfl))
  try simp only [Act.put, pT]
  refine wpAnyH_take (i := 3) (v := ?_) rfl (by kernel_rfl) (by kernel_rfl) (by kernel_rfl) (fun _ _ _ h => hP _ _ _ _ _ h) (Or.inl ⟨by rfl, ?_⟩) hHeld ?_
  rotate_left
  · (intro w hSw; (try dsimp only at hSw); go_simp; (try with_reducible rfl))
  try simp only [Act.put, pT]
  refine wpAnyH_take (i := 5) (v := ?_) rfl (by kernel_rfl) (by kernel_rfl) (by kernel_rfl) (fun _ _ _ h => hP _ _ _ _ _ h) (Or.inl ⟨by rfl, ?_⟩) hHeld ?_
  rotate_left
  · (intro w hSw; (try dsimp only at hSw); go_simp; (try with_reducible rfl))
  try simp only [Act.put, pT]
  refine wpAnyH_take (i := 6) (v := ?_) rfl (by kernel_rfl) (by kernel_rfl) (by kernel_rfl) (fun _ _ _ h => hP _ _ _ _ _ h) (Or.inl ⟨by rfl, ?_⟩) hHeld ?_
  rotate_left
  · (intro w hSw; (try dsimp only at hSw); go_simp; (try with_reducible rfl))
  try simp only [Act.put, pT]
  exact s_00000 _ (below_drewN (Below.refl C V) 1) zbm zr6 zr7 zga zge zgu

end Go.Proofs.Ytckdbcngnghhiaa
