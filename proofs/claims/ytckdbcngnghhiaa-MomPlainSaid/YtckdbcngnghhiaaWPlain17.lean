/-
  The walk of MomPlain.
-/
import Derived.Test.YtckdbcngnghhiaaA8
import Derived.Test.YtckdbcngnghhiaaN17p
import Derived.Test.YtckdbcngnghhiaaA6
import Derived.Test.YtckdbcngnghhiaaA2
namespace Go.Proofs.Ytckdbcngnghhiaa
set_option maxRecDepth 100000
set_option maxHeartbeats 8000000
open Go.RowKit
set_option linter.unusedVariables false
set_option linter.unusedSimpArgs false

/-- A row of noughts. -/
def zr17 (q : Nat) : Obj := .cells (List.replicate q (Value.int .i64 0)).toArray 2
theorem zr17_run (q : Nat) (hq : q ≤ 100) (W : World) : (Instr.makeSlice 24 (.int .i64 (q : Int)) (.int .i64 (q : Int))).run Try.prog W = .ok (.slice (some ⟨W.heap.size, 0, none⟩) q q) (W.alloc (zr17 q)) := by
  obtain ⟨i0, hi, hz0, hz1, hz2⟩ := info_parts infoI
  have h := run_make (P := Try.prog) W 24 2 i0 (.int .i64 0) Try.underlying24 hi hz0 .i64 .i64 (q : Int) (q : Int) (by omega) (Int.le_refl _) (by rw [hz2]; omega) (by omega)
  rw [hz1, Int.toNat_natCast, Nat.mul_one] at h
  rw [show (Value.int .i64 0).cells = #[Value.int .i64 0] from rfl] at h
  rw [h]
  unfold zr17
  rw [← toList_madeCells_one]
theorem ir_zr17 (q : Nat) (W : World) : IR (W.alloc (zr17 q)) (some ⟨W.heap.size, 0, none⟩) q q (List.replicate q 0) := by
  refine ⟨by simp, Nat.le_refl _, fun _ => ⟨W.heap.size, 0, rfl, by simp, fun j hj => ?_⟩⟩
  have h := World.alloc_heap_new W (zr17 q)
  rw [Nat.zero_add, cell_of_row _ W.heap.size j _ 2 _ h]
  simp [hj]

theorem MomPlain_many {w : World} {lr mu wd f : Int} {ne : Bool} {Aw : Option Addr} {nw cw : Nat} {Lw : List Int} {Am : Option Addr} {nm cm : Nat} {Lm : List Int} {Av : Option Addr} {nv cv : Nat} {Lv : List Int} {Ag : Option Addr} {ng cg : Nat} {Lg : List Int} (iL : I64 lr) (iU : I64 mu) (iD : I64 wd) (iF : I64 f) (hw : IR w Aw nw cw Lw) (hm : IR w Am nm cm Lm) (hv : IR w Av nv cv Lv) (hg : IR w Ag ng cg Lg) (ew : ∀ z ∈ Lw, I64 z) (em : ∀ z ∈ Lm, I64 z) (ev : ∀ z ∈ Lv, I64 z) (eg : ∀ z ∈ Lg, I64 z) (kw : nw ≤ 2305843009213693951) (km : nm ≤ 2305843009213693951) (kv : nv ≤ 2305843009213693951) (kg : ng ≤ 2305843009213693951) (hf : ¬ ((nw + nm + nv + ng : Nat) : Int) ≤ 36) :
    Calls Try.prog 6 #[.agg #[.int .i64 lr, .int .i64 mu, .int .i64 wd, .bool ne], .agg #[.slice Aw nw cw, .slice Am nm cm, .slice Av nv cv, .slice Ag ng cg], .int .i64 f] w (GotV w (.bool true)) := by
  have CF := fun W : World => nFew17_N (w := W) (Aw := Aw) (cw := cw) (Am := Am) (cm := cm) (Av := Av) (cv := cv) (Ag := Ag) (cg := cg) (most := 36) kw km kv kg
  rw [decide_eq_false hf] at CF
  clear iL iU iD iF hw ew kw hm em km hv ev kv hg eg kg hf
  have cc := Below.refl w.heap.size w
  go_enter Try.func6, Try.ntmps6
  go_wp2_with fail
  generalize hv_ : (w.alloc (.cells #[.int .i64 lr, .int .i64 mu, .int .i64 wd, .bool ne] 23)).alloc (.cells #[.slice Aw nw cw, .slice Am nm cm, .slice Av nv cv, .slice Ag ng cg] 26) = v1
  have bA : Below w.heap.size w v1 := by rw [← hv_]; exact (((Below.refl _ w).alloc (by simp) _).alloc (by simp) _)
  replace cc := bK cc bA
  clear bA
  have ma0 : v1.cell? ⟨w.heap.size, 0, none⟩ = some (.int .i64 lr) := by simp [← hv_, go_sem]
  have ma1 : v1.cell? ⟨w.heap.size, 1, none⟩ = some (.int .i64 mu) := by simp [← hv_, go_sem]
  have ma2 : v1.cell? ⟨w.heap.size, 2, none⟩ = some (.int .i64 wd) := by simp [← hv_, go_sem]
  have ma3 : v1.cell? ⟨w.heap.size, 3, none⟩ = some (.bool ne) := by simp [← hv_, go_sem]
  have mal : w.heap.size < v1.heap.size := by simp [← hv_] <;> omega
  have la0 : v1.cell? ⟨w.heap.size + 1, 0, none⟩ = some (.slice Aw nw cw) := by simp [← hv_, go_sem]
  have la1 : v1.cell? ⟨w.heap.size + 1, 1, none⟩ = some (.slice Am nm cm) := by simp [← hv_, go_sem]
  have la2 : v1.cell? ⟨w.heap.size + 1, 2, none⟩ = some (.slice Av nv cv) := by simp [← hv_, go_sem]
  have la3 : v1.cell? ⟨w.heap.size + 1, 3, none⟩ = some (.slice Ag ng cg) := by simp [← hv_, go_sem]
  have lal : w.heap.size + 1 < v1.heap.size := by simp [← hv_] <;> omega
  clear hv_
  refine (CF _).mono ?_
  rintro e w2 ⟨rfl, b⟩
  rewrite [cR b mal] at ma0 ma1 ma2 ma3
  replace mal := lK b mal
  rewrite [cR b lal] at la0 la1 la2 la3
  replace lal := lK b lal
  replace cc := bK cc b
  clear b
  go_wp2_with fail
  refine (alive17_any _).mono ?_
  rintro e w3 ⟨rfl, b⟩
  rewrite [cR b mal] at ma0 ma1 ma2 ma3
  replace mal := lK b mal
  rewrite [cR b lal] at la0 la1 la2 la3
  replace lal := lK b lal
  replace cc := bK cc b
  clear b
  go_wp2_with fail
  go_ret
  exact ⟨rfl, cc⟩

theorem MomPlain_m {w : World} {lr mu wd f : Int} {ne : Bool} {Aw : Option Addr} {nw cw : Nat} {Lw : List Int} {Am : Option Addr} {nm cm : Nat} {Lm : List Int} {Av : Option Addr} {nv cv : Nat} {Lv : List Int} {Ag : Option Addr} {ng cg : Nat} {Lg : List Int} (iL : I64 lr) (iU : I64 mu) (iD : I64 wd) (iF : I64 f) (hw : IR w Aw nw cw Lw) (hm : IR w Am nm cm Lm) (hv : IR w Av nv cv Lv) (hg : IR w Ag ng cg Lg) (ew : ∀ z ∈ Lw, I64 z) (em : ∀ z ∈ Lm, I64 z) (ev : ∀ z ∈ Lv, I64 z) (eg : ∀ z ∈ Lg, I64 z) (kw : nw ≤ 2305843009213693951) (km : nm ≤ 2305843009213693951) (kv : nv ≤ 2305843009213693951) (kg : ng ≤ 2305843009213693951) (hf : ((nw + nm + nv + ng : Nat) : Int) ≤ 36) (hq : nm ≠ nw) :
    Calls Try.prog 6 #[.agg #[.int .i64 lr, .int .i64 mu, .int .i64 wd, .bool ne], .agg #[.slice Aw nw cw, .slice Am nm cm, .slice Av nv cv, .slice Ag ng cg], .int .i64 f] w (GotV w (.bool true)) := by
  have CF := fun W : World => nFew17_N (w := W) (Aw := Aw) (cw := cw) (Am := Am) (cm := cm) (Av := Av) (cv := cv) (Ag := Ag) (cg := cg) (most := 36) kw km kv kg
  rw [decide_eq_true hf] at CF
  have s0 : ((nm : Int) == (nw : Int)) = false := beq_eq_false_iff_ne.2 (by omega)
  have s1 : ((nm : Int) != (nw : Int)) = true := by simp; omega
  have s2 : (nm == nw) = false := beq_eq_false_iff_ne.2 (by omega)
  have s3 : (nm != nw) = true := by simp; omega
  clear iL iU iD iF hw ew kw hm em km hv ev kv hg eg kg hf hq
  have cc := Below.refl w.heap.size w
  go_enter Try.func6, Try.ntmps6
  go_wp2_with fail
  generalize hv_ : (w.alloc (.cells #[.int .i64 lr, .int .i64 mu, .int .i64 wd, .bool ne] 23)).alloc (.cells #[.slice Aw nw cw, .slice Am nm cm, .slice Av nv cv, .slice Ag ng cg] 26) = v1
  have bA : Below w.heap.size w v1 := by rw [← hv_]; exact (((Below.refl _ w).alloc (by simp) _).alloc (by simp) _)
  replace cc := bK cc bA
  clear bA
  have ma0 : v1.cell? ⟨w.heap.size, 0, none⟩ = some (.int .i64 lr) := by simp [← hv_, go_sem]
  have ma1 : v1.cell? ⟨w.heap.size, 1, none⟩ = some (.int .i64 mu) := by simp [← hv_, go_sem]
  have ma2 : v1.cell? ⟨w.heap.size, 2, none⟩ = some (.int .i64 wd) := by simp [← hv_, go_sem]
  have ma3 : v1.cell? ⟨w.heap.size, 3, none⟩ = some (.bool ne) := by simp [← hv_, go_sem]
  have mal : w.heap.size < v1.heap.size := by simp [← hv_] <;> omega
  have la0 : v1.cell? ⟨w.heap.size + 1, 0, none⟩ = some (.slice Aw nw cw) := by simp [← hv_, go_sem]
  have la1 : v1.cell? ⟨w.heap.size + 1, 1, none⟩ = some (.slice Am nm cm) := by simp [← hv_, go_sem]
  have la2 : v1.cell? ⟨w.heap.size + 1, 2, none⟩ = some (.slice Av nv cv) := by simp [← hv_, go_sem]
  have la3 : v1.cell? ⟨w.heap.size + 1, 3, none⟩ = some (.slice Ag ng cg) := by simp [← hv_, go_sem]
  have lal : w.heap.size + 1 < v1.heap.size := by simp [← hv_] <;> omega
  clear hv_
  refine (CF _).mono ?_
  rintro e w2 ⟨rfl, b⟩
  rewrite [cR b mal] at ma0 ma1 ma2 ma3
  replace mal := lK b mal
  rewrite [cR b lal] at la0 la1 la2 la3
  replace lal := lK b lal
  replace cc := bK cc b
  clear b
  go_wp2_with fail
  refine (alive17_any _).mono ?_
  rintro e w3 ⟨rfl, b⟩
  rewrite [cR b mal] at ma0 ma1 ma2 ma3
  replace mal := lK b mal
  rewrite [cR b lal] at la0 la1 la2 la3
  replace lal := lK b lal
  replace cc := bK cc b
  clear b
  go_wp2_with fail
  go_ret
  exact ⟨rfl, cc⟩

theorem MomPlain_g {w : World} {lr mu wd f : Int} {ne : Bool} {Aw : Option Addr} {nw cw : Nat} {Lw : List Int} {Am : Option Addr} {nm cm : Nat} {Lm : List Int} {Av : Option Addr} {nv cv : Nat} {Lv : List Int} {Ag : Option Addr} {ng cg : Nat} {Lg : List Int} (iL : I64 lr) (iU : I64 mu) (iD : I64 wd) (iF : I64 f) (hw : IR w Aw nw cw Lw) (hm : IR w Am nm cm Lm) (hv : IR w Av nv cv Lv) (hg : IR w Ag ng cg Lg) (ew : ∀ z ∈ Lw, I64 z) (em : ∀ z ∈ Lm, I64 z) (ev : ∀ z ∈ Lv, I64 z) (eg : ∀ z ∈ Lg, I64 z) (kw : nw ≤ 2305843009213693951) (km : nm ≤ 2305843009213693951) (kv : nv ≤ 2305843009213693951) (kg : ng ≤ 2305843009213693951) (hf : ((nw + nm + nv + ng : Nat) : Int) ≤ 36) (hq : nm = nw) (hq2 : ng ≠ nw) :
    Calls Try.prog 6 #[.agg #[.int .i64 lr, .int .i64 mu, .int .i64 wd, .bool ne], .agg #[.slice Aw nw cw, .slice Am nm cm, .slice Av nv cv, .slice Ag ng cg], .int .i64 f] w (GotV w (.bool true)) := by
  have CF := fun W : World => nFew17_N (w := W) (Aw := Aw) (cw := cw) (Am := Am) (cm := cm) (Av := Av) (cv := cv) (Ag := Ag) (cg := cg) (most := 36) kw km kv kg
  rw [decide_eq_true hf] at CF
  have um : ((nm : Int) == (nw : Int)) = true := beq_iff_eq.2 (by omega)
  have vm : ((nm : Int) != (nw : Int)) = false := by simp <;> omega
  have xm : (nm == nw) = true := beq_iff_eq.2 (by omega)
  have ym : (nm != nw) = false := by simp <;> omega
  have s0 : ((ng : Int) == (nw : Int)) = false := beq_eq_false_iff_ne.2 (by omega)
  have s1 : ((ng : Int) != (nw : Int)) = true := by simp; omega
  have s2 : (ng == nw) = false := beq_eq_false_iff_ne.2 (by omega)
  have s3 : (ng != nw) = true := by simp; omega
  clear iL iU iD iF hw ew kw hm em km hv ev kv hg eg kg hf hq hq2
  have cc := Below.refl w.heap.size w
  go_enter Try.func6, Try.ntmps6
  go_wp2_with fail
  generalize hv_ : (w.alloc (.cells #[.int .i64 lr, .int .i64 mu, .int .i64 wd, .bool ne] 23)).alloc (.cells #[.slice Aw nw cw, .slice Am nm cm, .slice Av nv cv, .slice Ag ng cg] 26) = v1
  have bA : Below w.heap.size w v1 := by rw [← hv_]; exact (((Below.refl _ w).alloc (by simp) _).alloc (by simp) _)
  replace cc := bK cc bA
  clear bA
  have ma0 : v1.cell? ⟨w.heap.size, 0, none⟩ = some (.int .i64 lr) := by simp [← hv_, go_sem]
  have ma1 : v1.cell? ⟨w.heap.size, 1, none⟩ = some (.int .i64 mu) := by simp [← hv_, go_sem]
  have ma2 : v1.cell? ⟨w.heap.size, 2, none⟩ = some (.int .i64 wd) := by simp [← hv_, go_sem]
  have ma3 : v1.cell? ⟨w.heap.size, 3, none⟩ = some (.bool ne) := by simp [← hv_, go_sem]
  have mal : w.heap.size < v1.heap.size := by simp [← hv_] <;> omega
  have la0 : v1.cell? ⟨w.heap.size + 1, 0, none⟩ = some (.slice Aw nw cw) := by simp [← hv_, go_sem]
  have la1 : v1.cell? ⟨w.heap.size + 1, 1, none⟩ = some (.slice Am nm cm) := by simp [← hv_, go_sem]
  have la2 : v1.cell? ⟨w.heap.size + 1, 2, none⟩ = some (.slice Av nv cv) := by simp [← hv_, go_sem]
  have la3 : v1.cell? ⟨w.heap.size + 1, 3, none⟩ = some (.slice Ag ng cg) := by simp [← hv_, go_sem]
  have lal : w.heap.size + 1 < v1.heap.size := by simp [← hv_] <;> omega
  clear hv_
  refine (CF _).mono ?_
  rintro e w2 ⟨rfl, b⟩
  rewrite [cR b mal] at ma0 ma1 ma2 ma3
  replace mal := lK b mal
  rewrite [cR b lal] at la0 la1 la2 la3
  replace lal := lK b lal
  replace cc := bK cc b
  clear b
  go_wp2_with fail
  refine (alive17_any _).mono ?_
  rintro e w3 ⟨rfl, b⟩
  rewrite [cR b mal] at ma0 ma1 ma2 ma3
  replace mal := lK b mal
  rewrite [cR b lal] at la0 la1 la2 la3
  replace lal := lK b lal
  replace cc := bK cc b
  clear b
  go_wp2_with fail
  go_ret
  exact ⟨rfl, cc⟩

theorem MomPlain_no {w : World} {lr mu wd f : Int} {ne : Bool} {Aw : Option Addr} {nw cw : Nat} {Lw : List Int} {Am : Option Addr} {nm cm : Nat} {Lm : List Int} {Av : Option Addr} {nv cv : Nat} {Lv : List Int} {Ag : Option Addr} {ng cg : Nat} {Lg : List Int} (iL : I64 lr) (iU : I64 mu) (iD : I64 wd) (iF : I64 f) (hw : IR w Aw nw cw Lw) (hm : IR w Am nm cm Lm) (hv : IR w Av nv cv Lv) (hg : IR w Ag ng cg Lg) (ew : ∀ z ∈ Lw, I64 z) (em : ∀ z ∈ Lm, I64 z) (ev : ∀ z ∈ Lv, I64 z) (eg : ∀ z ∈ Lg, I64 z) (kw : nw ≤ 2305843009213693951) (km : nm ≤ 2305843009213693951) (kv : nv ≤ 2305843009213693951) (kg : ng ≤ 2305843009213693951) (hf : ((nw + nm + nv + ng : Nat) : Int) ≤ 36) (hq : nm = nw) (hq2 : ng = nw) (hc : ¬ stC17 lr 0 0 f false Lw Lm Lg = 0) :
    Calls Try.prog 6 #[.agg #[.int .i64 lr, .int .i64 mu, .int .i64 wd, .bool ne], .agg #[.slice Aw nw cw, .slice Am nm cm, .slice Av nv cv, .slice Ag ng cg], .int .i64 f] w (GotV w (.bool true)) := by
  have CF := fun W : World => nFew17_N (w := W) (Aw := Aw) (cw := cw) (Am := Am) (cm := cm) (Av := Av) (cv := cv) (Ag := Ag) (cg := cg) (most := 36) kw km kv kg
  rw [decide_eq_true hf] at CF
  obtain rfl : nm = nw := hq
  obtain rfl : ng = nm := hq2
  have CS1 := fun {W : World} {Aw : Option Addr} {cw : Nat} {Am : Option Addr} {cm : Nat} {Av : Option Addr} {nv cv : Nat} {Ag : Option Addr} {cg : Nat} (a : IR W Aw ng cw Lw) (b : IR W Am ng cm Lm) (c : IR W Ag ng cg Lg) => (mStep_N (ne := false) (lr := lr) (mu := 0) (wd := 0) (f := f) (Av := Av) (nv := nv) (cv := cv) iL (by unfold I64; omega) (by unfold I64; omega) iF a b c ew em eg (by omega) (by omega) (by omega)).mono (fun e w h => h.weak)
  have CS2 := fun {W : World} {Aw : Option Addr} {cw : Nat} {Am : Option Addr} {cm : Nat} {Av : Option Addr} {nv cv : Nat} {Ag : Option Addr} {cg : Nat} (a : IR W Aw ng cw Lw) (b : IR W Am ng cm Lm) (c : IR W Ag ng cg Lg) => (mStep_N (ne := ne) (lr := 0) (mu := mu) (wd := 0) (f := f) (Av := Av) (nv := nv) (cv := cv) (by unfold I64; omega) iU (by unfold I64; omega) iF a b c ew em eg (by omega) (by omega) (by omega)).mono (fun e w h => h.weak)
  have eZ : ∀ z ∈ (List.replicate ng (0 : Int)), I64 z := fun z hz => by rw [List.eq_of_mem_replicate hz]; exact i64_0
  have CS3 := fun {W : World} {Aw : Option Addr} {cw : Nat} {Am : Option Addr} {cm : Nat} {Ag : Option Addr} {cg : Nat} (a : IR W Aw ng cw Lw) (b : IR W Am ng cm (List.replicate ng 0)) (c : IR W Ag ng cg (List.replicate ng 0)) => (mStep_N (ne := ne) (lr := lr) (mu := mu) (wd := 0) (f := f) (Av := none) (nv := 0) (cv := 0) iL iU (by unfold I64; omega) iF a b c ew eZ eZ (by omega) (by omega) (by omega)).mono (fun e w h => h.weak)
  have CR := fun W : World => nRight17_N (w := W) (lr := lr) (mu := mu) (wd := 0) (f := f) (ne := false)
  have hmk := zr17_run ng (by omega)
  have hn0 := hw.1
  have hal1 := all17 (lr := lr) (mu := 0) (wd := 0) (f := f) (ne := false) (LW := Lw) (LM := Lm) (LG := Lg)
  obtain ⟨C1, eC1⟩ : ∃ c, stC17 lr 0 0 f false Lw Lm Lg = c := ⟨_, rfl⟩
  rw [eC1] at CS1 hc
  have c1 : (C1 == 0) = false := beq_eq_false_iff_ne.2 hc
  have c1b : (C1 != 0) = true := by simpa using hc
  clear eC1
  clear hc
  generalize stRW17 lr 0 0 f false Lw Lm Lg = X1W at *
  generalize stRV17 lr 0 0 f false Lw Lm Lg = X1V at *
  have HAL := Lib.hid hal1
  clear hal1
  have HG : Hid (((stC17 0 mu 0 f ne Lw Lm Lg == 0) = true ∧ stRW17 0 mu 0 f ne Lw Lm Lg = Lw) ∨ (stC17 0 mu 0 f ne Lw Lm Lg == 0) = false) := Lib.hid (by by_cases h : stC17 0 mu 0 f ne Lw Lm Lg = 0; exact .inl ⟨beq_iff_eq.2 h, still17 h⟩; exact .inr (beq_eq_false_iff_ne.2 h))
  generalize stRW17 0 mu 0 f ne Lw Lm Lg = X2W at *
  generalize stRV17 0 mu 0 f ne Lw Lm Lg = X2V at *
  generalize stC17 0 mu 0 f ne Lw Lm Lg = C2 at *
  have HH : Hid (((stC17 lr mu 0 f ne Lw (List.replicate ng 0) (List.replicate ng 0) == 0) = true ∧ (stC17 lr mu 0 f ne Lw (List.replicate ng 0) (List.replicate ng 0) != 0) = false ∧ stRW17 lr mu 0 f ne Lw (List.replicate ng 0) (List.replicate ng 0) = Lw ∧ stRV17 lr mu 0 f ne Lw (List.replicate ng 0) (List.replicate ng 0) = List.replicate ng 0 ∧ decide (OkM17 lr mu 0 f) = true) ∨ ((stC17 lr mu 0 f ne Lw (List.replicate ng 0) (List.replicate ng 0) == 0) = false ∧ (stC17 lr mu 0 f ne Lw (List.replicate ng 0) (List.replicate ng 0) != 0) = true ∧ decide (OkM17 lr mu 0 f) = false)) := Lib.hid (by
    rw [hn0]
    by_cases hK : OkM17 lr mu 0 f
    · obtain ⟨h1, h2, h3⟩ := zeros17 (ne := ne) hK ew
      exact .inl ⟨by rw [h1]; rfl, by rw [h1]; rfl, h2, h3, decide_eq_true hK⟩
    · rw [zeros_no17 hK]; exact .inr ⟨rfl, rfl, decide_eq_false hK⟩)
  generalize stRW17 lr mu 0 f ne Lw (List.replicate ng 0) (List.replicate ng 0) = X3W at *
  generalize stRV17 lr mu 0 f ne Lw (List.replicate ng 0) (List.replicate ng 0) = X3V at *
  generalize stC17 lr mu 0 f ne Lw (List.replicate ng 0) (List.replicate ng 0) = C3 at *
  generalize decide (OkM17 lr mu 0 f) = r at *
  have HEE := Lib.hid (show (∀ z ∈ Lw, I64 z) ∧ ∀ z ∈ Lg, I64 z from ⟨ew, eg⟩)
  have HN := Lib.hid hn0
  have HKN : Hid (ng ≤ 36) := Lib.hid (by omega)
  have un : ((ng : Int) == (ng : Int)) = true := beq_iff_eq.2 (by omega)
  have vn : ((ng : Int) != (ng : Int)) = false := by simp <;> omega
  have xn : (ng == ng) = true := beq_iff_eq.2 (by omega)
  have yn : (ng != ng) = false := by simp <;> omega
  have HI : Hid (I64 lr) := Lib.hid iL
  have kng : ng ≤ 9223372036854775807 := by omega
  have HK9 := Lib.hid kng
  have CSa : ∀ {W : World} {A B : Option Addr} {n c m d : Nat} {L : List Int}, IR W A n c L → IR W B m d L → L.length = ng → Calls Try.prog 21 #[.slice A n c, .slice B m d] W (GotV W (.bool true)) := fun a b e => by have h := rsameI_N a b (by rw [a.1, e]; exact HK9.out); rw [decide_eq_true rfl] at h; exact h
  clear iL iU iD iF ew em ev eg kw km kv kg hf hv hn0 eZ kng
  have cc := Below.refl w.heap.size w
  go_enter Try.func6, Try.ntmps6
  go_wp2_with fail
  generalize hv_ : (w.alloc (.cells #[.int .i64 lr, .int .i64 mu, .int .i64 wd, .bool ne] 23)).alloc (.cells #[.slice Aw ng cw, .slice Am ng cm, .slice Av nv cv, .slice Ag ng cg] 26) = v1
  have bA : Below w.heap.size w v1 := by rw [← hv_]; exact (((Below.refl _ w).alloc (by simp) _).alloc (by simp) _)
  replace hw := hw.on bA
  replace hm := hm.on bA
  replace hg := hg.on bA
  replace cc := bK cc bA
  clear bA
  have ma0 : v1.cell? ⟨w.heap.size, 0, none⟩ = some (.int .i64 lr) := by simp [← hv_, go_sem]
  have ma1 : v1.cell? ⟨w.heap.size, 1, none⟩ = some (.int .i64 mu) := by simp [← hv_, go_sem]
  have ma2 : v1.cell? ⟨w.heap.size, 2, none⟩ = some (.int .i64 wd) := by simp [← hv_, go_sem]
  have ma3 : v1.cell? ⟨w.heap.size, 3, none⟩ = some (.bool ne) := by simp [← hv_, go_sem]
  have mal : w.heap.size < v1.heap.size := by simp [← hv_] <;> omega
  have la0 : v1.cell? ⟨w.heap.size + 1, 0, none⟩ = some (.slice Aw ng cw) := by simp [← hv_, go_sem]
  have la1 : v1.cell? ⟨w.heap.size + 1, 1, none⟩ = some (.slice Am ng cm) := by simp [← hv_, go_sem]
  have la2 : v1.cell? ⟨w.heap.size + 1, 2, none⟩ = some (.slice Av nv cv) := by simp [← hv_, go_sem]
  have la3 : v1.cell? ⟨w.heap.size + 1, 3, none⟩ = some (.slice Ag ng cg) := by simp [← hv_, go_sem]
  have lal : w.heap.size + 1 < v1.heap.size := by simp [← hv_] <;> omega
  clear hv_
  refine (CF _).mono ?_
  rintro e w2 ⟨rfl, b⟩
  replace hw := hw.on b
  replace hm := hm.on b
  replace hg := hg.on b
  rewrite [cR b mal] at ma0 ma1 ma2 ma3
  replace mal := lK b mal
  rewrite [cR b lal] at la0 la1 la2 la3
  replace lal := lK b lal
  replace cc := bK cc b
  clear b
  go_upto_region 3 with fail
  go_cut [7, 8] (fun u v wx => ∃ g1 g2 : Nat, u = .pointer (some ⟨g1, 0, none⟩) ∧ v = .pointer (some ⟨g2, 0, none⟩) ∧ (wx.cell? ⟨g1, 0, none⟩ = some (.int .i64 lr) ∧ wx.cell? ⟨g1, 1, none⟩ = some (.int .i64 0) ∧ wx.cell? ⟨g1, 2, none⟩ = some (.int .i64 0) ∧ wx.cell? ⟨g1, 3, none⟩ = some (.bool false)) ∧ (wx.cell? ⟨g2, 0, none⟩ = some (.int .i64 0) ∧ wx.cell? ⟨g2, 1, none⟩ = some (.int .i64 mu) ∧ wx.cell? ⟨g2, 2, none⟩ = some (.int .i64 0) ∧ wx.cell? ⟨g2, 3, none⟩ = some (.bool ne)) ∧ Below w2.heap.size w2 wx)
  case first =>
    have bR : Below w2.heap.size w2 w2 := Below.refl _ _
    have k_ma0 : ∀ W : World, Below w2.heap.size w2 W → W.cell? ⟨w.heap.size, 0, none⟩ = some (.int .i64 lr) := fun W b => cK b ma0 mal
    have k_ma1 : ∀ W : World, Below w2.heap.size w2 W → W.cell? ⟨w.heap.size, 1, none⟩ = some (.int .i64 mu) := fun W b => cK b ma1 mal
    have k_ma2 : ∀ W : World, Below w2.heap.size w2 W → W.cell? ⟨w.heap.size, 2, none⟩ = some (.int .i64 wd) := fun W b => cK b ma2 mal
    have k_ma3 : ∀ W : World, Below w2.heap.size w2 W → W.cell? ⟨w.heap.size, 3, none⟩ = some (.bool ne) := fun W b => cK b ma3 mal
    have k_la0 : ∀ W : World, Below w2.heap.size w2 W → W.cell? ⟨w.heap.size + 1, 0, none⟩ = some (.slice Aw ng cw) := fun W b => cK b la0 lal
    have k_la1 : ∀ W : World, Below w2.heap.size w2 W → W.cell? ⟨w.heap.size + 1, 1, none⟩ = some (.slice Am ng cm) := fun W b => cK b la1 lal
    have k_la2 : ∀ W : World, Below w2.heap.size w2 W → W.cell? ⟨w.heap.size + 1, 2, none⟩ = some (.slice Av nv cv) := fun W b => cK b la2 lal
    have k_la3 : ∀ W : World, Below w2.heap.size w2 W → W.cell? ⟨w.heap.size + 1, 3, none⟩ = some (.slice Ag ng cg) := fun W b => cK b la3 lal
    clear ma0 ma1 ma2 ma3 la0 la1 la2 la3
    go_region_held3 (fun w' => Below w2.heap.size w2 w')
      (repeat' (first | with_reducible assumption | with_reducible refine below_al17 _ ?_ | with_reducible refine below_dr17 ?_ | with_reducible refine below_sc17 _ ?_ () ?_ | (first | omega | (simp; omega))))
      (fail)
    all_goals (go_wp2_with fail; go_meet)
    all_goals refine ⟨_, _, rfl, rfl, ⟨by simp [go_sem], by simp [go_sem], by simp [go_sem], by simp [go_sem]⟩, ⟨by simp [go_sem], by simp [go_sem], by simp [go_sem], by simp [go_sem]⟩, ?_⟩
    all_goals (repeat' (first | with_reducible assumption | with_reducible refine below_al17 _ ?_ | with_reducible refine below_dr17 ?_ | with_reducible refine below_sc17 _ ?_ () ?_ | (first | omega | (simp; omega))))
  case rest =>
    obtain ⟨gpl, gst, rfl, rfl, ⟨pl0, pl1, pl2, pl3⟩, ⟨st0, st1, st2, st3⟩, b⟩ := hcut
    have pll := cell_lt pl0
    have stl := cell_lt st0
    simp only at pll stl
    replace hw := hw.on b
    replace hm := hm.on b
    replace hg := hg.on b
    rewrite [cR b mal] at ma0 ma1 ma2 ma3
    replace mal := lK b mal
    rewrite [cR b lal] at la0 la1 la2 la3
    replace lal := lK b lal
    replace cc := bK cc b
    clear b
    obtain ⟨wq1, rfl⟩ : ∃ W, W = wc := ⟨_, rfl⟩
    go_wp2_with fail
    refine (CS1 hw hm hg).mono ?_
    rintro e w3 ⟨Ap, np, cp, Bp, mp, dp, rfl, hxp, hyp, b⟩
    replace hw := hw.on b
    replace hm := hm.on b
    replace hg := hg.on b
    rewrite [cR b mal] at ma0 ma1 ma2 ma3
    replace mal := lK b mal
    rewrite [cR b lal] at la0 la1 la2 la3
    replace lal := lK b lal
    rewrite [cR b pll] at pl0 pl1 pl2 pl3
    replace pll := lK b pll
    rewrite [cR b stl] at st0 st1 st2 st3
    replace stl := lK b stl
    replace cc := bK cc b
    clear b
    clear pl0 pl1 pl2 pl3 pll
    go_upto_region 5 with fail
    generalize hv_ : w3.alloc (.cells #[.slice Ap np cp, .slice Bp mp dp, .slice none 0 0, .slice none 0 0] 26) = v4
    have bA : Below w3.heap.size w3 v4 := by rw [← hv_]; exact below_one _ _
    replace hw := hw.on bA
    replace hm := hm.on bA
    replace hg := hg.on bA
    replace hxp := hxp.on bA
    replace hyp := hyp.on bA
    rewrite [cR bA mal] at ma0 ma1 ma2 ma3
    replace mal := lK bA mal
    rewrite [cR bA lal] at la0 la1 la2 la3
    replace lal := lK bA lal
    rewrite [cR bA stl] at st0 st1 st2 st3
    replace stl := lK bA stl
    replace cc := bK cc bA
    clear bA
    have xs0 : v4.cell? ⟨w3.heap.size, 0, none⟩ = some (.slice Ap np cp) := by simp [← hv_, go_sem]
    have xs1 : v4.cell? ⟨w3.heap.size, 1, none⟩ = some (.slice Bp mp dp) := by simp [← hv_, go_sem]
    have xs2 : v4.cell? ⟨w3.heap.size, 2, none⟩ = some (.slice none 0 0) := by simp [← hv_, go_sem]
    have xs3 : v4.cell? ⟨w3.heap.size, 3, none⟩ = some (.slice none 0 0) := by simp [← hv_, go_sem]
    have xsl : w3.heap.size < v4.heap.size := by simp [← hv_]
    clear hv_
    go_wp2_with fail
    refine (CS2 hw hm hg).mono ?_
    rintro e w5 ⟨Aq, nq, cq, Bq, mq, dq, rfl, hxq, hyq, b⟩
    replace hw := hw.on b
    replace hm := hm.on b
    replace hg := hg.on b
    replace hxp := hxp.on b
    replace hyp := hyp.on b
    rewrite [cR b mal] at ma0 ma1 ma2 ma3
    replace mal := lK b mal
    rewrite [cR b lal] at la0 la1 la2 la3
    replace lal := lK b lal
    rewrite [cR b stl] at st0 st1 st2 st3
    replace stl := lK b stl
    rewrite [cR b xsl] at xs0 xs1 xs2 xs3
    replace xsl := lK b xsl
    replace cc := bK cc b
    clear b
    clear hyq st0 st1 st2 st3 stl
    go_upto_region 6 with fail
    generalize hv_ : w5.alloc (.cells #[.slice Aq nq cq, .slice Bq mq dq, .slice none 0 0, .slice none 0 0] 26) = v6
    have bA : Below w5.heap.size w5 v6 := by rw [← hv_]; exact below_one _ _
    replace hw := hw.on bA
    replace hm := hm.on bA
    replace hg := hg.on bA
    replace hxp := hxp.on bA
    replace hyp := hyp.on bA
    replace hxq := hxq.on bA
    rewrite [cR bA mal] at ma0 ma1 ma2 ma3
    replace mal := lK bA mal
    rewrite [cR bA lal] at la0 la1 la2 la3
    replace lal := lK bA lal
    rewrite [cR bA xsl] at xs0 xs1 xs2 xs3
    replace xsl := lK bA xsl
    replace cc := bK cc bA
    clear bA
    have ys0 : v6.cell? ⟨w5.heap.size, 0, none⟩ = some (.slice Aq nq cq) := by simp [← hv_, go_sem]
    have ys1 : v6.cell? ⟨w5.heap.size, 1, none⟩ = some (.slice Bq mq dq) := by simp [← hv_, go_sem]
    have ys2 : v6.cell? ⟨w5.heap.size, 2, none⟩ = some (.slice none 0 0) := by simp [← hv_, go_sem]
    have ys3 : v6.cell? ⟨w5.heap.size, 3, none⟩ = some (.slice none 0 0) := by simp [← hv_, go_sem]
    have ysl : w5.heap.size < v6.heap.size := by simp [← hv_]
    clear hv_
    go_upto_region 7 with fail
    have hz := ir_zr17 ng v6
    have b := one_upD v6 (zr17 ng)
    replace hw := hw.on b
    replace hm := hm.on b
    replace hg := hg.on b
    replace hxp := hxp.on b
    replace hyp := hyp.on b
    replace hxq := hxq.on b
    rewrite [cR b mal] at ma0 ma1 ma2 ma3
    replace mal := lK b mal
    rewrite [cR b lal] at la0 la1 la2 la3
    replace lal := lK b lal
    rewrite [cR b xsl] at xs0 xs1 xs2 xs3
    replace xsl := lK b xsl
    rewrite [cR b ysl] at ys0 ys1 ys2 ys3
    replace ysl := lK b ysl
    replace cc := bK cc b
    clear b
    generalize v6.alloc (zr17 ng) = vz at *
    obtain ⟨gz, egz⟩ : ∃ g, v6.heap.size = g := ⟨_, rfl⟩
    rw [egz] at hz ⊢
    clear egz
    go_wp2_with fail
    refine (CS3 hw hz hz).mono ?_
    rintro e w7 ⟨At, nt, ct, Bt, mt, dt, rfl, hxt, hyt, b⟩
    replace hw := hw.on b
    replace hm := hm.on b
    replace hg := hg.on b
    replace hxp := hxp.on b
    replace hyp := hyp.on b
    replace hxq := hxq.on b
    replace hz := hz.on b
    rewrite [cR b mal] at ma0 ma1 ma2 ma3
    replace mal := lK b mal
    rewrite [cR b lal] at la0 la1 la2 la3
    replace lal := lK b lal
    rewrite [cR b xsl] at xs0 xs1 xs2 xs3
    replace xsl := lK b xsl
    rewrite [cR b ysl] at ys0 ys1 ys2 ys3
    replace ysl := lK b ysl
    replace cc := bK cc b
    clear b
    go_upto_region 8 with fail
    generalize hv_ : w7.alloc (.cells #[.slice At nt ct, .slice Bt mt dt, .slice none 0 0, .slice none 0 0] 26) = v8
    have bA : Below w7.heap.size w7 v8 := by rw [← hv_]; exact below_one _ _
    replace hw := hw.on bA
    replace hm := hm.on bA
    replace hg := hg.on bA
    replace hxp := hxp.on bA
    replace hyp := hyp.on bA
    replace hxq := hxq.on bA
    replace hz := hz.on bA
    replace hxt := hxt.on bA
    replace hyt := hyt.on bA
    rewrite [cR bA mal] at ma0 ma1 ma2 ma3
    replace mal := lK bA mal
    rewrite [cR bA lal] at la0 la1 la2 la3
    replace lal := lK bA lal
    rewrite [cR bA xsl] at xs0 xs1 xs2 xs3
    replace xsl := lK bA xsl
    rewrite [cR bA ysl] at ys0 ys1 ys2 ys3
    replace ysl := lK bA ysl
    replace cc := bK cc bA
    clear bA
    have zs0 : v8.cell? ⟨w7.heap.size, 0, none⟩ = some (.slice At nt ct) := by simp [← hv_, go_sem]
    have zs1 : v8.cell? ⟨w7.heap.size, 1, none⟩ = some (.slice Bt mt dt) := by simp [← hv_, go_sem]
    have zs2 : v8.cell? ⟨w7.heap.size, 2, none⟩ = some (.slice none 0 0) := by simp [← hv_, go_sem]
    have zs3 : v8.cell? ⟨w7.heap.size, 3, none⟩ = some (.slice none 0 0) := by simp [← hv_, go_sem]
    have zsl : w7.heap.size < v8.heap.size := by simp [← hv_]
    clear hv_
    go_upto_region 17 with fail
    rcases HG.out with ⟨g1, g2⟩ | g1
    · skip
      have hyw : IR v8 Aq nq cq Lw := by rw [← g2]; exact hxq
      rcases HH.out with ⟨h1, h2, h3, h4, h5⟩ | ⟨h1, h2, h5⟩
      · skip
        subst h5
        have hzw : IR v8 At nt ct Lw := by rw [← h3]; exact hxt
        have hzz : IR v8 Bt mt dt (List.replicate ng 0) := by rw [← h4]; exact hyt
        go_wp2_with fail
        refine (CSa hyw hw HN.out.symm).mono ?_
        rintro e w9 ⟨rfl, b⟩
        replace hw := hw.on b
        replace hm := hm.on b
        replace hg := hg.on b
        replace hxp := hxp.on b
        replace hyp := hyp.on b
        replace hxq := hxq.on b
        replace hz := hz.on b
        replace hxt := hxt.on b
        replace hyt := hyt.on b
        replace hyw := hyw.on b
        replace hzw := hzw.on b
        replace hzz := hzz.on b
        rewrite [cR b mal] at ma0 ma1 ma2 ma3
        replace mal := lK b mal
        rewrite [cR b lal] at la0 la1 la2 la3
        replace lal := lK b lal
        rewrite [cR b xsl] at xs0 xs1 xs2 xs3
        replace xsl := lK b xsl
        rewrite [cR b ysl] at ys0 ys1 ys2 ys3
        replace ysl := lK b ysl
        rewrite [cR b zsl] at zs0 zs1 zs2 zs3
        replace zsl := lK b zsl
        replace cc := bK cc b
        clear b
        go_wp2_with fail
        refine (alive17_any _).mono ?_
        rintro e w10 ⟨rfl, b⟩
        replace hw := hw.on b
        replace hm := hm.on b
        replace hg := hg.on b
        replace hxp := hxp.on b
        replace hyp := hyp.on b
        replace hxq := hxq.on b
        replace hz := hz.on b
        replace hxt := hxt.on b
        replace hyt := hyt.on b
        replace hyw := hyw.on b
        replace hzw := hzw.on b
        replace hzz := hzz.on b
        rewrite [cR b mal] at ma0 ma1 ma2 ma3
        replace mal := lK b mal
        rewrite [cR b lal] at la0 la1 la2 la3
        replace lal := lK b lal
        rewrite [cR b xsl] at xs0 xs1 xs2 xs3
        replace xsl := lK b xsl
        rewrite [cR b ysl] at ys0 ys1 ys2 ys3
        replace ysl := lK b ysl
        rewrite [cR b zsl] at zs0 zs1 zs2 zs3
        replace zsl := lK b zsl
        replace cc := bK cc b
        clear b
        go_wp2_with fail
        refine (CSa hzw hw HN.out.symm).mono ?_
        rintro e w11 ⟨rfl, b⟩
        replace hw := hw.on b
        replace hm := hm.on b
        replace hg := hg.on b
        replace hxp := hxp.on b
        replace hyp := hyp.on b
        replace hxq := hxq.on b
        replace hz := hz.on b
        replace hxt := hxt.on b
        replace hyt := hyt.on b
        replace hyw := hyw.on b
        replace hzw := hzw.on b
        replace hzz := hzz.on b
        rewrite [cR b mal] at ma0 ma1 ma2 ma3
        replace mal := lK b mal
        rewrite [cR b lal] at la0 la1 la2 la3
        replace lal := lK b lal
        rewrite [cR b xsl] at xs0 xs1 xs2 xs3
        replace xsl := lK b xsl
        rewrite [cR b ysl] at ys0 ys1 ys2 ys3
        replace ysl := lK b ysl
        rewrite [cR b zsl] at zs0 zs1 zs2 zs3
        replace zsl := lK b zsl
        replace cc := bK cc b
        clear b
        go_wp2_with fail
        refine (CSa hzz hz List.length_replicate).mono ?_
        rintro e w12 ⟨rfl, b⟩
        replace hw := hw.on b
        replace hm := hm.on b
        replace hg := hg.on b
        replace hxp := hxp.on b
        replace hyp := hyp.on b
        replace hxq := hxq.on b
        replace hz := hz.on b
        replace hxt := hxt.on b
        replace hyt := hyt.on b
        replace hyw := hyw.on b
        replace hzw := hzw.on b
        replace hzz := hzz.on b
        rewrite [cR b mal] at ma0 ma1 ma2 ma3
        replace mal := lK b mal
        rewrite [cR b lal] at la0 la1 la2 la3
        replace lal := lK b lal
        rewrite [cR b xsl] at xs0 xs1 xs2 xs3
        replace xsl := lK b xsl
        rewrite [cR b ysl] at ys0 ys1 ys2 ys3
        replace ysl := lK b ysl
        rewrite [cR b zsl] at zs0 zs1 zs2 zs3
        replace zsl := lK b zsl
        replace cc := bK cc b
        clear b
        go_wp2_with fail
        refine (CR _).mono ?_
        rintro e w13 ⟨rfl, b⟩
        replace hw := hw.on b
        replace hm := hm.on b
        replace hg := hg.on b
        replace hxp := hxp.on b
        replace hyp := hyp.on b
        replace hxq := hxq.on b
        replace hz := hz.on b
        replace hxt := hxt.on b
        replace hyt := hyt.on b
        replace hyw := hyw.on b
        replace hzw := hzw.on b
        replace hzz := hzz.on b
        rewrite [cR b mal] at ma0 ma1 ma2 ma3
        replace mal := lK b mal
        rewrite [cR b lal] at la0 la1 la2 la3
        replace lal := lK b lal
        rewrite [cR b xsl] at xs0 xs1 xs2 xs3
        replace xsl := lK b xsl
        rewrite [cR b ysl] at ys0 ys1 ys2 ys3
        replace ysl := lK b ysl
        rewrite [cR b zsl] at zs0 zs1 zs2 zs3
        replace zsl := lK b zsl
        replace cc := bK cc b
        clear b
        go_wp2_with fail
        go_ret
        exact ⟨rfl, cc⟩
      · skip
        subst h5
        go_wp2_with fail
        refine (CSa hyw hw HN.out.symm).mono ?_
        rintro e w14 ⟨rfl, b⟩
        replace hw := hw.on b
        replace hm := hm.on b
        replace hg := hg.on b
        replace hxp := hxp.on b
        replace hyp := hyp.on b
        replace hxq := hxq.on b
        replace hz := hz.on b
        replace hxt := hxt.on b
        replace hyt := hyt.on b
        replace hyw := hyw.on b
        rewrite [cR b mal] at ma0 ma1 ma2 ma3
        replace mal := lK b mal
        rewrite [cR b lal] at la0 la1 la2 la3
        replace lal := lK b lal
        rewrite [cR b xsl] at xs0 xs1 xs2 xs3
        replace xsl := lK b xsl
        rewrite [cR b ysl] at ys0 ys1 ys2 ys3
        replace ysl := lK b ysl
        rewrite [cR b zsl] at zs0 zs1 zs2 zs3
        replace zsl := lK b zsl
        replace cc := bK cc b
        clear b
        go_wp2_with fail
        refine (alive17_any _).mono ?_
        rintro e w15 ⟨rfl, b⟩
        replace hw := hw.on b
        replace hm := hm.on b
        replace hg := hg.on b
        replace hxp := hxp.on b
        replace hyp := hyp.on b
        replace hxq := hxq.on b
        replace hz := hz.on b
        replace hxt := hxt.on b
        replace hyt := hyt.on b
        replace hyw := hyw.on b
        rewrite [cR b mal] at ma0 ma1 ma2 ma3
        replace mal := lK b mal
        rewrite [cR b lal] at la0 la1 la2 la3
        replace lal := lK b lal
        rewrite [cR b xsl] at xs0 xs1 xs2 xs3
        replace xsl := lK b xsl
        rewrite [cR b ysl] at ys0 ys1 ys2 ys3
        replace ysl := lK b ysl
        rewrite [cR b zsl] at zs0 zs1 zs2 zs3
        replace zsl := lK b zsl
        replace cc := bK cc b
        clear b
        go_wp2_with fail
        refine (CR _).mono ?_
        rintro e w16 ⟨rfl, b⟩
        replace hw := hw.on b
        replace hm := hm.on b
        replace hg := hg.on b
        replace hxp := hxp.on b
        replace hyp := hyp.on b
        replace hxq := hxq.on b
        replace hz := hz.on b
        replace hxt := hxt.on b
        replace hyt := hyt.on b
        replace hyw := hyw.on b
        rewrite [cR b mal] at ma0 ma1 ma2 ma3
        replace mal := lK b mal
        rewrite [cR b lal] at la0 la1 la2 la3
        replace lal := lK b lal
        rewrite [cR b xsl] at xs0 xs1 xs2 xs3
        replace xsl := lK b xsl
        rewrite [cR b ysl] at ys0 ys1 ys2 ys3
        replace ysl := lK b ysl
        rewrite [cR b zsl] at zs0 zs1 zs2 zs3
        replace zsl := lK b zsl
        replace cc := bK cc b
        clear b
        go_wp2_with fail
        go_ret
        exact ⟨rfl, cc⟩
    · skip
      rcases HH.out with ⟨h1, h2, h3, h4, h5⟩ | ⟨h1, h2, h5⟩
      · skip
        subst h5
        have hzw : IR v8 At nt ct Lw := by rw [← h3]; exact hxt
        have hzz : IR v8 Bt mt dt (List.replicate ng 0) := by rw [← h4]; exact hyt
        go_wp2_with fail
        refine (alive17_any _).mono ?_
        rintro e w17 ⟨rfl, b⟩
        replace hw := hw.on b
        replace hm := hm.on b
        replace hg := hg.on b
        replace hxp := hxp.on b
        replace hyp := hyp.on b
        replace hxq := hxq.on b
        replace hz := hz.on b
        replace hxt := hxt.on b
        replace hyt := hyt.on b
        replace hzw := hzw.on b
        replace hzz := hzz.on b
        rewrite [cR b mal] at ma0 ma1 ma2 ma3
        replace mal := lK b mal
        rewrite [cR b lal] at la0 la1 la2 la3
        replace lal := lK b lal
        rewrite [cR b xsl] at xs0 xs1 xs2 xs3
        replace xsl := lK b xsl
        rewrite [cR b ysl] at ys0 ys1 ys2 ys3
        replace ysl := lK b ysl
        rewrite [cR b zsl] at zs0 zs1 zs2 zs3
        replace zsl := lK b zsl
        replace cc := bK cc b
        clear b
        go_wp2_with fail
        refine (CSa hzw hw HN.out.symm).mono ?_
        rintro e w18 ⟨rfl, b⟩
        replace hw := hw.on b
        replace hm := hm.on b
        replace hg := hg.on b
        replace hxp := hxp.on b
        replace hyp := hyp.on b
        replace hxq := hxq.on b
        replace hz := hz.on b
        replace hxt := hxt.on b
        replace hyt := hyt.on b
        replace hzw := hzw.on b
        replace hzz := hzz.on b
        rewrite [cR b mal] at ma0 ma1 ma2 ma3
        replace mal := lK b mal
        rewrite [cR b lal] at la0 la1 la2 la3
        replace lal := lK b lal
        rewrite [cR b xsl] at xs0 xs1 xs2 xs3
        replace xsl := lK b xsl
        rewrite [cR b ysl] at ys0 ys1 ys2 ys3
        replace ysl := lK b ysl
        rewrite [cR b zsl] at zs0 zs1 zs2 zs3
        replace zsl := lK b zsl
        replace cc := bK cc b
        clear b
        go_wp2_with fail
        refine (CSa hzz hz List.length_replicate).mono ?_
        rintro e w19 ⟨rfl, b⟩
        replace hw := hw.on b
        replace hm := hm.on b
        replace hg := hg.on b
        replace hxp := hxp.on b
        replace hyp := hyp.on b
        replace hxq := hxq.on b
        replace hz := hz.on b
        replace hxt := hxt.on b
        replace hyt := hyt.on b
        replace hzw := hzw.on b
        replace hzz := hzz.on b
        rewrite [cR b mal] at ma0 ma1 ma2 ma3
        replace mal := lK b mal
        rewrite [cR b lal] at la0 la1 la2 la3
        replace lal := lK b lal
        rewrite [cR b xsl] at xs0 xs1 xs2 xs3
        replace xsl := lK b xsl
        rewrite [cR b ysl] at ys0 ys1 ys2 ys3
        replace ysl := lK b ysl
        rewrite [cR b zsl] at zs0 zs1 zs2 zs3
        replace zsl := lK b zsl
        replace cc := bK cc b
        clear b
        go_wp2_with fail
        refine (CR _).mono ?_
        rintro e w20 ⟨rfl, b⟩
        replace hw := hw.on b
        replace hm := hm.on b
        replace hg := hg.on b
        replace hxp := hxp.on b
        replace hyp := hyp.on b
        replace hxq := hxq.on b
        replace hz := hz.on b
        replace hxt := hxt.on b
        replace hyt := hyt.on b
        replace hzw := hzw.on b
        replace hzz := hzz.on b
        rewrite [cR b mal] at ma0 ma1 ma2 ma3
        replace mal := lK b mal
        rewrite [cR b lal] at la0 la1 la2 la3
        replace lal := lK b lal
        rewrite [cR b xsl] at xs0 xs1 xs2 xs3
        replace xsl := lK b xsl
        rewrite [cR b ysl] at ys0 ys1 ys2 ys3
        replace ysl := lK b ysl
        rewrite [cR b zsl] at zs0 zs1 zs2 zs3
        replace zsl := lK b zsl
        replace cc := bK cc b
        clear b
        go_wp2_with fail
        go_ret
        exact ⟨rfl, cc⟩
      · skip
        subst h5
        go_wp2_with fail
        refine (alive17_any _).mono ?_
        rintro e w21 ⟨rfl, b⟩
        replace hw := hw.on b
        replace hm := hm.on b
        replace hg := hg.on b
        replace hxp := hxp.on b
        replace hyp := hyp.on b
        replace hxq := hxq.on b
        replace hz := hz.on b
        replace hxt := hxt.on b
        replace hyt := hyt.on b
        rewrite [cR b mal] at ma0 ma1 ma2 ma3
        replace mal := lK b mal
        rewrite [cR b lal] at la0 la1 la2 la3
        replace lal := lK b lal
        rewrite [cR b xsl] at xs0 xs1 xs2 xs3
        replace xsl := lK b xsl
        rewrite [cR b ysl] at ys0 ys1 ys2 ys3
        replace ysl := lK b ysl
        rewrite [cR b zsl] at zs0 zs1 zs2 zs3
        replace zsl := lK b zsl
        replace cc := bK cc b
        clear b
        go_wp2_with fail
        refine (CR _).mono ?_
        rintro e w22 ⟨rfl, b⟩
        replace hw := hw.on b
        replace hm := hm.on b
        replace hg := hg.on b
        replace hxp := hxp.on b
        replace hyp := hyp.on b
        replace hxq := hxq.on b
        replace hz := hz.on b
        replace hxt := hxt.on b
        replace hyt := hyt.on b
        rewrite [cR b mal] at ma0 ma1 ma2 ma3
        replace mal := lK b mal
        rewrite [cR b lal] at la0 la1 la2 la3
        replace lal := lK b lal
        rewrite [cR b xsl] at xs0 xs1 xs2 xs3
        replace xsl := lK b xsl
        rewrite [cR b ysl] at ys0 ys1 ys2 ys3
        replace ysl := lK b ysl
        rewrite [cR b zsl] at zs0 zs1 zs2 zs3
        replace zsl := lK b zsl
        replace cc := bK cc b
        clear b
        go_wp2_with fail
        go_ret
        exact ⟨rfl, cc⟩

theorem MomPlain_yes {w : World} {lr mu wd f : Int} {ne : Bool} {Aw : Option Addr} {nw cw : Nat} {Lw : List Int} {Am : Option Addr} {nm cm : Nat} {Lm : List Int} {Av : Option Addr} {nv cv : Nat} {Lv : List Int} {Ag : Option Addr} {ng cg : Nat} {Lg : List Int} (iL : I64 lr) (iU : I64 mu) (iD : I64 wd) (iF : I64 f) (hw : IR w Aw nw cw Lw) (hm : IR w Am nm cm Lm) (hv : IR w Av nv cv Lv) (hg : IR w Ag ng cg Lg) (ew : ∀ z ∈ Lw, I64 z) (em : ∀ z ∈ Lm, I64 z) (ev : ∀ z ∈ Lv, I64 z) (eg : ∀ z ∈ Lg, I64 z) (kw : nw ≤ 2305843009213693951) (km : nm ≤ 2305843009213693951) (kv : nv ≤ 2305843009213693951) (kg : ng ≤ 2305843009213693951) (hf : ((nw + nm + nv + ng : Nat) : Int) ≤ 36) (hq : nm = nw) (hq2 : ng = nw) (hc : stC17 lr 0 0 f false Lw Lm Lg = 0) :
    Calls Try.prog 6 #[.agg #[.int .i64 lr, .int .i64 mu, .int .i64 wd, .bool ne], .agg #[.slice Aw nw cw, .slice Am nm cm, .slice Av nv cv, .slice Ag ng cg], .int .i64 f] w (GotV w (.bool true)) := by
  have CF := fun W : World => nFew17_N (w := W) (Aw := Aw) (cw := cw) (Am := Am) (cm := cm) (Av := Av) (cv := cv) (Ag := Ag) (cg := cg) (most := 36) kw km kv kg
  rw [decide_eq_true hf] at CF
  obtain rfl : nm = nw := hq
  obtain rfl : ng = nm := hq2
  have CS1 := fun {W : World} {Aw : Option Addr} {cw : Nat} {Am : Option Addr} {cm : Nat} {Av : Option Addr} {nv cv : Nat} {Ag : Option Addr} {cg : Nat} (a : IR W Aw ng cw Lw) (b : IR W Am ng cm Lm) (c : IR W Ag ng cg Lg) => (mStep_N (ne := false) (lr := lr) (mu := 0) (wd := 0) (f := f) (Av := Av) (nv := nv) (cv := cv) iL (by unfold I64; omega) (by unfold I64; omega) iF a b c ew em eg (by omega) (by omega) (by omega)).mono (fun e w h => h.weak)
  have CS2 := fun {W : World} {Aw : Option Addr} {cw : Nat} {Am : Option Addr} {cm : Nat} {Av : Option Addr} {nv cv : Nat} {Ag : Option Addr} {cg : Nat} (a : IR W Aw ng cw Lw) (b : IR W Am ng cm Lm) (c : IR W Ag ng cg Lg) => (mStep_N (ne := ne) (lr := 0) (mu := mu) (wd := 0) (f := f) (Av := Av) (nv := nv) (cv := cv) (by unfold I64; omega) iU (by unfold I64; omega) iF a b c ew em eg (by omega) (by omega) (by omega)).mono (fun e w h => h.weak)
  have eZ : ∀ z ∈ (List.replicate ng (0 : Int)), I64 z := fun z hz => by rw [List.eq_of_mem_replicate hz]; exact i64_0
  have CS3 := fun {W : World} {Aw : Option Addr} {cw : Nat} {Am : Option Addr} {cm : Nat} {Ag : Option Addr} {cg : Nat} (a : IR W Aw ng cw Lw) (b : IR W Am ng cm (List.replicate ng 0)) (c : IR W Ag ng cg (List.replicate ng 0)) => (mStep_N (ne := ne) (lr := lr) (mu := mu) (wd := 0) (f := f) (Av := none) (nv := 0) (cv := 0) iL iU (by unfold I64; omega) iF a b c ew eZ eZ (by omega) (by omega) (by omega)).mono (fun e w h => h.weak)
  have CR := fun W : World => nRight17_N (w := W) (lr := lr) (mu := mu) (wd := 0) (f := f) (ne := false)
  have hmk := zr17_run ng (by omega)
  have hn0 := hw.1
  have hal1 := all17 (lr := lr) (mu := 0) (wd := 0) (f := f) (ne := false) (LW := Lw) (LM := Lm) (LG := Lg)
  have HFF : Hid (0 ≤ f ∧ f ≤ 40) := Lib.hid ⟨(stC_zero hc).1.1, (stC_zero hc).1.2.1⟩
  have HP1 := Lib.hid (fun (i : Nat) (hi : i < Lw.length) => plain17 hc hi)
  have HLG := Lib.hid (long17 hc)
  rw [hc] at CS1
  have c1 : ((0 : Int) == 0) = true := rfl
  clear hc
  generalize stRW17 lr 0 0 f false Lw Lm Lg = X1W at *
  generalize stRV17 lr 0 0 f false Lw Lm Lg = X1V at *
  have HAL := Lib.hid hal1
  clear hal1
  have HG : Hid (((stC17 0 mu 0 f ne Lw Lm Lg == 0) = true ∧ stRW17 0 mu 0 f ne Lw Lm Lg = Lw) ∨ (stC17 0 mu 0 f ne Lw Lm Lg == 0) = false) := Lib.hid (by by_cases h : stC17 0 mu 0 f ne Lw Lm Lg = 0; exact .inl ⟨beq_iff_eq.2 h, still17 h⟩; exact .inr (beq_eq_false_iff_ne.2 h))
  generalize stRW17 0 mu 0 f ne Lw Lm Lg = X2W at *
  generalize stRV17 0 mu 0 f ne Lw Lm Lg = X2V at *
  generalize stC17 0 mu 0 f ne Lw Lm Lg = C2 at *
  have HH : Hid (((stC17 lr mu 0 f ne Lw (List.replicate ng 0) (List.replicate ng 0) == 0) = true ∧ (stC17 lr mu 0 f ne Lw (List.replicate ng 0) (List.replicate ng 0) != 0) = false ∧ stRW17 lr mu 0 f ne Lw (List.replicate ng 0) (List.replicate ng 0) = Lw ∧ stRV17 lr mu 0 f ne Lw (List.replicate ng 0) (List.replicate ng 0) = List.replicate ng 0 ∧ decide (OkM17 lr mu 0 f) = true) ∨ ((stC17 lr mu 0 f ne Lw (List.replicate ng 0) (List.replicate ng 0) == 0) = false ∧ (stC17 lr mu 0 f ne Lw (List.replicate ng 0) (List.replicate ng 0) != 0) = true ∧ decide (OkM17 lr mu 0 f) = false)) := Lib.hid (by
    rw [hn0]
    by_cases hK : OkM17 lr mu 0 f
    · obtain ⟨h1, h2, h3⟩ := zeros17 (ne := ne) hK ew
      exact .inl ⟨by rw [h1]; rfl, by rw [h1]; rfl, h2, h3, decide_eq_true hK⟩
    · rw [zeros_no17 hK]; exact .inr ⟨rfl, rfl, decide_eq_false hK⟩)
  generalize stRW17 lr mu 0 f ne Lw (List.replicate ng 0) (List.replicate ng 0) = X3W at *
  generalize stRV17 lr mu 0 f ne Lw (List.replicate ng 0) (List.replicate ng 0) = X3V at *
  generalize stC17 lr mu 0 f ne Lw (List.replicate ng 0) (List.replicate ng 0) = C3 at *
  generalize decide (OkM17 lr mu 0 f) = r at *
  have HEE := Lib.hid (show (∀ z ∈ Lw, I64 z) ∧ ∀ z ∈ Lg, I64 z from ⟨ew, eg⟩)
  have HN := Lib.hid hn0
  have HKN : Hid (ng ≤ 36) := Lib.hid (by omega)
  have un : ((ng : Int) == (ng : Int)) = true := beq_iff_eq.2 (by omega)
  have vn : ((ng : Int) != (ng : Int)) = false := by simp <;> omega
  have xn : (ng == ng) = true := beq_iff_eq.2 (by omega)
  have yn : (ng != ng) = false := by simp <;> omega
  have HI : Hid (I64 lr) := Lib.hid iL
  have kng : ng ≤ 9223372036854775807 := by omega
  have HK9 := Lib.hid kng
  have CSa : ∀ {W : World} {A B : Option Addr} {n c m d : Nat} {L : List Int}, IR W A n c L → IR W B m d L → L.length = ng → Calls Try.prog 21 #[.slice A n c, .slice B m d] W (GotV W (.bool true)) := fun a b e => by have h := rsameI_N a b (by rw [a.1, e]; exact HK9.out); rw [decide_eq_true rfl] at h; exact h
  clear iL iU iD iF ew em ev eg kw km kv kg hf hv hn0 eZ kng
  have cc := Below.refl w.heap.size w
  go_enter Try.func6, Try.ntmps6
  go_wp2_with fail
  generalize hv_ : (w.alloc (.cells #[.int .i64 lr, .int .i64 mu, .int .i64 wd, .bool ne] 23)).alloc (.cells #[.slice Aw ng cw, .slice Am ng cm, .slice Av nv cv, .slice Ag ng cg] 26) = v1
  have bA : Below w.heap.size w v1 := by rw [← hv_]; exact (((Below.refl _ w).alloc (by simp) _).alloc (by simp) _)
  replace hw := hw.on bA
  replace hm := hm.on bA
  replace hg := hg.on bA
  replace cc := bK cc bA
  clear bA
  have ma0 : v1.cell? ⟨w.heap.size, 0, none⟩ = some (.int .i64 lr) := by simp [← hv_, go_sem]
  have ma1 : v1.cell? ⟨w.heap.size, 1, none⟩ = some (.int .i64 mu) := by simp [← hv_, go_sem]
  have ma2 : v1.cell? ⟨w.heap.size, 2, none⟩ = some (.int .i64 wd) := by simp [← hv_, go_sem]
  have ma3 : v1.cell? ⟨w.heap.size, 3, none⟩ = some (.bool ne) := by simp [← hv_, go_sem]
  have mal : w.heap.size < v1.heap.size := by simp [← hv_] <;> omega
  have la0 : v1.cell? ⟨w.heap.size + 1, 0, none⟩ = some (.slice Aw ng cw) := by simp [← hv_, go_sem]
  have la1 : v1.cell? ⟨w.heap.size + 1, 1, none⟩ = some (.slice Am ng cm) := by simp [← hv_, go_sem]
  have la2 : v1.cell? ⟨w.heap.size + 1, 2, none⟩ = some (.slice Av nv cv) := by simp [← hv_, go_sem]
  have la3 : v1.cell? ⟨w.heap.size + 1, 3, none⟩ = some (.slice Ag ng cg) := by simp [← hv_, go_sem]
  have lal : w.heap.size + 1 < v1.heap.size := by simp [← hv_] <;> omega
  clear hv_
  refine (CF _).mono ?_
  rintro e w2 ⟨rfl, b⟩
  replace hw := hw.on b
  replace hm := hm.on b
  replace hg := hg.on b
  rewrite [cR b mal] at ma0 ma1 ma2 ma3
  replace mal := lK b mal
  rewrite [cR b lal] at la0 la1 la2 la3
  replace lal := lK b lal
  replace cc := bK cc b
  clear b
  go_upto_region 3 with fail
  go_cut [7, 8] (fun u v wx => ∃ g1 g2 : Nat, u = .pointer (some ⟨g1, 0, none⟩) ∧ v = .pointer (some ⟨g2, 0, none⟩) ∧ (wx.cell? ⟨g1, 0, none⟩ = some (.int .i64 lr) ∧ wx.cell? ⟨g1, 1, none⟩ = some (.int .i64 0) ∧ wx.cell? ⟨g1, 2, none⟩ = some (.int .i64 0) ∧ wx.cell? ⟨g1, 3, none⟩ = some (.bool false)) ∧ (wx.cell? ⟨g2, 0, none⟩ = some (.int .i64 0) ∧ wx.cell? ⟨g2, 1, none⟩ = some (.int .i64 mu) ∧ wx.cell? ⟨g2, 2, none⟩ = some (.int .i64 0) ∧ wx.cell? ⟨g2, 3, none⟩ = some (.bool ne)) ∧ Below w2.heap.size w2 wx)
  case first =>
    have bR : Below w2.heap.size w2 w2 := Below.refl _ _
    have k_ma0 : ∀ W : World, Below w2.heap.size w2 W → W.cell? ⟨w.heap.size, 0, none⟩ = some (.int .i64 lr) := fun W b => cK b ma0 mal
    have k_ma1 : ∀ W : World, Below w2.heap.size w2 W → W.cell? ⟨w.heap.size, 1, none⟩ = some (.int .i64 mu) := fun W b => cK b ma1 mal
    have k_ma2 : ∀ W : World, Below w2.heap.size w2 W → W.cell? ⟨w.heap.size, 2, none⟩ = some (.int .i64 wd) := fun W b => cK b ma2 mal
    have k_ma3 : ∀ W : World, Below w2.heap.size w2 W → W.cell? ⟨w.heap.size, 3, none⟩ = some (.bool ne) := fun W b => cK b ma3 mal
    have k_la0 : ∀ W : World, Below w2.heap.size w2 W → W.cell? ⟨w.heap.size + 1, 0, none⟩ = some (.slice Aw ng cw) := fun W b => cK b la0 lal
    have k_la1 : ∀ W : World, Below w2.heap.size w2 W → W.cell? ⟨w.heap.size + 1, 1, none⟩ = some (.slice Am ng cm) := fun W b => cK b la1 lal
    have k_la2 : ∀ W : World, Below w2.heap.size w2 W → W.cell? ⟨w.heap.size + 1, 2, none⟩ = some (.slice Av nv cv) := fun W b => cK b la2 lal
    have k_la3 : ∀ W : World, Below w2.heap.size w2 W → W.cell? ⟨w.heap.size + 1, 3, none⟩ = some (.slice Ag ng cg) := fun W b => cK b la3 lal
    clear ma0 ma1 ma2 ma3 la0 la1 la2 la3
    go_region_held3 (fun w' => Below w2.heap.size w2 w')
      (repeat' (first | with_reducible assumption | with_reducible refine below_al17 _ ?_ | with_reducible refine below_dr17 ?_ | with_reducible refine below_sc17 _ ?_ () ?_ | (first | omega | (simp; omega))))
      (fail)
    all_goals (go_wp2_with fail; go_meet)
    all_goals refine ⟨_, _, rfl, rfl, ⟨by simp [go_sem], by simp [go_sem], by simp [go_sem], by simp [go_sem]⟩, ⟨by simp [go_sem], by simp [go_sem], by simp [go_sem], by simp [go_sem]⟩, ?_⟩
    all_goals (repeat' (first | with_reducible assumption | with_reducible refine below_al17 _ ?_ | with_reducible refine below_dr17 ?_ | with_reducible refine below_sc17 _ ?_ () ?_ | (first | omega | (simp; omega))))
  case rest =>
    obtain ⟨gpl, gst, rfl, rfl, ⟨pl0, pl1, pl2, pl3⟩, ⟨st0, st1, st2, st3⟩, b⟩ := hcut
    have pll := cell_lt pl0
    have stl := cell_lt st0
    simp only at pll stl
    replace hw := hw.on b
    replace hm := hm.on b
    replace hg := hg.on b
    rewrite [cR b mal] at ma0 ma1 ma2 ma3
    replace mal := lK b mal
    rewrite [cR b lal] at la0 la1 la2 la3
    replace lal := lK b lal
    replace cc := bK cc b
    clear b
    obtain ⟨wq1, rfl⟩ : ∃ W, W = wc := ⟨_, rfl⟩
    go_wp2_with fail
    refine (CS1 hw hm hg).mono ?_
    rintro e w3 ⟨Ap, np, cp, Bp, mp, dp, rfl, hxp, hyp, b⟩
    replace hw := hw.on b
    replace hm := hm.on b
    replace hg := hg.on b
    rewrite [cR b mal] at ma0 ma1 ma2 ma3
    replace mal := lK b mal
    rewrite [cR b lal] at la0 la1 la2 la3
    replace lal := lK b lal
    rewrite [cR b pll] at pl0 pl1 pl2 pl3
    replace pll := lK b pll
    rewrite [cR b stl] at st0 st1 st2 st3
    replace stl := lK b stl
    replace cc := bK cc b
    clear b
    clear pl0 pl1 pl2 pl3 pll
    go_upto_region 5 with fail
    generalize hv_ : w3.alloc (.cells #[.slice Ap np cp, .slice Bp mp dp, .slice none 0 0, .slice none 0 0] 26) = v4
    have bA : Below w3.heap.size w3 v4 := by rw [← hv_]; exact below_one _ _
    replace hw := hw.on bA
    replace hm := hm.on bA
    replace hg := hg.on bA
    replace hxp := hxp.on bA
    replace hyp := hyp.on bA
    rewrite [cR bA mal] at ma0 ma1 ma2 ma3
    replace mal := lK bA mal
    rewrite [cR bA lal] at la0 la1 la2 la3
    replace lal := lK bA lal
    rewrite [cR bA stl] at st0 st1 st2 st3
    replace stl := lK bA stl
    replace cc := bK cc bA
    clear bA
    have xs0 : v4.cell? ⟨w3.heap.size, 0, none⟩ = some (.slice Ap np cp) := by simp [← hv_, go_sem]
    have xs1 : v4.cell? ⟨w3.heap.size, 1, none⟩ = some (.slice Bp mp dp) := by simp [← hv_, go_sem]
    have xs2 : v4.cell? ⟨w3.heap.size, 2, none⟩ = some (.slice none 0 0) := by simp [← hv_, go_sem]
    have xs3 : v4.cell? ⟨w3.heap.size, 3, none⟩ = some (.slice none 0 0) := by simp [← hv_, go_sem]
    have xsl : w3.heap.size < v4.heap.size := by simp [← hv_]
    clear hv_
    go_wp2_with fail
    refine (CS2 hw hm hg).mono ?_
    rintro e w5 ⟨Aq, nq, cq, Bq, mq, dq, rfl, hxq, hyq, b⟩
    replace hw := hw.on b
    replace hm := hm.on b
    replace hg := hg.on b
    replace hxp := hxp.on b
    replace hyp := hyp.on b
    rewrite [cR b mal] at ma0 ma1 ma2 ma3
    replace mal := lK b mal
    rewrite [cR b lal] at la0 la1 la2 la3
    replace lal := lK b lal
    rewrite [cR b stl] at st0 st1 st2 st3
    replace stl := lK b stl
    rewrite [cR b xsl] at xs0 xs1 xs2 xs3
    replace xsl := lK b xsl
    replace cc := bK cc b
    clear b
    clear hyq st0 st1 st2 st3 stl
    go_upto_region 6 with fail
    generalize hv_ : w5.alloc (.cells #[.slice Aq nq cq, .slice Bq mq dq, .slice none 0 0, .slice none 0 0] 26) = v6
    have bA : Below w5.heap.size w5 v6 := by rw [← hv_]; exact below_one _ _
    replace hw := hw.on bA
    replace hm := hm.on bA
    replace hg := hg.on bA
    replace hxp := hxp.on bA
    replace hyp := hyp.on bA
    replace hxq := hxq.on bA
    rewrite [cR bA mal] at ma0 ma1 ma2 ma3
    replace mal := lK bA mal
    rewrite [cR bA lal] at la0 la1 la2 la3
    replace lal := lK bA lal
    rewrite [cR bA xsl] at xs0 xs1 xs2 xs3
    replace xsl := lK bA xsl
    replace cc := bK cc bA
    clear bA
    have ys0 : v6.cell? ⟨w5.heap.size, 0, none⟩ = some (.slice Aq nq cq) := by simp [← hv_, go_sem]
    have ys1 : v6.cell? ⟨w5.heap.size, 1, none⟩ = some (.slice Bq mq dq) := by simp [← hv_, go_sem]
    have ys2 : v6.cell? ⟨w5.heap.size, 2, none⟩ = some (.slice none 0 0) := by simp [← hv_, go_sem]
    have ys3 : v6.cell? ⟨w5.heap.size, 3, none⟩ = some (.slice none 0 0) := by simp [← hv_, go_sem]
    have ysl : w5.heap.size < v6.heap.size := by simp [← hv_]
    clear hv_
    go_upto_region 7 with fail
    have hz := ir_zr17 ng v6
    have b := one_upD v6 (zr17 ng)
    replace hw := hw.on b
    replace hm := hm.on b
    replace hg := hg.on b
    replace hxp := hxp.on b
    replace hyp := hyp.on b
    replace hxq := hxq.on b
    rewrite [cR b mal] at ma0 ma1 ma2 ma3
    replace mal := lK b mal
    rewrite [cR b lal] at la0 la1 la2 la3
    replace lal := lK b lal
    rewrite [cR b xsl] at xs0 xs1 xs2 xs3
    replace xsl := lK b xsl
    rewrite [cR b ysl] at ys0 ys1 ys2 ys3
    replace ysl := lK b ysl
    replace cc := bK cc b
    clear b
    generalize v6.alloc (zr17 ng) = vz at *
    obtain ⟨gz, egz⟩ : ∃ g, v6.heap.size = g := ⟨_, rfl⟩
    rw [egz] at hz ⊢
    clear egz
    go_wp2_with fail
    refine (CS3 hw hz hz).mono ?_
    rintro e w7 ⟨At, nt, ct, Bt, mt, dt, rfl, hxt, hyt, b⟩
    replace hw := hw.on b
    replace hm := hm.on b
    replace hg := hg.on b
    replace hxp := hxp.on b
    replace hyp := hyp.on b
    replace hxq := hxq.on b
    replace hz := hz.on b
    rewrite [cR b mal] at ma0 ma1 ma2 ma3
    replace mal := lK b mal
    rewrite [cR b lal] at la0 la1 la2 la3
    replace lal := lK b lal
    rewrite [cR b xsl] at xs0 xs1 xs2 xs3
    replace xsl := lK b xsl
    rewrite [cR b ysl] at ys0 ys1 ys2 ys3
    replace ysl := lK b ysl
    replace cc := bK cc b
    clear b
    go_upto_region 8 with fail
    generalize hv_ : w7.alloc (.cells #[.slice At nt ct, .slice Bt mt dt, .slice none 0 0, .slice none 0 0] 26) = v8
    have bA : Below w7.heap.size w7 v8 := by rw [← hv_]; exact below_one _ _
    replace hw := hw.on bA
    replace hm := hm.on bA
    replace hg := hg.on bA
    replace hxp := hxp.on bA
    replace hyp := hyp.on bA
    replace hxq := hxq.on bA
    replace hz := hz.on bA
    replace hxt := hxt.on bA
    replace hyt := hyt.on bA
    rewrite [cR bA mal] at ma0 ma1 ma2 ma3
    replace mal := lK bA mal
    rewrite [cR bA lal] at la0 la1 la2 la3
    replace lal := lK bA lal
    rewrite [cR bA xsl] at xs0 xs1 xs2 xs3
    replace xsl := lK bA xsl
    rewrite [cR bA ysl] at ys0 ys1 ys2 ys3
    replace ysl := lK bA ysl
    replace cc := bK cc bA
    clear bA
    have zs0 : v8.cell? ⟨w7.heap.size, 0, none⟩ = some (.slice At nt ct) := by simp [← hv_, go_sem]
    have zs1 : v8.cell? ⟨w7.heap.size, 1, none⟩ = some (.slice Bt mt dt) := by simp [← hv_, go_sem]
    have zs2 : v8.cell? ⟨w7.heap.size, 2, none⟩ = some (.slice none 0 0) := by simp [← hv_, go_sem]
    have zs3 : v8.cell? ⟨w7.heap.size, 3, none⟩ = some (.slice none 0 0) := by simp [← hv_, go_sem]
    have zsl : w7.heap.size < v8.heap.size := by simp [← hv_]
    clear hv_
    obtain rfl : np = ng := by have := hxp.1; have := HLG.out.1; have := HN.out; omega
    obtain rfl : mp = np := by have := hyp.1; have := HLG.out.2; have := HN.out; omega
    have Hma0 := Lib.hid ma0
    have Hma1 := Lib.hid ma1
    have Hma2 := Lib.hid ma2
    have Hma3 := Lib.hid ma3
    have Hmal := Lib.hid mal
    have Hla0 := Lib.hid la0
    have Hla1 := Lib.hid la1
    have Hla2 := Lib.hid la2
    have Hla3 := Lib.hid la3
    have Hlal := Lib.hid lal
    have Hxs0 := Lib.hid xs0
    have Hxs1 := Lib.hid xs1
    have Hxs2 := Lib.hid xs2
    have Hxs3 := Lib.hid xs3
    have Hxsl := Lib.hid xsl
    have Hys0 := Lib.hid ys0
    have Hys1 := Lib.hid ys1
    have Hys2 := Lib.hid ys2
    have Hys3 := Lib.hid ys3
    have Hysl := Lib.hid ysl
    have Hzs0 := Lib.hid zs0
    have Hzs1 := Lib.hid zs1
    have Hzs2 := Lib.hid zs2
    have Hzs3 := Lib.hid zs3
    have Hzsl := Lib.hid zsl
    have H_hw := Lib.hid hw
    have H_hm := Lib.hid hm
    have H_hg := Lib.hid hg
    have H_hxp := Lib.hid hxp
    have H_hyp := Lib.hid hyp
    have H_hxq := Lib.hid hxq
    have H_hz := Lib.hid hz
    have H_hxt := Lib.hid hxt
    have H_hyt := Lib.hid hyt
    have H_cc := Lib.hid cc
    go_wp2_with fail
    clear cc hw hm hg hxp hyp hxq hz hxt hyt ma0 ma1 ma2 ma3 la0 la1 la2 la3 xs0 xs1 xs2 xs3 ys0 ys1 ys2 ys3 zs0 zs1 zs2 zs3 mal lal xsl ysl zsl
    go_loopw [16] (fun iv wr => ∃ i : Nat, i ≤ mp ∧ iv = .int .i64 (i : Int) ∧ Below v8.heap.size v8 wr) (fun iv _ => mp - (intOf iv).toNat)
    case atStart => exact ⟨0, by omega, rfl, Below.refl _ _⟩
    case round =>
      obtain ⟨i, hi_, rfl, bl⟩ := hrel
      have ma0 := (bl.cell (p := ⟨w.heap.size, 0, none⟩) Hmal.out).trans Hma0.out
      have ma1 := (bl.cell (p := ⟨w.heap.size, 1, none⟩) Hmal.out).trans Hma1.out
      have ma2 := (bl.cell (p := ⟨w.heap.size, 2, none⟩) Hmal.out).trans Hma2.out
      have ma3 := (bl.cell (p := ⟨w.heap.size, 3, none⟩) Hmal.out).trans Hma3.out
      have mal := Nat.lt_of_lt_of_le Hmal.out bl.size
      have la0 := (bl.cell (p := ⟨w.heap.size + 1, 0, none⟩) Hlal.out).trans Hla0.out
      have la1 := (bl.cell (p := ⟨w.heap.size + 1, 1, none⟩) Hlal.out).trans Hla1.out
      have la2 := (bl.cell (p := ⟨w.heap.size + 1, 2, none⟩) Hlal.out).trans Hla2.out
      have la3 := (bl.cell (p := ⟨w.heap.size + 1, 3, none⟩) Hlal.out).trans Hla3.out
      have lal := Nat.lt_of_lt_of_le Hlal.out bl.size
      have xs0 := (bl.cell (p := ⟨w3.heap.size, 0, none⟩) Hxsl.out).trans Hxs0.out
      have xs1 := (bl.cell (p := ⟨w3.heap.size, 1, none⟩) Hxsl.out).trans Hxs1.out
      have xs2 := (bl.cell (p := ⟨w3.heap.size, 2, none⟩) Hxsl.out).trans Hxs2.out
      have xs3 := (bl.cell (p := ⟨w3.heap.size, 3, none⟩) Hxsl.out).trans Hxs3.out
      have xsl := Nat.lt_of_lt_of_le Hxsl.out bl.size
      have ys0 := (bl.cell (p := ⟨w5.heap.size, 0, none⟩) Hysl.out).trans Hys0.out
      have ys1 := (bl.cell (p := ⟨w5.heap.size, 1, none⟩) Hysl.out).trans Hys1.out
      have ys2 := (bl.cell (p := ⟨w5.heap.size, 2, none⟩) Hysl.out).trans Hys2.out
      have ys3 := (bl.cell (p := ⟨w5.heap.size, 3, none⟩) Hysl.out).trans Hys3.out
      have ysl := Nat.lt_of_lt_of_le Hysl.out bl.size
      have zs0 := (bl.cell (p := ⟨w7.heap.size, 0, none⟩) Hzsl.out).trans Hzs0.out
      have zs1 := (bl.cell (p := ⟨w7.heap.size, 1, none⟩) Hzsl.out).trans Hzs1.out
      have zs2 := (bl.cell (p := ⟨w7.heap.size, 2, none⟩) Hzsl.out).trans Hzs2.out
      have zs3 := (bl.cell (p := ⟨w7.heap.size, 3, none⟩) Hzsl.out).trans Hzs3.out
      have zsl := Nat.lt_of_lt_of_le Hzsl.out bl.size
      have cc := H_cc.out.trans (bl.mono H_cc.out.size)
      by_cases hlt : i < mp
      · have jl : (i : Int) < (mp : Int) := by omega
        have blv := bl
        obtain ⟨b0_, o0_, rfl, b0_l, b0_c⟩ := (H_hw.out.on bl).2.2 (by omega)
        have e0_ := b0_c i hlt
        clear b0_c
        obtain ⟨b2_, o2_, rfl, b2_l, b2_c⟩ := (H_hg.out.on bl).2.2 (by omega)
        have e2_ := b2_c i hlt
        clear b2_c
        obtain ⟨b3_, o3_, rfl, b3_l, b3_c⟩ := (H_hxp.out.on bl).2.2 (by omega)
        have e3_ := b3_c i hlt
        clear b3_c
        obtain ⟨b4_, o4_, rfl, b4_l, b4_c⟩ := (H_hyp.out.on bl).2.2 (by omega)
        have e4_ := b4_c i hlt
        clear b4_c
        obtain ⟨p1, p2, p3⟩ := HP1.out i (by rw [← HN.out]; exact hlt)
        have i2 := at17 HEE.out.2 i
        have i3 := at17 HAL.out.1 i
        generalize Lw[i]?.getD 0 = x0 at *
        generalize Lg[i]?.getD 0 = x2 at *
        generalize X1W[i]?.getD 0 = yW at *
        generalize X1V[i]?.getD 0 = yV at *
        have f0 : 0 ≤ f ∧ f ≤ 40 := HFF.out
        have CMu := fun W : World => rmul8_N (w := W) HI.out i2 f0.1 f0.2
        rw [(nI_yes p2).1, (nI_yes p2).2] at CMu
        obtain ⟨by_, eb⟩ : ∃ x, rn (lr * x2) (2 ^ f.toNat) = x := ⟨_, rfl⟩
        rw [eb] at CMu p3
        have kx : IntKind.i64.wrap (x0 - by_) = yW := by rw [p3]; rw [p3] at i3; exact IntWalk.i64_in _ i3
        have p1b : (yV == x2) = true := beq_iff_eq.2 p1
        have p1c : (yV != x2) = false := by simp [p1]
        have s1 : (yW == yW) = true := beq_self_eq_true _
        have s1c : (yW != yW) = false := by simp
        have k3 : IntKind.i64.wrap ((i : Int) + 1) = ((i + 1 : Nat) : Int) := by have := HKN.out; rw [IntWalk.i64_in _ (by omega)]; omega
        clear p1 p2 p3 eb f0 i2 i3
        clear ys0 ys1 ys2 ys3 zs0 zs1 zs2 zs3 ysl zsl
        go_wp2_with fail
        have bD : Below wr.heap.size wr wr.drew := below_drewN (Below.refl _ wr) 1
        replace e0_ := cK bD e0_ b0_l
        replace e2_ := cK bD e2_ b2_l
        replace e3_ := cK bD e3_ b3_l
        replace e4_ := cK bD e4_ b4_l
        replace b0_l := lK bD b0_l
        replace b2_l := lK bD b2_l
        replace b3_l := lK bD b3_l
        replace b4_l := lK bD b4_l
        rewrite [cR bD mal] at ma0 ma1 ma2 ma3
        replace mal := lK bD mal
        rewrite [cR bD lal] at la0 la1 la2 la3
        replace lal := lK bD lal
        rewrite [cR bD xsl] at xs0 xs1 xs2 xs3
        replace xsl := lK bD xsl
        replace cc := bK cc bD
        replace blv := bK blv bD
        clear bD
        refine wp_region_held_drew (S := fun w' => w'.cell? ⟨b0_, o0_ + i, none⟩ = some (.int .i64 x0) ∧ w'.cell? ⟨b2_, o2_ + i, none⟩ = some (.int .i64 x2) ∧ w'.cell? ⟨b3_, o3_ + i, none⟩ = some (.int .i64 yW) ∧ w'.cell? ⟨b4_, o4_ + i, none⟩ = some (.int .i64 yV) ∧ w'.cell? ⟨w.heap.size, 0, none⟩ = some (.int .i64 lr) ∧ w'.cell? ⟨w.heap.size, 1, none⟩ = some (.int .i64 mu) ∧ w'.cell? ⟨w.heap.size, 2, none⟩ = some (.int .i64 wd) ∧ w'.cell? ⟨w.heap.size, 3, none⟩ = some (.bool ne) ∧ w'.cell? ⟨w.heap.size + 1, 0, none⟩ = some (.slice (some ⟨b0_, o0_, none⟩) mp cw) ∧ w'.cell? ⟨w.heap.size + 1, 1, none⟩ = some (.slice Am mp cm) ∧ w'.cell? ⟨w.heap.size + 1, 2, none⟩ = some (.slice Av nv cv) ∧ w'.cell? ⟨w.heap.size + 1, 3, none⟩ = some (.slice (some ⟨b2_, o2_, none⟩) mp cg) ∧ w'.cell? ⟨w3.heap.size, 0, none⟩ = some (.slice (some ⟨b3_, o3_, none⟩) mp cp) ∧ w'.cell? ⟨w3.heap.size, 1, none⟩ = some (.slice (some ⟨b4_, o4_, none⟩) mp dp) ∧ w'.cell? ⟨w3.heap.size, 2, none⟩ = some (.slice none 0 0) ∧ w'.cell? ⟨w3.heap.size, 3, none⟩ = some (.slice none 0 0)) (by kernel_rfl) ?_ (fun hHeld => ?_)
        · exact ⟨e0_, e2_, e3_, e4_, ma0, ma1, ma2, ma3, la0, la1, la2, la3, xs0, xs1, xs2, xs3⟩
        refine tY (i := 0) (v := ?_) rfl ?_ hHeld ?_
        rotate_left
        · (intro w hSw; (try dsimp only at hSw); go_simp; (try with_reducible rfl))
        try simp only [Act.put, pT]
        refine tY (i := 1) (v := ?_) rfl ?_ hHeld ?_
        rotate_left
        · (intro w hSw; (try dsimp only at hSw); go_simp; (try with_reducible rfl))
        try simp only [Act.put, pT]
        refine tY (i := 2) (v := ?_) rfl ?_ hHeld ?_
        rotate_left
        · (intro w hSw; (try dsimp only at hSw); go_simp; (try with_reducible rfl))
        try simp only [Act.put, pT]
        refine tY (i := 3) (v := ?_) rfl ?_ hHeld ?_
        rotate_left
        · (intro w hSw; (try dsimp only at hSw); go_simp; (try with_reducible rfl))
        try simp only [Act.put, pT]
        refine tY (i := 4) (v := ?_) rfl ?_ hHeld ?_
        rotate_left
        · (intro w hSw; (try dsimp only at hSw); go_simp; (try with_reducible rfl))
        try simp only [Act.put, pT]
        refine tY (i := 5) (v := ?_) rfl ?_ hHeld ?_
        rotate_left
        · (intro w hSw; (try dsimp only at hSw); go_simp; (try with_reducible rfl))
        try simp only [Act.put, pT]
        refine tY (i := 6) (v := ?_) rfl ?_ hHeld ?_
        rotate_left
        · (intro w hSw; (try dsimp only at hSw); go_simp; (try with_reducible rfl))
        try simp only [Act.put, pT]
        refine tY (i := 7) (v := ?_) rfl ?_ hHeld ?_
        rotate_left
        · (intro w hSw; (try dsimp only at hSw); go_simp; (try with_reducible rfl))
        try simp only [Act.put, pT]
        refine wpAnyH_ready (rs := [8]) (by kernel_rfl) (by simp) ?_
        refine AllReadyH.cons rfl (fun K hK => ?_) AllReadyH.nil
        (try simp only [pT])
        rw [if_pos (by rfl)]
        go_simp
        go_at_call 18
        refine (CMu _).mono ?_
        rintro e w9 ⟨rfl, b⟩
        replace e0_ := cK b e0_ b0_l
        replace e2_ := cK b e2_ b2_l
        replace e3_ := cK b e3_ b3_l
        replace e4_ := cK b e4_ b4_l
        replace b0_l := lK b b0_l
        replace b2_l := lK b b2_l
        replace b3_l := lK b b3_l
        replace b4_l := lK b b4_l
        rewrite [cR b mal] at ma0 ma1 ma2 ma3
        replace mal := lK b mal
        rewrite [cR b lal] at la0 la1 la2 la3
        replace lal := lK b lal
        rewrite [cR b xsl] at xs0 xs1 xs2 xs3
        replace xsl := lK b xsl
        replace cc := bK cc b
        replace blv := bK blv b
        clear b
        refine hK.out _ _ ?_ (fun hHeld => ?_)
        · exact ⟨e0_, e2_, e3_, e4_, ma0, ma1, ma2, ma3, la0, la1, la2, la3, xs0, xs1, xs2, xs3⟩
        clear hK K
        try simp only [Act.put, pT]
        refine tY (i := 9) (v := ?_) rfl ?_ hHeld ?_
        rotate_left
        · (intro w hSw; (try dsimp only at hSw); go_simp; (try with_reducible rfl))
        try simp only [Act.put, pT]
        refine tY (i := 10) (v := ?_) rfl ?_ hHeld ?_
        rotate_left
        · (intro w hSw; (try dsimp only at hSw); go_simp; (try with_reducible rfl))
        try simp only [Act.put, pT]
        refine tY (i := 11) (v := ?_) rfl ?_ hHeld ?_
        rotate_left
        · (intro w hSw; (try dsimp only at hSw); go_simp; (try with_reducible rfl))
        try simp only [Act.put, pT]
        refine tY (i := 12) (v := ?_) rfl ?_ hHeld ?_
        rotate_left
        · (intro w hSw; (try dsimp only at hSw); go_simp; (try with_reducible rfl))
        try simp only [Act.put, pT]
        refine tY (i := 13) (v := ?_) rfl ?_ hHeld ?_
        rotate_left
        · (intro w hSw; (try dsimp only at hSw); go_simp; (try with_reducible rfl))
        try simp only [Act.put, pT]
        refine wpAnyH_done (by kernel_rfl) ?_ _
        clear hHeld
        go_wp2_with fail
        have bD : Below w9.heap.size w9 w9.drew := below_drewN (Below.refl _ w9) 1
        replace e0_ := cK bD e0_ b0_l
        replace e2_ := cK bD e2_ b2_l
        replace e3_ := cK bD e3_ b3_l
        replace e4_ := cK bD e4_ b4_l
        replace b0_l := lK bD b0_l
        replace b2_l := lK bD b2_l
        replace b3_l := lK bD b3_l
        replace b4_l := lK bD b4_l
        rewrite [cR bD mal] at ma0 ma1 ma2 ma3
        replace mal := lK bD mal
        rewrite [cR bD lal] at la0 la1 la2 la3
        replace lal := lK bD lal
        rewrite [cR bD xsl] at xs0 xs1 xs2 xs3
        replace xsl := lK bD xsl
        replace cc := bK cc bD
        replace blv := bK blv bD
        clear bD
        refine wp_region_held_drew (S := fun w' => w'.cell? ⟨b0_, o0_ + i, none⟩ = some (.int .i64 x0) ∧ w'.cell? ⟨b2_, o2_ + i, none⟩ = some (.int .i64 x2) ∧ w'.cell? ⟨b3_, o3_ + i, none⟩ = some (.int .i64 yW) ∧ w'.cell? ⟨b4_, o4_ + i, none⟩ = some (.int .i64 yV) ∧ w'.cell? ⟨w.heap.size, 0, none⟩ = some (.int .i64 lr) ∧ w'.cell? ⟨w.heap.size, 1, none⟩ = some (.int .i64 mu) ∧ w'.cell? ⟨w.heap.size, 2, none⟩ = some (.int .i64 wd) ∧ w'.cell? ⟨w.heap.size, 3, none⟩ = some (.bool ne) ∧ w'.cell? ⟨w.heap.size + 1, 0, none⟩ = some (.slice (some ⟨b0_, o0_, none⟩) mp cw) ∧ w'.cell? ⟨w.heap.size + 1, 1, none⟩ = some (.slice Am mp cm) ∧ w'.cell? ⟨w.heap.size + 1, 2, none⟩ = some (.slice Av nv cv) ∧ w'.cell? ⟨w.heap.size + 1, 3, none⟩ = some (.slice (some ⟨b2_, o2_, none⟩) mp cg) ∧ w'.cell? ⟨w3.heap.size, 0, none⟩ = some (.slice (some ⟨b3_, o3_, none⟩) mp cp) ∧ w'.cell? ⟨w3.heap.size, 1, none⟩ = some (.slice (some ⟨b4_, o4_, none⟩) mp dp) ∧ w'.cell? ⟨w3.heap.size, 2, none⟩ = some (.slice none 0 0) ∧ w'.cell? ⟨w3.heap.size, 3, none⟩ = some (.slice none 0 0)) (by kernel_rfl) ?_ (fun hHeld => ?_)
        · exact ⟨e0_, e2_, e3_, e4_, ma0, ma1, ma2, ma3, la0, la1, la2, la3, xs0, xs1, xs2, xs3⟩
        refine tY (i := 0) (v := ?_) rfl ?_ hHeld ?_
        rotate_left
        · (intro w hSw; (try dsimp only at hSw); go_simp; (try with_reducible rfl))
        try simp only [Act.put, pT]
        refine tY (i := 1) (v := ?_) rfl ?_ hHeld ?_
        rotate_left
        · (intro w hSw; (try dsimp only at hSw); go_simp; (try with_reducible rfl))
        try simp only [Act.put, pT]
        refine tY (i := 2) (v := ?_) rfl ?_ hHeld ?_
        rotate_left
        · (intro w hSw; (try dsimp only at hSw); go_simp; (try with_reducible rfl))
        try simp only [Act.put, pT]
        refine tY (i := 3) (v := ?_) rfl ?_ hHeld ?_
        rotate_left
        · (intro w hSw; (try dsimp only at hSw); go_simp; (try with_reducible rfl))
        try simp only [Act.put, pT]
        refine tY (i := 4) (v := ?_) rfl ?_ hHeld ?_
        rotate_left
        · (intro w hSw; (try dsimp only at hSw); go_simp; (try with_reducible rfl))
        try simp only [Act.put, pT]
        refine tY (i := 5) (v := ?_) rfl ?_ hHeld ?_
        rotate_left
        · (intro w hSw; (try dsimp only at hSw); go_simp; (try with_reducible rfl))
        try simp only [Act.put, pT]
        refine tY (i := 6) (v := ?_) rfl ?_ hHeld ?_
        rotate_left
        · (intro w hSw; (try dsimp only at hSw); go_simp; (try with_reducible rfl))
        try simp only [Act.put, pT]
        refine tY (i := 7) (v := ?_) rfl ?_ hHeld ?_
        rotate_left
        · (intro w hSw; (try dsimp only at hSw); go_simp; (try with_reducible rfl))
        try simp only [Act.put, pT]
        refine tY (i := 8) (v := ?_) rfl ?_ hHeld ?_
        rotate_left
        · (intro w hSw; (try dsimp only at hSw); go_simp; (try with_reducible rfl))
        try simp only [Act.put, pT]
        refine tY (i := 9) (v := ?_) rfl ?_ hHeld ?_
        rotate_left
        · (intro w hSw; (try dsimp only at hSw); go_simp; (try with_reducible rfl))
        try simp only [Act.put, pT]
        refine tY (i := 10) (v := ?_) rfl ?_ hHeld ?_
        rotate_left
        · (intro w hSw; (try dsimp only at hSw); go_simp; (try with_reducible rfl))
        try simp only [Act.put, pT]
        refine tY (i := 11) (v := ?_) rfl ?_ hHeld ?_
        rotate_left
        · (intro w hSw; (try dsimp only at hSw); go_simp; (try with_reducible rfl))
        try simp only [Act.put, pT]
        refine tY (i := 12) (v := ?_) rfl ?_ hHeld ?_
        rotate_left
        · (intro w hSw; (try dsimp only at hSw); go_simp; (try with_reducible rfl))
        try simp only [Act.put, pT]
        refine tY (i := 13) (v := ?_) rfl ?_ hHeld ?_
        rotate_left
        · (intro w hSw; (try dsimp only at hSw); go_simp; (try with_reducible rfl))
        try simp only [Act.put, pT]
        refine tY (i := 14) (v := ?_) rfl ?_ hHeld ?_
        rotate_left
        · (intro w hSw; (try dsimp only at hSw); go_simp; (try with_reducible rfl))
        try simp only [Act.put, pT]
        refine tY (i := 15) (v := ?_) rfl ?_ hHeld ?_
        rotate_left
        · (intro w hSw; (try dsimp only at hSw); go_simp; (try with_reducible rfl))
        try simp only [Act.put, pT]
        refine tY (i := 16) (v := ?_) rfl ?_ hHeld ?_
        rotate_left
        · (intro w hSw; (try dsimp only at hSw); go_simp; (try with_reducible rfl))
        try simp only [Act.put, pT]
        refine tY (i := 17) (v := ?_) rfl ?_ hHeld ?_
        rotate_left
        · (intro w hSw; (try dsimp only at hSw); go_simp; (try with_reducible rfl))
        try simp only [Act.put, pT]
        refine tY (i := 18) (v := ?_) rfl ?_ hHeld ?_
        rotate_left
        · (intro w hSw; (try dsimp only at hSw); go_simp; (try with_reducible rfl))
        try simp only [Act.put, pT]
        refine tY (i := 19) (v := ?_) rfl ?_ hHeld ?_
        rotate_left
        · (intro w hSw; (try dsimp only at hSw); go_simp; (try with_reducible rfl))
        try simp only [Act.put, pT]
        refine tY (i := 20) (v := ?_) rfl ?_ hHeld ?_
        rotate_left
        · (intro w hSw; (try dsimp only at hSw); go_simp; (try with_reducible rfl))
        try simp only [Act.put, pT]
        refine tY (i := 21) (v := ?_) rfl ?_ hHeld ?_
        rotate_left
        · (intro w hSw; (try dsimp only at hSw); go_simp; (try with_reducible rfl))
        try simp only [Act.put, pT]
        refine tY (i := 22) (v := ?_) rfl ?_ hHeld ?_
        rotate_left
        · (intro w hSw; (try dsimp only at hSw); go_simp; (try with_reducible rfl))
        try simp only [Act.put, pT]
        refine tY (i := 23) (v := ?_) rfl ?_ hHeld ?_
        rotate_left
        · (intro w hSw; (try dsimp only at hSw); go_simp; (try with_reducible rfl))
        try simp only [Act.put, pT]
        refine tY (i := 24) (v := ?_) rfl ?_ hHeld ?_
        rotate_left
        · (intro w hSw; (try dsimp only at hSw); go_simp; (try with_reducible rfl))
        try simp only [Act.put, pT]
        refine tY (i := 25) (v := ?_) rfl ?_ hHeld ?_
        rotate_left
        · (intro w hSw; (try dsimp only at hSw); go_simp; (try with_reducible rfl))
        try simp only [Act.put, pT]
        refine wpAnyH_done (by kernel_rfl) ?_ _
        clear hHeld
        have HBV := Lib.hid blv
        go_wp2_with fail
        go_roundw
        case rel => exact ⟨i + 1, by omega, by go_num, HBV.out⟩
        case measure => simp [intOf] <;> omega
      · obtain rfl : mp = i := by omega
        have jl : ¬ ((mp : Int) < (mp : Int)) := by omega
        have hw := H_hw.out.on bl
        have hm := H_hm.out.on bl
        have hg := H_hg.out.on bl
        have hxp := H_hxp.out.on bl
        have hyp := H_hyp.out.on bl
        have hxq := H_hxq.out.on bl
        have hz := H_hz.out.on bl
        have hxt := H_hxt.out.on bl
        have hyt := H_hyt.out.on bl
        go_upto_region 17 with fail
        rcases HG.out with ⟨g1, g2⟩ | g1
        · skip
          have hyw : IR wr Aq nq cq Lw := by rw [← g2]; exact hxq
          rcases HH.out with ⟨h1, h2, h3, h4, h5⟩ | ⟨h1, h2, h5⟩
          · skip
            subst h5
            have hzw : IR wr At nt ct Lw := by rw [← h3]; exact hxt
            have hzz : IR wr Bt mt dt (List.replicate mp 0) := by rw [← h4]; exact hyt
            go_wp2_with fail
            refine (CSa hyw hw HN.out.symm).mono ?_
            rintro e w10 ⟨rfl, b⟩
            replace hw := hw.on b
            replace hm := hm.on b
            replace hg := hg.on b
            replace hxp := hxp.on b
            replace hyp := hyp.on b
            replace hxq := hxq.on b
            replace hz := hz.on b
            replace hxt := hxt.on b
            replace hyt := hyt.on b
            replace hyw := hyw.on b
            replace hzw := hzw.on b
            replace hzz := hzz.on b
            rewrite [cR b mal] at ma0 ma1 ma2 ma3
            replace mal := lK b mal
            rewrite [cR b lal] at la0 la1 la2 la3
            replace lal := lK b lal
            rewrite [cR b xsl] at xs0 xs1 xs2 xs3
            replace xsl := lK b xsl
            rewrite [cR b ysl] at ys0 ys1 ys2 ys3
            replace ysl := lK b ysl
            rewrite [cR b zsl] at zs0 zs1 zs2 zs3
            replace zsl := lK b zsl
            replace cc := bK cc b
            clear b
            go_wp2_with fail
            refine (alive17_any _).mono ?_
            rintro e w11 ⟨rfl, b⟩
            replace hw := hw.on b
            replace hm := hm.on b
            replace hg := hg.on b
            replace hxp := hxp.on b
            replace hyp := hyp.on b
            replace hxq := hxq.on b
            replace hz := hz.on b
            replace hxt := hxt.on b
            replace hyt := hyt.on b
            replace hyw := hyw.on b
            replace hzw := hzw.on b
            replace hzz := hzz.on b
            rewrite [cR b mal] at ma0 ma1 ma2 ma3
            replace mal := lK b mal
            rewrite [cR b lal] at la0 la1 la2 la3
            replace lal := lK b lal
            rewrite [cR b xsl] at xs0 xs1 xs2 xs3
            replace xsl := lK b xsl
            rewrite [cR b ysl] at ys0 ys1 ys2 ys3
            replace ysl := lK b ysl
            rewrite [cR b zsl] at zs0 zs1 zs2 zs3
            replace zsl := lK b zsl
            replace cc := bK cc b
            clear b
            go_wp2_with fail
            refine (CSa hzw hw HN.out.symm).mono ?_
            rintro e w12 ⟨rfl, b⟩
            replace hw := hw.on b
            replace hm := hm.on b
            replace hg := hg.on b
            replace hxp := hxp.on b
            replace hyp := hyp.on b
            replace hxq := hxq.on b
            replace hz := hz.on b
            replace hxt := hxt.on b
            replace hyt := hyt.on b
            replace hyw := hyw.on b
            replace hzw := hzw.on b
            replace hzz := hzz.on b
            rewrite [cR b mal] at ma0 ma1 ma2 ma3
            replace mal := lK b mal
            rewrite [cR b lal] at la0 la1 la2 la3
            replace lal := lK b lal
            rewrite [cR b xsl] at xs0 xs1 xs2 xs3
            replace xsl := lK b xsl
            rewrite [cR b ysl] at ys0 ys1 ys2 ys3
            replace ysl := lK b ysl
            rewrite [cR b zsl] at zs0 zs1 zs2 zs3
            replace zsl := lK b zsl
            replace cc := bK cc b
            clear b
            go_wp2_with fail
            refine (CSa hzz hz List.length_replicate).mono ?_
            rintro e w13 ⟨rfl, b⟩
            replace hw := hw.on b
            replace hm := hm.on b
            replace hg := hg.on b
            replace hxp := hxp.on b
            replace hyp := hyp.on b
            replace hxq := hxq.on b
            replace hz := hz.on b
            replace hxt := hxt.on b
            replace hyt := hyt.on b
            replace hyw := hyw.on b
            replace hzw := hzw.on b
            replace hzz := hzz.on b
            rewrite [cR b mal] at ma0 ma1 ma2 ma3
            replace mal := lK b mal
            rewrite [cR b lal] at la0 la1 la2 la3
            replace lal := lK b lal
            rewrite [cR b xsl] at xs0 xs1 xs2 xs3
            replace xsl := lK b xsl
            rewrite [cR b ysl] at ys0 ys1 ys2 ys3
            replace ysl := lK b ysl
            rewrite [cR b zsl] at zs0 zs1 zs2 zs3
            replace zsl := lK b zsl
            replace cc := bK cc b
            clear b
            go_wp2_with fail
            refine (CR _).mono ?_
            rintro e w14 ⟨rfl, b⟩
            replace hw := hw.on b
            replace hm := hm.on b
            replace hg := hg.on b
            replace hxp := hxp.on b
            replace hyp := hyp.on b
            replace hxq := hxq.on b
            replace hz := hz.on b
            replace hxt := hxt.on b
            replace hyt := hyt.on b
            replace hyw := hyw.on b
            replace hzw := hzw.on b
            replace hzz := hzz.on b
            rewrite [cR b mal] at ma0 ma1 ma2 ma3
            replace mal := lK b mal
            rewrite [cR b lal] at la0 la1 la2 la3
            replace lal := lK b lal
            rewrite [cR b xsl] at xs0 xs1 xs2 xs3
            replace xsl := lK b xsl
            rewrite [cR b ysl] at ys0 ys1 ys2 ys3
            replace ysl := lK b ysl
            rewrite [cR b zsl] at zs0 zs1 zs2 zs3
            replace zsl := lK b zsl
            replace cc := bK cc b
            clear b
            go_wp2_with fail
            go_ret
            exact ⟨rfl, cc⟩
          · skip
            subst h5
            go_wp2_with fail
            refine (CSa hyw hw HN.out.symm).mono ?_
            rintro e w15 ⟨rfl, b⟩
            replace hw := hw.on b
            replace hm := hm.on b
            replace hg := hg.on b
            replace hxp := hxp.on b
            replace hyp := hyp.on b
            replace hxq := hxq.on b
            replace hz := hz.on b
            replace hxt := hxt.on b
            replace hyt := hyt.on b
            replace hyw := hyw.on b
            rewrite [cR b mal] at ma0 ma1 ma2 ma3
            replace mal := lK b mal
            rewrite [cR b lal] at la0 la1 la2 la3
            replace lal := lK b lal
            rewrite [cR b xsl] at xs0 xs1 xs2 xs3
            replace xsl := lK b xsl
            rewrite [cR b ysl] at ys0 ys1 ys2 ys3
            replace ysl := lK b ysl
            rewrite [cR b zsl] at zs0 zs1 zs2 zs3
            replace zsl := lK b zsl
            replace cc := bK cc b
            clear b
            go_wp2_with fail
            refine (alive17_any _).mono ?_
            rintro e w16 ⟨rfl, b⟩
            replace hw := hw.on b
            replace hm := hm.on b
            replace hg := hg.on b
            replace hxp := hxp.on b
            replace hyp := hyp.on b
            replace hxq := hxq.on b
            replace hz := hz.on b
            replace hxt := hxt.on b
            replace hyt := hyt.on b
            replace hyw := hyw.on b
            rewrite [cR b mal] at ma0 ma1 ma2 ma3
            replace mal := lK b mal
            rewrite [cR b lal] at la0 la1 la2 la3
            replace lal := lK b lal
            rewrite [cR b xsl] at xs0 xs1 xs2 xs3
            replace xsl := lK b xsl
            rewrite [cR b ysl] at ys0 ys1 ys2 ys3
            replace ysl := lK b ysl
            rewrite [cR b zsl] at zs0 zs1 zs2 zs3
            replace zsl := lK b zsl
            replace cc := bK cc b
            clear b
            go_wp2_with fail
            refine (CR _).mono ?_
            rintro e w17 ⟨rfl, b⟩
            replace hw := hw.on b
            replace hm := hm.on b
            replace hg := hg.on b
            replace hxp := hxp.on b
            replace hyp := hyp.on b
            replace hxq := hxq.on b
            replace hz := hz.on b
            replace hxt := hxt.on b
            replace hyt := hyt.on b
            replace hyw := hyw.on b
            rewrite [cR b mal] at ma0 ma1 ma2 ma3
            replace mal := lK b mal
            rewrite [cR b lal] at la0 la1 la2 la3
            replace lal := lK b lal
            rewrite [cR b xsl] at xs0 xs1 xs2 xs3
            replace xsl := lK b xsl
            rewrite [cR b ysl] at ys0 ys1 ys2 ys3
            replace ysl := lK b ysl
            rewrite [cR b zsl] at zs0 zs1 zs2 zs3
            replace zsl := lK b zsl
            replace cc := bK cc b
            clear b
            go_wp2_with fail
            go_ret
            exact ⟨rfl, cc⟩
        · skip
          rcases HH.out with ⟨h1, h2, h3, h4, h5⟩ | ⟨h1, h2, h5⟩
          · skip
            subst h5
            have hzw : IR wr At nt ct Lw := by rw [← h3]; exact hxt
            have hzz : IR wr Bt mt dt (List.replicate mp 0) := by rw [← h4]; exact hyt
            go_wp2_with fail
            refine (alive17_any _).mono ?_
            rintro e w18 ⟨rfl, b⟩
            replace hw := hw.on b
            replace hm := hm.on b
            replace hg := hg.on b
            replace hxp := hxp.on b
            replace hyp := hyp.on b
            replace hxq := hxq.on b
            replace hz := hz.on b
            replace hxt := hxt.on b
            replace hyt := hyt.on b
            replace hzw := hzw.on b
            replace hzz := hzz.on b
            rewrite [cR b mal] at ma0 ma1 ma2 ma3
            replace mal := lK b mal
            rewrite [cR b lal] at la0 la1 la2 la3
            replace lal := lK b lal
            rewrite [cR b xsl] at xs0 xs1 xs2 xs3
            replace xsl := lK b xsl
            rewrite [cR b ysl] at ys0 ys1 ys2 ys3
            replace ysl := lK b ysl
            rewrite [cR b zsl] at zs0 zs1 zs2 zs3
            replace zsl := lK b zsl
            replace cc := bK cc b
            clear b
            go_wp2_with fail
            refine (CSa hzw hw HN.out.symm).mono ?_
            rintro e w19 ⟨rfl, b⟩
            replace hw := hw.on b
            replace hm := hm.on b
            replace hg := hg.on b
            replace hxp := hxp.on b
            replace hyp := hyp.on b
            replace hxq := hxq.on b
            replace hz := hz.on b
            replace hxt := hxt.on b
            replace hyt := hyt.on b
            replace hzw := hzw.on b
            replace hzz := hzz.on b
            rewrite [cR b mal] at ma0 ma1 ma2 ma3
            replace mal := lK b mal
            rewrite [cR b lal] at la0 la1 la2 la3
            replace lal := lK b lal
            rewrite [cR b xsl] at xs0 xs1 xs2 xs3
            replace xsl := lK b xsl
            rewrite [cR b ysl] at ys0 ys1 ys2 ys3
            replace ysl := lK b ysl
            rewrite [cR b zsl] at zs0 zs1 zs2 zs3
            replace zsl := lK b zsl
            replace cc := bK cc b
            clear b
            go_wp2_with fail
            refine (CSa hzz hz List.length_replicate).mono ?_
            rintro e w20 ⟨rfl, b⟩
            replace hw := hw.on b
            replace hm := hm.on b
            replace hg := hg.on b
            replace hxp := hxp.on b
            replace hyp := hyp.on b
            replace hxq := hxq.on b
            replace hz := hz.on b
            replace hxt := hxt.on b
            replace hyt := hyt.on b
            replace hzw := hzw.on b
            replace hzz := hzz.on b
            rewrite [cR b mal] at ma0 ma1 ma2 ma3
            replace mal := lK b mal
            rewrite [cR b lal] at la0 la1 la2 la3
            replace lal := lK b lal
            rewrite [cR b xsl] at xs0 xs1 xs2 xs3
            replace xsl := lK b xsl
            rewrite [cR b ysl] at ys0 ys1 ys2 ys3
            replace ysl := lK b ysl
            rewrite [cR b zsl] at zs0 zs1 zs2 zs3
            replace zsl := lK b zsl
            replace cc := bK cc b
            clear b
            go_wp2_with fail
            refine (CR _).mono ?_
            rintro e w21 ⟨rfl, b⟩
            replace hw := hw.on b
            replace hm := hm.on b
            replace hg := hg.on b
            replace hxp := hxp.on b
            replace hyp := hyp.on b
            replace hxq := hxq.on b
            replace hz := hz.on b
            replace hxt := hxt.on b
            replace hyt := hyt.on b
            replace hzw := hzw.on b
            replace hzz := hzz.on b
            rewrite [cR b mal] at ma0 ma1 ma2 ma3
            replace mal := lK b mal
            rewrite [cR b lal] at la0 la1 la2 la3
            replace lal := lK b lal
            rewrite [cR b xsl] at xs0 xs1 xs2 xs3
            replace xsl := lK b xsl
            rewrite [cR b ysl] at ys0 ys1 ys2 ys3
            replace ysl := lK b ysl
            rewrite [cR b zsl] at zs0 zs1 zs2 zs3
            replace zsl := lK b zsl
            replace cc := bK cc b
            clear b
            go_wp2_with fail
            go_ret
            exact ⟨rfl, cc⟩
          · skip
            subst h5
            go_wp2_with fail
            refine (alive17_any _).mono ?_
            rintro e w22 ⟨rfl, b⟩
            replace hw := hw.on b
            replace hm := hm.on b
            replace hg := hg.on b
            replace hxp := hxp.on b
            replace hyp := hyp.on b
            replace hxq := hxq.on b
            replace hz := hz.on b
            replace hxt := hxt.on b
            replace hyt := hyt.on b
            rewrite [cR b mal] at ma0 ma1 ma2 ma3
            replace mal := lK b mal
            rewrite [cR b lal] at la0 la1 la2 la3
            replace lal := lK b lal
            rewrite [cR b xsl] at xs0 xs1 xs2 xs3
            replace xsl := lK b xsl
            rewrite [cR b ysl] at ys0 ys1 ys2 ys3
            replace ysl := lK b ysl
            rewrite [cR b zsl] at zs0 zs1 zs2 zs3
            replace zsl := lK b zsl
            replace cc := bK cc b
            clear b
            go_wp2_with fail
            refine (CR _).mono ?_
            rintro e w23 ⟨rfl, b⟩
            replace hw := hw.on b
            replace hm := hm.on b
            replace hg := hg.on b
            replace hxp := hxp.on b
            replace hyp := hyp.on b
            replace hxq := hxq.on b
            replace hz := hz.on b
            replace hxt := hxt.on b
            replace hyt := hyt.on b
            rewrite [cR b mal] at ma0 ma1 ma2 ma3
            replace mal := lK b mal
            rewrite [cR b lal] at la0 la1 la2 la3
            replace lal := lK b lal
            rewrite [cR b xsl] at xs0 xs1 xs2 xs3
            replace xsl := lK b xsl
            rewrite [cR b ysl] at ys0 ys1 ys2 ys3
            replace ysl := lK b ysl
            rewrite [cR b zsl] at zs0 zs1 zs2 zs3
            replace zsl := lK b zsl
            replace cc := bK cc b
            clear b
            go_wp2_with fail
            go_ret
            exact ⟨rfl, cc⟩

theorem MomPlain_walk {w : World} {lr mu wd f : Int} {ne : Bool} {Aw : Option Addr} {nw cw : Nat} {Lw : List Int} {Am : Option Addr} {nm cm : Nat} {Lm : List Int} {Av : Option Addr} {nv cv : Nat} {Lv : List Int} {Ag : Option Addr} {ng cg : Nat} {Lg : List Int} (iL : I64 lr) (iU : I64 mu) (iD : I64 wd) (iF : I64 f) (hw : IR w Aw nw cw Lw) (hm : IR w Am nm cm Lm) (hv : IR w Av nv cv Lv) (hg : IR w Ag ng cg Lg) (ew : ∀ z ∈ Lw, I64 z) (em : ∀ z ∈ Lm, I64 z) (ev : ∀ z ∈ Lv, I64 z) (eg : ∀ z ∈ Lg, I64 z) (kw : nw ≤ 2305843009213693951) (km : nm ≤ 2305843009213693951) (kv : nv ≤ 2305843009213693951) (kg : ng ≤ 2305843009213693951) : Calls Try.prog 6 #[.agg #[.int .i64 lr, .int .i64 mu, .int .i64 wd, .bool ne], .agg #[.slice Aw nw cw, .slice Am nm cm, .slice Av nv cv, .slice Ag ng cg], .int .i64 f] w (GotV w (.bool true)) := by
  by_cases hf : ((nw + nm + nv + ng : Nat) : Int) ≤ 36
  rotate_left
  · exact MomPlain_many iL iU iD iF hw hm hv hg ew em ev eg kw km kv kg hf
  by_cases hq : nm = nw
  rotate_left
  · exact MomPlain_m iL iU iD iF hw hm hv hg ew em ev eg kw km kv kg hf hq
  by_cases hq2 : ng = nw
  rotate_left
  · exact MomPlain_g iL iU iD iF hw hm hv hg ew em ev eg kw km kv kg hf hq hq2
  by_cases hc : stC17 lr 0 0 f false Lw Lm Lg = 0
  · exact MomPlain_yes iL iU iD iF hw hm hv hg ew em ev eg kw km kv kg hf hq hq2 hc
  · exact MomPlain_no iL iU iD iF hw hm hv hg ew em ev eg kw km kv kg hf hq hq2 hc

end Go.Proofs.Ytckdbcngnghhiaa
