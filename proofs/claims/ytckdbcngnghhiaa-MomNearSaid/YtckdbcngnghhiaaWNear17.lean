/-
  The walk of MomNear.
-/
import Derived.Test.YtckdbcngnghhiaaA8
import Derived.Test.YtckdbcngnghhiaaC17n
import Derived.Test.YtckdbcngnghhiaaN17m
import Derived.Test.YtckdbcngnghhiaaA2
namespace Go.Proofs.Ytckdbcngnghhiaa
set_option maxRecDepth 100000
set_option maxHeartbeats 8000000
open Go.RowKit
set_option linter.unusedVariables false
set_option linter.unusedSimpArgs false

theorem MomNear_many {w : World} {lr mu wd f : Int} {ne : Bool} {Aw : Option Addr} {nw cw : Nat} {Lw : List Int} {Am : Option Addr} {nm cm : Nat} {Lm : List Int} {Av : Option Addr} {nv cv : Nat} {Lv : List Int} {Ag : Option Addr} {ng cg : Nat} {Lg : List Int} (iL : I64 lr) (iU : I64 mu) (iD : I64 wd) (iF : I64 f) (hw : IR w Aw nw cw Lw) (hm : IR w Am nm cm Lm) (hv : IR w Av nv cv Lv) (hg : IR w Ag ng cg Lg) (ew : ∀ z ∈ Lw, I64 z) (em : ∀ z ∈ Lm, I64 z) (ev : ∀ z ∈ Lv, I64 z) (eg : ∀ z ∈ Lg, I64 z) (kw : nw ≤ 2305843009213693951) (km : nm ≤ 2305843009213693951) (kv : nv ≤ 2305843009213693951) (kg : ng ≤ 2305843009213693951) (hf : ¬ ((nw + nm + nv + ng : Nat) : Int) ≤ 36) :
    Calls Try.prog 4 #[.agg #[.int .i64 lr, .int .i64 mu, .int .i64 wd, .bool ne], .agg #[.slice Aw nw cw, .slice Am nm cm, .slice Av nv cv, .slice Ag ng cg], .int .i64 f] w (GotV w (.bool true)) := by
  have CF := fun W : World => nFew17_N (w := W) (Aw := Aw) (cw := cw) (Am := Am) (cm := cm) (Av := Av) (cv := cv) (Ag := Ag) (cg := cg) (most := 36) kw km kv kg
  rw [decide_eq_false hf] at CF
  clear iL iU iD iF hw ew kw hm em km hv ev kv hg eg kg hf
  have cc := Below.refl w.heap.size w
  go_enter Try.func4, Try.ntmps4
  go_upto_region 1 with fail
  generalize hv_ : (w.alloc (.cells #[.int .i64 lr, .int .i64 mu, .int .i64 wd, .bool ne] 23)).alloc (.cells #[.slice Aw nw cw, .slice Am nm cm, .slice Av nv cv, .slice Ag ng cg] 26) = v0
  have zm : v0.heap[w.heap.size]? = some (.cells #[.int .i64 lr, .int .i64 mu, .int .i64 wd, .bool ne] 23) := by rw [← hv_]; exact heap_up (World.alloc_heap_new _ _)
  have zl : v0.heap[w.heap.size + 1]? = some (.cells #[.slice Aw nw cw, .slice Am nm cm, .slice Av nv cv, .slice Ag ng cg] 26) := by rw [← hv_]; exact by have h := World.alloc_heap_new (w.alloc (.cells #[.int .i64 lr, .int .i64 mu, .int .i64 wd, .bool ne] 23)) (.cells #[.slice Aw nw cw, .slice Am nm cm, .slice Av nv cv, .slice Ag ng cg] 26); simpa only [World.size_alloc] using h
  have bA : Below w.heap.size w v0 := by rw [← hv_]; exact ((Below.refl _ w).alloc (by simp) _).alloc (by simp) _
  replace cc := cc.trans bA
  clear bA
  clear hv_
  have fm := fro_of 2 zm
  obtain ⟨c0, c1, c2, c3⟩ := cells4 zm
  go_upto_region 2 with fail
  have lt := fun {W : World} {b : Nat} {o : Obj} (h : W.heap[b]? = some o) => (Array.getElem?_eq_some_iff.1 h).1
  have zm2 : (v0.setCell ⟨w.heap.size, 2, none⟩ (.int .i64 0)).heap[w.heap.size]? = some (.cells #[.int .i64 lr, .int .i64 mu, .int .i64 0, .bool ne] 23) := put_cell1 zm
  have zl2 : (v0.setCell ⟨w.heap.size, 2, none⟩ (.int .i64 0)).heap[w.heap.size + 1]? = some (.cells #[.slice Aw nw cw, .slice Am nm cm, .slice Av nv cv, .slice Ag ng cg] 26) := (heap_setCell_other v0 ⟨w.heap.size, 2, none⟩ (w.heap.size + 1) _ (by show w.heap.size + 1 ≠ w.heap.size; omega)).trans zl
  have cc2 : Below w.heap.size w (v0.setCell ⟨w.heap.size, 2, none⟩ (.int .i64 0)) := cc.setCell (p := ⟨w.heap.size, 2, none⟩) (Nat.le_refl _) _
  replace cc := cc2
  clear cc2 zm zl fm c0 c1 c2 c3
  generalize v0.setCell ⟨w.heap.size, 2, none⟩ (.int .i64 0) = v1 at *
  obtain ⟨ma0, ma1, ma2, ma3⟩ := cells4 zm2
  obtain ⟨la0, la1, la2, la3⟩ := cells4 zl2
  have mal := lt zm2
  have lal := lt zl2
  clear zm2 zl2 lt
  go_wp2_with fail
  refine (CF _).mono ?_
  rintro e w1 ⟨rfl, b⟩
  rewrite [cR b mal] at ma0 ma1 ma2 ma3
  replace mal := lK b mal
  rewrite [cR b lal] at la0 la1 la2 la3
  replace lal := lK b lal
  replace cc := bK cc b
  clear b
  go_wp2_with fail
  refine (alive17_any _).mono ?_
  rintro e w2 ⟨rfl, b⟩
  rewrite [cR b mal] at ma0 ma1 ma2 ma3
  replace mal := lK b mal
  rewrite [cR b lal] at la0 la1 la2 la3
  replace lal := lK b lal
  replace cc := bK cc b
  clear b
  go_wp2_with fail
  go_ret
  exact ⟨rfl, cc⟩

theorem MomNear_no {w : World} {lr mu wd f : Int} {ne : Bool} {Aw : Option Addr} {nw cw : Nat} {Lw : List Int} {Am : Option Addr} {nm cm : Nat} {Lm : List Int} {Av : Option Addr} {nv cv : Nat} {Lv : List Int} {Ag : Option Addr} {ng cg : Nat} {Lg : List Int} (iL : I64 lr) (iU : I64 mu) (iD : I64 wd) (iF : I64 f) (hw : IR w Aw nw cw Lw) (hm : IR w Am nm cm Lm) (hv : IR w Av nv cv Lv) (hg : IR w Ag ng cg Lg) (ew : ∀ z ∈ Lw, I64 z) (em : ∀ z ∈ Lm, I64 z) (ev : ∀ z ∈ Lv, I64 z) (eg : ∀ z ∈ Lg, I64 z) (kw : nw ≤ 2305843009213693951) (km : nm ≤ 2305843009213693951) (kv : nv ≤ 2305843009213693951) (kg : ng ≤ 2305843009213693951) (hf : ((nw + nm + nv + ng : Nat) : Int) ≤ 36) (hc : ¬ stC17 lr mu 0 f ne Lw Lm Lg = 0) :
    Calls Try.prog 4 #[.agg #[.int .i64 lr, .int .i64 mu, .int .i64 wd, .bool ne], .agg #[.slice Aw nw cw, .slice Am nm cm, .slice Av nv cv, .slice Ag ng cg], .int .i64 f] w (GotV w (.bool true)) := by
  have CF := fun W : World => nFew17_N (w := W) (Aw := Aw) (cw := cw) (Am := Am) (cm := cm) (Av := Av) (cv := cv) (Ag := Ag) (cg := cg) (most := 36) kw km kv kg
  rw [decide_eq_true hf] at CF
  have CS := fun {W : World} {Aw : Option Addr} {cw : Nat} {Am : Option Addr} {cm : Nat} {Av : Option Addr} {nv cv : Nat} {Ag : Option Addr} {cg : Nat} (a : IR W Aw nw cw Lw) (b : IR W Am nm cm Lm) (c : IR W Ag ng cg Lg) => (mStep_N (ne := ne) (lr := lr) (mu := mu) (wd := 0) (f := f) (Av := Av) (nv := nv) (cv := cv) iL iU (by unfold I64; omega) iF a b c ew em eg (by omega) (by omega) (by omega)).mono (fun e w h => h.weak)
  rw [(none17 hc).1, (none17 hc).2] at CS
  obtain ⟨XC, eC⟩ : ∃ c, stC17 lr mu 0 f ne Lw Lm Lg = c := ⟨_, rfl⟩
  rw [eC] at CS hc
  have c1 : (XC == 0) = false := beq_eq_false_iff_ne.2 hc
  have c2 : (XC != 0) = true := by simpa using hc
  have CM : ∀ {W : World} {A B : Option Addr} {a b c d : Nat}, IR W A a b [] → IR W B c d [] → Calls Try.prog 14 #[.agg #[.slice A a b, .slice B c d, .slice none 0 0, .slice none 0 0], .agg #[.slice none 0 0, .slice none 0 0, .slice none 0 0, .slice none 0 0]] W (GotV W (.bool true)) := fun p q => by have h := nSame17_N p q (IR.nil _ none 0) (IR.nil _ none 0) (IR.nil _ none 0) (IR.nil _ none 0) (IR.nil _ none 0) (IR.nil _ none 0) (by rw [p.1]; exact Nat.zero_le _) (by rw [q.1]; exact Nat.zero_le _) (by omega) (by omega); rw [decide_eq_true ⟨rfl, rfl, rfl, rfl⟩] at h; exact h
  clear iL iU iD iF ew em ev eg kw km kv kg hf hv hc eC
  have cc := Below.refl w.heap.size w
  go_enter Try.func4, Try.ntmps4
  go_upto_region 1 with fail
  generalize hv_ : (w.alloc (.cells #[.int .i64 lr, .int .i64 mu, .int .i64 wd, .bool ne] 23)).alloc (.cells #[.slice Aw nw cw, .slice Am nm cm, .slice Av nv cv, .slice Ag ng cg] 26) = v0
  have zm : v0.heap[w.heap.size]? = some (.cells #[.int .i64 lr, .int .i64 mu, .int .i64 wd, .bool ne] 23) := by rw [← hv_]; exact heap_up (World.alloc_heap_new _ _)
  have zl : v0.heap[w.heap.size + 1]? = some (.cells #[.slice Aw nw cw, .slice Am nm cm, .slice Av nv cv, .slice Ag ng cg] 26) := by rw [← hv_]; exact by have h := World.alloc_heap_new (w.alloc (.cells #[.int .i64 lr, .int .i64 mu, .int .i64 wd, .bool ne] 23)) (.cells #[.slice Aw nw cw, .slice Am nm cm, .slice Av nv cv, .slice Ag ng cg] 26); simpa only [World.size_alloc] using h
  have bA : Below w.heap.size w v0 := by rw [← hv_]; exact ((Below.refl _ w).alloc (by simp) _).alloc (by simp) _
  replace cc := cc.trans bA
  clear bA
  clear hv_
  have fm := fro_of 2 zm
  obtain ⟨c0, c1, c2, c3⟩ := cells4 zm
  go_upto_region 2 with fail
  have lt := fun {W : World} {b : Nat} {o : Obj} (h : W.heap[b]? = some o) => (Array.getElem?_eq_some_iff.1 h).1
  have zm2 : (v0.setCell ⟨w.heap.size, 2, none⟩ (.int .i64 0)).heap[w.heap.size]? = some (.cells #[.int .i64 lr, .int .i64 mu, .int .i64 0, .bool ne] 23) := put_cell1 zm
  have zl2 : (v0.setCell ⟨w.heap.size, 2, none⟩ (.int .i64 0)).heap[w.heap.size + 1]? = some (.cells #[.slice Aw nw cw, .slice Am nm cm, .slice Av nv cv, .slice Ag ng cg] 26) := (heap_setCell_other v0 ⟨w.heap.size, 2, none⟩ (w.heap.size + 1) _ (by show w.heap.size + 1 ≠ w.heap.size; omega)).trans zl
  have cc2 : Below w.heap.size w (v0.setCell ⟨w.heap.size, 2, none⟩ (.int .i64 0)) := cc.setCell (p := ⟨w.heap.size, 2, none⟩) (Nat.le_refl _) _
  replace cc := cc2
  clear cc2 zm zl fm c0 c1 c2 c3
  generalize v0.setCell ⟨w.heap.size, 2, none⟩ (.int .i64 0) = v1 at *
  obtain ⟨ma0, ma1, ma2, ma3⟩ := cells4 zm2
  obtain ⟨la0, la1, la2, la3⟩ := cells4 zl2
  have mal := lt zm2
  have lal := lt zl2
  clear zm2 zl2 lt
  replace hw := hw.on cc
  replace hm := hm.on cc
  replace hg := hg.on cc
  go_wp2_with fail
  refine (CF _).mono ?_
  rintro e w1 ⟨rfl, b⟩
  replace hw := hw.on b
  replace hm := hm.on b
  replace hg := hg.on b
  rewrite [cR b mal] at ma0 ma1 ma2 ma3
  replace mal := lK b mal
  rewrite [cR b lal] at la0 la1 la2 la3
  replace lal := lK b lal
  replace cc := bK cc b
  clear b
  go_wp2_with fail
  refine (CS hw hm hg).mono ?_
  rintro e w2 ⟨Ap, np, cp, Bp, mp, dp, rfl, hxp, hyp, b⟩
  replace hw := hw.on b
  replace hm := hm.on b
  replace hg := hg.on b
  rewrite [cR b mal] at ma0 ma1 ma2 ma3
  replace mal := lK b mal
  rewrite [cR b lal] at la0 la1 la2 la3
  replace lal := lK b lal
  replace cc := bK cc b
  clear b
  clear hw hm hg
  go_upto_region 5 with fail
  have xsqma : w.heap.size < w2.heap.size := mal
  have xsqla : w.heap.size + 1 < w2.heap.size := lal
  generalize hv_ : w2.alloc (.cells #[.slice Ap np cp, .slice Bp mp dp, .slice none 0 0, .slice none 0 0] 26) = v3
  have bA : Below w2.heap.size w2 v3 := by rw [← hv_]; exact below_one _ _
  replace hxp := hxp.on bA
  replace hyp := hyp.on bA
  rewrite [cR bA mal] at ma0 ma1 ma2 ma3
  replace mal := lK bA mal
  rewrite [cR bA lal] at la0 la1 la2 la3
  replace lal := lK bA lal
  replace cc := bK cc bA
  clear bA
  have xs0 : v3.cell? ⟨w2.heap.size, 0, none⟩ = some (.slice Ap np cp) := by simp [← hv_, go_sem]
  have xs1 : v3.cell? ⟨w2.heap.size, 1, none⟩ = some (.slice Bp mp dp) := by simp [← hv_, go_sem]
  have xs2 : v3.cell? ⟨w2.heap.size, 2, none⟩ = some (.slice none 0 0) := by simp [← hv_, go_sem]
  have xs3 : v3.cell? ⟨w2.heap.size, 3, none⟩ = some (.slice none 0 0) := by simp [← hv_, go_sem]
  have xsl : w2.heap.size < v3.heap.size := by simp [← hv_]
  clear hv_
  go_wp2_with fail
  refine (alive17_any _).mono ?_
  rintro e w4 ⟨rfl, b⟩
  replace hxp := hxp.on b
  replace hyp := hyp.on b
  rewrite [cR b mal] at ma0 ma1 ma2 ma3
  replace mal := lK b mal
  rewrite [cR b lal] at la0 la1 la2 la3
  replace lal := lK b lal
  rewrite [cR b xsl] at xs0 xs1 xs2 xs3
  replace xsl := lK b xsl
  replace cc := bK cc b
  clear b
  go_wp2_with fail
  refine (CM hxp hyp).mono ?_
  rintro e w5 ⟨rfl, b⟩
  replace hxp := hxp.on b
  replace hyp := hyp.on b
  rewrite [cR b mal] at ma0 ma1 ma2 ma3
  replace mal := lK b mal
  rewrite [cR b lal] at la0 la1 la2 la3
  replace lal := lK b lal
  rewrite [cR b xsl] at xs0 xs1 xs2 xs3
  replace xsl := lK b xsl
  replace cc := bK cc b
  clear b
  go_wp2_with fail
  go_ret
  exact ⟨rfl, cc⟩

theorem MomNear_f {w : World} {lr mu wd f : Int} {ne : Bool} {Aw : Option Addr} {nw cw : Nat} {Lw : List Int} {Am : Option Addr} {nm cm : Nat} {Lm : List Int} {Av : Option Addr} {nv cv : Nat} {Lv : List Int} {Ag : Option Addr} {ng cg : Nat} {Lg : List Int} (iL : I64 lr) (iU : I64 mu) (iD : I64 wd) (iF : I64 f) (hw : IR w Aw nw cw Lw) (hm : IR w Am nm cm Lm) (hv : IR w Av nv cv Lv) (hg : IR w Ag ng cg Lg) (ew : ∀ z ∈ Lw, I64 z) (em : ∀ z ∈ Lm, I64 z) (ev : ∀ z ∈ Lv, I64 z) (eg : ∀ z ∈ Lg, I64 z) (kw : nw ≤ 2305843009213693951) (km : nm ≤ 2305843009213693951) (kv : nv ≤ 2305843009213693951) (kg : ng ≤ 2305843009213693951) (hf : ((nw + nm + nv + ng : Nat) : Int) ≤ 36) (hne : false = ne) (hc : stC17 lr mu 0 f false Lw Lm Lg = 0) :
    Calls Try.prog 4 #[.agg #[.int .i64 lr, .int .i64 mu, .int .i64 wd, .bool ne], .agg #[.slice Aw nw cw, .slice Am nm cm, .slice Av nv cv, .slice Ag ng cg], .int .i64 f] w (GotV w (.bool true)) := by
  have CF := fun W : World => nFew17_N (w := W) (Aw := Aw) (cw := cw) (Am := Am) (cm := cm) (Av := Av) (cv := cv) (Ag := Ag) (cg := cg) (most := 36) kw km kv kg
  rw [decide_eq_true hf] at CF
  subst hne
  have CS := fun {W : World} {Aw : Option Addr} {cw : Nat} {Am : Option Addr} {cm : Nat} {Av : Option Addr} {nv cv : Nat} {Ag : Option Addr} {cg : Nat} (a : IR W Aw nw cw Lw) (b : IR W Am nm cm Lm) (c : IR W Ag ng cg Lg) => (mStep_N (ne := false) (lr := lr) (mu := mu) (wd := 0) (f := f) (Av := Av) (nv := nv) (cv := cv) iL iU (by unfold I64; omega) iF a b c ew em eg (by omega) (by omega) (by omega)).mono (fun e w h => h.weak)
  have HPL := Lib.hid (fun (i : Nat) (hi : i < Lw.length) => place17 hc hi)
  have hlg := long17 hc
  have hal := all17 (lr := lr) (mu := mu) (wd := 0) (f := f) (ne := false) (LW := Lw) (LM := Lm) (LG := Lg)
  have hz := stC_zero hc
  have f0 := hz.1.1
  have f1 := hz.1.2.1
  have hl1 := hz.2.1.1
  have hl2 := hz.2.1.2
  clear hz
  rw [hc] at CS
  clear hc
  generalize stRW17 lr mu 0 f false Lw Lm Lg = XW at *
  generalize stRV17 lr mu 0 f false Lw Lm Lg = XV at *
  have HAL := Lib.hid hal
  have HLG := Lib.hid hlg
  have HEE := Lib.hid (show (∀ z ∈ Lw, I64 z) ∧ (∀ z ∈ Lm, I64 z) ∧ ∀ z ∈ Lg, I64 z from ⟨ew, em, eg⟩)
  have q1 := hw.1
  have q2 := hm.1
  have q3 := hg.1
  obtain rfl : nm = nw := by omega
  obtain rfl : ng = nm := by omega
  have HN : Hid (ng = Lw.length) := Lib.hid q1
  have HKN : Hid (ng ≤ 36) := Lib.hid (by omega)
  have HI := Lib.hid (show I64 lr ∧ I64 mu ∧ 0 ≤ f ∧ f ≤ 40 from ⟨iL, iU, f0, f1⟩)
  clear iL iU iD iF ew em ev eg kw km kv kg hf hv hal hlg q1 q2 q3 hl1 hl2 f0 f1
  have cc := Below.refl w.heap.size w
  go_enter Try.func4, Try.ntmps4
  go_upto_region 1 with fail
  generalize hv_ : (w.alloc (.cells #[.int .i64 lr, .int .i64 mu, .int .i64 wd, .bool false] 23)).alloc (.cells #[.slice Aw ng cw, .slice Am ng cm, .slice Av nv cv, .slice Ag ng cg] 26) = v0
  have zm : v0.heap[w.heap.size]? = some (.cells #[.int .i64 lr, .int .i64 mu, .int .i64 wd, .bool false] 23) := by rw [← hv_]; exact heap_up (World.alloc_heap_new _ _)
  have zl : v0.heap[w.heap.size + 1]? = some (.cells #[.slice Aw ng cw, .slice Am ng cm, .slice Av nv cv, .slice Ag ng cg] 26) := by rw [← hv_]; exact by have h := World.alloc_heap_new (w.alloc (.cells #[.int .i64 lr, .int .i64 mu, .int .i64 wd, .bool false] 23)) (.cells #[.slice Aw ng cw, .slice Am ng cm, .slice Av nv cv, .slice Ag ng cg] 26); simpa only [World.size_alloc] using h
  have bA : Below w.heap.size w v0 := by rw [← hv_]; exact ((Below.refl _ w).alloc (by simp) _).alloc (by simp) _
  replace cc := cc.trans bA
  clear bA
  clear hv_
  have fm := fro_of 2 zm
  obtain ⟨c0, c1, c2, c3⟩ := cells4 zm
  go_upto_region 2 with fail
  have lt := fun {W : World} {b : Nat} {o : Obj} (h : W.heap[b]? = some o) => (Array.getElem?_eq_some_iff.1 h).1
  have zm2 : (v0.setCell ⟨w.heap.size, 2, none⟩ (.int .i64 0)).heap[w.heap.size]? = some (.cells #[.int .i64 lr, .int .i64 mu, .int .i64 0, .bool false] 23) := put_cell1 zm
  have zl2 : (v0.setCell ⟨w.heap.size, 2, none⟩ (.int .i64 0)).heap[w.heap.size + 1]? = some (.cells #[.slice Aw ng cw, .slice Am ng cm, .slice Av nv cv, .slice Ag ng cg] 26) := (heap_setCell_other v0 ⟨w.heap.size, 2, none⟩ (w.heap.size + 1) _ (by show w.heap.size + 1 ≠ w.heap.size; omega)).trans zl
  have cc2 : Below w.heap.size w (v0.setCell ⟨w.heap.size, 2, none⟩ (.int .i64 0)) := cc.setCell (p := ⟨w.heap.size, 2, none⟩) (Nat.le_refl _) _
  replace cc := cc2
  clear cc2 zm zl fm c0 c1 c2 c3
  generalize v0.setCell ⟨w.heap.size, 2, none⟩ (.int .i64 0) = v1 at *
  obtain ⟨ma0, ma1, ma2, ma3⟩ := cells4 zm2
  obtain ⟨la0, la1, la2, la3⟩ := cells4 zl2
  have mal := lt zm2
  have lal := lt zl2
  clear zm2 zl2 lt
  replace hw := hw.on cc
  replace hm := hm.on cc
  replace hg := hg.on cc
  go_wp2_with fail
  refine (CF _).mono ?_
  rintro e w1 ⟨rfl, b⟩
  replace hw := hw.on b
  replace hm := hm.on b
  replace hg := hg.on b
  rewrite [cR b mal] at ma0 ma1 ma2 ma3
  replace mal := lK b mal
  rewrite [cR b lal] at la0 la1 la2 la3
  replace lal := lK b lal
  replace cc := bK cc b
  clear b
  go_wp2_with fail
  refine (CS hw hm hg).mono ?_
  rintro e w2 ⟨Ap, np, cp, Bp, mp, dp, rfl, hxp, hyp, b⟩
  replace hw := hw.on b
  replace hm := hm.on b
  replace hg := hg.on b
  rewrite [cR b mal] at ma0 ma1 ma2 ma3
  replace mal := lK b mal
  rewrite [cR b lal] at la0 la1 la2 la3
  replace lal := lK b lal
  replace cc := bK cc b
  clear b
  obtain rfl : np = ng := by have := hxp.1; have := HLG.out.1; have := HN.out; omega
  obtain rfl : mp = np := by have := hyp.1; have := HLG.out.2; have := HN.out; omega
  go_upto_region 5 with fail
  have xsqma : w.heap.size < w2.heap.size := mal
  have xsqla : w.heap.size + 1 < w2.heap.size := lal
  generalize hv_ : w2.alloc (.cells #[.slice Ap mp cp, .slice Bp mp dp, .slice none 0 0, .slice none 0 0] 26) = v3
  have bA : Below w2.heap.size w2 v3 := by rw [← hv_]; exact below_one _ _
  replace hw := hw.on bA
  replace hm := hm.on bA
  replace hg := hg.on bA
  replace hxp := hxp.on bA
  replace hyp := hyp.on bA
  rewrite [cR bA mal] at ma0 ma1 ma2 ma3
  replace mal := lK bA mal
  rewrite [cR bA lal] at la0 la1 la2 la3
  replace lal := lK bA lal
  replace cc := bK cc bA
  clear bA
  have xs0 : v3.cell? ⟨w2.heap.size, 0, none⟩ = some (.slice Ap mp cp) := by simp [← hv_, go_sem]
  have xs1 : v3.cell? ⟨w2.heap.size, 1, none⟩ = some (.slice Bp mp dp) := by simp [← hv_, go_sem]
  have xs2 : v3.cell? ⟨w2.heap.size, 2, none⟩ = some (.slice none 0 0) := by simp [← hv_, go_sem]
  have xs3 : v3.cell? ⟨w2.heap.size, 3, none⟩ = some (.slice none 0 0) := by simp [← hv_, go_sem]
  have xsl : w2.heap.size < v3.heap.size := by simp [← hv_]
  clear hv_
  have t0 : ((mp : Int) == (mp : Int)) = true := beq_self_eq_true _
  have t1 : ((mp : Int) != (mp : Int)) = false := by simp
  have Hma0 := Lib.hid ma0
  have Hma1 := Lib.hid ma1
  have Hma2 := Lib.hid ma2
  have Hma3 := Lib.hid ma3
  have Hmal := Lib.hid mal
  have Hla0 := Lib.hid la0
  have Hla1 := Lib.hid la1
  have Hla2 := Lib.hid la2
  have Hla3 := Lib.hid la3
  have Hlal := Lib.hid lal
  have Hxs0 := Lib.hid xs0
  have Hxs1 := Lib.hid xs1
  have Hxs2 := Lib.hid xs2
  have Hxs3 := Lib.hid xs3
  have Hxsl := Lib.hid xsl
  have H_hw := Lib.hid hw
  have H_hm := Lib.hid hm
  have H_hg := Lib.hid hg
  have H_hxp := Lib.hid hxp
  have H_hyp := Lib.hid hyp
  have H_cc := Lib.hid cc
  go_wp2_with fail
  clear cc hw hm hg hxp hyp ma0 ma1 ma2 ma3 la0 la1 la2 la3 xs0 xs1 xs2 xs3 mal lal xsl xsqma xsqla
  go_loopw [9] (fun iv wr => ∃ i : Nat, i ≤ mp ∧ iv = .int .i64 (i : Int) ∧ Below v3.heap.size v3 wr) (fun iv _ => mp - (intOf iv).toNat)
  case atStart => exact ⟨0, by omega, rfl, Below.refl _ _⟩
  case round =>
    obtain ⟨i, hi_, rfl, bl⟩ := hrel
    have ma0 := (bl.cell (p := ⟨w.heap.size, 0, none⟩) Hmal.out).trans Hma0.out
    have ma1 := (bl.cell (p := ⟨w.heap.size, 1, none⟩) Hmal.out).trans Hma1.out
    have ma2 := (bl.cell (p := ⟨w.heap.size, 2, none⟩) Hmal.out).trans Hma2.out
    have ma3 := (bl.cell (p := ⟨w.heap.size, 3, none⟩) Hmal.out).trans Hma3.out
    have mal := Nat.lt_of_lt_of_le Hmal.out bl.size
    have la0 := (bl.cell (p := ⟨w.heap.size + 1, 0, none⟩) Hlal.out).trans Hla0.out
    have la1 := (bl.cell (p := ⟨w.heap.size + 1, 1, none⟩) Hlal.out).trans Hla1.out
    have la2 := (bl.cell (p := ⟨w.heap.size + 1, 2, none⟩) Hlal.out).trans Hla2.out
    have la3 := (bl.cell (p := ⟨w.heap.size + 1, 3, none⟩) Hlal.out).trans Hla3.out
    have lal := Nat.lt_of_lt_of_le Hlal.out bl.size
    have xs0 := (bl.cell (p := ⟨w2.heap.size, 0, none⟩) Hxsl.out).trans Hxs0.out
    have xs1 := (bl.cell (p := ⟨w2.heap.size, 1, none⟩) Hxsl.out).trans Hxs1.out
    have xs2 := (bl.cell (p := ⟨w2.heap.size, 2, none⟩) Hxsl.out).trans Hxs2.out
    have xs3 := (bl.cell (p := ⟨w2.heap.size, 3, none⟩) Hxsl.out).trans Hxs3.out
    have xsl := Nat.lt_of_lt_of_le Hxsl.out bl.size
    have cc := H_cc.out.trans (bl.mono H_cc.out.size)
    by_cases hlt : i < mp
    · have jl : (i : Int) < (mp : Int) := by omega
      have blv := bl
      obtain ⟨b0_, o0_, rfl, b0_l, b0_c⟩ := (H_hw.out.on bl).2.2 (by omega)
      have e0_ := b0_c i hlt
      clear b0_c
      obtain ⟨b1_, o1_, rfl, b1_l, b1_c⟩ := (H_hm.out.on bl).2.2 (by omega)
      have e1_ := b1_c i hlt
      clear b1_c
      obtain ⟨b2_, o2_, rfl, b2_l, b2_c⟩ := (H_hg.out.on bl).2.2 (by omega)
      have e2_ := b2_c i hlt
      clear b2_c
      obtain ⟨b3_, o3_, rfl, b3_l, b3_c⟩ := (H_hxp.out.on bl).2.2 (by omega)
      have e3_ := b3_c i hlt
      clear b3_c
      obtain ⟨b4_, o4_, rfl, b4_l, b4_c⟩ := (H_hyp.out.on bl).2.2 (by omega)
      have e4_ := b4_c i hlt
      clear b4_c
      have hp := HPL.out i (by rw [← HN.out]; exact hlt)
      have i0 := at17 HEE.out.1 i
      have i1 := at17 HEE.out.2.1 i
      have i2 := at17 HEE.out.2.2 i
      have i3 := at17 HAL.out.1 i
      have i4 := at17 HAL.out.2 i
      generalize Lw[i]?.getD 0 = x0 at *
      generalize Lm[i]?.getD 0 = x1 at *
      generalize Lg[i]?.getD 0 = x2 at *
      generalize XW[i]?.getD 0 = yW at *
      generalize XV[i]?.getD 0 = yV at *
      obtain ⟨iL, iU, f0, f1⟩ := HI.out
      obtain ⟨hp1, hp2, hp3⟩ := hp
      have hp6 := hp2 (by first | rfl | trivial)
      clear hp2 hp3
      obtain ⟨u, eu⟩ : ∃ x, yV = x := ⟨_, rfl⟩
      have iu : I64 u := by rw [← eu]; exact i4
      have n1 := near_sum17 mu x1 x2 f.toNat
      rw [← hp1] at n1
      have n2 := near_less17 lr yV x0 f.toNat
      rw [← hp6] at n2
      clear hp1 hp6
      have zm_ : Sz (bak mu f.toNat) 2 := sz_mk (p := mu) (q := 2 ^ f.toNat) (k := 2) (two_ne _) (Nat.le_trans (len_one iU.abs) (by omega)) (Nat.le_trans (len_p40 (show f.toNat ≤ 40 by omega)) (by omega))
      have z1 : Sz (bak x1 f.toNat) 2 := sz_mk (p := x1) (q := 2 ^ f.toNat) (k := 2) (two_ne _) (Nat.le_trans (len_one i1.abs) (by omega)) (Nat.le_trans (len_p40 (show f.toNat ≤ 40 by omega)) (by omega))
      have z2 : Sz (bak x2 f.toNat) 2 := sz_mk (p := x2) (q := 2 ^ f.toNat) (k := 2) (two_ne _) (Nat.le_trans (len_one i2.abs) (by omega)) (Nat.le_trans (len_p40 (show f.toNat ≤ 40 by omega)) (by omega))
      have z0 : Sz (bak x0 f.toNat) 2 := sz_mk (p := x0) (q := 2 ^ f.toNat) (k := 2) (two_ne _) (Nat.le_trans (len_one i0.abs) (by omega)) (Nat.le_trans (len_p40 (show f.toNat ≤ 40 by omega)) (by omega))
      have zl_ : Sz (bak lr f.toNat) 2 := sz_mk (p := lr) (q := 2 ^ f.toNat) (k := 2) (two_ne _) (Nat.le_trans (len_one iL.abs) (by omega)) (Nat.le_trans (len_p40 (show f.toNat ≤ 40 by omega)) (by omega))
      have zu : Sz (bak yV f.toNat) 2 := sz_mk (p := yV) (q := 2 ^ f.toNat) (k := 2) (two_ne _) (Nat.le_trans (len_one i4.abs) (by omega)) (Nat.le_trans (len_p40 (show f.toNat ≤ 40 by omega)) (by omega))
      have Cm := fun W : World => num17_N (w := W) (n := mu) iU f0 f1
      have C1 := fun W : World => num17_N (w := W) (n := x1) i1 f0 f1
      have C2 := fun W : World => num17_N (w := W) (n := x2) i2 f0 f1
      have C0 := fun W : World => num17_N (w := W) (n := x0) i0 f0 f1
      have Cl := fun W : World => num17_N (w := W) (n := lr) iL f0 f1
      have Cu := fun W : World => num17_N (w := W) (n := yV) i4 f0 f1
      have W1 := fun {W : World} {b : Bool} {A B : Option Addr} {n c m d : Nat} (h : Rt W b A n c B m d (bak mu f.toNat * bak x1 f.toNat + bak x2 f.toNat)) => within17_N (n := yV) i4 f0 f1 h (((zm_.mul z1).add z2).le (by omega)) n1
      have W2 := fun {W : World} {b : Bool} {A B : Option Addr} {n c m d : Nat} (h : Rt W b A n c B m d (bak x0 f.toNat - bak lr f.toNat * bak yV f.toNat)) => within17_N (n := yW) i3 f0 f1 h ((z0.sub (zl_.mul zu)).le (by omega)) n2
      clear n1 n2 i0 i1 i2 i3 i4 iL iU f0 f1 iu eu
      generalize bak mu f.toNat = qm at *
      generalize bak x1 f.toNat = q1 at *
      generalize bak x2 f.toNat = q2 at *
      generalize bak x0 f.toNat = q0 at *
      generalize bak lr f.toNat = ql at *
      generalize bak yV f.toNat = qu_ at *
      have O1 : ∀ {W : World} {b b2 : Bool} {A B A2 B2 : Option Addr} {n c m d n2 c2 m2 d2 : Nat}, Rt W b A n c B m d (qm) → Rt W b2 A2 n2 c2 B2 m2 d2 (q1) → Calls Try.prog 16 #[.agg #[.bool b, .slice A n c, .slice B m d], .agg #[.bool b2, .slice A2 n2 c2, .slice B2 m2 d2]] W (GotRt W (qm * q1)) := fun a b => rtmul_N a (zm_.le (by omega)) b (z1.le (by omega))
      have O2 : ∀ {W : World} {b b2 : Bool} {A B A2 B2 : Option Addr} {n c m d n2 c2 m2 d2 : Nat}, Rt W b A n c B m d (qm * q1) → Rt W b2 A2 n2 c2 B2 m2 d2 (q2) → Calls Try.prog 15 #[.agg #[.bool b, .slice A n c, .slice B m d], .agg #[.bool b2, .slice A2 n2 c2, .slice B2 m2 d2]] W (GotRt W (qm * q1 + q2)) := fun a b => rtadd_N a ((zm_.mul z1).le (by omega)) b (z2.le (by omega))
      have O3 : ∀ {W : World} {b b2 : Bool} {A B A2 B2 : Option Addr} {n c m d n2 c2 m2 d2 : Nat}, Rt W b A n c B m d (ql) → Rt W b2 A2 n2 c2 B2 m2 d2 (qu_) → Calls Try.prog 16 #[.agg #[.bool b, .slice A n c, .slice B m d], .agg #[.bool b2, .slice A2 n2 c2, .slice B2 m2 d2]] W (GotRt W (ql * qu_)) := fun a b => rtmul_N a (zl_.le (by omega)) b (zu.le (by omega))
      have O4 : ∀ {W : World} {b b2 : Bool} {A B A2 B2 : Option Addr} {n c m d n2 c2 m2 d2 : Nat}, Rt W b A n c B m d (q0) → Rt W b2 A2 n2 c2 B2 m2 d2 (ql * qu_) → Calls Try.prog 19 #[.agg #[.bool b, .slice A n c, .slice B m d], .agg #[.bool b2, .slice A2 n2 c2, .slice B2 m2 d2]] W (GotRt W (q0 - ql * qu_)) := fun a b => rtsub_N a (z0.le (by omega)) b ((zl_.mul zu).le (by omega))
      clear zm_ z1 z2 z0 zl_ zu
      go_upto_region 12 with fail
      go_cut [10] (fun u wx => ∃ (g_ : Nat) (b_ : Bool) (A_ : Option Addr) (n_ c_ : Nat) (B_ : Option Addr) (m_ d_ : Nat), u = .pointer (some ⟨g_, 0, none⟩) ∧ LoneR wr wx g_ b_ A_ n_ c_ B_ m_ d_ (qm * q1 + q2))
      case first =>
        have BB0 : Below wr.heap.size wr wr.drew := below_drewN (Below.refl _ wr) 1
        have BB1 : Below wr.heap.size wr (wr.alloc (.cells #[.bool false, .slice none 0 0, .slice none 0 0] 40)).drew := below_drewN (below_one _ _) 1
        have bR : Below wr.heap.size wr wr := Below.refl _ _
        have k_ma0 : ∀ W : World, Below wr.heap.size wr W → W.cell? ⟨w.heap.size, 0, none⟩ = some (.int .i64 lr) := fun W b => cK b ma0 mal
        have k_ma1 : ∀ W : World, Below wr.heap.size wr W → W.cell? ⟨w.heap.size, 1, none⟩ = some (.int .i64 mu) := fun W b => cK b ma1 mal
        have k_ma2 : ∀ W : World, Below wr.heap.size wr W → W.cell? ⟨w.heap.size, 2, none⟩ = some (.int .i64 0) := fun W b => cK b ma2 mal
        have k_ma3 : ∀ W : World, Below wr.heap.size wr W → W.cell? ⟨w.heap.size, 3, none⟩ = some (.bool false) := fun W b => cK b ma3 mal
        have k_la0 : ∀ W : World, Below wr.heap.size wr W → W.cell? ⟨w.heap.size + 1, 0, none⟩ = some (.slice (some ⟨b0_, o0_, none⟩) mp cw) := fun W b => cK b la0 lal
        have k_la1 : ∀ W : World, Below wr.heap.size wr W → W.cell? ⟨w.heap.size + 1, 1, none⟩ = some (.slice (some ⟨b1_, o1_, none⟩) mp cm) := fun W b => cK b la1 lal
        have k_la2 : ∀ W : World, Below wr.heap.size wr W → W.cell? ⟨w.heap.size + 1, 2, none⟩ = some (.slice Av nv cv) := fun W b => cK b la2 lal
        have k_la3 : ∀ W : World, Below wr.heap.size wr W → W.cell? ⟨w.heap.size + 1, 3, none⟩ = some (.slice (some ⟨b2_, o2_, none⟩) mp cg) := fun W b => cK b la3 lal
        have k_xs0 : ∀ W : World, Below wr.heap.size wr W → W.cell? ⟨w2.heap.size, 0, none⟩ = some (.slice (some ⟨b3_, o3_, none⟩) mp cp) := fun W b => cK b xs0 xsl
        have k_xs1 : ∀ W : World, Below wr.heap.size wr W → W.cell? ⟨w2.heap.size, 1, none⟩ = some (.slice (some ⟨b4_, o4_, none⟩) mp dp) := fun W b => cK b xs1 xsl
        have k_xs2 : ∀ W : World, Below wr.heap.size wr W → W.cell? ⟨w2.heap.size, 2, none⟩ = some (.slice none 0 0) := fun W b => cK b xs2 xsl
        have k_xs3 : ∀ W : World, Below wr.heap.size wr W → W.cell? ⟨w2.heap.size, 3, none⟩ = some (.slice none 0 0) := fun W b => cK b xs3 xsl
        have k_e0_ : ∀ W : World, Below wr.heap.size wr W → W.cell? ⟨b0_, o0_ + i, none⟩ = some (.int .i64 x0) := fun W b => cK b e0_ b0_l
        have k_e1_ : ∀ W : World, Below wr.heap.size wr W → W.cell? ⟨b1_, o1_ + i, none⟩ = some (.int .i64 x1) := fun W b => cK b e1_ b1_l
        have k_e2_ : ∀ W : World, Below wr.heap.size wr W → W.cell? ⟨b2_, o2_ + i, none⟩ = some (.int .i64 x2) := fun W b => cK b e2_ b2_l
        have k_e3_ : ∀ W : World, Below wr.heap.size wr W → W.cell? ⟨b3_, o3_ + i, none⟩ = some (.int .i64 yW) := fun W b => cK b e3_ b3_l
        have k_e4_ : ∀ W : World, Below wr.heap.size wr W → W.cell? ⟨b4_, o4_ + i, none⟩ = some (.int .i64 yV) := fun W b => cK b e4_ b4_l
        clear ma0 ma1 ma2 ma3 la0 la1 la2 la3 xs0 xs1 xs2 xs3 e0_ e1_ e2_ e3_ e4_
        go_region_held3 (fun w' => Below wr.heap.size wr w')
          (repeat' (first | with_reducible assumption | with_reducible refine below_al17 _ ?_ | with_reducible refine below_dr17 ?_ | with_reducible refine below_sc17 _ ?_ () ?_ | (first | omega | (simp; omega))))
          (first
            | (go_at_call 17; (with_reducible refine (Cm _).mono ?_); rintro e y1 ⟨bp, Ap_, np_, cp_, Bp_, mp_, dp_, rfl, hP, q⟩; have qq := BB0.trans (q.mono BB0.size); have qs1 := qq.size; clear q)
            | (go_at_call 17; (with_reducible refine (Cm _).mono ?_); rintro e y1 ⟨bp, Ap_, np_, cp_, Bp_, mp_, dp_, rfl, hP, q⟩; have qq := BB1.trans (q.mono BB1.size); have qs1 := qq.size; obtain ⟨bo_0, fo_0, bo_1, fo_1, bo_2, fo_2, ol⟩ := zb3 (g := wr.heap.size) q (by simp) (by simp [Cs3, go_sem]) (by simp [Fz3, go_sem]); clear q)
            | (go_at_call 17; have up := Below.refl y1.heap.size y1; have qu := qq.trans (up.mono qq.size); (with_reducible refine (C1 _).mono ?_); rintro e y2 ⟨bq, Aq, nq, cq, Bq, mq, dq, rfl, hq, q⟩; replace qq := qu.trans (q.mono qu.size); clear qu; replace hP := (hP.on up).on q; (try (rewrite [cR up ol, cR q (lK up ol)] at bo_0 bo_1 bo_2; rewrite [fR up ol, fR q (lK up ol)] at fo_0 fo_1 fo_2; replace ol := lK q (lK up ol))); have qs2 := qq.size; clear q up)
            | (go_at_call 17; have up := below_one y1 (.cells #[.bool false, .slice none 0 0, .slice none 0 0] 40); have qu := qq.trans (up.mono qq.size); (with_reducible refine (C1 _).mono ?_); rintro e y2 ⟨bq, Aq, nq, cq, Bq, mq, dq, rfl, hq, q⟩; replace qq := qu.trans (q.mono qu.size); clear qu; replace hP := (hP.on up).on q; (try (rewrite [cR up ol, cR q (lK up ol)] at bo_0 bo_1 bo_2; rewrite [fR up ol, fR q (lK up ol)] at fo_0 fo_1 fo_2; replace ol := lK q (lK up ol))); have qs2 := qq.size; obtain ⟨bo_0, fo_0, bo_1, fo_1, bo_2, fo_2, ol⟩ := zb3 (g := y1.heap.size) q (by simp) (by simp [Cs3, go_sem]) (by simp [Fz3, go_sem]); clear q up)
            | (go_at_call 16; have up := Below.refl y2.heap.size y2; have qu := qq.trans (up.mono qq.size); (with_reducible refine (O1 (hP.on up) (hq.on up)).mono ?_); rintro e y3 ⟨br_, Ar_, nr_, cr_, Br_, mr_, dr_, rfl, hr_, q⟩; replace qq := qu.trans (q.mono qu.size); clear qu; replace hP := (hP.on up).on q; replace hq := (hq.on up).on q; (try (rewrite [cR up ol, cR q (lK up ol)] at bo_0 bo_1 bo_2; rewrite [fR up ol, fR q (lK up ol)] at fo_0 fo_1 fo_2; replace ol := lK q (lK up ol))); have qs3 := qq.size; clear q up)
            | (go_at_call 16; have up := below_one y2 (.cells #[.bool false, .slice none 0 0, .slice none 0 0] 40); have qu := qq.trans (up.mono qq.size); (with_reducible refine (O1 (hP.on up) (hq.on up)).mono ?_); rintro e y3 ⟨br_, Ar_, nr_, cr_, Br_, mr_, dr_, rfl, hr_, q⟩; replace qq := qu.trans (q.mono qu.size); clear qu; replace hP := (hP.on up).on q; replace hq := (hq.on up).on q; (try (rewrite [cR up ol, cR q (lK up ol)] at bo_0 bo_1 bo_2; rewrite [fR up ol, fR q (lK up ol)] at fo_0 fo_1 fo_2; replace ol := lK q (lK up ol))); have qs3 := qq.size; obtain ⟨bo_0, fo_0, bo_1, fo_1, bo_2, fo_2, ol⟩ := zb3 (g := y2.heap.size) q (by simp) (by simp [Cs3, go_sem]) (by simp [Fz3, go_sem]); clear q up)
            | (go_at_call 17; have up := Below.refl y3.heap.size y3; have qu := qq.trans (up.mono qq.size); (with_reducible refine (C2 _).mono ?_); rintro e y4 ⟨bs, As, ns, cs, Bs, ms, ds, rfl, hs, q⟩; replace qq := qu.trans (q.mono qu.size); clear qu; replace hP := (hP.on up).on q; replace hq := (hq.on up).on q; replace hr_ := (hr_.on up).on q; (try (rewrite [cR up ol, cR q (lK up ol)] at bo_0 bo_1 bo_2; rewrite [fR up ol, fR q (lK up ol)] at fo_0 fo_1 fo_2; replace ol := lK q (lK up ol))); have qs4 := qq.size; clear q up)
            | (go_at_call 17; have up := below_one y3 (.cells #[.bool false, .slice none 0 0, .slice none 0 0] 40); have qu := qq.trans (up.mono qq.size); (with_reducible refine (C2 _).mono ?_); rintro e y4 ⟨bs, As, ns, cs, Bs, ms, ds, rfl, hs, q⟩; replace qq := qu.trans (q.mono qu.size); clear qu; replace hP := (hP.on up).on q; replace hq := (hq.on up).on q; replace hr_ := (hr_.on up).on q; (try (rewrite [cR up ol, cR q (lK up ol)] at bo_0 bo_1 bo_2; rewrite [fR up ol, fR q (lK up ol)] at fo_0 fo_1 fo_2; replace ol := lK q (lK up ol))); have qs4 := qq.size; obtain ⟨bo_0, fo_0, bo_1, fo_1, bo_2, fo_2, ol⟩ := zb3 (g := y3.heap.size) q (by simp) (by simp [Cs3, go_sem]) (by simp [Fz3, go_sem]); clear q up)
            | (go_at_call 15; have up := Below.refl y4.heap.size y4; have qu := qq.trans (up.mono qq.size); (with_reducible refine (O2 (hr_.on up) (hs.on up)).mono ?_); rintro e y5 ⟨bo, Ao, no, co, Bo, mo, do_, rfl, o, q⟩; replace qq := qu.trans (q.mono qu.size); clear qu; replace hP := (hP.on up).on q; replace hq := (hq.on up).on q; replace hr_ := (hr_.on up).on q; replace hs := (hs.on up).on q; (try (rewrite [cR up ol, cR q (lK up ol)] at bo_0 bo_1 bo_2; rewrite [fR up ol, fR q (lK up ol)] at fo_0 fo_1 fo_2; replace ol := lK q (lK up ol))); have qs5 := qq.size; clear q up)
            | (go_at_call 15; have up := below_one y4 (.cells #[.bool false, .slice none 0 0, .slice none 0 0] 40); have qu := qq.trans (up.mono qq.size); (with_reducible refine (O2 (hr_.on up) (hs.on up)).mono ?_); rintro e y5 ⟨bo, Ao, no, co, Bo, mo, do_, rfl, o, q⟩; replace qq := qu.trans (q.mono qu.size); clear qu; replace hP := (hP.on up).on q; replace hq := (hq.on up).on q; replace hr_ := (hr_.on up).on q; replace hs := (hs.on up).on q; (try (rewrite [cR up ol, cR q (lK up ol)] at bo_0 bo_1 bo_2; rewrite [fR up ol, fR q (lK up ol)] at fo_0 fo_1 fo_2; replace ol := lK q (lK up ol))); have qs5 := qq.size; obtain ⟨bo_0, fo_0, bo_1, fo_1, bo_2, fo_2, ol⟩ := zb3 (g := y4.heap.size) q (by simp) (by simp [Cs3, go_sem]) (by simp [Fz3, go_sem]); clear q up))
        all_goals (go_wp2_with fail; go_meet)
        all_goals refine ⟨_, bo, Ao, no, co, Bo, mo, do_, rfl, ?_⟩
        all_goals first
          | with_reducible exact loneRA o qq _
          | with_reducible exact loneRB bo_0 bo_1 bo_2 o qq (by omega)
      case rest =>
        obtain ⟨gz, bz, Az, nz, cz, Bz, mz, dz, rfl, ⟨z0, z1, z2⟩, hz, b, zge⟩ := hcut
        have zl := cell_lt z0
        simp only at zl
        have zqma : w.heap.size < gz := Nat.lt_of_lt_of_le mal zge
        have zqla : w.heap.size + 1 < gz := Nat.lt_of_lt_of_le lal zge
        have zqxs : w2.heap.size < gz := Nat.lt_of_lt_of_le xsl zge
        replace e0_ := cK b e0_ b0_l
        replace e1_ := cK b e1_ b1_l
        replace e2_ := cK b e2_ b2_l
        replace e3_ := cK b e3_ b3_l
        replace e4_ := cK b e4_ b4_l
        replace b0_l := lK b b0_l
        replace b1_l := lK b b1_l
        replace b2_l := lK b b2_l
        replace b3_l := lK b b3_l
        replace b4_l := lK b b4_l
        rewrite [cR b mal] at ma0 ma1 ma2 ma3
        replace mal := lK b mal
        rewrite [cR b lal] at la0 la1 la2 la3
        replace lal := lK b lal
        rewrite [cR b xsl] at xs0 xs1 xs2 xs3
        replace xsl := lK b xsl
        replace cc := bK cc b
        replace blv := bK blv b
        clear b
        obtain ⟨wv1, rfl⟩ : ∃ W, W = wc := ⟨_, rfl⟩
        go_upto_region 17 with fail
        go_cut [14] (fun u wx => ∃ (g_ : Nat) (b_ : Bool) (A_ : Option Addr) (n_ c_ : Nat) (B_ : Option Addr) (m_ d_ : Nat), u = .pointer (some ⟨g_, 0, none⟩) ∧ LoneR wv1 wx g_ b_ A_ n_ c_ B_ m_ d_ (q0 - ql * qu_))
        case first =>
          have BB0 : Below wv1.heap.size wv1 wv1.drew := below_drewN (Below.refl _ wv1) 1
          have BB1 : Below wv1.heap.size wv1 (wv1.alloc (.cells #[.bool false, .slice none 0 0, .slice none 0 0] 40)).drew := below_drewN (below_one _ _) 1
          have bR : Below wv1.heap.size wv1 wv1 := Below.refl _ _
          have k_ma0 : ∀ W : World, Below wv1.heap.size wv1 W → W.cell? ⟨w.heap.size, 0, none⟩ = some (.int .i64 lr) := fun W b => cK b ma0 mal
          have k_ma1 : ∀ W : World, Below wv1.heap.size wv1 W → W.cell? ⟨w.heap.size, 1, none⟩ = some (.int .i64 mu) := fun W b => cK b ma1 mal
          have k_ma2 : ∀ W : World, Below wv1.heap.size wv1 W → W.cell? ⟨w.heap.size, 2, none⟩ = some (.int .i64 0) := fun W b => cK b ma2 mal
          have k_ma3 : ∀ W : World, Below wv1.heap.size wv1 W → W.cell? ⟨w.heap.size, 3, none⟩ = some (.bool false) := fun W b => cK b ma3 mal
          have k_la0 : ∀ W : World, Below wv1.heap.size wv1 W → W.cell? ⟨w.heap.size + 1, 0, none⟩ = some (.slice (some ⟨b0_, o0_, none⟩) mp cw) := fun W b => cK b la0 lal
          have k_la1 : ∀ W : World, Below wv1.heap.size wv1 W → W.cell? ⟨w.heap.size + 1, 1, none⟩ = some (.slice (some ⟨b1_, o1_, none⟩) mp cm) := fun W b => cK b la1 lal
          have k_la2 : ∀ W : World, Below wv1.heap.size wv1 W → W.cell? ⟨w.heap.size + 1, 2, none⟩ = some (.slice Av nv cv) := fun W b => cK b la2 lal
          have k_la3 : ∀ W : World, Below wv1.heap.size wv1 W → W.cell? ⟨w.heap.size + 1, 3, none⟩ = some (.slice (some ⟨b2_, o2_, none⟩) mp cg) := fun W b => cK b la3 lal
          have k_xs0 : ∀ W : World, Below wv1.heap.size wv1 W → W.cell? ⟨w2.heap.size, 0, none⟩ = some (.slice (some ⟨b3_, o3_, none⟩) mp cp) := fun W b => cK b xs0 xsl
          have k_xs1 : ∀ W : World, Below wv1.heap.size wv1 W → W.cell? ⟨w2.heap.size, 1, none⟩ = some (.slice (some ⟨b4_, o4_, none⟩) mp dp) := fun W b => cK b xs1 xsl
          have k_xs2 : ∀ W : World, Below wv1.heap.size wv1 W → W.cell? ⟨w2.heap.size, 2, none⟩ = some (.slice none 0 0) := fun W b => cK b xs2 xsl
          have k_xs3 : ∀ W : World, Below wv1.heap.size wv1 W → W.cell? ⟨w2.heap.size, 3, none⟩ = some (.slice none 0 0) := fun W b => cK b xs3 xsl
          have k_z0 : ∀ W : World, Below wv1.heap.size wv1 W → W.cell? ⟨gz, 0, none⟩ = some (.bool bz) := fun W b => cK b z0 zl
          have k_z1 : ∀ W : World, Below wv1.heap.size wv1 W → W.cell? ⟨gz, 1, none⟩ = some (.slice Az nz cz) := fun W b => cK b z1 zl
          have k_z2 : ∀ W : World, Below wv1.heap.size wv1 W → W.cell? ⟨gz, 2, none⟩ = some (.slice Bz mz dz) := fun W b => cK b z2 zl
          have k_e0_ : ∀ W : World, Below wv1.heap.size wv1 W → W.cell? ⟨b0_, o0_ + i, none⟩ = some (.int .i64 x0) := fun W b => cK b e0_ b0_l
          have k_e1_ : ∀ W : World, Below wv1.heap.size wv1 W → W.cell? ⟨b1_, o1_ + i, none⟩ = some (.int .i64 x1) := fun W b => cK b e1_ b1_l
          have k_e2_ : ∀ W : World, Below wv1.heap.size wv1 W → W.cell? ⟨b2_, o2_ + i, none⟩ = some (.int .i64 x2) := fun W b => cK b e2_ b2_l
          have k_e3_ : ∀ W : World, Below wv1.heap.size wv1 W → W.cell? ⟨b3_, o3_ + i, none⟩ = some (.int .i64 yW) := fun W b => cK b e3_ b3_l
          have k_e4_ : ∀ W : World, Below wv1.heap.size wv1 W → W.cell? ⟨b4_, o4_ + i, none⟩ = some (.int .i64 yV) := fun W b => cK b e4_ b4_l
          clear ma0 ma1 ma2 ma3 la0 la1 la2 la3 xs0 xs1 xs2 xs3 z0 z1 z2 e0_ e1_ e2_ e3_ e4_
          go_region_held3 (fun w' => Below wv1.heap.size wv1 w')
            (repeat' (first | with_reducible assumption | with_reducible refine below_al17 _ ?_ | with_reducible refine below_dr17 ?_ | with_reducible refine below_sc17 _ ?_ () ?_ | (first | omega | (simp; omega))))
            (first
              | (go_at_call 17; (with_reducible refine (C0 _).mono ?_); rintro e y1 ⟨bp, Ap_, np_, cp_, Bp_, mp_, dp_, rfl, hP, q⟩; have qq := BB0.trans (q.mono BB0.size); have qs1 := qq.size; clear q)
              | (go_at_call 17; (with_reducible refine (C0 _).mono ?_); rintro e y1 ⟨bp, Ap_, np_, cp_, Bp_, mp_, dp_, rfl, hP, q⟩; have qq := BB1.trans (q.mono BB1.size); have qs1 := qq.size; obtain ⟨bo_0, fo_0, bo_1, fo_1, bo_2, fo_2, ol⟩ := zb3 (g := wv1.heap.size) q (by simp) (by simp [Cs3, go_sem]) (by simp [Fz3, go_sem]); clear q)
              | (go_at_call 17; have up := Below.refl y1.heap.size y1; have qu := qq.trans (up.mono qq.size); (with_reducible refine (Cl _).mono ?_); rintro e y2 ⟨bq, Aq, nq, cq, Bq, mq, dq, rfl, hq, q⟩; replace qq := qu.trans (q.mono qu.size); clear qu; replace hP := (hP.on up).on q; (try (rewrite [cR up ol, cR q (lK up ol)] at bo_0 bo_1 bo_2; rewrite [fR up ol, fR q (lK up ol)] at fo_0 fo_1 fo_2; replace ol := lK q (lK up ol))); have qs2 := qq.size; clear q up)
              | (go_at_call 17; have up := below_one y1 (.cells #[.bool false, .slice none 0 0, .slice none 0 0] 40); have qu := qq.trans (up.mono qq.size); (with_reducible refine (Cl _).mono ?_); rintro e y2 ⟨bq, Aq, nq, cq, Bq, mq, dq, rfl, hq, q⟩; replace qq := qu.trans (q.mono qu.size); clear qu; replace hP := (hP.on up).on q; (try (rewrite [cR up ol, cR q (lK up ol)] at bo_0 bo_1 bo_2; rewrite [fR up ol, fR q (lK up ol)] at fo_0 fo_1 fo_2; replace ol := lK q (lK up ol))); have qs2 := qq.size; obtain ⟨bo_0, fo_0, bo_1, fo_1, bo_2, fo_2, ol⟩ := zb3 (g := y1.heap.size) q (by simp) (by simp [Cs3, go_sem]) (by simp [Fz3, go_sem]); clear q up)
              | (go_at_call 17; have up := Below.refl y2.heap.size y2; have qu := qq.trans (up.mono qq.size); (with_reducible refine (Cu _).mono ?_); rintro e y3 ⟨bs, As, ns, cs, Bs, ms, ds, rfl, hs, q⟩; replace qq := qu.trans (q.mono qu.size); clear qu; replace hP := (hP.on up).on q; replace hq := (hq.on up).on q; (try (rewrite [cR up ol, cR q (lK up ol)] at bo_0 bo_1 bo_2; rewrite [fR up ol, fR q (lK up ol)] at fo_0 fo_1 fo_2; replace ol := lK q (lK up ol))); have qs3 := qq.size; clear q up)
              | (go_at_call 17; have up := below_one y2 (.cells #[.bool false, .slice none 0 0, .slice none 0 0] 40); have qu := qq.trans (up.mono qq.size); (with_reducible refine (Cu _).mono ?_); rintro e y3 ⟨bs, As, ns, cs, Bs, ms, ds, rfl, hs, q⟩; replace qq := qu.trans (q.mono qu.size); clear qu; replace hP := (hP.on up).on q; replace hq := (hq.on up).on q; (try (rewrite [cR up ol, cR q (lK up ol)] at bo_0 bo_1 bo_2; rewrite [fR up ol, fR q (lK up ol)] at fo_0 fo_1 fo_2; replace ol := lK q (lK up ol))); have qs3 := qq.size; obtain ⟨bo_0, fo_0, bo_1, fo_1, bo_2, fo_2, ol⟩ := zb3 (g := y2.heap.size) q (by simp) (by simp [Cs3, go_sem]) (by simp [Fz3, go_sem]); clear q up)
              | (go_at_call 16; have up := Below.refl y3.heap.size y3; have qu := qq.trans (up.mono qq.size); (with_reducible refine (O3 (hq.on up) (hs.on up)).mono ?_); rintro e y4 ⟨br_, Ar_, nr_, cr_, Br_, mr_, dr_, rfl, hr_, q⟩; replace qq := qu.trans (q.mono qu.size); clear qu; replace hP := (hP.on up).on q; replace hq := (hq.on up).on q; replace hs := (hs.on up).on q; (try (rewrite [cR up ol, cR q (lK up ol)] at bo_0 bo_1 bo_2; rewrite [fR up ol, fR q (lK up ol)] at fo_0 fo_1 fo_2; replace ol := lK q (lK up ol))); have qs4 := qq.size; clear q up)
              | (go_at_call 16; have up := below_one y3 (.cells #[.bool false, .slice none 0 0, .slice none 0 0] 40); have qu := qq.trans (up.mono qq.size); (with_reducible refine (O3 (hq.on up) (hs.on up)).mono ?_); rintro e y4 ⟨br_, Ar_, nr_, cr_, Br_, mr_, dr_, rfl, hr_, q⟩; replace qq := qu.trans (q.mono qu.size); clear qu; replace hP := (hP.on up).on q; replace hq := (hq.on up).on q; replace hs := (hs.on up).on q; (try (rewrite [cR up ol, cR q (lK up ol)] at bo_0 bo_1 bo_2; rewrite [fR up ol, fR q (lK up ol)] at fo_0 fo_1 fo_2; replace ol := lK q (lK up ol))); have qs4 := qq.size; obtain ⟨bo_0, fo_0, bo_1, fo_1, bo_2, fo_2, ol⟩ := zb3 (g := y3.heap.size) q (by simp) (by simp [Cs3, go_sem]) (by simp [Fz3, go_sem]); clear q up)
              | (go_at_call 19; have up := Below.refl y4.heap.size y4; have qu := qq.trans (up.mono qq.size); (with_reducible refine (O4 (hP.on up) (hr_.on up)).mono ?_); rintro e y5 ⟨bo, Ao, no, co, Bo, mo, do_, rfl, o, q⟩; replace qq := qu.trans (q.mono qu.size); clear qu; replace hP := (hP.on up).on q; replace hq := (hq.on up).on q; replace hs := (hs.on up).on q; replace hr_ := (hr_.on up).on q; (try (rewrite [cR up ol, cR q (lK up ol)] at bo_0 bo_1 bo_2; rewrite [fR up ol, fR q (lK up ol)] at fo_0 fo_1 fo_2; replace ol := lK q (lK up ol))); have qs5 := qq.size; clear q up)
              | (go_at_call 19; have up := below_one y4 (.cells #[.bool false, .slice none 0 0, .slice none 0 0] 40); have qu := qq.trans (up.mono qq.size); (with_reducible refine (O4 (hP.on up) (hr_.on up)).mono ?_); rintro e y5 ⟨bo, Ao, no, co, Bo, mo, do_, rfl, o, q⟩; replace qq := qu.trans (q.mono qu.size); clear qu; replace hP := (hP.on up).on q; replace hq := (hq.on up).on q; replace hs := (hs.on up).on q; replace hr_ := (hr_.on up).on q; (try (rewrite [cR up ol, cR q (lK up ol)] at bo_0 bo_1 bo_2; rewrite [fR up ol, fR q (lK up ol)] at fo_0 fo_1 fo_2; replace ol := lK q (lK up ol))); have qs5 := qq.size; obtain ⟨bo_0, fo_0, bo_1, fo_1, bo_2, fo_2, ol⟩ := zb3 (g := y4.heap.size) q (by simp) (by simp [Cs3, go_sem]) (by simp [Fz3, go_sem]); clear q up))
          all_goals (go_wp2_with fail; go_meet)
          all_goals refine ⟨_, bo, Ao, no, co, Bo, mo, do_, rfl, ?_⟩
          all_goals first
            | with_reducible exact loneRA o qq _
            | with_reducible exact loneRB bo_0 bo_1 bo_2 o qq (by omega)
        case rest =>
          obtain ⟨gk, bk, Ak, nk, ck, Bk, mk, dk, rfl, ⟨k0, k1, k2⟩, hk, b, kge⟩ := hcut
          have kl := cell_lt k0
          simp only at kl
          have kqma : w.heap.size < gk := Nat.lt_of_lt_of_le mal kge
          have kqla : w.heap.size + 1 < gk := Nat.lt_of_lt_of_le lal kge
          have kqxs : w2.heap.size < gk := Nat.lt_of_lt_of_le xsl kge
          have kqz : gz < gk := Nat.lt_of_lt_of_le zl kge
          replace e0_ := cK b e0_ b0_l
          replace e1_ := cK b e1_ b1_l
          replace e2_ := cK b e2_ b2_l
          replace e3_ := cK b e3_ b3_l
          replace e4_ := cK b e4_ b4_l
          replace b0_l := lK b b0_l
          replace b1_l := lK b b1_l
          replace b2_l := lK b b2_l
          replace b3_l := lK b b3_l
          replace b4_l := lK b b4_l
          replace hz := hz.on b
          rewrite [cR b mal] at ma0 ma1 ma2 ma3
          replace mal := lK b mal
          rewrite [cR b lal] at la0 la1 la2 la3
          replace lal := lK b lal
          rewrite [cR b xsl] at xs0 xs1 xs2 xs3
          replace xsl := lK b xsl
          rewrite [cR b zl] at z0 z1 z2
          replace zl := lK b zl
          replace cc := bK cc b
          replace blv := bK blv b
          clear b
          obtain ⟨wv2, rfl⟩ : ∃ W, W = wc := ⟨_, rfl⟩
          go_wp2_with fail
          have bD : Below wv2.heap.size wv2 wv2.drew := below_drewN (Below.refl _ wv2) 1
          replace e0_ := cK bD e0_ b0_l
          replace e1_ := cK bD e1_ b1_l
          replace e2_ := cK bD e2_ b2_l
          replace e3_ := cK bD e3_ b3_l
          replace e4_ := cK bD e4_ b4_l
          replace b0_l := lK bD b0_l
          replace b1_l := lK bD b1_l
          replace b2_l := lK bD b2_l
          replace b3_l := lK bD b3_l
          replace b4_l := lK bD b4_l
          replace hz := hz.on bD
          replace hk := hk.on bD
          rewrite [cR bD mal] at ma0 ma1 ma2 ma3
          replace mal := lK bD mal
          rewrite [cR bD lal] at la0 la1 la2 la3
          replace lal := lK bD lal
          rewrite [cR bD xsl] at xs0 xs1 xs2 xs3
          replace xsl := lK bD xsl
          rewrite [cR bD zl] at z0 z1 z2
          replace zl := lK bD zl
          rewrite [cR bD kl] at k0 k1 k2
          replace kl := lK bD kl
          replace cc := bK cc bD
          replace blv := bK blv bD
          clear bD
          refine wp_region_held_drew (S := fun w' => w'.cell? ⟨b0_, o0_ + i, none⟩ = some (.int .i64 x0) ∧ w'.cell? ⟨b1_, o1_ + i, none⟩ = some (.int .i64 x1) ∧ w'.cell? ⟨b2_, o2_ + i, none⟩ = some (.int .i64 x2) ∧ w'.cell? ⟨b3_, o3_ + i, none⟩ = some (.int .i64 yW) ∧ w'.cell? ⟨b4_, o4_ + i, none⟩ = some (.int .i64 yV) ∧ w'.cell? ⟨w.heap.size, 0, none⟩ = some (.int .i64 lr) ∧ w'.cell? ⟨w.heap.size, 1, none⟩ = some (.int .i64 mu) ∧ w'.cell? ⟨w.heap.size, 2, none⟩ = some (.int .i64 0) ∧ w'.cell? ⟨w.heap.size, 3, none⟩ = some (.bool false) ∧ w'.cell? ⟨w.heap.size + 1, 0, none⟩ = some (.slice (some ⟨b0_, o0_, none⟩) mp cw) ∧ w'.cell? ⟨w.heap.size + 1, 1, none⟩ = some (.slice (some ⟨b1_, o1_, none⟩) mp cm) ∧ w'.cell? ⟨w.heap.size + 1, 2, none⟩ = some (.slice Av nv cv) ∧ w'.cell? ⟨w.heap.size + 1, 3, none⟩ = some (.slice (some ⟨b2_, o2_, none⟩) mp cg) ∧ w'.cell? ⟨w2.heap.size, 0, none⟩ = some (.slice (some ⟨b3_, o3_, none⟩) mp cp) ∧ w'.cell? ⟨w2.heap.size, 1, none⟩ = some (.slice (some ⟨b4_, o4_, none⟩) mp dp) ∧ w'.cell? ⟨w2.heap.size, 2, none⟩ = some (.slice none 0 0) ∧ w'.cell? ⟨w2.heap.size, 3, none⟩ = some (.slice none 0 0) ∧ w'.cell? ⟨gz, 0, none⟩ = some (.bool bz) ∧ w'.cell? ⟨gz, 1, none⟩ = some (.slice Az nz cz) ∧ w'.cell? ⟨gz, 2, none⟩ = some (.slice Bz mz dz) ∧ w'.cell? ⟨gk, 0, none⟩ = some (.bool bk) ∧ w'.cell? ⟨gk, 1, none⟩ = some (.slice Ak nk ck) ∧ w'.cell? ⟨gk, 2, none⟩ = some (.slice Bk mk dk)) (by kernel_rfl) ?_ (fun hHeld => ?_)
          · exact ⟨e0_, e1_, e2_, e3_, e4_, ma0, ma1, ma2, ma3, la0, la1, la2, la3, xs0, xs1, xs2, xs3, z0, z1, z2, k0, k1, k2⟩
          refine tY (i := 0) (v := ?_) rfl ?_ hHeld ?_
          rotate_left
          · (intro w hSw; (try dsimp only at hSw); go_simp; (try with_reducible rfl))
          try simp only [Act.put, pT]
          refine tY (i := 1) (v := ?_) rfl ?_ hHeld ?_
          rotate_left
          · (intro w hSw; (try dsimp only at hSw); go_simp; (try with_reducible rfl))
          try simp only [Act.put, pT]
          refine tY (i := 2) (v := ?_) rfl ?_ hHeld ?_
          rotate_left
          · (intro w hSw; (try dsimp only at hSw); go_simp; (try with_reducible rfl))
          try simp only [Act.put, pT]
          refine tY (i := 3) (v := ?_) rfl ?_ hHeld ?_
          rotate_left
          · (intro w hSw; (try dsimp only at hSw); go_simp; (try with_reducible rfl))
          try simp only [Act.put, pT]
          refine tY (i := 4) (v := ?_) rfl ?_ hHeld ?_
          rotate_left
          · (intro w hSw; (try dsimp only at hSw); go_simp; (try with_reducible rfl))
          try simp only [Act.put, pT]
          refine tY (i := 5) (v := ?_) rfl ?_ hHeld ?_
          rotate_left
          · (intro w hSw; (try dsimp only at hSw); go_simp; (try with_reducible rfl))
          try simp only [Act.put, pT]
          refine tY (i := 6) (v := ?_) rfl ?_ hHeld ?_
          rotate_left
          · (intro w hSw; (try dsimp only at hSw); go_simp; (try with_reducible rfl))
          try simp only [Act.put, pT]
          refine wpAnyH_ready (rs := [7]) (by kernel_rfl) (by simp) ?_
          refine AllReadyH.cons rfl (fun K hK => ?_) AllReadyH.nil
          (try simp only [pT])
          rw [if_pos (by rfl)]
          go_simp
          go_at_call 20
          refine (W1 hz).mono ?_
          rintro e w4 ⟨rfl, b⟩
          replace e0_ := cK b e0_ b0_l
          replace e1_ := cK b e1_ b1_l
          replace e2_ := cK b e2_ b2_l
          replace e3_ := cK b e3_ b3_l
          replace e4_ := cK b e4_ b4_l
          replace b0_l := lK b b0_l
          replace b1_l := lK b b1_l
          replace b2_l := lK b b2_l
          replace b3_l := lK b b3_l
          replace b4_l := lK b b4_l
          replace hz := hz.on b
          replace hk := hk.on b
          rewrite [cR b mal] at ma0 ma1 ma2 ma3
          replace mal := lK b mal
          rewrite [cR b lal] at la0 la1 la2 la3
          replace lal := lK b lal
          rewrite [cR b xsl] at xs0 xs1 xs2 xs3
          replace xsl := lK b xsl
          rewrite [cR b zl] at z0 z1 z2
          replace zl := lK b zl
          rewrite [cR b kl] at k0 k1 k2
          replace kl := lK b kl
          replace cc := bK cc b
          replace blv := bK blv b
          clear b
          refine hK.out _ _ ?_ (fun hHeld => ?_)
          · exact ⟨e0_, e1_, e2_, e3_, e4_, ma0, ma1, ma2, ma3, la0, la1, la2, la3, xs0, xs1, xs2, xs3, z0, z1, z2, k0, k1, k2⟩
          clear hK K
          try simp only [Act.put, pT]
          refine tY (i := 8) (v := ?_) rfl ?_ hHeld ?_
          rotate_left
          · (intro w hSw; (try dsimp only at hSw); go_simp; (try with_reducible rfl))
          try simp only [Act.put, pT]
          refine tY (i := 9) (v := ?_) rfl ?_ hHeld ?_
          rotate_left
          · (intro w hSw; (try dsimp only at hSw); go_simp; (try with_reducible rfl))
          try simp only [Act.put, pT]
          refine tY (i := 10) (v := ?_) rfl ?_ hHeld ?_
          rotate_left
          · (intro w hSw; (try dsimp only at hSw); go_simp; (try with_reducible rfl))
          try simp only [Act.put, pT]
          refine tY (i := 11) (v := ?_) rfl ?_ hHeld ?_
          rotate_left
          · (intro w hSw; (try dsimp only at hSw); go_simp; (try with_reducible rfl))
          try simp only [Act.put, pT]
          refine tY (i := 12) (v := ?_) rfl ?_ hHeld ?_
          rotate_left
          · (intro w hSw; (try dsimp only at hSw); go_simp; (try with_reducible rfl))
          try simp only [Act.put, pT]
          refine tY (i := 13) (v := ?_) rfl ?_ hHeld ?_
          rotate_left
          · (intro w hSw; (try dsimp only at hSw); go_simp; (try with_reducible rfl))
          try simp only [Act.put, pT]
          refine tY (i := 14) (v := ?_) rfl ?_ hHeld ?_
          rotate_left
          · (intro w hSw; (try dsimp only at hSw); go_simp; (try with_reducible rfl))
          try simp only [Act.put, pT]
          refine tY (i := 15) (v := ?_) rfl ?_ hHeld ?_
          rotate_left
          · (intro w hSw; (try dsimp only at hSw); go_simp; (try with_reducible rfl))
          try simp only [Act.put, pT]
          refine tY (i := 16) (v := ?_) rfl ?_ hHeld ?_
          rotate_left
          · (intro w hSw; (try dsimp only at hSw); go_simp; (try with_reducible rfl))
          try simp only [Act.put, pT]
          refine wpAnyH_ready (rs := [17]) (by kernel_rfl) (by simp) ?_
          refine AllReadyH.cons rfl (fun K hK => ?_) AllReadyH.nil
          (try simp only [pT])
          rw [if_pos (by rfl)]
          go_simp
          go_at_call 20
          refine (W2 hk).mono ?_
          rintro e w5 ⟨rfl, b⟩
          replace e0_ := cK b e0_ b0_l
          replace e1_ := cK b e1_ b1_l
          replace e2_ := cK b e2_ b2_l
          replace e3_ := cK b e3_ b3_l
          replace e4_ := cK b e4_ b4_l
          replace b0_l := lK b b0_l
          replace b1_l := lK b b1_l
          replace b2_l := lK b b2_l
          replace b3_l := lK b b3_l
          replace b4_l := lK b b4_l
          replace hz := hz.on b
          replace hk := hk.on b
          rewrite [cR b mal] at ma0 ma1 ma2 ma3
          replace mal := lK b mal
          rewrite [cR b lal] at la0 la1 la2 la3
          replace lal := lK b lal
          rewrite [cR b xsl] at xs0 xs1 xs2 xs3
          replace xsl := lK b xsl
          rewrite [cR b zl] at z0 z1 z2
          replace zl := lK b zl
          rewrite [cR b kl] at k0 k1 k2
          replace kl := lK b kl
          replace cc := bK cc b
          replace blv := bK blv b
          clear b
          refine hK.out _ _ ?_ (fun hHeld => ?_)
          · exact ⟨e0_, e1_, e2_, e3_, e4_, ma0, ma1, ma2, ma3, la0, la1, la2, la3, xs0, xs1, xs2, xs3, z0, z1, z2, k0, k1, k2⟩
          clear hK K
          try simp only [Act.put, pT]
          refine tY (i := 18) (v := ?_) rfl ?_ hHeld ?_
          rotate_left
          · (intro w hSw; (try dsimp only at hSw); go_simp; (try with_reducible rfl))
          try simp only [Act.put, pT]
          refine tY (i := 19) (v := ?_) rfl ?_ hHeld ?_
          rotate_left
          · (intro w hSw; (try dsimp only at hSw); go_simp; (try with_reducible rfl))
          try simp only [Act.put, pT]
          refine wpAnyH_done (by kernel_rfl) ?_ _
          clear hHeld
          have k3 : IntKind.i64.wrap ((i : Int) + 1) = ((i + 1 : Nat) : Int) := by have := HKN.out; rw [IntWalk.i64_in _ (by omega)]; omega
          have HBV := Lib.hid blv
          go_wp2_with fail
          go_roundw
          case rel => exact ⟨i + 1, by omega, by go_num, HBV.out⟩
          case measure => simp [intOf] <;> omega
    · obtain rfl : i = mp := by omega
      have jl : ¬ ((i : Int) < (i : Int)) := by omega
      go_wp2_with fail
      refine (alive17_any _).mono ?_
      rintro e w9 ⟨rfl, b⟩
      replace cc := bK cc b
      clear b
      go_wp2_with fail
      go_ret
      exact ⟨rfl, cc⟩

theorem MomNear_t {w : World} {lr mu wd f : Int} {ne : Bool} {Aw : Option Addr} {nw cw : Nat} {Lw : List Int} {Am : Option Addr} {nm cm : Nat} {Lm : List Int} {Av : Option Addr} {nv cv : Nat} {Lv : List Int} {Ag : Option Addr} {ng cg : Nat} {Lg : List Int} (iL : I64 lr) (iU : I64 mu) (iD : I64 wd) (iF : I64 f) (hw : IR w Aw nw cw Lw) (hm : IR w Am nm cm Lm) (hv : IR w Av nv cv Lv) (hg : IR w Ag ng cg Lg) (ew : ∀ z ∈ Lw, I64 z) (em : ∀ z ∈ Lm, I64 z) (ev : ∀ z ∈ Lv, I64 z) (eg : ∀ z ∈ Lg, I64 z) (kw : nw ≤ 2305843009213693951) (km : nm ≤ 2305843009213693951) (kv : nv ≤ 2305843009213693951) (kg : ng ≤ 2305843009213693951) (hf : ((nw + nm + nv + ng : Nat) : Int) ≤ 36) (hne : true = ne) (hc : stC17 lr mu 0 f true Lw Lm Lg = 0) :
    Calls Try.prog 4 #[.agg #[.int .i64 lr, .int .i64 mu, .int .i64 wd, .bool ne], .agg #[.slice Aw nw cw, .slice Am nm cm, .slice Av nv cv, .slice Ag ng cg], .int .i64 f] w (GotV w (.bool true)) := by
  have CF := fun W : World => nFew17_N (w := W) (Aw := Aw) (cw := cw) (Am := Am) (cm := cm) (Av := Av) (cv := cv) (Ag := Ag) (cg := cg) (most := 36) kw km kv kg
  rw [decide_eq_true hf] at CF
  subst hne
  have CS := fun {W : World} {Aw : Option Addr} {cw : Nat} {Am : Option Addr} {cm : Nat} {Av : Option Addr} {nv cv : Nat} {Ag : Option Addr} {cg : Nat} (a : IR W Aw nw cw Lw) (b : IR W Am nm cm Lm) (c : IR W Ag ng cg Lg) => (mStep_N (ne := true) (lr := lr) (mu := mu) (wd := 0) (f := f) (Av := Av) (nv := nv) (cv := cv) iL iU (by unfold I64; omega) iF a b c ew em eg (by omega) (by omega) (by omega)).mono (fun e w h => h.weak)
  have HPL := Lib.hid (fun (i : Nat) (hi : i < Lw.length) => place17 hc hi)
  have hlg := long17 hc
  have hal := all17 (lr := lr) (mu := mu) (wd := 0) (f := f) (ne := true) (LW := Lw) (LM := Lm) (LG := Lg)
  have hz := stC_zero hc
  have f0 := hz.1.1
  have f1 := hz.1.2.1
  have hl1 := hz.2.1.1
  have hl2 := hz.2.1.2
  clear hz
  rw [hc] at CS
  clear hc
  generalize stRW17 lr mu 0 f true Lw Lm Lg = XW at *
  generalize stRV17 lr mu 0 f true Lw Lm Lg = XV at *
  have HAL := Lib.hid hal
  have HLG := Lib.hid hlg
  have HEE := Lib.hid (show (∀ z ∈ Lw, I64 z) ∧ (∀ z ∈ Lm, I64 z) ∧ ∀ z ∈ Lg, I64 z from ⟨ew, em, eg⟩)
  have q1 := hw.1
  have q2 := hm.1
  have q3 := hg.1
  obtain rfl : nm = nw := by omega
  obtain rfl : ng = nm := by omega
  have HN : Hid (ng = Lw.length) := Lib.hid q1
  have HKN : Hid (ng ≤ 36) := Lib.hid (by omega)
  have HI := Lib.hid (show I64 lr ∧ I64 mu ∧ 0 ≤ f ∧ f ≤ 40 from ⟨iL, iU, f0, f1⟩)
  clear iL iU iD iF ew em ev eg kw km kv kg hf hv hal hlg q1 q2 q3 hl1 hl2 f0 f1
  have cc := Below.refl w.heap.size w
  go_enter Try.func4, Try.ntmps4
  go_upto_region 1 with fail
  generalize hv_ : (w.alloc (.cells #[.int .i64 lr, .int .i64 mu, .int .i64 wd, .bool true] 23)).alloc (.cells #[.slice Aw ng cw, .slice Am ng cm, .slice Av nv cv, .slice Ag ng cg] 26) = v0
  have zm : v0.heap[w.heap.size]? = some (.cells #[.int .i64 lr, .int .i64 mu, .int .i64 wd, .bool true] 23) := by rw [← hv_]; exact heap_up (World.alloc_heap_new _ _)
  have zl : v0.heap[w.heap.size + 1]? = some (.cells #[.slice Aw ng cw, .slice Am ng cm, .slice Av nv cv, .slice Ag ng cg] 26) := by rw [← hv_]; exact by have h := World.alloc_heap_new (w.alloc (.cells #[.int .i64 lr, .int .i64 mu, .int .i64 wd, .bool true] 23)) (.cells #[.slice Aw ng cw, .slice Am ng cm, .slice Av nv cv, .slice Ag ng cg] 26); simpa only [World.size_alloc] using h
  have bA : Below w.heap.size w v0 := by rw [← hv_]; exact ((Below.refl _ w).alloc (by simp) _).alloc (by simp) _
  replace cc := cc.trans bA
  clear bA
  clear hv_
  have fm := fro_of 2 zm
  obtain ⟨c0, c1, c2, c3⟩ := cells4 zm
  go_upto_region 2 with fail
  have lt := fun {W : World} {b : Nat} {o : Obj} (h : W.heap[b]? = some o) => (Array.getElem?_eq_some_iff.1 h).1
  have zm2 : (v0.setCell ⟨w.heap.size, 2, none⟩ (.int .i64 0)).heap[w.heap.size]? = some (.cells #[.int .i64 lr, .int .i64 mu, .int .i64 0, .bool true] 23) := put_cell1 zm
  have zl2 : (v0.setCell ⟨w.heap.size, 2, none⟩ (.int .i64 0)).heap[w.heap.size + 1]? = some (.cells #[.slice Aw ng cw, .slice Am ng cm, .slice Av nv cv, .slice Ag ng cg] 26) := (heap_setCell_other v0 ⟨w.heap.size, 2, none⟩ (w.heap.size + 1) _ (by show w.heap.size + 1 ≠ w.heap.size; omega)).trans zl
  have cc2 : Below w.heap.size w (v0.setCell ⟨w.heap.size, 2, none⟩ (.int .i64 0)) := cc.setCell (p := ⟨w.heap.size, 2, none⟩) (Nat.le_refl _) _
  replace cc := cc2
  clear cc2 zm zl fm c0 c1 c2 c3
  generalize v0.setCell ⟨w.heap.size, 2, none⟩ (.int .i64 0) = v1 at *
  obtain ⟨ma0, ma1, ma2, ma3⟩ := cells4 zm2
  obtain ⟨la0, la1, la2, la3⟩ := cells4 zl2
  have mal := lt zm2
  have lal := lt zl2
  clear zm2 zl2 lt
  replace hw := hw.on cc
  replace hm := hm.on cc
  replace hg := hg.on cc
  go_wp2_with fail
  refine (CF _).mono ?_
  rintro e w1 ⟨rfl, b⟩
  replace hw := hw.on b
  replace hm := hm.on b
  replace hg := hg.on b
  rewrite [cR b mal] at ma0 ma1 ma2 ma3
  replace mal := lK b mal
  rewrite [cR b lal] at la0 la1 la2 la3
  replace lal := lK b lal
  replace cc := bK cc b
  clear b
  go_wp2_with fail
  refine (CS hw hm hg).mono ?_
  rintro e w2 ⟨Ap, np, cp, Bp, mp, dp, rfl, hxp, hyp, b⟩
  replace hw := hw.on b
  replace hm := hm.on b
  replace hg := hg.on b
  rewrite [cR b mal] at ma0 ma1 ma2 ma3
  replace mal := lK b mal
  rewrite [cR b lal] at la0 la1 la2 la3
  replace lal := lK b lal
  replace cc := bK cc b
  clear b
  obtain rfl : np = ng := by have := hxp.1; have := HLG.out.1; have := HN.out; omega
  obtain rfl : mp = np := by have := hyp.1; have := HLG.out.2; have := HN.out; omega
  go_upto_region 5 with fail
  have xsqma : w.heap.size < w2.heap.size := mal
  have xsqla : w.heap.size + 1 < w2.heap.size := lal
  generalize hv_ : w2.alloc (.cells #[.slice Ap mp cp, .slice Bp mp dp, .slice none 0 0, .slice none 0 0] 26) = v3
  have bA : Below w2.heap.size w2 v3 := by rw [← hv_]; exact below_one _ _
  replace hw := hw.on bA
  replace hm := hm.on bA
  replace hg := hg.on bA
  replace hxp := hxp.on bA
  replace hyp := hyp.on bA
  rewrite [cR bA mal] at ma0 ma1 ma2 ma3
  replace mal := lK bA mal
  rewrite [cR bA lal] at la0 la1 la2 la3
  replace lal := lK bA lal
  replace cc := bK cc bA
  clear bA
  have xs0 : v3.cell? ⟨w2.heap.size, 0, none⟩ = some (.slice Ap mp cp) := by simp [← hv_, go_sem]
  have xs1 : v3.cell? ⟨w2.heap.size, 1, none⟩ = some (.slice Bp mp dp) := by simp [← hv_, go_sem]
  have xs2 : v3.cell? ⟨w2.heap.size, 2, none⟩ = some (.slice none 0 0) := by simp [← hv_, go_sem]
  have xs3 : v3.cell? ⟨w2.heap.size, 3, none⟩ = some (.slice none 0 0) := by simp [← hv_, go_sem]
  have xsl : w2.heap.size < v3.heap.size := by simp [← hv_]
  clear hv_
  have t0 : ((mp : Int) == (mp : Int)) = true := beq_self_eq_true _
  have t1 : ((mp : Int) != (mp : Int)) = false := by simp
  have Hma0 := Lib.hid ma0
  have Hma1 := Lib.hid ma1
  have Hma2 := Lib.hid ma2
  have Hma3 := Lib.hid ma3
  have Hmal := Lib.hid mal
  have Hla0 := Lib.hid la0
  have Hla1 := Lib.hid la1
  have Hla2 := Lib.hid la2
  have Hla3 := Lib.hid la3
  have Hlal := Lib.hid lal
  have Hxs0 := Lib.hid xs0
  have Hxs1 := Lib.hid xs1
  have Hxs2 := Lib.hid xs2
  have Hxs3 := Lib.hid xs3
  have Hxsl := Lib.hid xsl
  have H_hw := Lib.hid hw
  have H_hm := Lib.hid hm
  have H_hg := Lib.hid hg
  have H_hxp := Lib.hid hxp
  have H_hyp := Lib.hid hyp
  have H_cc := Lib.hid cc
  go_wp2_with fail
  clear cc hw hm hg hxp hyp ma0 ma1 ma2 ma3 la0 la1 la2 la3 xs0 xs1 xs2 xs3 mal lal xsl xsqma xsqla
  go_loopw [9] (fun iv wr => ∃ i : Nat, i ≤ mp ∧ iv = .int .i64 (i : Int) ∧ Below v3.heap.size v3 wr) (fun iv _ => mp - (intOf iv).toNat)
  case atStart => exact ⟨0, by omega, rfl, Below.refl _ _⟩
  case round =>
    obtain ⟨i, hi_, rfl, bl⟩ := hrel
    have ma0 := (bl.cell (p := ⟨w.heap.size, 0, none⟩) Hmal.out).trans Hma0.out
    have ma1 := (bl.cell (p := ⟨w.heap.size, 1, none⟩) Hmal.out).trans Hma1.out
    have ma2 := (bl.cell (p := ⟨w.heap.size, 2, none⟩) Hmal.out).trans Hma2.out
    have ma3 := (bl.cell (p := ⟨w.heap.size, 3, none⟩) Hmal.out).trans Hma3.out
    have mal := Nat.lt_of_lt_of_le Hmal.out bl.size
    have la0 := (bl.cell (p := ⟨w.heap.size + 1, 0, none⟩) Hlal.out).trans Hla0.out
    have la1 := (bl.cell (p := ⟨w.heap.size + 1, 1, none⟩) Hlal.out).trans Hla1.out
    have la2 := (bl.cell (p := ⟨w.heap.size + 1, 2, none⟩) Hlal.out).trans Hla2.out
    have la3 := (bl.cell (p := ⟨w.heap.size + 1, 3, none⟩) Hlal.out).trans Hla3.out
    have lal := Nat.lt_of_lt_of_le Hlal.out bl.size
    have xs0 := (bl.cell (p := ⟨w2.heap.size, 0, none⟩) Hxsl.out).trans Hxs0.out
    have xs1 := (bl.cell (p := ⟨w2.heap.size, 1, none⟩) Hxsl.out).trans Hxs1.out
    have xs2 := (bl.cell (p := ⟨w2.heap.size, 2, none⟩) Hxsl.out).trans Hxs2.out
    have xs3 := (bl.cell (p := ⟨w2.heap.size, 3, none⟩) Hxsl.out).trans Hxs3.out
    have xsl := Nat.lt_of_lt_of_le Hxsl.out bl.size
    have cc := H_cc.out.trans (bl.mono H_cc.out.size)
    by_cases hlt : i < mp
    · have jl : (i : Int) < (mp : Int) := by omega
      have blv := bl
      obtain ⟨b0_, o0_, rfl, b0_l, b0_c⟩ := (H_hw.out.on bl).2.2 (by omega)
      have e0_ := b0_c i hlt
      clear b0_c
      obtain ⟨b1_, o1_, rfl, b1_l, b1_c⟩ := (H_hm.out.on bl).2.2 (by omega)
      have e1_ := b1_c i hlt
      clear b1_c
      obtain ⟨b2_, o2_, rfl, b2_l, b2_c⟩ := (H_hg.out.on bl).2.2 (by omega)
      have e2_ := b2_c i hlt
      clear b2_c
      obtain ⟨b3_, o3_, rfl, b3_l, b3_c⟩ := (H_hxp.out.on bl).2.2 (by omega)
      have e3_ := b3_c i hlt
      clear b3_c
      obtain ⟨b4_, o4_, rfl, b4_l, b4_c⟩ := (H_hyp.out.on bl).2.2 (by omega)
      have e4_ := b4_c i hlt
      clear b4_c
      have hp := HPL.out i (by rw [← HN.out]; exact hlt)
      have i0 := at17 HEE.out.1 i
      have i1 := at17 HEE.out.2.1 i
      have i2 := at17 HEE.out.2.2 i
      have i3 := at17 HAL.out.1 i
      have i4 := at17 HAL.out.2 i
      generalize Lw[i]?.getD 0 = x0 at *
      generalize Lm[i]?.getD 0 = x1 at *
      generalize Lg[i]?.getD 0 = x2 at *
      generalize XW[i]?.getD 0 = yW at *
      generalize XV[i]?.getD 0 = yV at *
      obtain ⟨iL, iU, f0, f1⟩ := HI.out
      obtain ⟨hp1, hp2, hp3⟩ := hp
      obtain ⟨hp4, hp5, hp6⟩ := hp3 (by first | rfl | trivial)
      clear hp2 hp3
      have CMu := fun W : World => rmul8_N (w := W) iU i4 f0 f1
      rw [(nI_yes hp4).1, (nI_yes hp4).2] at CMu
      obtain ⟨more, emo⟩ : ∃ x, rn (mu * yV) (2 ^ f.toNat) = x := ⟨_, rfl⟩
      rw [emo] at CMu hp5 hp6
      obtain ⟨u, eu⟩ : ∃ x, x2 + more = x := ⟨_, rfl⟩
      have kx : IntKind.i64.wrap (x2 + more) = u := by rw [IntWalk.i64_in _ hp5]; exact eu
      rw [eu] at hp5 hp6
      have iu := hp5
      clear hp4 hp5 emo eu
      have n1 := near_sum17 mu x1 x2 f.toNat
      rw [← hp1] at n1
      have n2 := near_less17 lr u x0 f.toNat
      rw [← hp6] at n2
      clear hp1 hp6
      have zm_ : Sz (bak mu f.toNat) 2 := sz_mk (p := mu) (q := 2 ^ f.toNat) (k := 2) (two_ne _) (Nat.le_trans (len_one iU.abs) (by omega)) (Nat.le_trans (len_p40 (show f.toNat ≤ 40 by omega)) (by omega))
      have z1 : Sz (bak x1 f.toNat) 2 := sz_mk (p := x1) (q := 2 ^ f.toNat) (k := 2) (two_ne _) (Nat.le_trans (len_one i1.abs) (by omega)) (Nat.le_trans (len_p40 (show f.toNat ≤ 40 by omega)) (by omega))
      have z2 : Sz (bak x2 f.toNat) 2 := sz_mk (p := x2) (q := 2 ^ f.toNat) (k := 2) (two_ne _) (Nat.le_trans (len_one i2.abs) (by omega)) (Nat.le_trans (len_p40 (show f.toNat ≤ 40 by omega)) (by omega))
      have z0 : Sz (bak x0 f.toNat) 2 := sz_mk (p := x0) (q := 2 ^ f.toNat) (k := 2) (two_ne _) (Nat.le_trans (len_one i0.abs) (by omega)) (Nat.le_trans (len_p40 (show f.toNat ≤ 40 by omega)) (by omega))
      have zl_ : Sz (bak lr f.toNat) 2 := sz_mk (p := lr) (q := 2 ^ f.toNat) (k := 2) (two_ne _) (Nat.le_trans (len_one iL.abs) (by omega)) (Nat.le_trans (len_p40 (show f.toNat ≤ 40 by omega)) (by omega))
      have zu : Sz (bak u f.toNat) 2 := sz_mk (p := u) (q := 2 ^ f.toNat) (k := 2) (two_ne _) (Nat.le_trans (len_one iu.abs) (by omega)) (Nat.le_trans (len_p40 (show f.toNat ≤ 40 by omega)) (by omega))
      have Cm := fun W : World => num17_N (w := W) (n := mu) iU f0 f1
      have C1 := fun W : World => num17_N (w := W) (n := x1) i1 f0 f1
      have C2 := fun W : World => num17_N (w := W) (n := x2) i2 f0 f1
      have C0 := fun W : World => num17_N (w := W) (n := x0) i0 f0 f1
      have Cl := fun W : World => num17_N (w := W) (n := lr) iL f0 f1
      have Cu := fun W : World => num17_N (w := W) (n := u) iu f0 f1
      have W1 := fun {W : World} {b : Bool} {A B : Option Addr} {n c m d : Nat} (h : Rt W b A n c B m d (bak mu f.toNat * bak x1 f.toNat + bak x2 f.toNat)) => within17_N (n := yV) i4 f0 f1 h (((zm_.mul z1).add z2).le (by omega)) n1
      have W2 := fun {W : World} {b : Bool} {A B : Option Addr} {n c m d : Nat} (h : Rt W b A n c B m d (bak x0 f.toNat - bak lr f.toNat * bak u f.toNat)) => within17_N (n := yW) i3 f0 f1 h ((z0.sub (zl_.mul zu)).le (by omega)) n2
      clear n1 n2 i0 i1 i2 i3 i4 iL iU f0 f1 iu
      generalize bak mu f.toNat = qm at *
      generalize bak x1 f.toNat = q1 at *
      generalize bak x2 f.toNat = q2 at *
      generalize bak x0 f.toNat = q0 at *
      generalize bak lr f.toNat = ql at *
      generalize bak u f.toNat = qu_ at *
      have O1 : ∀ {W : World} {b b2 : Bool} {A B A2 B2 : Option Addr} {n c m d n2 c2 m2 d2 : Nat}, Rt W b A n c B m d (qm) → Rt W b2 A2 n2 c2 B2 m2 d2 (q1) → Calls Try.prog 16 #[.agg #[.bool b, .slice A n c, .slice B m d], .agg #[.bool b2, .slice A2 n2 c2, .slice B2 m2 d2]] W (GotRt W (qm * q1)) := fun a b => rtmul_N a (zm_.le (by omega)) b (z1.le (by omega))
      have O2 : ∀ {W : World} {b b2 : Bool} {A B A2 B2 : Option Addr} {n c m d n2 c2 m2 d2 : Nat}, Rt W b A n c B m d (qm * q1) → Rt W b2 A2 n2 c2 B2 m2 d2 (q2) → Calls Try.prog 15 #[.agg #[.bool b, .slice A n c, .slice B m d], .agg #[.bool b2, .slice A2 n2 c2, .slice B2 m2 d2]] W (GotRt W (qm * q1 + q2)) := fun a b => rtadd_N a ((zm_.mul z1).le (by omega)) b (z2.le (by omega))
      have O3 : ∀ {W : World} {b b2 : Bool} {A B A2 B2 : Option Addr} {n c m d n2 c2 m2 d2 : Nat}, Rt W b A n c B m d (ql) → Rt W b2 A2 n2 c2 B2 m2 d2 (qu_) → Calls Try.prog 16 #[.agg #[.bool b, .slice A n c, .slice B m d], .agg #[.bool b2, .slice A2 n2 c2, .slice B2 m2 d2]] W (GotRt W (ql * qu_)) := fun a b => rtmul_N a (zl_.le (by omega)) b (zu.le (by omega))
      have O4 : ∀ {W : World} {b b2 : Bool} {A B A2 B2 : Option Addr} {n c m d n2 c2 m2 d2 : Nat}, Rt W b A n c B m d (q0) → Rt W b2 A2 n2 c2 B2 m2 d2 (ql * qu_) → Calls Try.prog 19 #[.agg #[.bool b, .slice A n c, .slice B m d], .agg #[.bool b2, .slice A2 n2 c2, .slice B2 m2 d2]] W (GotRt W (q0 - ql * qu_)) := fun a b => rtsub_N a (z0.le (by omega)) b ((zl_.mul zu).le (by omega))
      clear zm_ z1 z2 z0 zl_ zu
      go_upto_region 12 with fail
      go_cut [10] (fun u wx => ∃ (g_ : Nat) (b_ : Bool) (A_ : Option Addr) (n_ c_ : Nat) (B_ : Option Addr) (m_ d_ : Nat), u = .pointer (some ⟨g_, 0, none⟩) ∧ LoneR wr wx g_ b_ A_ n_ c_ B_ m_ d_ (qm * q1 + q2))
      case first =>
        have BB0 : Below wr.heap.size wr wr.drew := below_drewN (Below.refl _ wr) 1
        have BB1 : Below wr.heap.size wr (wr.alloc (.cells #[.bool false, .slice none 0 0, .slice none 0 0] 40)).drew := below_drewN (below_one _ _) 1
        have bR : Below wr.heap.size wr wr := Below.refl _ _
        have k_ma0 : ∀ W : World, Below wr.heap.size wr W → W.cell? ⟨w.heap.size, 0, none⟩ = some (.int .i64 lr) := fun W b => cK b ma0 mal
        have k_ma1 : ∀ W : World, Below wr.heap.size wr W → W.cell? ⟨w.heap.size, 1, none⟩ = some (.int .i64 mu) := fun W b => cK b ma1 mal
        have k_ma2 : ∀ W : World, Below wr.heap.size wr W → W.cell? ⟨w.heap.size, 2, none⟩ = some (.int .i64 0) := fun W b => cK b ma2 mal
        have k_ma3 : ∀ W : World, Below wr.heap.size wr W → W.cell? ⟨w.heap.size, 3, none⟩ = some (.bool true) := fun W b => cK b ma3 mal
        have k_la0 : ∀ W : World, Below wr.heap.size wr W → W.cell? ⟨w.heap.size + 1, 0, none⟩ = some (.slice (some ⟨b0_, o0_, none⟩) mp cw) := fun W b => cK b la0 lal
        have k_la1 : ∀ W : World, Below wr.heap.size wr W → W.cell? ⟨w.heap.size + 1, 1, none⟩ = some (.slice (some ⟨b1_, o1_, none⟩) mp cm) := fun W b => cK b la1 lal
        have k_la2 : ∀ W : World, Below wr.heap.size wr W → W.cell? ⟨w.heap.size + 1, 2, none⟩ = some (.slice Av nv cv) := fun W b => cK b la2 lal
        have k_la3 : ∀ W : World, Below wr.heap.size wr W → W.cell? ⟨w.heap.size + 1, 3, none⟩ = some (.slice (some ⟨b2_, o2_, none⟩) mp cg) := fun W b => cK b la3 lal
        have k_xs0 : ∀ W : World, Below wr.heap.size wr W → W.cell? ⟨w2.heap.size, 0, none⟩ = some (.slice (some ⟨b3_, o3_, none⟩) mp cp) := fun W b => cK b xs0 xsl
        have k_xs1 : ∀ W : World, Below wr.heap.size wr W → W.cell? ⟨w2.heap.size, 1, none⟩ = some (.slice (some ⟨b4_, o4_, none⟩) mp dp) := fun W b => cK b xs1 xsl
        have k_xs2 : ∀ W : World, Below wr.heap.size wr W → W.cell? ⟨w2.heap.size, 2, none⟩ = some (.slice none 0 0) := fun W b => cK b xs2 xsl
        have k_xs3 : ∀ W : World, Below wr.heap.size wr W → W.cell? ⟨w2.heap.size, 3, none⟩ = some (.slice none 0 0) := fun W b => cK b xs3 xsl
        have k_e0_ : ∀ W : World, Below wr.heap.size wr W → W.cell? ⟨b0_, o0_ + i, none⟩ = some (.int .i64 x0) := fun W b => cK b e0_ b0_l
        have k_e1_ : ∀ W : World, Below wr.heap.size wr W → W.cell? ⟨b1_, o1_ + i, none⟩ = some (.int .i64 x1) := fun W b => cK b e1_ b1_l
        have k_e2_ : ∀ W : World, Below wr.heap.size wr W → W.cell? ⟨b2_, o2_ + i, none⟩ = some (.int .i64 x2) := fun W b => cK b e2_ b2_l
        have k_e3_ : ∀ W : World, Below wr.heap.size wr W → W.cell? ⟨b3_, o3_ + i, none⟩ = some (.int .i64 yW) := fun W b => cK b e3_ b3_l
        have k_e4_ : ∀ W : World, Below wr.heap.size wr W → W.cell? ⟨b4_, o4_ + i, none⟩ = some (.int .i64 yV) := fun W b => cK b e4_ b4_l
        clear ma0 ma1 ma2 ma3 la0 la1 la2 la3 xs0 xs1 xs2 xs3 e0_ e1_ e2_ e3_ e4_
        go_region_held3 (fun w' => Below wr.heap.size wr w')
          (repeat' (first | with_reducible assumption | with_reducible refine below_al17 _ ?_ | with_reducible refine below_dr17 ?_ | with_reducible refine below_sc17 _ ?_ () ?_ | (first | omega | (simp; omega))))
          (first
            | (go_at_call 17; (with_reducible refine (Cm _).mono ?_); rintro e y1 ⟨bp, Ap_, np_, cp_, Bp_, mp_, dp_, rfl, hP, q⟩; have qq := BB0.trans (q.mono BB0.size); have qs1 := qq.size; clear q)
            | (go_at_call 17; (with_reducible refine (Cm _).mono ?_); rintro e y1 ⟨bp, Ap_, np_, cp_, Bp_, mp_, dp_, rfl, hP, q⟩; have qq := BB1.trans (q.mono BB1.size); have qs1 := qq.size; obtain ⟨bo_0, fo_0, bo_1, fo_1, bo_2, fo_2, ol⟩ := zb3 (g := wr.heap.size) q (by simp) (by simp [Cs3, go_sem]) (by simp [Fz3, go_sem]); clear q)
            | (go_at_call 17; have up := Below.refl y1.heap.size y1; have qu := qq.trans (up.mono qq.size); (with_reducible refine (C1 _).mono ?_); rintro e y2 ⟨bq, Aq, nq, cq, Bq, mq, dq, rfl, hq, q⟩; replace qq := qu.trans (q.mono qu.size); clear qu; replace hP := (hP.on up).on q; (try (rewrite [cR up ol, cR q (lK up ol)] at bo_0 bo_1 bo_2; rewrite [fR up ol, fR q (lK up ol)] at fo_0 fo_1 fo_2; replace ol := lK q (lK up ol))); have qs2 := qq.size; clear q up)
            | (go_at_call 17; have up := below_one y1 (.cells #[.bool false, .slice none 0 0, .slice none 0 0] 40); have qu := qq.trans (up.mono qq.size); (with_reducible refine (C1 _).mono ?_); rintro e y2 ⟨bq, Aq, nq, cq, Bq, mq, dq, rfl, hq, q⟩; replace qq := qu.trans (q.mono qu.size); clear qu; replace hP := (hP.on up).on q; (try (rewrite [cR up ol, cR q (lK up ol)] at bo_0 bo_1 bo_2; rewrite [fR up ol, fR q (lK up ol)] at fo_0 fo_1 fo_2; replace ol := lK q (lK up ol))); have qs2 := qq.size; obtain ⟨bo_0, fo_0, bo_1, fo_1, bo_2, fo_2, ol⟩ := zb3 (g := y1.heap.size) q (by simp) (by simp [Cs3, go_sem]) (by simp [Fz3, go_sem]); clear q up)
            | (go_at_call 16; have up := Below.refl y2.heap.size y2; have qu := qq.trans (up.mono qq.size); (with_reducible refine (O1 (hP.on up) (hq.on up)).mono ?_); rintro e y3 ⟨br_, Ar_, nr_, cr_, Br_, mr_, dr_, rfl, hr_, q⟩; replace qq := qu.trans (q.mono qu.size); clear qu; replace hP := (hP.on up).on q; replace hq := (hq.on up).on q; (try (rewrite [cR up ol, cR q (lK up ol)] at bo_0 bo_1 bo_2; rewrite [fR up ol, fR q (lK up ol)] at fo_0 fo_1 fo_2; replace ol := lK q (lK up ol))); have qs3 := qq.size; clear q up)
            | (go_at_call 16; have up := below_one y2 (.cells #[.bool false, .slice none 0 0, .slice none 0 0] 40); have qu := qq.trans (up.mono qq.size); (with_reducible refine (O1 (hP.on up) (hq.on up)).mono ?_); rintro e y3 ⟨br_, Ar_, nr_, cr_, Br_, mr_, dr_, rfl, hr_, q⟩; replace qq := qu.trans (q.mono qu.size); clear qu; replace hP := (hP.on up).on q; replace hq := (hq.on up).on q; (try (rewrite [cR up ol, cR q (lK up ol)] at bo_0 bo_1 bo_2; rewrite [fR up ol, fR q (lK up ol)] at fo_0 fo_1 fo_2; replace ol := lK q (lK up ol))); have qs3 := qq.size; obtain ⟨bo_0, fo_0, bo_1, fo_1, bo_2, fo_2, ol⟩ := zb3 (g := y2.heap.size) q (by simp) (by simp [Cs3, go_sem]) (by simp [Fz3, go_sem]); clear q up)
            | (go_at_call 17; have up := Below.refl y3.heap.size y3; have qu := qq.trans (up.mono qq.size); (with_reducible refine (C2 _).mono ?_); rintro e y4 ⟨bs, As, ns, cs, Bs, ms, ds, rfl, hs, q⟩; replace qq := qu.trans (q.mono qu.size); clear qu; replace hP := (hP.on up).on q; replace hq := (hq.on up).on q; replace hr_ := (hr_.on up).on q; (try (rewrite [cR up ol, cR q (lK up ol)] at bo_0 bo_1 bo_2; rewrite [fR up ol, fR q (lK up ol)] at fo_0 fo_1 fo_2; replace ol := lK q (lK up ol))); have qs4 := qq.size; clear q up)
            | (go_at_call 17; have up := below_one y3 (.cells #[.bool false, .slice none 0 0, .slice none 0 0] 40); have qu := qq.trans (up.mono qq.size); (with_reducible refine (C2 _).mono ?_); rintro e y4 ⟨bs, As, ns, cs, Bs, ms, ds, rfl, hs, q⟩; replace qq := qu.trans (q.mono qu.size); clear qu; replace hP := (hP.on up).on q; replace hq := (hq.on up).on q; replace hr_ := (hr_.on up).on q; (try (rewrite [cR up ol, cR q (lK up ol)] at bo_0 bo_1 bo_2; rewrite [fR up ol, fR q (lK up ol)] at fo_0 fo_1 fo_2; replace ol := lK q (lK up ol))); have qs4 := qq.size; obtain ⟨bo_0, fo_0, bo_1, fo_1, bo_2, fo_2, ol⟩ := zb3 (g := y3.heap.size) q (by simp) (by simp [Cs3, go_sem]) (by simp [Fz3, go_sem]); clear q up)
            | (go_at_call 15; have up := Below.refl y4.heap.size y4; have qu := qq.trans (up.mono qq.size); (with_reducible refine (O2 (hr_.on up) (hs.on up)).mono ?_); rintro e y5 ⟨bo, Ao, no, co, Bo, mo, do_, rfl, o, q⟩; replace qq := qu.trans (q.mono qu.size); clear qu; replace hP := (hP.on up).on q; replace hq := (hq.on up).on q; replace hr_ := (hr_.on up).on q; replace hs := (hs.on up).on q; (try (rewrite [cR up ol, cR q (lK up ol)] at bo_0 bo_1 bo_2; rewrite [fR up ol, fR q (lK up ol)] at fo_0 fo_1 fo_2; replace ol := lK q (lK up ol))); have qs5 := qq.size; clear q up)
            | (go_at_call 15; have up := below_one y4 (.cells #[.bool false, .slice none 0 0, .slice none 0 0] 40); have qu := qq.trans (up.mono qq.size); (with_reducible refine (O2 (hr_.on up) (hs.on up)).mono ?_); rintro e y5 ⟨bo, Ao, no, co, Bo, mo, do_, rfl, o, q⟩; replace qq := qu.trans (q.mono qu.size); clear qu; replace hP := (hP.on up).on q; replace hq := (hq.on up).on q; replace hr_ := (hr_.on up).on q; replace hs := (hs.on up).on q; (try (rewrite [cR up ol, cR q (lK up ol)] at bo_0 bo_1 bo_2; rewrite [fR up ol, fR q (lK up ol)] at fo_0 fo_1 fo_2; replace ol := lK q (lK up ol))); have qs5 := qq.size; obtain ⟨bo_0, fo_0, bo_1, fo_1, bo_2, fo_2, ol⟩ := zb3 (g := y4.heap.size) q (by simp) (by simp [Cs3, go_sem]) (by simp [Fz3, go_sem]); clear q up))
        all_goals (go_wp2_with fail; go_meet)
        all_goals refine ⟨_, bo, Ao, no, co, Bo, mo, do_, rfl, ?_⟩
        all_goals first
          | with_reducible exact loneRA o qq _
          | with_reducible exact loneRB bo_0 bo_1 bo_2 o qq (by omega)
      case rest =>
        obtain ⟨gz, bz, Az, nz, cz, Bz, mz, dz, rfl, ⟨z0, z1, z2⟩, hz, b, zge⟩ := hcut
        have zl := cell_lt z0
        simp only at zl
        have zqma : w.heap.size < gz := Nat.lt_of_lt_of_le mal zge
        have zqla : w.heap.size + 1 < gz := Nat.lt_of_lt_of_le lal zge
        have zqxs : w2.heap.size < gz := Nat.lt_of_lt_of_le xsl zge
        replace e0_ := cK b e0_ b0_l
        replace e1_ := cK b e1_ b1_l
        replace e2_ := cK b e2_ b2_l
        replace e3_ := cK b e3_ b3_l
        replace e4_ := cK b e4_ b4_l
        replace b0_l := lK b b0_l
        replace b1_l := lK b b1_l
        replace b2_l := lK b b2_l
        replace b3_l := lK b b3_l
        replace b4_l := lK b b4_l
        rewrite [cR b mal] at ma0 ma1 ma2 ma3
        replace mal := lK b mal
        rewrite [cR b lal] at la0 la1 la2 la3
        replace lal := lK b lal
        rewrite [cR b xsl] at xs0 xs1 xs2 xs3
        replace xsl := lK b xsl
        replace cc := bK cc b
        replace blv := bK blv b
        clear b
        obtain ⟨wv1, rfl⟩ : ∃ W, W = wc := ⟨_, rfl⟩
        go_wp2_with fail
        have bD : Below wv1.heap.size wv1 wv1.drew := below_drewN (Below.refl _ wv1) 1
        replace e0_ := cK bD e0_ b0_l
        replace e1_ := cK bD e1_ b1_l
        replace e2_ := cK bD e2_ b2_l
        replace e3_ := cK bD e3_ b3_l
        replace e4_ := cK bD e4_ b4_l
        replace b0_l := lK bD b0_l
        replace b1_l := lK bD b1_l
        replace b2_l := lK bD b2_l
        replace b3_l := lK bD b3_l
        replace b4_l := lK bD b4_l
        replace hz := hz.on bD
        rewrite [cR bD mal] at ma0 ma1 ma2 ma3
        replace mal := lK bD mal
        rewrite [cR bD lal] at la0 la1 la2 la3
        replace lal := lK bD lal
        rewrite [cR bD xsl] at xs0 xs1 xs2 xs3
        replace xsl := lK bD xsl
        rewrite [cR bD zl] at z0 z1 z2
        replace zl := lK bD zl
        replace cc := bK cc bD
        replace blv := bK blv bD
        clear bD
        refine wp_region_held_drew (S := fun w' => w'.cell? ⟨b0_, o0_ + i, none⟩ = some (.int .i64 x0) ∧ w'.cell? ⟨b1_, o1_ + i, none⟩ = some (.int .i64 x1) ∧ w'.cell? ⟨b2_, o2_ + i, none⟩ = some (.int .i64 x2) ∧ w'.cell? ⟨b3_, o3_ + i, none⟩ = some (.int .i64 yW) ∧ w'.cell? ⟨b4_, o4_ + i, none⟩ = some (.int .i64 yV) ∧ w'.cell? ⟨w.heap.size, 0, none⟩ = some (.int .i64 lr) ∧ w'.cell? ⟨w.heap.size, 1, none⟩ = some (.int .i64 mu) ∧ w'.cell? ⟨w.heap.size, 2, none⟩ = some (.int .i64 0) ∧ w'.cell? ⟨w.heap.size, 3, none⟩ = some (.bool true) ∧ w'.cell? ⟨w.heap.size + 1, 0, none⟩ = some (.slice (some ⟨b0_, o0_, none⟩) mp cw) ∧ w'.cell? ⟨w.heap.size + 1, 1, none⟩ = some (.slice (some ⟨b1_, o1_, none⟩) mp cm) ∧ w'.cell? ⟨w.heap.size + 1, 2, none⟩ = some (.slice Av nv cv) ∧ w'.cell? ⟨w.heap.size + 1, 3, none⟩ = some (.slice (some ⟨b2_, o2_, none⟩) mp cg) ∧ w'.cell? ⟨w2.heap.size, 0, none⟩ = some (.slice (some ⟨b3_, o3_, none⟩) mp cp) ∧ w'.cell? ⟨w2.heap.size, 1, none⟩ = some (.slice (some ⟨b4_, o4_, none⟩) mp dp) ∧ w'.cell? ⟨w2.heap.size, 2, none⟩ = some (.slice none 0 0) ∧ w'.cell? ⟨w2.heap.size, 3, none⟩ = some (.slice none 0 0) ∧ w'.cell? ⟨gz, 0, none⟩ = some (.bool bz) ∧ w'.cell? ⟨gz, 1, none⟩ = some (.slice Az nz cz) ∧ w'.cell? ⟨gz, 2, none⟩ = some (.slice Bz mz dz)) (by kernel_rfl) ?_ (fun hHeld => ?_)
        · exact ⟨e0_, e1_, e2_, e3_, e4_, ma0, ma1, ma2, ma3, la0, la1, la2, la3, xs0, xs1, xs2, xs3, z0, z1, z2⟩
        refine tY (i := 0) (v := ?_) rfl ?_ hHeld ?_
        rotate_left
        · (intro w hSw; (try dsimp only at hSw); go_simp; (try with_reducible rfl))
        try simp only [Act.put, pT]
        refine tY (i := 1) (v := ?_) rfl ?_ hHeld ?_
        rotate_left
        · (intro w hSw; (try dsimp only at hSw); go_simp; (try with_reducible rfl))
        try simp only [Act.put, pT]
        refine tY (i := 2) (v := ?_) rfl ?_ hHeld ?_
        rotate_left
        · (intro w hSw; (try dsimp only at hSw); go_simp; (try with_reducible rfl))
        try simp only [Act.put, pT]
        refine tY (i := 3) (v := ?_) rfl ?_ hHeld ?_
        rotate_left
        · (intro w hSw; (try dsimp only at hSw); go_simp; (try with_reducible rfl))
        try simp only [Act.put, pT]
        refine tY (i := 4) (v := ?_) rfl ?_ hHeld ?_
        rotate_left
        · (intro w hSw; (try dsimp only at hSw); go_simp; (try with_reducible rfl))
        try simp only [Act.put, pT]
        refine tY (i := 5) (v := ?_) rfl ?_ hHeld ?_
        rotate_left
        · (intro w hSw; (try dsimp only at hSw); go_simp; (try with_reducible rfl))
        try simp only [Act.put, pT]
        refine tY (i := 6) (v := ?_) rfl ?_ hHeld ?_
        rotate_left
        · (intro w hSw; (try dsimp only at hSw); go_simp; (try with_reducible rfl))
        try simp only [Act.put, pT]
        refine tY (i := 7) (v := ?_) rfl ?_ hHeld ?_
        rotate_left
        · (intro w hSw; (try dsimp only at hSw); go_simp; (try with_reducible rfl))
        try simp only [Act.put, pT]
        refine wpAnyH_ready (rs := [8]) (by kernel_rfl) (by simp) ?_
        refine AllReadyH.cons rfl (fun K hK => ?_) AllReadyH.nil
        (try simp only [pT])
        rw [if_pos (by rfl)]
        go_simp
        go_at_call 18
        refine (CMu _).mono ?_
        rintro e w4 ⟨rfl, b⟩
        replace e0_ := cK b e0_ b0_l
        replace e1_ := cK b e1_ b1_l
        replace e2_ := cK b e2_ b2_l
        replace e3_ := cK b e3_ b3_l
        replace e4_ := cK b e4_ b4_l
        replace b0_l := lK b b0_l
        replace b1_l := lK b b1_l
        replace b2_l := lK b b2_l
        replace b3_l := lK b b3_l
        replace b4_l := lK b b4_l
        replace hz := hz.on b
        rewrite [cR b mal] at ma0 ma1 ma2 ma3
        replace mal := lK b mal
        rewrite [cR b lal] at la0 la1 la2 la3
        replace lal := lK b lal
        rewrite [cR b xsl] at xs0 xs1 xs2 xs3
        replace xsl := lK b xsl
        rewrite [cR b zl] at z0 z1 z2
        replace zl := lK b zl
        replace cc := bK cc b
        replace blv := bK blv b
        clear b
        refine hK.out _ _ ?_ (fun hHeld => ?_)
        · exact ⟨e0_, e1_, e2_, e3_, e4_, ma0, ma1, ma2, ma3, la0, la1, la2, la3, xs0, xs1, xs2, xs3, z0, z1, z2⟩
        clear hK K
        try simp only [Act.put, pT]
        refine tY (i := 9) (v := ?_) rfl ?_ hHeld ?_
        rotate_left
        · (intro w hSw; (try dsimp only at hSw); go_simp; (try with_reducible rfl))
        try simp only [Act.put, pT]
        refine tY (i := 10) (v := ?_) rfl ?_ hHeld ?_
        rotate_left
        · (intro w hSw; (try dsimp only at hSw); go_simp; (try with_reducible rfl))
        try simp only [Act.put, pT]
        refine tY (i := 11) (v := ?_) rfl ?_ hHeld ?_
        rotate_left
        · (intro w hSw; (try dsimp only at hSw); go_simp; (try with_reducible rfl))
        try simp only [Act.put, pT]
        refine tY (i := 12) (v := ?_) rfl ?_ hHeld ?_
        rotate_left
        · (intro w hSw; (try dsimp only at hSw); go_simp; (try with_reducible rfl))
        try simp only [Act.put, pT]
        refine tY (i := 13) (v := ?_) rfl ?_ hHeld ?_
        rotate_left
        · (intro w hSw; (try dsimp only at hSw); go_simp; (try with_reducible rfl))
        try simp only [Act.put, pT]
        refine wpAnyH_done (by kernel_rfl) ?_ _
        clear hHeld
        go_upto_region 17 with fail
        go_cut [14] (fun u wx => ∃ (g_ : Nat) (b_ : Bool) (A_ : Option Addr) (n_ c_ : Nat) (B_ : Option Addr) (m_ d_ : Nat), u = .pointer (some ⟨g_, 0, none⟩) ∧ LoneR w4 wx g_ b_ A_ n_ c_ B_ m_ d_ (q0 - ql * qu_))
        case first =>
          have BB0 : Below w4.heap.size w4 w4.drew := below_drewN (Below.refl _ w4) 1
          have BB1 : Below w4.heap.size w4 (w4.alloc (.cells #[.bool false, .slice none 0 0, .slice none 0 0] 40)).drew := below_drewN (below_one _ _) 1
          have bR : Below w4.heap.size w4 w4 := Below.refl _ _
          have k_ma0 : ∀ W : World, Below w4.heap.size w4 W → W.cell? ⟨w.heap.size, 0, none⟩ = some (.int .i64 lr) := fun W b => cK b ma0 mal
          have k_ma1 : ∀ W : World, Below w4.heap.size w4 W → W.cell? ⟨w.heap.size, 1, none⟩ = some (.int .i64 mu) := fun W b => cK b ma1 mal
          have k_ma2 : ∀ W : World, Below w4.heap.size w4 W → W.cell? ⟨w.heap.size, 2, none⟩ = some (.int .i64 0) := fun W b => cK b ma2 mal
          have k_ma3 : ∀ W : World, Below w4.heap.size w4 W → W.cell? ⟨w.heap.size, 3, none⟩ = some (.bool true) := fun W b => cK b ma3 mal
          have k_la0 : ∀ W : World, Below w4.heap.size w4 W → W.cell? ⟨w.heap.size + 1, 0, none⟩ = some (.slice (some ⟨b0_, o0_, none⟩) mp cw) := fun W b => cK b la0 lal
          have k_la1 : ∀ W : World, Below w4.heap.size w4 W → W.cell? ⟨w.heap.size + 1, 1, none⟩ = some (.slice (some ⟨b1_, o1_, none⟩) mp cm) := fun W b => cK b la1 lal
          have k_la2 : ∀ W : World, Below w4.heap.size w4 W → W.cell? ⟨w.heap.size + 1, 2, none⟩ = some (.slice Av nv cv) := fun W b => cK b la2 lal
          have k_la3 : ∀ W : World, Below w4.heap.size w4 W → W.cell? ⟨w.heap.size + 1, 3, none⟩ = some (.slice (some ⟨b2_, o2_, none⟩) mp cg) := fun W b => cK b la3 lal
          have k_xs0 : ∀ W : World, Below w4.heap.size w4 W → W.cell? ⟨w2.heap.size, 0, none⟩ = some (.slice (some ⟨b3_, o3_, none⟩) mp cp) := fun W b => cK b xs0 xsl
          have k_xs1 : ∀ W : World, Below w4.heap.size w4 W → W.cell? ⟨w2.heap.size, 1, none⟩ = some (.slice (some ⟨b4_, o4_, none⟩) mp dp) := fun W b => cK b xs1 xsl
          have k_xs2 : ∀ W : World, Below w4.heap.size w4 W → W.cell? ⟨w2.heap.size, 2, none⟩ = some (.slice none 0 0) := fun W b => cK b xs2 xsl
          have k_xs3 : ∀ W : World, Below w4.heap.size w4 W → W.cell? ⟨w2.heap.size, 3, none⟩ = some (.slice none 0 0) := fun W b => cK b xs3 xsl
          have k_z0 : ∀ W : World, Below w4.heap.size w4 W → W.cell? ⟨gz, 0, none⟩ = some (.bool bz) := fun W b => cK b z0 zl
          have k_z1 : ∀ W : World, Below w4.heap.size w4 W → W.cell? ⟨gz, 1, none⟩ = some (.slice Az nz cz) := fun W b => cK b z1 zl
          have k_z2 : ∀ W : World, Below w4.heap.size w4 W → W.cell? ⟨gz, 2, none⟩ = some (.slice Bz mz dz) := fun W b => cK b z2 zl
          have k_e0_ : ∀ W : World, Below w4.heap.size w4 W → W.cell? ⟨b0_, o0_ + i, none⟩ = some (.int .i64 x0) := fun W b => cK b e0_ b0_l
          have k_e1_ : ∀ W : World, Below w4.heap.size w4 W → W.cell? ⟨b1_, o1_ + i, none⟩ = some (.int .i64 x1) := fun W b => cK b e1_ b1_l
          have k_e2_ : ∀ W : World, Below w4.heap.size w4 W → W.cell? ⟨b2_, o2_ + i, none⟩ = some (.int .i64 x2) := fun W b => cK b e2_ b2_l
          have k_e3_ : ∀ W : World, Below w4.heap.size w4 W → W.cell? ⟨b3_, o3_ + i, none⟩ = some (.int .i64 yW) := fun W b => cK b e3_ b3_l
          have k_e4_ : ∀ W : World, Below w4.heap.size w4 W → W.cell? ⟨b4_, o4_ + i, none⟩ = some (.int .i64 yV) := fun W b => cK b e4_ b4_l
          clear ma0 ma1 ma2 ma3 la0 la1 la2 la3 xs0 xs1 xs2 xs3 z0 z1 z2 e0_ e1_ e2_ e3_ e4_
          go_region_held3 (fun w' => Below w4.heap.size w4 w')
            (repeat' (first | with_reducible assumption | with_reducible refine below_al17 _ ?_ | with_reducible refine below_dr17 ?_ | with_reducible refine below_sc17 _ ?_ () ?_ | (first | omega | (simp; omega))))
            (first
              | (go_at_call 17; (with_reducible refine (C0 _).mono ?_); rintro e y1 ⟨bp, Ap_, np_, cp_, Bp_, mp_, dp_, rfl, hP, q⟩; have qq := BB0.trans (q.mono BB0.size); have qs1 := qq.size; clear q)
              | (go_at_call 17; (with_reducible refine (C0 _).mono ?_); rintro e y1 ⟨bp, Ap_, np_, cp_, Bp_, mp_, dp_, rfl, hP, q⟩; have qq := BB1.trans (q.mono BB1.size); have qs1 := qq.size; obtain ⟨bo_0, fo_0, bo_1, fo_1, bo_2, fo_2, ol⟩ := zb3 (g := w4.heap.size) q (by simp) (by simp [Cs3, go_sem]) (by simp [Fz3, go_sem]); clear q)
              | (go_at_call 17; have up := Below.refl y1.heap.size y1; have qu := qq.trans (up.mono qq.size); (with_reducible refine (Cl _).mono ?_); rintro e y2 ⟨bq, Aq, nq, cq, Bq, mq, dq, rfl, hq, q⟩; replace qq := qu.trans (q.mono qu.size); clear qu; replace hP := (hP.on up).on q; (try (rewrite [cR up ol, cR q (lK up ol)] at bo_0 bo_1 bo_2; rewrite [fR up ol, fR q (lK up ol)] at fo_0 fo_1 fo_2; replace ol := lK q (lK up ol))); have qs2 := qq.size; clear q up)
              | (go_at_call 17; have up := below_one y1 (.cells #[.bool false, .slice none 0 0, .slice none 0 0] 40); have qu := qq.trans (up.mono qq.size); (with_reducible refine (Cl _).mono ?_); rintro e y2 ⟨bq, Aq, nq, cq, Bq, mq, dq, rfl, hq, q⟩; replace qq := qu.trans (q.mono qu.size); clear qu; replace hP := (hP.on up).on q; (try (rewrite [cR up ol, cR q (lK up ol)] at bo_0 bo_1 bo_2; rewrite [fR up ol, fR q (lK up ol)] at fo_0 fo_1 fo_2; replace ol := lK q (lK up ol))); have qs2 := qq.size; obtain ⟨bo_0, fo_0, bo_1, fo_1, bo_2, fo_2, ol⟩ := zb3 (g := y1.heap.size) q (by simp) (by simp [Cs3, go_sem]) (by simp [Fz3, go_sem]); clear q up)
              | (go_at_call 17; have up := Below.refl y2.heap.size y2; have qu := qq.trans (up.mono qq.size); (with_reducible refine (Cu _).mono ?_); rintro e y3 ⟨bs, As, ns, cs, Bs, ms, ds, rfl, hs, q⟩; replace qq := qu.trans (q.mono qu.size); clear qu; replace hP := (hP.on up).on q; replace hq := (hq.on up).on q; (try (rewrite [cR up ol, cR q (lK up ol)] at bo_0 bo_1 bo_2; rewrite [fR up ol, fR q (lK up ol)] at fo_0 fo_1 fo_2; replace ol := lK q (lK up ol))); have qs3 := qq.size; clear q up)
              | (go_at_call 17; have up := below_one y2 (.cells #[.bool false, .slice none 0 0, .slice none 0 0] 40); have qu := qq.trans (up.mono qq.size); (with_reducible refine (Cu _).mono ?_); rintro e y3 ⟨bs, As, ns, cs, Bs, ms, ds, rfl, hs, q⟩; replace qq := qu.trans (q.mono qu.size); clear qu; replace hP := (hP.on up).on q; replace hq := (hq.on up).on q; (try (rewrite [cR up ol, cR q (lK up ol)] at bo_0 bo_1 bo_2; rewrite [fR up ol, fR q (lK up ol)] at fo_0 fo_1 fo_2; replace ol := lK q (lK up ol))); have qs3 := qq.size; obtain ⟨bo_0, fo_0, bo_1, fo_1, bo_2, fo_2, ol⟩ := zb3 (g := y2.heap.size) q (by simp) (by simp [Cs3, go_sem]) (by simp [Fz3, go_sem]); clear q up)
              | (go_at_call 16; have up := Below.refl y3.heap.size y3; have qu := qq.trans (up.mono qq.size); (with_reducible refine (O3 (hq.on up) (hs.on up)).mono ?_); rintro e y4 ⟨br_, Ar_, nr_, cr_, Br_, mr_, dr_, rfl, hr_, q⟩; replace qq := qu.trans (q.mono qu.size); clear qu; replace hP := (hP.on up).on q; replace hq := (hq.on up).on q; replace hs := (hs.on up).on q; (try (rewrite [cR up ol, cR q (lK up ol)] at bo_0 bo_1 bo_2; rewrite [fR up ol, fR q (lK up ol)] at fo_0 fo_1 fo_2; replace ol := lK q (lK up ol))); have qs4 := qq.size; clear q up)
              | (go_at_call 16; have up := below_one y3 (.cells #[.bool false, .slice none 0 0, .slice none 0 0] 40); have qu := qq.trans (up.mono qq.size); (with_reducible refine (O3 (hq.on up) (hs.on up)).mono ?_); rintro e y4 ⟨br_, Ar_, nr_, cr_, Br_, mr_, dr_, rfl, hr_, q⟩; replace qq := qu.trans (q.mono qu.size); clear qu; replace hP := (hP.on up).on q; replace hq := (hq.on up).on q; replace hs := (hs.on up).on q; (try (rewrite [cR up ol, cR q (lK up ol)] at bo_0 bo_1 bo_2; rewrite [fR up ol, fR q (lK up ol)] at fo_0 fo_1 fo_2; replace ol := lK q (lK up ol))); have qs4 := qq.size; obtain ⟨bo_0, fo_0, bo_1, fo_1, bo_2, fo_2, ol⟩ := zb3 (g := y3.heap.size) q (by simp) (by simp [Cs3, go_sem]) (by simp [Fz3, go_sem]); clear q up)
              | (go_at_call 19; have up := Below.refl y4.heap.size y4; have qu := qq.trans (up.mono qq.size); (with_reducible refine (O4 (hP.on up) (hr_.on up)).mono ?_); rintro e y5 ⟨bo, Ao, no, co, Bo, mo, do_, rfl, o, q⟩; replace qq := qu.trans (q.mono qu.size); clear qu; replace hP := (hP.on up).on q; replace hq := (hq.on up).on q; replace hs := (hs.on up).on q; replace hr_ := (hr_.on up).on q; (try (rewrite [cR up ol, cR q (lK up ol)] at bo_0 bo_1 bo_2; rewrite [fR up ol, fR q (lK up ol)] at fo_0 fo_1 fo_2; replace ol := lK q (lK up ol))); have qs5 := qq.size; clear q up)
              | (go_at_call 19; have up := below_one y4 (.cells #[.bool false, .slice none 0 0, .slice none 0 0] 40); have qu := qq.trans (up.mono qq.size); (with_reducible refine (O4 (hP.on up) (hr_.on up)).mono ?_); rintro e y5 ⟨bo, Ao, no, co, Bo, mo, do_, rfl, o, q⟩; replace qq := qu.trans (q.mono qu.size); clear qu; replace hP := (hP.on up).on q; replace hq := (hq.on up).on q; replace hs := (hs.on up).on q; replace hr_ := (hr_.on up).on q; (try (rewrite [cR up ol, cR q (lK up ol)] at bo_0 bo_1 bo_2; rewrite [fR up ol, fR q (lK up ol)] at fo_0 fo_1 fo_2; replace ol := lK q (lK up ol))); have qs5 := qq.size; obtain ⟨bo_0, fo_0, bo_1, fo_1, bo_2, fo_2, ol⟩ := zb3 (g := y4.heap.size) q (by simp) (by simp [Cs3, go_sem]) (by simp [Fz3, go_sem]); clear q up))
          all_goals (go_wp2_with fail; go_meet)
          all_goals refine ⟨_, bo, Ao, no, co, Bo, mo, do_, rfl, ?_⟩
          all_goals first
            | with_reducible exact loneRA o qq _
            | with_reducible exact loneRB bo_0 bo_1 bo_2 o qq (by omega)
        case rest =>
          obtain ⟨gk, bk, Ak, nk, ck, Bk, mk, dk, rfl, ⟨k0, k1, k2⟩, hk, b, kge⟩ := hcut
          have kl := cell_lt k0
          simp only at kl
          have kqma : w.heap.size < gk := Nat.lt_of_lt_of_le mal kge
          have kqla : w.heap.size + 1 < gk := Nat.lt_of_lt_of_le lal kge
          have kqxs : w2.heap.size < gk := Nat.lt_of_lt_of_le xsl kge
          have kqz : gz < gk := Nat.lt_of_lt_of_le zl kge
          replace e0_ := cK b e0_ b0_l
          replace e1_ := cK b e1_ b1_l
          replace e2_ := cK b e2_ b2_l
          replace e3_ := cK b e3_ b3_l
          replace e4_ := cK b e4_ b4_l
          replace b0_l := lK b b0_l
          replace b1_l := lK b b1_l
          replace b2_l := lK b b2_l
          replace b3_l := lK b b3_l
          replace b4_l := lK b b4_l
          replace hz := hz.on b
          rewrite [cR b mal] at ma0 ma1 ma2 ma3
          replace mal := lK b mal
          rewrite [cR b lal] at la0 la1 la2 la3
          replace lal := lK b lal
          rewrite [cR b xsl] at xs0 xs1 xs2 xs3
          replace xsl := lK b xsl
          rewrite [cR b zl] at z0 z1 z2
          replace zl := lK b zl
          replace cc := bK cc b
          replace blv := bK blv b
          clear b
          obtain ⟨wv2, rfl⟩ : ∃ W, W = wc := ⟨_, rfl⟩
          go_wp2_with fail
          have bD : Below wv2.heap.size wv2 wv2.drew := below_drewN (Below.refl _ wv2) 1
          replace e0_ := cK bD e0_ b0_l
          replace e1_ := cK bD e1_ b1_l
          replace e2_ := cK bD e2_ b2_l
          replace e3_ := cK bD e3_ b3_l
          replace e4_ := cK bD e4_ b4_l
          replace b0_l := lK bD b0_l
          replace b1_l := lK bD b1_l
          replace b2_l := lK bD b2_l
          replace b3_l := lK bD b3_l
          replace b4_l := lK bD b4_l
          replace hz := hz.on bD
          replace hk := hk.on bD
          rewrite [cR bD mal] at ma0 ma1 ma2 ma3
          replace mal := lK bD mal
          rewrite [cR bD lal] at la0 la1 la2 la3
          replace lal := lK bD lal
          rewrite [cR bD xsl] at xs0 xs1 xs2 xs3
          replace xsl := lK bD xsl
          rewrite [cR bD zl] at z0 z1 z2
          replace zl := lK bD zl
          rewrite [cR bD kl] at k0 k1 k2
          replace kl := lK bD kl
          replace cc := bK cc bD
          replace blv := bK blv bD
          clear bD
          refine wp_region_held_drew (S := fun w' => w'.cell? ⟨b0_, o0_ + i, none⟩ = some (.int .i64 x0) ∧ w'.cell? ⟨b1_, o1_ + i, none⟩ = some (.int .i64 x1) ∧ w'.cell? ⟨b2_, o2_ + i, none⟩ = some (.int .i64 x2) ∧ w'.cell? ⟨b3_, o3_ + i, none⟩ = some (.int .i64 yW) ∧ w'.cell? ⟨b4_, o4_ + i, none⟩ = some (.int .i64 yV) ∧ w'.cell? ⟨w.heap.size, 0, none⟩ = some (.int .i64 lr) ∧ w'.cell? ⟨w.heap.size, 1, none⟩ = some (.int .i64 mu) ∧ w'.cell? ⟨w.heap.size, 2, none⟩ = some (.int .i64 0) ∧ w'.cell? ⟨w.heap.size, 3, none⟩ = some (.bool true) ∧ w'.cell? ⟨w.heap.size + 1, 0, none⟩ = some (.slice (some ⟨b0_, o0_, none⟩) mp cw) ∧ w'.cell? ⟨w.heap.size + 1, 1, none⟩ = some (.slice (some ⟨b1_, o1_, none⟩) mp cm) ∧ w'.cell? ⟨w.heap.size + 1, 2, none⟩ = some (.slice Av nv cv) ∧ w'.cell? ⟨w.heap.size + 1, 3, none⟩ = some (.slice (some ⟨b2_, o2_, none⟩) mp cg) ∧ w'.cell? ⟨w2.heap.size, 0, none⟩ = some (.slice (some ⟨b3_, o3_, none⟩) mp cp) ∧ w'.cell? ⟨w2.heap.size, 1, none⟩ = some (.slice (some ⟨b4_, o4_, none⟩) mp dp) ∧ w'.cell? ⟨w2.heap.size, 2, none⟩ = some (.slice none 0 0) ∧ w'.cell? ⟨w2.heap.size, 3, none⟩ = some (.slice none 0 0) ∧ w'.cell? ⟨gz, 0, none⟩ = some (.bool bz) ∧ w'.cell? ⟨gz, 1, none⟩ = some (.slice Az nz cz) ∧ w'.cell? ⟨gz, 2, none⟩ = some (.slice Bz mz dz) ∧ w'.cell? ⟨gk, 0, none⟩ = some (.bool bk) ∧ w'.cell? ⟨gk, 1, none⟩ = some (.slice Ak nk ck) ∧ w'.cell? ⟨gk, 2, none⟩ = some (.slice Bk mk dk)) (by kernel_rfl) ?_ (fun hHeld => ?_)
          · exact ⟨e0_, e1_, e2_, e3_, e4_, ma0, ma1, ma2, ma3, la0, la1, la2, la3, xs0, xs1, xs2, xs3, z0, z1, z2, k0, k1, k2⟩
          refine tY (i := 0) (v := ?_) rfl ?_ hHeld ?_
          rotate_left
          · (intro w hSw; (try dsimp only at hSw); go_simp; (try with_reducible rfl))
          try simp only [Act.put, pT]
          refine tY (i := 1) (v := ?_) rfl ?_ hHeld ?_
          rotate_left
          · (intro w hSw; (try dsimp only at hSw); go_simp; (try with_reducible rfl))
          try simp only [Act.put, pT]
          refine tY (i := 2) (v := ?_) rfl ?_ hHeld ?_
          rotate_left
          · (intro w hSw; (try dsimp only at hSw); go_simp; (try with_reducible rfl))
          try simp only [Act.put, pT]
          refine tY (i := 3) (v := ?_) rfl ?_ hHeld ?_
          rotate_left
          · (intro w hSw; (try dsimp only at hSw); go_simp; (try with_reducible rfl))
          try simp only [Act.put, pT]
          refine tY (i := 4) (v := ?_) rfl ?_ hHeld ?_
          rotate_left
          · (intro w hSw; (try dsimp only at hSw); go_simp; (try with_reducible rfl))
          try simp only [Act.put, pT]
          refine tY (i := 5) (v := ?_) rfl ?_ hHeld ?_
          rotate_left
          · (intro w hSw; (try dsimp only at hSw); go_simp; (try with_reducible rfl))
          try simp only [Act.put, pT]
          refine tY (i := 6) (v := ?_) rfl ?_ hHeld ?_
          rotate_left
          · (intro w hSw; (try dsimp only at hSw); go_simp; (try with_reducible rfl))
          try simp only [Act.put, pT]
          refine wpAnyH_ready (rs := [7]) (by kernel_rfl) (by simp) ?_
          refine AllReadyH.cons rfl (fun K hK => ?_) AllReadyH.nil
          (try simp only [pT])
          rw [if_pos (by rfl)]
          go_simp
          go_at_call 20
          refine (W1 hz).mono ?_
          rintro e w5 ⟨rfl, b⟩
          replace e0_ := cK b e0_ b0_l
          replace e1_ := cK b e1_ b1_l
          replace e2_ := cK b e2_ b2_l
          replace e3_ := cK b e3_ b3_l
          replace e4_ := cK b e4_ b4_l
          replace b0_l := lK b b0_l
          replace b1_l := lK b b1_l
          replace b2_l := lK b b2_l
          replace b3_l := lK b b3_l
          replace b4_l := lK b b4_l
          replace hz := hz.on b
          replace hk := hk.on b
          rewrite [cR b mal] at ma0 ma1 ma2 ma3
          replace mal := lK b mal
          rewrite [cR b lal] at la0 la1 la2 la3
          replace lal := lK b lal
          rewrite [cR b xsl] at xs0 xs1 xs2 xs3
          replace xsl := lK b xsl
          rewrite [cR b zl] at z0 z1 z2
          replace zl := lK b zl
          rewrite [cR b kl] at k0 k1 k2
          replace kl := lK b kl
          replace cc := bK cc b
          replace blv := bK blv b
          clear b
          refine hK.out _ _ ?_ (fun hHeld => ?_)
          · exact ⟨e0_, e1_, e2_, e3_, e4_, ma0, ma1, ma2, ma3, la0, la1, la2, la3, xs0, xs1, xs2, xs3, z0, z1, z2, k0, k1, k2⟩
          clear hK K
          try simp only [Act.put, pT]
          refine tY (i := 8) (v := ?_) rfl ?_ hHeld ?_
          rotate_left
          · (intro w hSw; (try dsimp only at hSw); go_simp; (try with_reducible rfl))
          try simp only [Act.put, pT]
          refine tY (i := 9) (v := ?_) rfl ?_ hHeld ?_
          rotate_left
          · (intro w hSw; (try dsimp only at hSw); go_simp; (try with_reducible rfl))
          try simp only [Act.put, pT]
          refine tY (i := 10) (v := ?_) rfl ?_ hHeld ?_
          rotate_left
          · (intro w hSw; (try dsimp only at hSw); go_simp; (try with_reducible rfl))
          try simp only [Act.put, pT]
          refine tY (i := 11) (v := ?_) rfl ?_ hHeld ?_
          rotate_left
          · (intro w hSw; (try dsimp only at hSw); go_simp; (try with_reducible rfl))
          try simp only [Act.put, pT]
          refine tY (i := 12) (v := ?_) rfl ?_ hHeld ?_
          rotate_left
          · (intro w hSw; (try dsimp only at hSw); go_simp; (try with_reducible rfl))
          try simp only [Act.put, pT]
          refine tY (i := 13) (v := ?_) rfl ?_ hHeld ?_
          rotate_left
          · (intro w hSw; (try dsimp only at hSw); go_simp; (try with_reducible rfl))
          try simp only [Act.put, pT]
          refine tY (i := 14) (v := ?_) rfl ?_ hHeld ?_
          rotate_left
          · (intro w hSw; (try dsimp only at hSw); go_simp; (try with_reducible rfl))
          try simp only [Act.put, pT]
          refine tY (i := 15) (v := ?_) rfl ?_ hHeld ?_
          rotate_left
          · (intro w hSw; (try dsimp only at hSw); go_simp; (try with_reducible rfl))
          try simp only [Act.put, pT]
          refine tY (i := 16) (v := ?_) rfl ?_ hHeld ?_
          rotate_left
          · (intro w hSw; (try dsimp only at hSw); go_simp; (try with_reducible rfl))
          try simp only [Act.put, pT]
          refine wpAnyH_ready (rs := [17]) (by kernel_rfl) (by simp) ?_
          refine AllReadyH.cons rfl (fun K hK => ?_) AllReadyH.nil
          (try simp only [pT])
          rw [if_pos (by rfl)]
          go_simp
          go_at_call 20
          refine (W2 hk).mono ?_
          rintro e w6 ⟨rfl, b⟩
          replace e0_ := cK b e0_ b0_l
          replace e1_ := cK b e1_ b1_l
          replace e2_ := cK b e2_ b2_l
          replace e3_ := cK b e3_ b3_l
          replace e4_ := cK b e4_ b4_l
          replace b0_l := lK b b0_l
          replace b1_l := lK b b1_l
          replace b2_l := lK b b2_l
          replace b3_l := lK b b3_l
          replace b4_l := lK b b4_l
          replace hz := hz.on b
          replace hk := hk.on b
          rewrite [cR b mal] at ma0 ma1 ma2 ma3
          replace mal := lK b mal
          rewrite [cR b lal] at la0 la1 la2 la3
          replace lal := lK b lal
          rewrite [cR b xsl] at xs0 xs1 xs2 xs3
          replace xsl := lK b xsl
          rewrite [cR b zl] at z0 z1 z2
          replace zl := lK b zl
          rewrite [cR b kl] at k0 k1 k2
          replace kl := lK b kl
          replace cc := bK cc b
          replace blv := bK blv b
          clear b
          refine hK.out _ _ ?_ (fun hHeld => ?_)
          · exact ⟨e0_, e1_, e2_, e3_, e4_, ma0, ma1, ma2, ma3, la0, la1, la2, la3, xs0, xs1, xs2, xs3, z0, z1, z2, k0, k1, k2⟩
          clear hK K
          try simp only [Act.put, pT]
          refine tY (i := 18) (v := ?_) rfl ?_ hHeld ?_
          rotate_left
          · (intro w hSw; (try dsimp only at hSw); go_simp; (try with_reducible rfl))
          try simp only [Act.put, pT]
          refine tY (i := 19) (v := ?_) rfl ?_ hHeld ?_
          rotate_left
          · (intro w hSw; (try dsimp only at hSw); go_simp; (try with_reducible rfl))
          try simp only [Act.put, pT]
          refine wpAnyH_done (by kernel_rfl) ?_ _
          clear hHeld
          have k3 : IntKind.i64.wrap ((i : Int) + 1) = ((i + 1 : Nat) : Int) := by have := HKN.out; rw [IntWalk.i64_in _ (by omega)]; omega
          have HBV := Lib.hid blv
          go_wp2_with fail
          go_roundw
          case rel => exact ⟨i + 1, by omega, by go_num, HBV.out⟩
          case measure => simp [intOf] <;> omega
    · obtain rfl : i = mp := by omega
      have jl : ¬ ((i : Int) < (i : Int)) := by omega
      go_wp2_with fail
      refine (alive17_any _).mono ?_
      rintro e w9 ⟨rfl, b⟩
      replace cc := bK cc b
      clear b
      go_wp2_with fail
      go_ret
      exact ⟨rfl, cc⟩

theorem MomNear_walk {w : World} {lr mu wd f : Int} {ne : Bool} {Aw : Option Addr} {nw cw : Nat} {Lw : List Int} {Am : Option Addr} {nm cm : Nat} {Lm : List Int} {Av : Option Addr} {nv cv : Nat} {Lv : List Int} {Ag : Option Addr} {ng cg : Nat} {Lg : List Int} (iL : I64 lr) (iU : I64 mu) (iD : I64 wd) (iF : I64 f) (hw : IR w Aw nw cw Lw) (hm : IR w Am nm cm Lm) (hv : IR w Av nv cv Lv) (hg : IR w Ag ng cg Lg) (ew : ∀ z ∈ Lw, I64 z) (em : ∀ z ∈ Lm, I64 z) (ev : ∀ z ∈ Lv, I64 z) (eg : ∀ z ∈ Lg, I64 z) (kw : nw ≤ 2305843009213693951) (km : nm ≤ 2305843009213693951) (kv : nv ≤ 2305843009213693951) (kg : ng ≤ 2305843009213693951) : Calls Try.prog 4 #[.agg #[.int .i64 lr, .int .i64 mu, .int .i64 wd, .bool ne], .agg #[.slice Aw nw cw, .slice Am nm cm, .slice Av nv cv, .slice Ag ng cg], .int .i64 f] w (GotV w (.bool true)) := by
  by_cases hf : ((nw + nm + nv + ng : Nat) : Int) ≤ 36
  rotate_left
  · exact MomNear_many iL iU iD iF hw hm hv hg ew em ev eg kw km kv kg hf
  by_cases hc : stC17 lr mu 0 f ne Lw Lm Lg = 0
  rotate_left
  · exact MomNear_no iL iU iD iF hw hm hv hg ew em ev eg kw km kv kg hf hc
  cases ne with
  | false => exact MomNear_f iL iU iD iF hw hm hv hg ew em ev eg kw km kv kg hf rfl hc
  | true => exact MomNear_t iL iU iD iF hw hm hv hg ew em ev eg kw km kv kg hf rfl hc

end Go.Proofs.Ytckdbcngnghhiaa
