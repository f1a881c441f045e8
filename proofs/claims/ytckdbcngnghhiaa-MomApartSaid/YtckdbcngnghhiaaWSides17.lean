/-
  The walk of MomSides.
-/
import Derived.Test.YtckdbcngnghhiaaA8
import Derived.Test.YtckdbcngnghhiaaC17s
import Derived.Test.YtckdbcngnghhiaaA2
namespace Go.Proofs.Ytckdbcngnghhiaa
set_option maxRecDepth 100000
set_option maxHeartbeats 8000000
open Go.RowKit
set_option linter.unusedVariables false
set_option linter.unusedSimpArgs false

theorem nz17 {C D : Int} (hc : ¬ (C = 0 ∧ D = 0)) : ((C == 0) = false ∧ (C != 0) = true) ∨ (((C == 0) = true ∧ (C != 0) = false) ∧ (D == 0) = false ∧ (D != 0) = true) := by
  by_cases e : C = 0
  · exact .inr ⟨⟨beq_iff_eq.2 e, by simp [e]⟩, beq_eq_false_iff_ne.2 (fun e2 => hc ⟨e, e2⟩), by simpa using (fun e2 => hc ⟨e, e2⟩)⟩
  · exact .inl ⟨beq_eq_false_iff_ne.2 e, by simpa using e⟩
theorem eq17 {C D : Int} (hh : C = D ∨ C = 2 ∨ D = 2) : (C == D) = true ∨ ((C == D) = false ∧ (C == 2) = true) ∨ ((C == D) = false ∧ (C == 2) = false ∧ (D == 2) = true) := by
  by_cases e : C = D
  · exact .inl (beq_iff_eq.2 e)
  by_cases e2 : C = 2
  · exact .inr (.inl ⟨beq_eq_false_iff_ne.2 e, beq_iff_eq.2 e2⟩)
  · exact .inr (.inr ⟨beq_eq_false_iff_ne.2 e, beq_eq_false_iff_ne.2 e2, beq_iff_eq.2 (by omega)⟩)
theorem ng_all {L : List Int} : ∀ z ∈ L.map ng17, I64 z := fun z hz => by
  obtain ⟨x, _, rfl⟩ := List.mem_map.1 hz
  exact ng_i64 x

theorem MomSides_many {w : World} {lr mu wd f : Int} {ne : Bool} {Aw : Option Addr} {nw cw : Nat} {Lw : List Int} {Am : Option Addr} {nm cm : Nat} {Lm : List Int} {Av : Option Addr} {nv cv : Nat} {Lv : List Int} {Ag : Option Addr} {ng cg : Nat} {Lg : List Int} (iL : I64 lr) (iU : I64 mu) (iD : I64 wd) (iF : I64 f) (hw : IR w Aw nw cw Lw) (hm : IR w Am nm cm Lm) (hv : IR w Av nv cv Lv) (hg : IR w Ag ng cg Lg) (ew : ∀ z ∈ Lw, I64 z) (em : ∀ z ∈ Lm, I64 z) (ev : ∀ z ∈ Lv, I64 z) (eg : ∀ z ∈ Lg, I64 z) (kw : nw ≤ 2305843009213693951) (km : nm ≤ 2305843009213693951) (kv : nv ≤ 2305843009213693951) (kg : ng ≤ 2305843009213693951) (hf : ¬ ((nw + nm + nv + ng : Nat) : Int) ≤ 36) :
    Calls Try.prog 7 #[.agg #[.int .i64 lr, .int .i64 mu, .int .i64 wd, .bool ne], .agg #[.slice Aw nw cw, .slice Am nm cm, .slice Av nv cv, .slice Ag ng cg], .int .i64 f] w (GotV w (.bool true)) := by
  have CF := fun W : World => nFew17_N (w := W) (Aw := Aw) (cw := cw) (Am := Am) (cm := cm) (Av := Av) (cv := cv) (Ag := Ag) (cg := cg) (most := 36) kw km kv kg
  rw [decide_eq_false hf] at CF
  clear iL iU iD iF hw ew kw hm em km hv ev kv hg eg kg hf
  have cc := Below.refl w.heap.size w
  go_enter Try.func7, Try.ntmps7
  go_wp2_with fail
  generalize hv_ : (w.alloc (.cells #[.int .i64 lr, .int .i64 mu, .int .i64 wd, .bool ne] 23)).alloc (.cells #[.slice Aw nw cw, .slice Am nm cm, .slice Av nv cv, .slice Ag ng cg] 26) = v1
  have bA : Below w.heap.size w v1 := by rw [← hv_]; exact (((Below.refl _ w).alloc (by simp) _).alloc (by simp) _)
  replace cc := bK cc bA
  clear bA
  have ma0 : v1.cell? ⟨w.heap.size, 0, none⟩ = some (.int .i64 lr) := by simp [← hv_, go_sem]
  have ma1 : v1.cell? ⟨w.heap.size, 1, none⟩ = some (.int .i64 mu) := by simp [← hv_, go_sem]
  have ma2 : v1.cell? ⟨w.heap.size, 2, none⟩ = some (.int .i64 wd) := by simp [← hv_, go_sem]
  have ma3 : v1.cell? ⟨w.heap.size, 3, none⟩ = some (.bool ne) := by simp [← hv_, go_sem]
  have mal : w.heap.size < v1.heap.size := by simp [← hv_] <;> omega
  have la0 : v1.cell? ⟨w.heap.size + 1, 0, none⟩ = some (.slice Aw nw cw) := by simp [← hv_, go_sem]
  have la1 : v1.cell? ⟨w.heap.size + 1, 1, none⟩ = some (.slice Am nm cm) := by simp [← hv_, go_sem]
  have la2 : v1.cell? ⟨w.heap.size + 1, 2, none⟩ = some (.slice Av nv cv) := by simp [← hv_, go_sem]
  have la3 : v1.cell? ⟨w.heap.size + 1, 3, none⟩ = some (.slice Ag ng cg) := by simp [← hv_, go_sem]
  have lal : w.heap.size + 1 < v1.heap.size := by simp [← hv_] <;> omega
  clear hv_
  refine (CF _).mono ?_
  rintro e w2 ⟨rfl, b⟩
  rewrite [cR b mal] at ma0 ma1 ma2 ma3
  replace mal := lK b mal
  rewrite [cR b lal] at la0 la1 la2 la3
  replace lal := lK b lal
  replace cc := bK cc b
  clear b
  go_wp2_with fail
  refine (alive17_any _).mono ?_
  rintro e w3 ⟨rfl, b⟩
  rewrite [cR b mal] at ma0 ma1 ma2 ma3
  replace mal := lK b mal
  rewrite [cR b lal] at la0 la1 la2 la3
  replace lal := lK b lal
  replace cc := bK cc b
  clear b
  go_wp2_with fail
  go_ret
  exact ⟨rfl, cc⟩

theorem MomSides_l {w : World} {lr mu wd f : Int} {ne : Bool} {Aw : Option Addr} {nw cw : Nat} {Lw : List Int} {Am : Option Addr} {nm cm : Nat} {Lm : List Int} {Av : Option Addr} {nv cv : Nat} {Lv : List Int} {Ag : Option Addr} {ng cg : Nat} {Lg : List Int} (iL : I64 lr) (iU : I64 mu) (iD : I64 wd) (iF : I64 f) (hw : IR w Aw nw cw Lw) (hm : IR w Am nm cm Lm) (hv : IR w Av nv cv Lv) (hg : IR w Ag ng cg Lg) (ew : ∀ z ∈ Lw, I64 z) (em : ∀ z ∈ Lm, I64 z) (ev : ∀ z ∈ Lv, I64 z) (eg : ∀ z ∈ Lg, I64 z) (kw : nw ≤ 2305843009213693951) (km : nm ≤ 2305843009213693951) (kv : nv ≤ 2305843009213693951) (kg : ng ≤ 2305843009213693951) (hf : ((nw + nm + nv + ng : Nat) : Int) ≤ 36) (q1 : decide ((-9223372036854775808 : Int) ∈ Lw ++ Lm ++ Lg) = true) :
    Calls Try.prog 7 #[.agg #[.int .i64 lr, .int .i64 mu, .int .i64 wd, .bool ne], .agg #[.slice Aw nw cw, .slice Am nm cm, .slice Av nv cv, .slice Ag ng cg], .int .i64 f] w (GotV w (.bool true)) := by
  have CF := fun W : World => nFew17_N (w := W) (Aw := Aw) (cw := cw) (Am := Am) (cm := cm) (Av := Av) (cv := cv) (Ag := Ag) (cg := cg) (most := 36) kw km kv kg
  rw [decide_eq_true hf] at CF
  have CS := fun {W : World} {Aw : Option Addr} {cw : Nat} {Am : Option Addr} {cm : Nat} {Av : Option Addr} {nv cv : Nat} {Ag : Option Addr} {cg : Nat} (a : IR W Aw nw cw Lw) (b : IR W Am nm cm Lm) (c : IR W Ag ng cg Lg) => (mStep_N (ne := ne) (Av := Av) (nv := nv) (cv := cv) iL iU iD iF a b c ew em eg (by omega) (by omega) (by omega)).mono (fun e w h => h.weak)
  have CT := fun {W : World} {Aw : Option Addr} {nw cw : Nat} {Am : Option Addr} {nm cm : Nat} {Av : Option Addr} {nv cv : Nat} {Ag : Option Addr} {ng cg : Nat} (kw : nw ≤ 36) (km : nm ≤ 36) (kg : ng ≤ 36) (a : IR W Aw nw cw (Lw.map ng17)) (b : IR W Am nm cm (Lm.map ng17)) (c : IR W Ag ng cg (Lg.map ng17)) => (mStep_N (ne := ne) (Av := Av) (nv := nv) (cv := cv) iL iU iD iF a b c ng_all ng_all ng_all (by omega) (by omega) (by omega)).mono (fun e w h => h.weak)
  have hlw := len17 (lr := lr) (mu := mu) (wd := wd) (f := f) (ne := ne) (LW := Lw) (LM := Lm) (LG := Lg)
  have hln := len17 (lr := lr) (mu := mu) (wd := wd) (f := f) (ne := ne) (LW := Lw.map ng17) (LM := Lm.map ng17) (LG := Lg.map ng17)
  rw [List.length_map] at hln
  have HN : Hid (Lw.length = nw ∧ Lm.length = nm ∧ Lg.length = ng) := Lib.hid ⟨hw.1.symm, hm.1.symm, hg.1.symm⟩
  have HK : Hid (nw ≤ 36 ∧ nm ≤ 36 ∧ ng ≤ 36) := Lib.hid (by omega)
  have CU := fun {W : World} {Aw : Option Addr} {cw : Nat} {Am : Option Addr} {cm : Nat} {Av : Option Addr} {nv cv : Nat} {Ag : Option Addr} {cg : Nat} (a : IR W Aw nw cw Lw) (b : IR W Am nm cm Lm) (c : IR W Ag ng cg Lg) => turned17_N (Av := Av) (nv := nv) (cv := cv) a b c (by omega) (by omega) (by omega)
  have CH := fun {W : World} {Aw : Option Addr} {cw : Nat} {Am : Option Addr} {cm : Nat} {Av : Option Addr} {nv cv : Nat} {Ag : Option Addr} {cg : Nat} (a : IR W Aw nw cw Lw) (b : IR W Am nm cm Lm) (c : IR W Ag ng cg Lg) => has17_N (Av := Av) (nv := nv) (cv := cv) a b c (by omega) (by omega) (by omega)
  rw [q1] at CH
  generalize stRW17 lr mu wd f ne Lw Lm Lg = XW at *
  generalize stRV17 lr mu wd f ne Lw Lm Lg = XV at *
  generalize stC17 lr mu wd f ne Lw Lm Lg = XC at *
  generalize stRW17 lr mu wd f ne (Lw.map ng17) (Lm.map ng17) (Lg.map ng17) = YW at *
  generalize stRV17 lr mu wd f ne (Lw.map ng17) (Lm.map ng17) (Lg.map ng17) = YV at *
  generalize stC17 lr mu wd f ne (Lw.map ng17) (Lm.map ng17) (Lg.map ng17) = YC at *
  have HL : Hid (XW.length ≤ 36 ∧ XV.length ≤ 36 ∧ YW.length ≤ 36 ∧ YV.length ≤ 36) := Lib.hid (by have := hw.1; omega)
  have CHr : ∀ {W : World} {X Y : List Int} {A B : Option Addr} {a b c d : Nat} (r : Bool), X.length ≤ 36 → Y.length ≤ 36 → IR W A a b X → IR W B c d Y → decide ((-9223372036854775808 : Int) ∈ X ++ Y ++ []) = r → Calls Try.prog 23 #[.agg #[.slice A a b, .slice B c d, .slice none 0 0, .slice none 0 0]] W (GotV W (.bool r)) := fun r q s a b e => by have h := has17_N (Av := none) (nv := 0) (cv := 0) a b (IR.nil _ none 0) (by rw [a.1]; omega) (by rw [b.1]; omega) (by omega); rw [e] at h; exact h
  clear iL iU iD iF ew em ev eg kw km kv kg hf hlw hln
  have cc := Below.refl w.heap.size w
  go_enter Try.func7, Try.ntmps7
  go_wp2_with fail
  generalize hv_ : (w.alloc (.cells #[.int .i64 lr, .int .i64 mu, .int .i64 wd, .bool ne] 23)).alloc (.cells #[.slice Aw nw cw, .slice Am nm cm, .slice Av nv cv, .slice Ag ng cg] 26) = v1
  have bA : Below w.heap.size w v1 := by rw [← hv_]; exact (((Below.refl _ w).alloc (by simp) _).alloc (by simp) _)
  replace hw := hw.on bA
  replace hm := hm.on bA
  replace hg := hg.on bA
  replace cc := bK cc bA
  clear bA
  have ma0 : v1.cell? ⟨w.heap.size, 0, none⟩ = some (.int .i64 lr) := by simp [← hv_, go_sem]
  have ma1 : v1.cell? ⟨w.heap.size, 1, none⟩ = some (.int .i64 mu) := by simp [← hv_, go_sem]
  have ma2 : v1.cell? ⟨w.heap.size, 2, none⟩ = some (.int .i64 wd) := by simp [← hv_, go_sem]
  have ma3 : v1.cell? ⟨w.heap.size, 3, none⟩ = some (.bool ne) := by simp [← hv_, go_sem]
  have mal : w.heap.size < v1.heap.size := by simp [← hv_] <;> omega
  have la0 : v1.cell? ⟨w.heap.size + 1, 0, none⟩ = some (.slice Aw nw cw) := by simp [← hv_, go_sem]
  have la1 : v1.cell? ⟨w.heap.size + 1, 1, none⟩ = some (.slice Am nm cm) := by simp [← hv_, go_sem]
  have la2 : v1.cell? ⟨w.heap.size + 1, 2, none⟩ = some (.slice Av nv cv) := by simp [← hv_, go_sem]
  have la3 : v1.cell? ⟨w.heap.size + 1, 3, none⟩ = some (.slice Ag ng cg) := by simp [← hv_, go_sem]
  have lal : w.heap.size + 1 < v1.heap.size := by simp [← hv_] <;> omega
  clear hv_
  refine (CF _).mono ?_
  rintro e w2 ⟨rfl, b⟩
  replace hw := hw.on b
  replace hm := hm.on b
  replace hg := hg.on b
  rewrite [cR b mal] at ma0 ma1 ma2 ma3
  replace mal := lK b mal
  rewrite [cR b lal] at la0 la1 la2 la3
  replace lal := lK b lal
  replace cc := bK cc b
  clear b
  go_wp2_with fail
  refine (CS hw hm hg).mono ?_
  rintro e w3 ⟨Ap, np, cp, Bp, mp, dp, rfl, hxp, hyp, b⟩
  replace hw := hw.on b
  replace hm := hm.on b
  replace hg := hg.on b
  rewrite [cR b mal] at ma0 ma1 ma2 ma3
  replace mal := lK b mal
  rewrite [cR b lal] at la0 la1 la2 la3
  replace lal := lK b lal
  replace cc := bK cc b
  clear b
  go_upto_region 4 with fail
  have xsqma : w.heap.size < w3.heap.size := mal
  have xsqla : w.heap.size + 1 < w3.heap.size := lal
  generalize hv_ : w3.alloc (.cells #[.slice Ap np cp, .slice Bp mp dp, .slice none 0 0, .slice none 0 0] 26) = v4
  have bA : Below w3.heap.size w3 v4 := by rw [← hv_]; exact below_one _ _
  replace hw := hw.on bA
  replace hm := hm.on bA
  replace hg := hg.on bA
  replace hxp := hxp.on bA
  replace hyp := hyp.on bA
  rewrite [cR bA mal] at ma0 ma1 ma2 ma3
  replace mal := lK bA mal
  rewrite [cR bA lal] at la0 la1 la2 la3
  replace lal := lK bA lal
  replace cc := bK cc bA
  clear bA
  have xs0 : v4.cell? ⟨w3.heap.size, 0, none⟩ = some (.slice Ap np cp) := by simp [← hv_, go_sem]
  have xs1 : v4.cell? ⟨w3.heap.size, 1, none⟩ = some (.slice Bp mp dp) := by simp [← hv_, go_sem]
  have xs2 : v4.cell? ⟨w3.heap.size, 2, none⟩ = some (.slice none 0 0) := by simp [← hv_, go_sem]
  have xs3 : v4.cell? ⟨w3.heap.size, 3, none⟩ = some (.slice none 0 0) := by simp [← hv_, go_sem]
  have xsl : w3.heap.size < v4.heap.size := by simp [← hv_]
  clear hv_
  go_upto_region 4 with fail
  go_cut [9, 10] (fun u ue wx => ∃ (g_ : Nat) (A_ : Option Addr) (n_ c_ : Nat) (B_ : Option Addr) (m_ d_ : Nat), u = .pointer (some ⟨g_, 0, none⟩) ∧ ue = .int .i64 (YC) ∧ LoneT17 v4 wx g_ A_ n_ c_ B_ m_ d_ (YW) (YV))
  case first =>
    have BB0 : Below v4.heap.size v4 v4.drew := below_drewN (Below.refl _ v4) 1
    have BB1 : Below v4.heap.size v4 (v4.alloc (.cells #[.slice none 0 0, .slice none 0 0, .slice none 0 0, .slice none 0 0] 26)).drew := below_drewN (below_one _ _) 1
    have bR : Below v4.heap.size v4 v4 := Below.refl _ _
    have k_ma0 : ∀ W : World, Below v4.heap.size v4 W → W.cell? ⟨w.heap.size, 0, none⟩ = some (.int .i64 lr) := fun W b => cK b ma0 mal
    have k_ma1 : ∀ W : World, Below v4.heap.size v4 W → W.cell? ⟨w.heap.size, 1, none⟩ = some (.int .i64 mu) := fun W b => cK b ma1 mal
    have k_ma2 : ∀ W : World, Below v4.heap.size v4 W → W.cell? ⟨w.heap.size, 2, none⟩ = some (.int .i64 wd) := fun W b => cK b ma2 mal
    have k_ma3 : ∀ W : World, Below v4.heap.size v4 W → W.cell? ⟨w.heap.size, 3, none⟩ = some (.bool ne) := fun W b => cK b ma3 mal
    have k_la0 : ∀ W : World, Below v4.heap.size v4 W → W.cell? ⟨w.heap.size + 1, 0, none⟩ = some (.slice Aw nw cw) := fun W b => cK b la0 lal
    have k_la1 : ∀ W : World, Below v4.heap.size v4 W → W.cell? ⟨w.heap.size + 1, 1, none⟩ = some (.slice Am nm cm) := fun W b => cK b la1 lal
    have k_la2 : ∀ W : World, Below v4.heap.size v4 W → W.cell? ⟨w.heap.size + 1, 2, none⟩ = some (.slice Av nv cv) := fun W b => cK b la2 lal
    have k_la3 : ∀ W : World, Below v4.heap.size v4 W → W.cell? ⟨w.heap.size + 1, 3, none⟩ = some (.slice Ag ng cg) := fun W b => cK b la3 lal
    have k_xs0 : ∀ W : World, Below v4.heap.size v4 W → W.cell? ⟨w3.heap.size, 0, none⟩ = some (.slice Ap np cp) := fun W b => cK b xs0 xsl
    have k_xs1 : ∀ W : World, Below v4.heap.size v4 W → W.cell? ⟨w3.heap.size, 1, none⟩ = some (.slice Bp mp dp) := fun W b => cK b xs1 xsl
    have k_xs2 : ∀ W : World, Below v4.heap.size v4 W → W.cell? ⟨w3.heap.size, 2, none⟩ = some (.slice none 0 0) := fun W b => cK b xs2 xsl
    have k_xs3 : ∀ W : World, Below v4.heap.size v4 W → W.cell? ⟨w3.heap.size, 3, none⟩ = some (.slice none 0 0) := fun W b => cK b xs3 xsl
    clear ma0 ma1 ma2 ma3 la0 la1 la2 la3 xs0 xs1 xs2 xs3
    go_region_held3 (fun w' => Below v4.heap.size v4 w')
      (repeat' (first | with_reducible assumption | with_reducible refine below_al17 _ ?_ | with_reducible refine below_dr17 ?_ | with_reducible refine below_sc17 _ ?_ () ?_ | (first | omega | (simp; omega))))
      (first
        | (go_at_call 22; (with_reducible refine (CU (hw.on BB0) (hm.on BB0) (hg.on BB0)).mono ?_); rintro e y1 ⟨At, nt, ct, Bt, mt, dt, Ct, kt, ht, Dt, rt, ot, rfl, t1, t2, t3, t4, q⟩; have qq := BB0.trans (q.mono BB0.size); have qs1 := qq.size; clear q)
        | (go_at_call 22; (with_reducible refine (CU (hw.on BB1) (hm.on BB1) (hg.on BB1)).mono ?_); rintro e y1 ⟨At, nt, ct, Bt, mt, dt, Ct, kt, ht, Dt, rt, ot, rfl, t1, t2, t3, t4, q⟩; have qq := BB1.trans (q.mono BB1.size); have qs1 := qq.size; have bo_0 := (q.cell (p := ⟨v4.heap.size, 0, none⟩) (by simp)).trans (show _ = some (.slice none 0 0) by simp [go_sem]); have fo_0 := (q.frozen (p := ⟨v4.heap.size, 0, none⟩) (by simp)).trans (show _ = false by simp [go_sem]); have bo_1 := (q.cell (p := ⟨v4.heap.size, 1, none⟩) (by simp)).trans (show _ = some (.slice none 0 0) by simp [go_sem]); have fo_1 := (q.frozen (p := ⟨v4.heap.size, 1, none⟩) (by simp)).trans (show _ = false by simp [go_sem]); have bo_2 := (q.cell (p := ⟨v4.heap.size, 2, none⟩) (by simp)).trans (show _ = some (.slice none 0 0) by simp [go_sem]); have fo_2 := (q.frozen (p := ⟨v4.heap.size, 2, none⟩) (by simp)).trans (show _ = false by simp [go_sem]); have bo_3 := (q.cell (p := ⟨v4.heap.size, 3, none⟩) (by simp)).trans (show _ = some (.slice none 0 0) by simp [go_sem]); have fo_3 := (q.frozen (p := ⟨v4.heap.size, 3, none⟩) (by simp)).trans (show _ = false by simp [go_sem]); have ol : v4.heap.size < y1.heap.size := Nat.lt_of_lt_of_le (by simp) q.size; clear q)
        | (go_at_call 10; have up := Below.refl y1.heap.size y1; (with_reducible refine (CT (by have h := ir_len17 (t1.on up); rw [List.length_map] at h; have := HN.out; have := HK.out; omega) (by have h := ir_len17 (t2.on up); rw [List.length_map] at h; have := HN.out; have := HK.out; omega) (by have h := ir_len17 (t4.on up); rw [List.length_map] at h; have := HN.out; have := HK.out; omega) (t1.on up) (t2.on up) (t4.on up)).mono ?_); rintro e y2 ⟨Ao, no, co, Bo, mo, do_, rfl, ox, oy, q⟩; replace qq := uK qq up q; replace t1 := (t1.on up).on q; replace t2 := (t2.on up).on q; replace t4 := (t4.on up).on q; (try replace bo_0 := (q.cell (Nat.lt_of_lt_of_le ol up.size)).trans ((up.cell ol).trans bo_0)); (try replace fo_0 := (q.frozen (Nat.lt_of_lt_of_le ol up.size)).trans ((up.frozen ol).trans fo_0)); (try (rewrite [cR up ol, cR q (lK up ol)] at bo_1 bo_2 bo_3; rewrite [fR up ol, fR q (lK up ol)] at fo_1 fo_2 fo_3; replace ol := lK q (lK up ol))); have qs2 := qq.size; clear q up)
        | (go_at_call 10; have up := below_one y1 (.cells #[.slice none 0 0, .slice none 0 0, .slice none 0 0, .slice none 0 0] 26); (with_reducible refine (CT (by have h := ir_len17 (t1.on up); rw [List.length_map] at h; have := HN.out; have := HK.out; omega) (by have h := ir_len17 (t2.on up); rw [List.length_map] at h; have := HN.out; have := HK.out; omega) (by have h := ir_len17 (t4.on up); rw [List.length_map] at h; have := HN.out; have := HK.out; omega) (t1.on up) (t2.on up) (t4.on up)).mono ?_); rintro e y2 ⟨Ao, no, co, Bo, mo, do_, rfl, ox, oy, q⟩; replace qq := uK qq up q; replace t1 := (t1.on up).on q; replace t2 := (t2.on up).on q; replace t4 := (t4.on up).on q; (try replace bo_0 := (q.cell (Nat.lt_of_lt_of_le ol up.size)).trans ((up.cell ol).trans bo_0)); (try replace fo_0 := (q.frozen (Nat.lt_of_lt_of_le ol up.size)).trans ((up.frozen ol).trans fo_0)); (try (rewrite [cR up ol, cR q (lK up ol)] at bo_1 bo_2 bo_3; rewrite [fR up ol, fR q (lK up ol)] at fo_1 fo_2 fo_3; replace ol := lK q (lK up ol))); have qs2 := qq.size; have bo_0 := (q.cell (p := ⟨y1.heap.size, 0, none⟩) (by simp)).trans (show _ = some (.slice none 0 0) by simp [go_sem]); have fo_0 := (q.frozen (p := ⟨y1.heap.size, 0, none⟩) (by simp)).trans (show _ = false by simp [go_sem]); have bo_1 := (q.cell (p := ⟨y1.heap.size, 1, none⟩) (by simp)).trans (show _ = some (.slice none 0 0) by simp [go_sem]); have fo_1 := (q.frozen (p := ⟨y1.heap.size, 1, none⟩) (by simp)).trans (show _ = false by simp [go_sem]); have bo_2 := (q.cell (p := ⟨y1.heap.size, 2, none⟩) (by simp)).trans (show _ = some (.slice none 0 0) by simp [go_sem]); have fo_2 := (q.frozen (p := ⟨y1.heap.size, 2, none⟩) (by simp)).trans (show _ = false by simp [go_sem]); have bo_3 := (q.cell (p := ⟨y1.heap.size, 3, none⟩) (by simp)).trans (show _ = some (.slice none 0 0) by simp [go_sem]); have fo_3 := (q.frozen (p := ⟨y1.heap.size, 3, none⟩) (by simp)).trans (show _ = false by simp [go_sem]); have ol : y1.heap.size < y2.heap.size := Nat.lt_of_lt_of_le (by simp) q.size; clear q up))
    all_goals (go_wp2_with fail; go_meet)
    all_goals refine ⟨_, Ao, no, co, Bo, mo, do_, rfl, rfl, ?_⟩
    all_goals first
      | with_reducible exact loneTA ox oy qq _
      | with_reducible exact loneTB bo_0 bo_1 bo_2 bo_3 ox oy qq (by omega)
  case rest =>
    obtain ⟨gys, Ays, nys, cys, Bys, mys, dys, rfl, rfl, ⟨ys0, ys1, ys2, ys3⟩, hxys, hyys, b, ysge⟩ := hcut
    have ysl := cell_lt ys0
    simp only at ysl
    have ysqma : w.heap.size < gys := Nat.lt_of_lt_of_le mal ysge
    have ysqla : w.heap.size + 1 < gys := Nat.lt_of_lt_of_le lal ysge
    have ysqxs : w3.heap.size < gys := Nat.lt_of_lt_of_le xsl ysge
    replace hw := hw.on b
    replace hm := hm.on b
    replace hg := hg.on b
    replace hxp := hxp.on b
    replace hyp := hyp.on b
    rewrite [cR b mal] at ma0 ma1 ma2 ma3
    replace mal := lK b mal
    rewrite [cR b lal] at la0 la1 la2 la3
    replace lal := lK b lal
    rewrite [cR b xsl] at xs0 xs1 xs2 xs3
    replace xsl := lK b xsl
    replace cc := bK cc b
    clear b
    go_wp2_with fail
    refine (CH hw hm hg).mono ?_
    rintro e w5 ⟨rfl, b⟩
    replace hw := hw.on b
    replace hm := hm.on b
    replace hg := hg.on b
    replace hxp := hxp.on b
    replace hyp := hyp.on b
    replace hxys := hxys.on b
    replace hyys := hyys.on b
    rewrite [cR b mal] at ma0 ma1 ma2 ma3
    replace mal := lK b mal
    rewrite [cR b lal] at la0 la1 la2 la3
    replace lal := lK b lal
    rewrite [cR b xsl] at xs0 xs1 xs2 xs3
    replace xsl := lK b xsl
    rewrite [cR b ysl] at ys0 ys1 ys2 ys3
    replace ysl := lK b ysl
    replace cc := bK cc b
    clear b
    clear hw hm hg hxp hyp hxys hyys CS CT CU CH CHr
    go_wp2_with fail
    refine (alive17_any _).mono ?_
    rintro e w6 ⟨rfl, b⟩
    rewrite [cR b mal] at ma0 ma1 ma2 ma3
    replace mal := lK b mal
    rewrite [cR b lal] at la0 la1 la2 la3
    replace lal := lK b lal
    rewrite [cR b xsl] at xs0 xs1 xs2 xs3
    replace xsl := lK b xsl
    rewrite [cR b ysl] at ys0 ys1 ys2 ys3
    replace ysl := lK b ysl
    replace cc := bK cc b
    clear b
    go_wp2_with fail
    go_ret
    exact ⟨rfl, cc⟩

theorem MomSides_x {w : World} {lr mu wd f : Int} {ne : Bool} {Aw : Option Addr} {nw cw : Nat} {Lw : List Int} {Am : Option Addr} {nm cm : Nat} {Lm : List Int} {Av : Option Addr} {nv cv : Nat} {Lv : List Int} {Ag : Option Addr} {ng cg : Nat} {Lg : List Int} (iL : I64 lr) (iU : I64 mu) (iD : I64 wd) (iF : I64 f) (hw : IR w Aw nw cw Lw) (hm : IR w Am nm cm Lm) (hv : IR w Av nv cv Lv) (hg : IR w Ag ng cg Lg) (ew : ∀ z ∈ Lw, I64 z) (em : ∀ z ∈ Lm, I64 z) (ev : ∀ z ∈ Lv, I64 z) (eg : ∀ z ∈ Lg, I64 z) (kw : nw ≤ 2305843009213693951) (km : nm ≤ 2305843009213693951) (kv : nv ≤ 2305843009213693951) (kg : ng ≤ 2305843009213693951) (hf : ((nw + nm + nv + ng : Nat) : Int) ≤ 36) (q1 : decide ((-9223372036854775808 : Int) ∈ Lw ++ Lm ++ Lg) = false) (q2 : decide ((-9223372036854775808 : Int) ∈ stRW17 lr mu wd f ne Lw Lm Lg ++ stRV17 lr mu wd f ne Lw Lm Lg ++ []) = true) :
    Calls Try.prog 7 #[.agg #[.int .i64 lr, .int .i64 mu, .int .i64 wd, .bool ne], .agg #[.slice Aw nw cw, .slice Am nm cm, .slice Av nv cv, .slice Ag ng cg], .int .i64 f] w (GotV w (.bool true)) := by
  have CF := fun W : World => nFew17_N (w := W) (Aw := Aw) (cw := cw) (Am := Am) (cm := cm) (Av := Av) (cv := cv) (Ag := Ag) (cg := cg) (most := 36) kw km kv kg
  rw [decide_eq_true hf] at CF
  have CS := fun {W : World} {Aw : Option Addr} {cw : Nat} {Am : Option Addr} {cm : Nat} {Av : Option Addr} {nv cv : Nat} {Ag : Option Addr} {cg : Nat} (a : IR W Aw nw cw Lw) (b : IR W Am nm cm Lm) (c : IR W Ag ng cg Lg) => (mStep_N (ne := ne) (Av := Av) (nv := nv) (cv := cv) iL iU iD iF a b c ew em eg (by omega) (by omega) (by omega)).mono (fun e w h => h.weak)
  have CT := fun {W : World} {Aw : Option Addr} {nw cw : Nat} {Am : Option Addr} {nm cm : Nat} {Av : Option Addr} {nv cv : Nat} {Ag : Option Addr} {ng cg : Nat} (kw : nw ≤ 36) (km : nm ≤ 36) (kg : ng ≤ 36) (a : IR W Aw nw cw (Lw.map ng17)) (b : IR W Am nm cm (Lm.map ng17)) (c : IR W Ag ng cg (Lg.map ng17)) => (mStep_N (ne := ne) (Av := Av) (nv := nv) (cv := cv) iL iU iD iF a b c ng_all ng_all ng_all (by omega) (by omega) (by omega)).mono (fun e w h => h.weak)
  have hlw := len17 (lr := lr) (mu := mu) (wd := wd) (f := f) (ne := ne) (LW := Lw) (LM := Lm) (LG := Lg)
  have hln := len17 (lr := lr) (mu := mu) (wd := wd) (f := f) (ne := ne) (LW := Lw.map ng17) (LM := Lm.map ng17) (LG := Lg.map ng17)
  rw [List.length_map] at hln
  have HN : Hid (Lw.length = nw ∧ Lm.length = nm ∧ Lg.length = ng) := Lib.hid ⟨hw.1.symm, hm.1.symm, hg.1.symm⟩
  have HK : Hid (nw ≤ 36 ∧ nm ≤ 36 ∧ ng ≤ 36) := Lib.hid (by omega)
  have CU := fun {W : World} {Aw : Option Addr} {cw : Nat} {Am : Option Addr} {cm : Nat} {Av : Option Addr} {nv cv : Nat} {Ag : Option Addr} {cg : Nat} (a : IR W Aw nw cw Lw) (b : IR W Am nm cm Lm) (c : IR W Ag ng cg Lg) => turned17_N (Av := Av) (nv := nv) (cv := cv) a b c (by omega) (by omega) (by omega)
  have CH := fun {W : World} {Aw : Option Addr} {cw : Nat} {Am : Option Addr} {cm : Nat} {Av : Option Addr} {nv cv : Nat} {Ag : Option Addr} {cg : Nat} (a : IR W Aw nw cw Lw) (b : IR W Am nm cm Lm) (c : IR W Ag ng cg Lg) => has17_N (Av := Av) (nv := nv) (cv := cv) a b c (by omega) (by omega) (by omega)
  rw [q1] at CH
  generalize stRW17 lr mu wd f ne Lw Lm Lg = XW at *
  generalize stRV17 lr mu wd f ne Lw Lm Lg = XV at *
  generalize stC17 lr mu wd f ne Lw Lm Lg = XC at *
  generalize stRW17 lr mu wd f ne (Lw.map ng17) (Lm.map ng17) (Lg.map ng17) = YW at *
  generalize stRV17 lr mu wd f ne (Lw.map ng17) (Lm.map ng17) (Lg.map ng17) = YV at *
  generalize stC17 lr mu wd f ne (Lw.map ng17) (Lm.map ng17) (Lg.map ng17) = YC at *
  have HL : Hid (XW.length ≤ 36 ∧ XV.length ≤ 36 ∧ YW.length ≤ 36 ∧ YV.length ≤ 36) := Lib.hid (by have := hw.1; omega)
  have CHr : ∀ {W : World} {X Y : List Int} {A B : Option Addr} {a b c d : Nat} (r : Bool), X.length ≤ 36 → Y.length ≤ 36 → IR W A a b X → IR W B c d Y → decide ((-9223372036854775808 : Int) ∈ X ++ Y ++ []) = r → Calls Try.prog 23 #[.agg #[.slice A a b, .slice B c d, .slice none 0 0, .slice none 0 0]] W (GotV W (.bool r)) := fun r q s a b e => by have h := has17_N (Av := none) (nv := 0) (cv := 0) a b (IR.nil _ none 0) (by rw [a.1]; omega) (by rw [b.1]; omega) (by omega); rw [e] at h; exact h
  clear iL iU iD iF ew em ev eg kw km kv kg hf hlw hln
  have cc := Below.refl w.heap.size w
  go_enter Try.func7, Try.ntmps7
  go_wp2_with fail
  generalize hv_ : (w.alloc (.cells #[.int .i64 lr, .int .i64 mu, .int .i64 wd, .bool ne] 23)).alloc (.cells #[.slice Aw nw cw, .slice Am nm cm, .slice Av nv cv, .slice Ag ng cg] 26) = v1
  have bA : Below w.heap.size w v1 := by rw [← hv_]; exact (((Below.refl _ w).alloc (by simp) _).alloc (by simp) _)
  replace hw := hw.on bA
  replace hm := hm.on bA
  replace hg := hg.on bA
  replace cc := bK cc bA
  clear bA
  have ma0 : v1.cell? ⟨w.heap.size, 0, none⟩ = some (.int .i64 lr) := by simp [← hv_, go_sem]
  have ma1 : v1.cell? ⟨w.heap.size, 1, none⟩ = some (.int .i64 mu) := by simp [← hv_, go_sem]
  have ma2 : v1.cell? ⟨w.heap.size, 2, none⟩ = some (.int .i64 wd) := by simp [← hv_, go_sem]
  have ma3 : v1.cell? ⟨w.heap.size, 3, none⟩ = some (.bool ne) := by simp [← hv_, go_sem]
  have mal : w.heap.size < v1.heap.size := by simp [← hv_] <;> omega
  have la0 : v1.cell? ⟨w.heap.size + 1, 0, none⟩ = some (.slice Aw nw cw) := by simp [← hv_, go_sem]
  have la1 : v1.cell? ⟨w.heap.size + 1, 1, none⟩ = some (.slice Am nm cm) := by simp [← hv_, go_sem]
  have la2 : v1.cell? ⟨w.heap.size + 1, 2, none⟩ = some (.slice Av nv cv) := by simp [← hv_, go_sem]
  have la3 : v1.cell? ⟨w.heap.size + 1, 3, none⟩ = some (.slice Ag ng cg) := by simp [← hv_, go_sem]
  have lal : w.heap.size + 1 < v1.heap.size := by simp [← hv_] <;> omega
  clear hv_
  refine (CF _).mono ?_
  rintro e w2 ⟨rfl, b⟩
  replace hw := hw.on b
  replace hm := hm.on b
  replace hg := hg.on b
  rewrite [cR b mal] at ma0 ma1 ma2 ma3
  replace mal := lK b mal
  rewrite [cR b lal] at la0 la1 la2 la3
  replace lal := lK b lal
  replace cc := bK cc b
  clear b
  go_wp2_with fail
  refine (CS hw hm hg).mono ?_
  rintro e w3 ⟨Ap, np, cp, Bp, mp, dp, rfl, hxp, hyp, b⟩
  replace hw := hw.on b
  replace hm := hm.on b
  replace hg := hg.on b
  rewrite [cR b mal] at ma0 ma1 ma2 ma3
  replace mal := lK b mal
  rewrite [cR b lal] at la0 la1 la2 la3
  replace lal := lK b lal
  replace cc := bK cc b
  clear b
  go_upto_region 4 with fail
  have xsqma : w.heap.size < w3.heap.size := mal
  have xsqla : w.heap.size + 1 < w3.heap.size := lal
  generalize hv_ : w3.alloc (.cells #[.slice Ap np cp, .slice Bp mp dp, .slice none 0 0, .slice none 0 0] 26) = v4
  have bA : Below w3.heap.size w3 v4 := by rw [← hv_]; exact below_one _ _
  replace hw := hw.on bA
  replace hm := hm.on bA
  replace hg := hg.on bA
  replace hxp := hxp.on bA
  replace hyp := hyp.on bA
  rewrite [cR bA mal] at ma0 ma1 ma2 ma3
  replace mal := lK bA mal
  rewrite [cR bA lal] at la0 la1 la2 la3
  replace lal := lK bA lal
  replace cc := bK cc bA
  clear bA
  have xs0 : v4.cell? ⟨w3.heap.size, 0, none⟩ = some (.slice Ap np cp) := by simp [← hv_, go_sem]
  have xs1 : v4.cell? ⟨w3.heap.size, 1, none⟩ = some (.slice Bp mp dp) := by simp [← hv_, go_sem]
  have xs2 : v4.cell? ⟨w3.heap.size, 2, none⟩ = some (.slice none 0 0) := by simp [← hv_, go_sem]
  have xs3 : v4.cell? ⟨w3.heap.size, 3, none⟩ = some (.slice none 0 0) := by simp [← hv_, go_sem]
  have xsl : w3.heap.size < v4.heap.size := by simp [← hv_]
  clear hv_
  go_upto_region 4 with fail
  go_cut [9, 10] (fun u ue wx => ∃ (g_ : Nat) (A_ : Option Addr) (n_ c_ : Nat) (B_ : Option Addr) (m_ d_ : Nat), u = .pointer (some ⟨g_, 0, none⟩) ∧ ue = .int .i64 (YC) ∧ LoneT17 v4 wx g_ A_ n_ c_ B_ m_ d_ (YW) (YV))
  case first =>
    have BB0 : Below v4.heap.size v4 v4.drew := below_drewN (Below.refl _ v4) 1
    have BB1 : Below v4.heap.size v4 (v4.alloc (.cells #[.slice none 0 0, .slice none 0 0, .slice none 0 0, .slice none 0 0] 26)).drew := below_drewN (below_one _ _) 1
    have bR : Below v4.heap.size v4 v4 := Below.refl _ _
    have k_ma0 : ∀ W : World, Below v4.heap.size v4 W → W.cell? ⟨w.heap.size, 0, none⟩ = some (.int .i64 lr) := fun W b => cK b ma0 mal
    have k_ma1 : ∀ W : World, Below v4.heap.size v4 W → W.cell? ⟨w.heap.size, 1, none⟩ = some (.int .i64 mu) := fun W b => cK b ma1 mal
    have k_ma2 : ∀ W : World, Below v4.heap.size v4 W → W.cell? ⟨w.heap.size, 2, none⟩ = some (.int .i64 wd) := fun W b => cK b ma2 mal
    have k_ma3 : ∀ W : World, Below v4.heap.size v4 W → W.cell? ⟨w.heap.size, 3, none⟩ = some (.bool ne) := fun W b => cK b ma3 mal
    have k_la0 : ∀ W : World, Below v4.heap.size v4 W → W.cell? ⟨w.heap.size + 1, 0, none⟩ = some (.slice Aw nw cw) := fun W b => cK b la0 lal
    have k_la1 : ∀ W : World, Below v4.heap.size v4 W → W.cell? ⟨w.heap.size + 1, 1, none⟩ = some (.slice Am nm cm) := fun W b => cK b la1 lal
    have k_la2 : ∀ W : World, Below v4.heap.size v4 W → W.cell? ⟨w.heap.size + 1, 2, none⟩ = some (.slice Av nv cv) := fun W b => cK b la2 lal
    have k_la3 : ∀ W : World, Below v4.heap.size v4 W → W.cell? ⟨w.heap.size + 1, 3, none⟩ = some (.slice Ag ng cg) := fun W b => cK b la3 lal
    have k_xs0 : ∀ W : World, Below v4.heap.size v4 W → W.cell? ⟨w3.heap.size, 0, none⟩ = some (.slice Ap np cp) := fun W b => cK b xs0 xsl
    have k_xs1 : ∀ W : World, Below v4.heap.size v4 W → W.cell? ⟨w3.heap.size, 1, none⟩ = some (.slice Bp mp dp) := fun W b => cK b xs1 xsl
    have k_xs2 : ∀ W : World, Below v4.heap.size v4 W → W.cell? ⟨w3.heap.size, 2, none⟩ = some (.slice none 0 0) := fun W b => cK b xs2 xsl
    have k_xs3 : ∀ W : World, Below v4.heap.size v4 W → W.cell? ⟨w3.heap.size, 3, none⟩ = some (.slice none 0 0) := fun W b => cK b xs3 xsl
    clear ma0 ma1 ma2 ma3 la0 la1 la2 la3 xs0 xs1 xs2 xs3
    go_region_held3 (fun w' => Below v4.heap.size v4 w')
      (repeat' (first | with_reducible assumption | with_reducible refine below_al17 _ ?_ | with_reducible refine below_dr17 ?_ | with_reducible refine below_sc17 _ ?_ () ?_ | (first | omega | (simp; omega))))
      (first
        | (go_at_call 22; (with_reducible refine (CU (hw.on BB0) (hm.on BB0) (hg.on BB0)).mono ?_); rintro e y1 ⟨At, nt, ct, Bt, mt, dt, Ct, kt, ht, Dt, rt, ot, rfl, t1, t2, t3, t4, q⟩; have qq := BB0.trans (q.mono BB0.size); have qs1 := qq.size; clear q)
        | (go_at_call 22; (with_reducible refine (CU (hw.on BB1) (hm.on BB1) (hg.on BB1)).mono ?_); rintro e y1 ⟨At, nt, ct, Bt, mt, dt, Ct, kt, ht, Dt, rt, ot, rfl, t1, t2, t3, t4, q⟩; have qq := BB1.trans (q.mono BB1.size); have qs1 := qq.size; have bo_0 := (q.cell (p := ⟨v4.heap.size, 0, none⟩) (by simp)).trans (show _ = some (.slice none 0 0) by simp [go_sem]); have fo_0 := (q.frozen (p := ⟨v4.heap.size, 0, none⟩) (by simp)).trans (show _ = false by simp [go_sem]); have bo_1 := (q.cell (p := ⟨v4.heap.size, 1, none⟩) (by simp)).trans (show _ = some (.slice none 0 0) by simp [go_sem]); have fo_1 := (q.frozen (p := ⟨v4.heap.size, 1, none⟩) (by simp)).trans (show _ = false by simp [go_sem]); have bo_2 := (q.cell (p := ⟨v4.heap.size, 2, none⟩) (by simp)).trans (show _ = some (.slice none 0 0) by simp [go_sem]); have fo_2 := (q.frozen (p := ⟨v4.heap.size, 2, none⟩) (by simp)).trans (show _ = false by simp [go_sem]); have bo_3 := (q.cell (p := ⟨v4.heap.size, 3, none⟩) (by simp)).trans (show _ = some (.slice none 0 0) by simp [go_sem]); have fo_3 := (q.frozen (p := ⟨v4.heap.size, 3, none⟩) (by simp)).trans (show _ = false by simp [go_sem]); have ol : v4.heap.size < y1.heap.size := Nat.lt_of_lt_of_le (by simp) q.size; clear q)
        | (go_at_call 10; have up := Below.refl y1.heap.size y1; (with_reducible refine (CT (by have h := ir_len17 (t1.on up); rw [List.length_map] at h; have := HN.out; have := HK.out; omega) (by have h := ir_len17 (t2.on up); rw [List.length_map] at h; have := HN.out; have := HK.out; omega) (by have h := ir_len17 (t4.on up); rw [List.length_map] at h; have := HN.out; have := HK.out; omega) (t1.on up) (t2.on up) (t4.on up)).mono ?_); rintro e y2 ⟨Ao, no, co, Bo, mo, do_, rfl, ox, oy, q⟩; replace qq := uK qq up q; replace t1 := (t1.on up).on q; replace t2 := (t2.on up).on q; replace t4 := (t4.on up).on q; (try replace bo_0 := (q.cell (Nat.lt_of_lt_of_le ol up.size)).trans ((up.cell ol).trans bo_0)); (try replace fo_0 := (q.frozen (Nat.lt_of_lt_of_le ol up.size)).trans ((up.frozen ol).trans fo_0)); (try (rewrite [cR up ol, cR q (lK up ol)] at bo_1 bo_2 bo_3; rewrite [fR up ol, fR q (lK up ol)] at fo_1 fo_2 fo_3; replace ol := lK q (lK up ol))); have qs2 := qq.size; clear q up)
        | (go_at_call 10; have up := below_one y1 (.cells #[.slice none 0 0, .slice none 0 0, .slice none 0 0, .slice none 0 0] 26); (with_reducible refine (CT (by have h := ir_len17 (t1.on up); rw [List.length_map] at h; have := HN.out; have := HK.out; omega) (by have h := ir_len17 (t2.on up); rw [List.length_map] at h; have := HN.out; have := HK.out; omega) (by have h := ir_len17 (t4.on up); rw [List.length_map] at h; have := HN.out; have := HK.out; omega) (t1.on up) (t2.on up) (t4.on up)).mono ?_); rintro e y2 ⟨Ao, no, co, Bo, mo, do_, rfl, ox, oy, q⟩; replace qq := uK qq up q; replace t1 := (t1.on up).on q; replace t2 := (t2.on up).on q; replace t4 := (t4.on up).on q; (try replace bo_0 := (q.cell (Nat.lt_of_lt_of_le ol up.size)).trans ((up.cell ol).trans bo_0)); (try replace fo_0 := (q.frozen (Nat.lt_of_lt_of_le ol up.size)).trans ((up.frozen ol).trans fo_0)); (try (rewrite [cR up ol, cR q (lK up ol)] at bo_1 bo_2 bo_3; rewrite [fR up ol, fR q (lK up ol)] at fo_1 fo_2 fo_3; replace ol := lK q (lK up ol))); have qs2 := qq.size; have bo_0 := (q.cell (p := ⟨y1.heap.size, 0, none⟩) (by simp)).trans (show _ = some (.slice none 0 0) by simp [go_sem]); have fo_0 := (q.frozen (p := ⟨y1.heap.size, 0, none⟩) (by simp)).trans (show _ = false by simp [go_sem]); have bo_1 := (q.cell (p := ⟨y1.heap.size, 1, none⟩) (by simp)).trans (show _ = some (.slice none 0 0) by simp [go_sem]); have fo_1 := (q.frozen (p := ⟨y1.heap.size, 1, none⟩) (by simp)).trans (show _ = false by simp [go_sem]); have bo_2 := (q.cell (p := ⟨y1.heap.size, 2, none⟩) (by simp)).trans (show _ = some (.slice none 0 0) by simp [go_sem]); have fo_2 := (q.frozen (p := ⟨y1.heap.size, 2, none⟩) (by simp)).trans (show _ = false by simp [go_sem]); have bo_3 := (q.cell (p := ⟨y1.heap.size, 3, none⟩) (by simp)).trans (show _ = some (.slice none 0 0) by simp [go_sem]); have fo_3 := (q.frozen (p := ⟨y1.heap.size, 3, none⟩) (by simp)).trans (show _ = false by simp [go_sem]); have ol : y1.heap.size < y2.heap.size := Nat.lt_of_lt_of_le (by simp) q.size; clear q up))
    all_goals (go_wp2_with fail; go_meet)
    all_goals refine ⟨_, Ao, no, co, Bo, mo, do_, rfl, rfl, ?_⟩
    all_goals first
      | with_reducible exact loneTA ox oy qq _
      | with_reducible exact loneTB bo_0 bo_1 bo_2 bo_3 ox oy qq (by omega)
  case rest =>
    obtain ⟨gys, Ays, nys, cys, Bys, mys, dys, rfl, rfl, ⟨ys0, ys1, ys2, ys3⟩, hxys, hyys, b, ysge⟩ := hcut
    have ysl := cell_lt ys0
    simp only at ysl
    have ysqma : w.heap.size < gys := Nat.lt_of_lt_of_le mal ysge
    have ysqla : w.heap.size + 1 < gys := Nat.lt_of_lt_of_le lal ysge
    have ysqxs : w3.heap.size < gys := Nat.lt_of_lt_of_le xsl ysge
    replace hw := hw.on b
    replace hm := hm.on b
    replace hg := hg.on b
    replace hxp := hxp.on b
    replace hyp := hyp.on b
    rewrite [cR b mal] at ma0 ma1 ma2 ma3
    replace mal := lK b mal
    rewrite [cR b lal] at la0 la1 la2 la3
    replace lal := lK b lal
    rewrite [cR b xsl] at xs0 xs1 xs2 xs3
    replace xsl := lK b xsl
    replace cc := bK cc b
    clear b
    go_wp2_with fail
    refine (CH hw hm hg).mono ?_
    rintro e w5 ⟨rfl, b⟩
    replace hw := hw.on b
    replace hm := hm.on b
    replace hg := hg.on b
    replace hxp := hxp.on b
    replace hyp := hyp.on b
    replace hxys := hxys.on b
    replace hyys := hyys.on b
    rewrite [cR b mal] at ma0 ma1 ma2 ma3
    replace mal := lK b mal
    rewrite [cR b lal] at la0 la1 la2 la3
    replace lal := lK b lal
    rewrite [cR b xsl] at xs0 xs1 xs2 xs3
    replace xsl := lK b xsl
    rewrite [cR b ysl] at ys0 ys1 ys2 ys3
    replace ysl := lK b ysl
    replace cc := bK cc b
    clear b
    go_wp2_with fail
    refine (CHr _ HL.out.1 HL.out.2.1 hxp hyp q2).mono ?_
    rintro e w6 ⟨rfl, b⟩
    replace hw := hw.on b
    replace hm := hm.on b
    replace hg := hg.on b
    replace hxp := hxp.on b
    replace hyp := hyp.on b
    replace hxys := hxys.on b
    replace hyys := hyys.on b
    rewrite [cR b mal] at ma0 ma1 ma2 ma3
    replace mal := lK b mal
    rewrite [cR b lal] at la0 la1 la2 la3
    replace lal := lK b lal
    rewrite [cR b xsl] at xs0 xs1 xs2 xs3
    replace xsl := lK b xsl
    rewrite [cR b ysl] at ys0 ys1 ys2 ys3
    replace ysl := lK b ysl
    replace cc := bK cc b
    clear b
    clear hw hm hg hxp hyp hxys hyys CS CT CU CH CHr
    go_wp2_with fail
    refine (alive17_any _).mono ?_
    rintro e w7 ⟨rfl, b⟩
    rewrite [cR b mal] at ma0 ma1 ma2 ma3
    replace mal := lK b mal
    rewrite [cR b lal] at la0 la1 la2 la3
    replace lal := lK b lal
    rewrite [cR b xsl] at xs0 xs1 xs2 xs3
    replace xsl := lK b xsl
    rewrite [cR b ysl] at ys0 ys1 ys2 ys3
    replace ysl := lK b ysl
    replace cc := bK cc b
    clear b
    go_wp2_with fail
    go_ret
    exact ⟨rfl, cc⟩

theorem MomSides_y {w : World} {lr mu wd f : Int} {ne : Bool} {Aw : Option Addr} {nw cw : Nat} {Lw : List Int} {Am : Option Addr} {nm cm : Nat} {Lm : List Int} {Av : Option Addr} {nv cv : Nat} {Lv : List Int} {Ag : Option Addr} {ng cg : Nat} {Lg : List Int} (iL : I64 lr) (iU : I64 mu) (iD : I64 wd) (iF : I64 f) (hw : IR w Aw nw cw Lw) (hm : IR w Am nm cm Lm) (hv : IR w Av nv cv Lv) (hg : IR w Ag ng cg Lg) (ew : ∀ z ∈ Lw, I64 z) (em : ∀ z ∈ Lm, I64 z) (ev : ∀ z ∈ Lv, I64 z) (eg : ∀ z ∈ Lg, I64 z) (kw : nw ≤ 2305843009213693951) (km : nm ≤ 2305843009213693951) (kv : nv ≤ 2305843009213693951) (kg : ng ≤ 2305843009213693951) (hf : ((nw + nm + nv + ng : Nat) : Int) ≤ 36) (q1 : decide ((-9223372036854775808 : Int) ∈ Lw ++ Lm ++ Lg) = false) (q2 : decide ((-9223372036854775808 : Int) ∈ stRW17 lr mu wd f ne Lw Lm Lg ++ stRV17 lr mu wd f ne Lw Lm Lg ++ []) = false) (q3 : decide ((-9223372036854775808 : Int) ∈ stRW17 lr mu wd f ne (Lw.map ng17) (Lm.map ng17) (Lg.map ng17) ++ stRV17 lr mu wd f ne (Lw.map ng17) (Lm.map ng17) (Lg.map ng17) ++ []) = true) :
    Calls Try.prog 7 #[.agg #[.int .i64 lr, .int .i64 mu, .int .i64 wd, .bool ne], .agg #[.slice Aw nw cw, .slice Am nm cm, .slice Av nv cv, .slice Ag ng cg], .int .i64 f] w (GotV w (.bool true)) := by
  have CF := fun W : World => nFew17_N (w := W) (Aw := Aw) (cw := cw) (Am := Am) (cm := cm) (Av := Av) (cv := cv) (Ag := Ag) (cg := cg) (most := 36) kw km kv kg
  rw [decide_eq_true hf] at CF
  have CS := fun {W : World} {Aw : Option Addr} {cw : Nat} {Am : Option Addr} {cm : Nat} {Av : Option Addr} {nv cv : Nat} {Ag : Option Addr} {cg : Nat} (a : IR W Aw nw cw Lw) (b : IR W Am nm cm Lm) (c : IR W Ag ng cg Lg) => (mStep_N (ne := ne) (Av := Av) (nv := nv) (cv := cv) iL iU iD iF a b c ew em eg (by omega) (by omega) (by omega)).mono (fun e w h => h.weak)
  have CT := fun {W : World} {Aw : Option Addr} {nw cw : Nat} {Am : Option Addr} {nm cm : Nat} {Av : Option Addr} {nv cv : Nat} {Ag : Option Addr} {ng cg : Nat} (kw : nw ≤ 36) (km : nm ≤ 36) (kg : ng ≤ 36) (a : IR W Aw nw cw (Lw.map ng17)) (b : IR W Am nm cm (Lm.map ng17)) (c : IR W Ag ng cg (Lg.map ng17)) => (mStep_N (ne := ne) (Av := Av) (nv := nv) (cv := cv) iL iU iD iF a b c ng_all ng_all ng_all (by omega) (by omega) (by omega)).mono (fun e w h => h.weak)
  have hlw := len17 (lr := lr) (mu := mu) (wd := wd) (f := f) (ne := ne) (LW := Lw) (LM := Lm) (LG := Lg)
  have hln := len17 (lr := lr) (mu := mu) (wd := wd) (f := f) (ne := ne) (LW := Lw.map ng17) (LM := Lm.map ng17) (LG := Lg.map ng17)
  rw [List.length_map] at hln
  have HN : Hid (Lw.length = nw ∧ Lm.length = nm ∧ Lg.length = ng) := Lib.hid ⟨hw.1.symm, hm.1.symm, hg.1.symm⟩
  have HK : Hid (nw ≤ 36 ∧ nm ≤ 36 ∧ ng ≤ 36) := Lib.hid (by omega)
  have CU := fun {W : World} {Aw : Option Addr} {cw : Nat} {Am : Option Addr} {cm : Nat} {Av : Option Addr} {nv cv : Nat} {Ag : Option Addr} {cg : Nat} (a : IR W Aw nw cw Lw) (b : IR W Am nm cm Lm) (c : IR W Ag ng cg Lg) => turned17_N (Av := Av) (nv := nv) (cv := cv) a b c (by omega) (by omega) (by omega)
  have CH := fun {W : World} {Aw : Option Addr} {cw : Nat} {Am : Option Addr} {cm : Nat} {Av : Option Addr} {nv cv : Nat} {Ag : Option Addr} {cg : Nat} (a : IR W Aw nw cw Lw) (b : IR W Am nm cm Lm) (c : IR W Ag ng cg Lg) => has17_N (Av := Av) (nv := nv) (cv := cv) a b c (by omega) (by omega) (by omega)
  rw [q1] at CH
  generalize stRW17 lr mu wd f ne Lw Lm Lg = XW at *
  generalize stRV17 lr mu wd f ne Lw Lm Lg = XV at *
  generalize stC17 lr mu wd f ne Lw Lm Lg = XC at *
  generalize stRW17 lr mu wd f ne (Lw.map ng17) (Lm.map ng17) (Lg.map ng17) = YW at *
  generalize stRV17 lr mu wd f ne (Lw.map ng17) (Lm.map ng17) (Lg.map ng17) = YV at *
  generalize stC17 lr mu wd f ne (Lw.map ng17) (Lm.map ng17) (Lg.map ng17) = YC at *
  have HL : Hid (XW.length ≤ 36 ∧ XV.length ≤ 36 ∧ YW.length ≤ 36 ∧ YV.length ≤ 36) := Lib.hid (by have := hw.1; omega)
  have CHr : ∀ {W : World} {X Y : List Int} {A B : Option Addr} {a b c d : Nat} (r : Bool), X.length ≤ 36 → Y.length ≤ 36 → IR W A a b X → IR W B c d Y → decide ((-9223372036854775808 : Int) ∈ X ++ Y ++ []) = r → Calls Try.prog 23 #[.agg #[.slice A a b, .slice B c d, .slice none 0 0, .slice none 0 0]] W (GotV W (.bool r)) := fun r q s a b e => by have h := has17_N (Av := none) (nv := 0) (cv := 0) a b (IR.nil _ none 0) (by rw [a.1]; omega) (by rw [b.1]; omega) (by omega); rw [e] at h; exact h
  clear iL iU iD iF ew em ev eg kw km kv kg hf hlw hln
  have cc := Below.refl w.heap.size w
  go_enter Try.func7, Try.ntmps7
  go_wp2_with fail
  generalize hv_ : (w.alloc (.cells #[.int .i64 lr, .int .i64 mu, .int .i64 wd, .bool ne] 23)).alloc (.cells #[.slice Aw nw cw, .slice Am nm cm, .slice Av nv cv, .slice Ag ng cg] 26) = v1
  have bA : Below w.heap.size w v1 := by rw [← hv_]; exact (((Below.refl _ w).alloc (by simp) _).alloc (by simp) _)
  replace hw := hw.on bA
  replace hm := hm.on bA
  replace hg := hg.on bA
  replace cc := bK cc bA
  clear bA
  have ma0 : v1.cell? ⟨w.heap.size, 0, none⟩ = some (.int .i64 lr) := by simp [← hv_, go_sem]
  have ma1 : v1.cell? ⟨w.heap.size, 1, none⟩ = some (.int .i64 mu) := by simp [← hv_, go_sem]
  have ma2 : v1.cell? ⟨w.heap.size, 2, none⟩ = some (.int .i64 wd) := by simp [← hv_, go_sem]
  have ma3 : v1.cell? ⟨w.heap.size, 3, none⟩ = some (.bool ne) := by simp [← hv_, go_sem]
  have mal : w.heap.size < v1.heap.size := by simp [← hv_] <;> omega
  have la0 : v1.cell? ⟨w.heap.size + 1, 0, none⟩ = some (.slice Aw nw cw) := by simp [← hv_, go_sem]
  have la1 : v1.cell? ⟨w.heap.size + 1, 1, none⟩ = some (.slice Am nm cm) := by simp [← hv_, go_sem]
  have la2 : v1.cell? ⟨w.heap.size + 1, 2, none⟩ = some (.slice Av nv cv) := by simp [← hv_, go_sem]
  have la3 : v1.cell? ⟨w.heap.size + 1, 3, none⟩ = some (.slice Ag ng cg) := by simp [← hv_, go_sem]
  have lal : w.heap.size + 1 < v1.heap.size := by simp [← hv_] <;> omega
  clear hv_
  refine (CF _).mono ?_
  rintro e w2 ⟨rfl, b⟩
  replace hw := hw.on b
  replace hm := hm.on b
  replace hg := hg.on b
  rewrite [cR b mal] at ma0 ma1 ma2 ma3
  replace mal := lK b mal
  rewrite [cR b lal] at la0 la1 la2 la3
  replace lal := lK b lal
  replace cc := bK cc b
  clear b
  go_wp2_with fail
  refine (CS hw hm hg).mono ?_
  rintro e w3 ⟨Ap, np, cp, Bp, mp, dp, rfl, hxp, hyp, b⟩
  replace hw := hw.on b
  replace hm := hm.on b
  replace hg := hg.on b
  rewrite [cR b mal] at ma0 ma1 ma2 ma3
  replace mal := lK b mal
  rewrite [cR b lal] at la0 la1 la2 la3
  replace lal := lK b lal
  replace cc := bK cc b
  clear b
  go_upto_region 4 with fail
  have xsqma : w.heap.size < w3.heap.size := mal
  have xsqla : w.heap.size + 1 < w3.heap.size := lal
  generalize hv_ : w3.alloc (.cells #[.slice Ap np cp, .slice Bp mp dp, .slice none 0 0, .slice none 0 0] 26) = v4
  have bA : Below w3.heap.size w3 v4 := by rw [← hv_]; exact below_one _ _
  replace hw := hw.on bA
  replace hm := hm.on bA
  replace hg := hg.on bA
  replace hxp := hxp.on bA
  replace hyp := hyp.on bA
  rewrite [cR bA mal] at ma0 ma1 ma2 ma3
  replace mal := lK bA mal
  rewrite [cR bA lal] at la0 la1 la2 la3
  replace lal := lK bA lal
  replace cc := bK cc bA
  clear bA
  have xs0 : v4.cell? ⟨w3.heap.size, 0, none⟩ = some (.slice Ap np cp) := by simp [← hv_, go_sem]
  have xs1 : v4.cell? ⟨w3.heap.size, 1, none⟩ = some (.slice Bp mp dp) := by simp [← hv_, go_sem]
  have xs2 : v4.cell? ⟨w3.heap.size, 2, none⟩ = some (.slice none 0 0) := by simp [← hv_, go_sem]
  have xs3 : v4.cell? ⟨w3.heap.size, 3, none⟩ = some (.slice none 0 0) := by simp [← hv_, go_sem]
  have xsl : w3.heap.size < v4.heap.size := by simp [← hv_]
  clear hv_
  go_upto_region 4 with fail
  go_cut [9, 10] (fun u ue wx => ∃ (g_ : Nat) (A_ : Option Addr) (n_ c_ : Nat) (B_ : Option Addr) (m_ d_ : Nat), u = .pointer (some ⟨g_, 0, none⟩) ∧ ue = .int .i64 (YC) ∧ LoneT17 v4 wx g_ A_ n_ c_ B_ m_ d_ (YW) (YV))
  case first =>
    have BB0 : Below v4.heap.size v4 v4.drew := below_drewN (Below.refl _ v4) 1
    have BB1 : Below v4.heap.size v4 (v4.alloc (.cells #[.slice none 0 0, .slice none 0 0, .slice none 0 0, .slice none 0 0] 26)).drew := below_drewN (below_one _ _) 1
    have bR : Below v4.heap.size v4 v4 := Below.refl _ _
    have k_ma0 : ∀ W : World, Below v4.heap.size v4 W → W.cell? ⟨w.heap.size, 0, none⟩ = some (.int .i64 lr) := fun W b => cK b ma0 mal
    have k_ma1 : ∀ W : World, Below v4.heap.size v4 W → W.cell? ⟨w.heap.size, 1, none⟩ = some (.int .i64 mu) := fun W b => cK b ma1 mal
    have k_ma2 : ∀ W : World, Below v4.heap.size v4 W → W.cell? ⟨w.heap.size, 2, none⟩ = some (.int .i64 wd) := fun W b => cK b ma2 mal
    have k_ma3 : ∀ W : World, Below v4.heap.size v4 W → W.cell? ⟨w.heap.size, 3, none⟩ = some (.bool ne) := fun W b => cK b ma3 mal
    have k_la0 : ∀ W : World, Below v4.heap.size v4 W → W.cell? ⟨w.heap.size + 1, 0, none⟩ = some (.slice Aw nw cw) := fun W b => cK b la0 lal
    have k_la1 : ∀ W : World, Below v4.heap.size v4 W → W.cell? ⟨w.heap.size + 1, 1, none⟩ = some (.slice Am nm cm) := fun W b => cK b la1 lal
    have k_la2 : ∀ W : World, Below v4.heap.size v4 W → W.cell? ⟨w.heap.size + 1, 2, none⟩ = some (.slice Av nv cv) := fun W b => cK b la2 lal
    have k_la3 : ∀ W : World, Below v4.heap.size v4 W → W.cell? ⟨w.heap.size + 1, 3, none⟩ = some (.slice Ag ng cg) := fun W b => cK b la3 lal
    have k_xs0 : ∀ W : World, Below v4.heap.size v4 W → W.cell? ⟨w3.heap.size, 0, none⟩ = some (.slice Ap np cp) := fun W b => cK b xs0 xsl
    have k_xs1 : ∀ W : World, Below v4.heap.size v4 W → W.cell? ⟨w3.heap.size, 1, none⟩ = some (.slice Bp mp dp) := fun W b => cK b xs1 xsl
    have k_xs2 : ∀ W : World, Below v4.heap.size v4 W → W.cell? ⟨w3.heap.size, 2, none⟩ = some (.slice none 0 0) := fun W b => cK b xs2 xsl
    have k_xs3 : ∀ W : World, Below v4.heap.size v4 W → W.cell? ⟨w3.heap.size, 3, none⟩ = some (.slice none 0 0) := fun W b => cK b xs3 xsl
    clear ma0 ma1 ma2 ma3 la0 la1 la2 la3 xs0 xs1 xs2 xs3
    go_region_held3 (fun w' => Below v4.heap.size v4 w')
      (repeat' (first | with_reducible assumption | with_reducible refine below_al17 _ ?_ | with_reducible refine below_dr17 ?_ | with_reducible refine below_sc17 _ ?_ () ?_ | (first | omega | (simp; omega))))
      (first
        | (go_at_call 22; (with_reducible refine (CU (hw.on BB0) (hm.on BB0) (hg.on BB0)).mono ?_); rintro e y1 ⟨At, nt, ct, Bt, mt, dt, Ct, kt, ht, Dt, rt, ot, rfl, t1, t2, t3, t4, q⟩; have qq := BB0.trans (q.mono BB0.size); have qs1 := qq.size; clear q)
        | (go_at_call 22; (with_reducible refine (CU (hw.on BB1) (hm.on BB1) (hg.on BB1)).mono ?_); rintro e y1 ⟨At, nt, ct, Bt, mt, dt, Ct, kt, ht, Dt, rt, ot, rfl, t1, t2, t3, t4, q⟩; have qq := BB1.trans (q.mono BB1.size); have qs1 := qq.size; have bo_0 := (q.cell (p := ⟨v4.heap.size, 0, none⟩) (by simp)).trans (show _ = some (.slice none 0 0) by simp [go_sem]); have fo_0 := (q.frozen (p := ⟨v4.heap.size, 0, none⟩) (by simp)).trans (show _ = false by simp [go_sem]); have bo_1 := (q.cell (p := ⟨v4.heap.size, 1, none⟩) (by simp)).trans (show _ = some (.slice none 0 0) by simp [go_sem]); have fo_1 := (q.frozen (p := ⟨v4.heap.size, 1, none⟩) (by simp)).trans (show _ = false by simp [go_sem]); have bo_2 := (q.cell (p := ⟨v4.heap.size, 2, none⟩) (by simp)).trans (show _ = some (.slice none 0 0) by simp [go_sem]); have fo_2 := (q.frozen (p := ⟨v4.heap.size, 2, none⟩) (by simp)).trans (show _ = false by simp [go_sem]); have bo_3 := (q.cell (p := ⟨v4.heap.size, 3, none⟩) (by simp)).trans (show _ = some (.slice none 0 0) by simp [go_sem]); have fo_3 := (q.frozen (p := ⟨v4.heap.size, 3, none⟩) (by simp)).trans (show _ = false by simp [go_sem]); have ol : v4.heap.size < y1.heap.size := Nat.lt_of_lt_of_le (by simp) q.size; clear q)
        | (go_at_call 10; have up := Below.refl y1.heap.size y1; (with_reducible refine (CT (by have h := ir_len17 (t1.on up); rw [List.length_map] at h; have := HN.out; have := HK.out; omega) (by have h := ir_len17 (t2.on up); rw [List.length_map] at h; have := HN.out; have := HK.out; omega) (by have h := ir_len17 (t4.on up); rw [List.length_map] at h; have := HN.out; have := HK.out; omega) (t1.on up) (t2.on up) (t4.on up)).mono ?_); rintro e y2 ⟨Ao, no, co, Bo, mo, do_, rfl, ox, oy, q⟩; replace qq := uK qq up q; replace t1 := (t1.on up).on q; replace t2 := (t2.on up).on q; replace t4 := (t4.on up).on q; (try replace bo_0 := (q.cell (Nat.lt_of_lt_of_le ol up.size)).trans ((up.cell ol).trans bo_0)); (try replace fo_0 := (q.frozen (Nat.lt_of_lt_of_le ol up.size)).trans ((up.frozen ol).trans fo_0)); (try (rewrite [cR up ol, cR q (lK up ol)] at bo_1 bo_2 bo_3; rewrite [fR up ol, fR q (lK up ol)] at fo_1 fo_2 fo_3; replace ol := lK q (lK up ol))); have qs2 := qq.size; clear q up)
        | (go_at_call 10; have up := below_one y1 (.cells #[.slice none 0 0, .slice none 0 0, .slice none 0 0, .slice none 0 0] 26); (with_reducible refine (CT (by have h := ir_len17 (t1.on up); rw [List.length_map] at h; have := HN.out; have := HK.out; omega) (by have h := ir_len17 (t2.on up); rw [List.length_map] at h; have := HN.out; have := HK.out; omega) (by have h := ir_len17 (t4.on up); rw [List.length_map] at h; have := HN.out; have := HK.out; omega) (t1.on up) (t2.on up) (t4.on up)).mono ?_); rintro e y2 ⟨Ao, no, co, Bo, mo, do_, rfl, ox, oy, q⟩; replace qq := uK qq up q; replace t1 := (t1.on up).on q; replace t2 := (t2.on up).on q; replace t4 := (t4.on up).on q; (try replace bo_0 := (q.cell (Nat.lt_of_lt_of_le ol up.size)).trans ((up.cell ol).trans bo_0)); (try replace fo_0 := (q.frozen (Nat.lt_of_lt_of_le ol up.size)).trans ((up.frozen ol).trans fo_0)); (try (rewrite [cR up ol, cR q (lK up ol)] at bo_1 bo_2 bo_3; rewrite [fR up ol, fR q (lK up ol)] at fo_1 fo_2 fo_3; replace ol := lK q (lK up ol))); have qs2 := qq.size; have bo_0 := (q.cell (p := ⟨y1.heap.size, 0, none⟩) (by simp)).trans (show _ = some (.slice none 0 0) by simp [go_sem]); have fo_0 := (q.frozen (p := ⟨y1.heap.size, 0, none⟩) (by simp)).trans (show _ = false by simp [go_sem]); have bo_1 := (q.cell (p := ⟨y1.heap.size, 1, none⟩) (by simp)).trans (show _ = some (.slice none 0 0) by simp [go_sem]); have fo_1 := (q.frozen (p := ⟨y1.heap.size, 1, none⟩) (by simp)).trans (show _ = false by simp [go_sem]); have bo_2 := (q.cell (p := ⟨y1.heap.size, 2, none⟩) (by simp)).trans (show _ = some (.slice none 0 0) by simp [go_sem]); have fo_2 := (q.frozen (p := ⟨y1.heap.size, 2, none⟩) (by simp)).trans (show _ = false by simp [go_sem]); have bo_3 := (q.cell (p := ⟨y1.heap.size, 3, none⟩) (by simp)).trans (show _ = some (.slice none 0 0) by simp [go_sem]); have fo_3 := (q.frozen (p := ⟨y1.heap.size, 3, none⟩) (by simp)).trans (show _ = false by simp [go_sem]); have ol : y1.heap.size < y2.heap.size := Nat.lt_of_lt_of_le (by simp) q.size; clear q up))
    all_goals (go_wp2_with fail; go_meet)
    all_goals refine ⟨_, Ao, no, co, Bo, mo, do_, rfl, rfl, ?_⟩
    all_goals first
      | with_reducible exact loneTA ox oy qq _
      | with_reducible exact loneTB bo_0 bo_1 bo_2 bo_3 ox oy qq (by omega)
  case rest =>
    obtain ⟨gys, Ays, nys, cys, Bys, mys, dys, rfl, rfl, ⟨ys0, ys1, ys2, ys3⟩, hxys, hyys, b, ysge⟩ := hcut
    have ysl := cell_lt ys0
    simp only at ysl
    have ysqma : w.heap.size < gys := Nat.lt_of_lt_of_le mal ysge
    have ysqla : w.heap.size + 1 < gys := Nat.lt_of_lt_of_le lal ysge
    have ysqxs : w3.heap.size < gys := Nat.lt_of_lt_of_le xsl ysge
    replace hw := hw.on b
    replace hm := hm.on b
    replace hg := hg.on b
    replace hxp := hxp.on b
    replace hyp := hyp.on b
    rewrite [cR b mal] at ma0 ma1 ma2 ma3
    replace mal := lK b mal
    rewrite [cR b lal] at la0 la1 la2 la3
    replace lal := lK b lal
    rewrite [cR b xsl] at xs0 xs1 xs2 xs3
    replace xsl := lK b xsl
    replace cc := bK cc b
    clear b
    go_wp2_with fail
    refine (CH hw hm hg).mono ?_
    rintro e w5 ⟨rfl, b⟩
    replace hw := hw.on b
    replace hm := hm.on b
    replace hg := hg.on b
    replace hxp := hxp.on b
    replace hyp := hyp.on b
    replace hxys := hxys.on b
    replace hyys := hyys.on b
    rewrite [cR b mal] at ma0 ma1 ma2 ma3
    replace mal := lK b mal
    rewrite [cR b lal] at la0 la1 la2 la3
    replace lal := lK b lal
    rewrite [cR b xsl] at xs0 xs1 xs2 xs3
    replace xsl := lK b xsl
    rewrite [cR b ysl] at ys0 ys1 ys2 ys3
    replace ysl := lK b ysl
    replace cc := bK cc b
    clear b
    go_wp2_with fail
    refine (CHr _ HL.out.1 HL.out.2.1 hxp hyp q2).mono ?_
    rintro e w6 ⟨rfl, b⟩
    replace hw := hw.on b
    replace hm := hm.on b
    replace hg := hg.on b
    replace hxp := hxp.on b
    replace hyp := hyp.on b
    replace hxys := hxys.on b
    replace hyys := hyys.on b
    rewrite [cR b mal] at ma0 ma1 ma2 ma3
    replace mal := lK b mal
    rewrite [cR b lal] at la0 la1 la2 la3
    replace lal := lK b lal
    rewrite [cR b xsl] at xs0 xs1 xs2 xs3
    replace xsl := lK b xsl
    rewrite [cR b ysl] at ys0 ys1 ys2 ys3
    replace ysl := lK b ysl
    replace cc := bK cc b
    clear b
    go_wp2_with fail
    refine (CHr _ HL.out.2.2.1 HL.out.2.2.2 hxys hyys q3).mono ?_
    rintro e w7 ⟨rfl, b⟩
    replace hw := hw.on b
    replace hm := hm.on b
    replace hg := hg.on b
    replace hxp := hxp.on b
    replace hyp := hyp.on b
    replace hxys := hxys.on b
    replace hyys := hyys.on b
    rewrite [cR b mal] at ma0 ma1 ma2 ma3
    replace mal := lK b mal
    rewrite [cR b lal] at la0 la1 la2 la3
    replace lal := lK b lal
    rewrite [cR b xsl] at xs0 xs1 xs2 xs3
    replace xsl := lK b xsl
    rewrite [cR b ysl] at ys0 ys1 ys2 ys3
    replace ysl := lK b ysl
    replace cc := bK cc b
    clear b
    clear hw hm hg hxp hyp hxys hyys CS CT CU CH CHr
    go_wp2_with fail
    refine (alive17_any _).mono ?_
    rintro e w8 ⟨rfl, b⟩
    rewrite [cR b mal] at ma0 ma1 ma2 ma3
    replace mal := lK b mal
    rewrite [cR b lal] at la0 la1 la2 la3
    replace lal := lK b lal
    rewrite [cR b xsl] at xs0 xs1 xs2 xs3
    replace xsl := lK b xsl
    rewrite [cR b ysl] at ys0 ys1 ys2 ys3
    replace ysl := lK b ysl
    replace cc := bK cc b
    clear b
    go_wp2_with fail
    go_ret
    exact ⟨rfl, cc⟩

theorem MomSides_no {w : World} {lr mu wd f : Int} {ne : Bool} {Aw : Option Addr} {nw cw : Nat} {Lw : List Int} {Am : Option Addr} {nm cm : Nat} {Lm : List Int} {Av : Option Addr} {nv cv : Nat} {Lv : List Int} {Ag : Option Addr} {ng cg : Nat} {Lg : List Int} (iL : I64 lr) (iU : I64 mu) (iD : I64 wd) (iF : I64 f) (hw : IR w Aw nw cw Lw) (hm : IR w Am nm cm Lm) (hv : IR w Av nv cv Lv) (hg : IR w Ag ng cg Lg) (ew : ∀ z ∈ Lw, I64 z) (em : ∀ z ∈ Lm, I64 z) (ev : ∀ z ∈ Lv, I64 z) (eg : ∀ z ∈ Lg, I64 z) (kw : nw ≤ 2305843009213693951) (km : nm ≤ 2305843009213693951) (kv : nv ≤ 2305843009213693951) (kg : ng ≤ 2305843009213693951) (hf : ((nw + nm + nv + ng : Nat) : Int) ≤ 36) (q1 : decide ((-9223372036854775808 : Int) ∈ Lw ++ Lm ++ Lg) = false) (q2 : decide ((-9223372036854775808 : Int) ∈ stRW17 lr mu wd f ne Lw Lm Lg ++ stRV17 lr mu wd f ne Lw Lm Lg ++ []) = false) (q3 : decide ((-9223372036854775808 : Int) ∈ stRW17 lr mu wd f ne (Lw.map ng17) (Lm.map ng17) (Lg.map ng17) ++ stRV17 lr mu wd f ne (Lw.map ng17) (Lm.map ng17) (Lg.map ng17) ++ []) = false) (hc : ¬ (stC17 lr mu wd f ne Lw Lm Lg = 0 ∧ stC17 lr mu wd f ne (Lw.map ng17) (Lm.map ng17) (Lg.map ng17) = 0)) :
    Calls Try.prog 7 #[.agg #[.int .i64 lr, .int .i64 mu, .int .i64 wd, .bool ne], .agg #[.slice Aw nw cw, .slice Am nm cm, .slice Av nv cv, .slice Ag ng cg], .int .i64 f] w (GotV w (.bool true)) := by
  have HQ : Hid (((stC17 lr mu wd f ne Lw Lm Lg == 0) = false ∧ (stC17 lr mu wd f ne Lw Lm Lg != 0) = true) ∨ (((stC17 lr mu wd f ne Lw Lm Lg == 0) = true ∧ (stC17 lr mu wd f ne Lw Lm Lg != 0) = false) ∧ (stC17 lr mu wd f ne (Lw.map ng17) (Lm.map ng17) (Lg.map ng17) == 0) = false ∧ (stC17 lr mu wd f ne (Lw.map ng17) (Lm.map ng17) (Lg.map ng17) != 0) = true)) := Lib.hid (nz17 hc)
  have hh := codes_neg hc
  have HS : Hid ((stC17 lr mu wd f ne Lw Lm Lg == stC17 lr mu wd f ne (Lw.map ng17) (Lm.map ng17) (Lg.map ng17)) = true ∨ ((stC17 lr mu wd f ne Lw Lm Lg == stC17 lr mu wd f ne (Lw.map ng17) (Lm.map ng17) (Lg.map ng17)) = false ∧ (stC17 lr mu wd f ne Lw Lm Lg == 2) = true) ∨ ((stC17 lr mu wd f ne Lw Lm Lg == stC17 lr mu wd f ne (Lw.map ng17) (Lm.map ng17) (Lg.map ng17)) = false ∧ (stC17 lr mu wd f ne Lw Lm Lg == 2) = false ∧ (stC17 lr mu wd f ne (Lw.map ng17) (Lm.map ng17) (Lg.map ng17) == 2) = true)) := Lib.hid (eq17 hh)
  clear hh hc
  have CF := fun W : World => nFew17_N (w := W) (Aw := Aw) (cw := cw) (Am := Am) (cm := cm) (Av := Av) (cv := cv) (Ag := Ag) (cg := cg) (most := 36) kw km kv kg
  rw [decide_eq_true hf] at CF
  have CS := fun {W : World} {Aw : Option Addr} {cw : Nat} {Am : Option Addr} {cm : Nat} {Av : Option Addr} {nv cv : Nat} {Ag : Option Addr} {cg : Nat} (a : IR W Aw nw cw Lw) (b : IR W Am nm cm Lm) (c : IR W Ag ng cg Lg) => (mStep_N (ne := ne) (Av := Av) (nv := nv) (cv := cv) iL iU iD iF a b c ew em eg (by omega) (by omega) (by omega)).mono (fun e w h => h.weak)
  have CT := fun {W : World} {Aw : Option Addr} {nw cw : Nat} {Am : Option Addr} {nm cm : Nat} {Av : Option Addr} {nv cv : Nat} {Ag : Option Addr} {ng cg : Nat} (kw : nw ≤ 36) (km : nm ≤ 36) (kg : ng ≤ 36) (a : IR W Aw nw cw (Lw.map ng17)) (b : IR W Am nm cm (Lm.map ng17)) (c : IR W Ag ng cg (Lg.map ng17)) => (mStep_N (ne := ne) (Av := Av) (nv := nv) (cv := cv) iL iU iD iF a b c ng_all ng_all ng_all (by omega) (by omega) (by omega)).mono (fun e w h => h.weak)
  have hlw := len17 (lr := lr) (mu := mu) (wd := wd) (f := f) (ne := ne) (LW := Lw) (LM := Lm) (LG := Lg)
  have hln := len17 (lr := lr) (mu := mu) (wd := wd) (f := f) (ne := ne) (LW := Lw.map ng17) (LM := Lm.map ng17) (LG := Lg.map ng17)
  rw [List.length_map] at hln
  have HN : Hid (Lw.length = nw ∧ Lm.length = nm ∧ Lg.length = ng) := Lib.hid ⟨hw.1.symm, hm.1.symm, hg.1.symm⟩
  have HK : Hid (nw ≤ 36 ∧ nm ≤ 36 ∧ ng ≤ 36) := Lib.hid (by omega)
  have CU := fun {W : World} {Aw : Option Addr} {cw : Nat} {Am : Option Addr} {cm : Nat} {Av : Option Addr} {nv cv : Nat} {Ag : Option Addr} {cg : Nat} (a : IR W Aw nw cw Lw) (b : IR W Am nm cm Lm) (c : IR W Ag ng cg Lg) => turned17_N (Av := Av) (nv := nv) (cv := cv) a b c (by omega) (by omega) (by omega)
  have CH := fun {W : World} {Aw : Option Addr} {cw : Nat} {Am : Option Addr} {cm : Nat} {Av : Option Addr} {nv cv : Nat} {Ag : Option Addr} {cg : Nat} (a : IR W Aw nw cw Lw) (b : IR W Am nm cm Lm) (c : IR W Ag ng cg Lg) => has17_N (Av := Av) (nv := nv) (cv := cv) a b c (by omega) (by omega) (by omega)
  rw [q1] at CH
  generalize stRW17 lr mu wd f ne Lw Lm Lg = XW at *
  generalize stRV17 lr mu wd f ne Lw Lm Lg = XV at *
  generalize stC17 lr mu wd f ne Lw Lm Lg = XC at *
  generalize stRW17 lr mu wd f ne (Lw.map ng17) (Lm.map ng17) (Lg.map ng17) = YW at *
  generalize stRV17 lr mu wd f ne (Lw.map ng17) (Lm.map ng17) (Lg.map ng17) = YV at *
  generalize stC17 lr mu wd f ne (Lw.map ng17) (Lm.map ng17) (Lg.map ng17) = YC at *
  have HL : Hid (XW.length ≤ 36 ∧ XV.length ≤ 36 ∧ YW.length ≤ 36 ∧ YV.length ≤ 36) := Lib.hid (by have := hw.1; omega)
  have CHr : ∀ {W : World} {X Y : List Int} {A B : Option Addr} {a b c d : Nat} (r : Bool), X.length ≤ 36 → Y.length ≤ 36 → IR W A a b X → IR W B c d Y → decide ((-9223372036854775808 : Int) ∈ X ++ Y ++ []) = r → Calls Try.prog 23 #[.agg #[.slice A a b, .slice B c d, .slice none 0 0, .slice none 0 0]] W (GotV W (.bool r)) := fun r q s a b e => by have h := has17_N (Av := none) (nv := 0) (cv := 0) a b (IR.nil _ none 0) (by rw [a.1]; omega) (by rw [b.1]; omega) (by omega); rw [e] at h; exact h
  clear iL iU iD iF ew em ev eg kw km kv kg hf hlw hln
  have cc := Below.refl w.heap.size w
  go_enter Try.func7, Try.ntmps7
  go_wp2_with fail
  generalize hv_ : (w.alloc (.cells #[.int .i64 lr, .int .i64 mu, .int .i64 wd, .bool ne] 23)).alloc (.cells #[.slice Aw nw cw, .slice Am nm cm, .slice Av nv cv, .slice Ag ng cg] 26) = v1
  have bA : Below w.heap.size w v1 := by rw [← hv_]; exact (((Below.refl _ w).alloc (by simp) _).alloc (by simp) _)
  replace hw := hw.on bA
  replace hm := hm.on bA
  replace hg := hg.on bA
  replace cc := bK cc bA
  clear bA
  have ma0 : v1.cell? ⟨w.heap.size, 0, none⟩ = some (.int .i64 lr) := by simp [← hv_, go_sem]
  have ma1 : v1.cell? ⟨w.heap.size, 1, none⟩ = some (.int .i64 mu) := by simp [← hv_, go_sem]
  have ma2 : v1.cell? ⟨w.heap.size, 2, none⟩ = some (.int .i64 wd) := by simp [← hv_, go_sem]
  have ma3 : v1.cell? ⟨w.heap.size, 3, none⟩ = some (.bool ne) := by simp [← hv_, go_sem]
  have mal : w.heap.size < v1.heap.size := by simp [← hv_] <;> omega
  have la0 : v1.cell? ⟨w.heap.size + 1, 0, none⟩ = some (.slice Aw nw cw) := by simp [← hv_, go_sem]
  have la1 : v1.cell? ⟨w.heap.size + 1, 1, none⟩ = some (.slice Am nm cm) := by simp [← hv_, go_sem]
  have la2 : v1.cell? ⟨w.heap.size + 1, 2, none⟩ = some (.slice Av nv cv) := by simp [← hv_, go_sem]
  have la3 : v1.cell? ⟨w.heap.size + 1, 3, none⟩ = some (.slice Ag ng cg) := by simp [← hv_, go_sem]
  have lal : w.heap.size + 1 < v1.heap.size := by simp [← hv_] <;> omega
  clear hv_
  refine (CF _).mono ?_
  rintro e w2 ⟨rfl, b⟩
  replace hw := hw.on b
  replace hm := hm.on b
  replace hg := hg.on b
  rewrite [cR b mal] at ma0 ma1 ma2 ma3
  replace mal := lK b mal
  rewrite [cR b lal] at la0 la1 la2 la3
  replace lal := lK b lal
  replace cc := bK cc b
  clear b
  go_wp2_with fail
  refine (CS hw hm hg).mono ?_
  rintro e w3 ⟨Ap, np, cp, Bp, mp, dp, rfl, hxp, hyp, b⟩
  replace hw := hw.on b
  replace hm := hm.on b
  replace hg := hg.on b
  rewrite [cR b mal] at ma0 ma1 ma2 ma3
  replace mal := lK b mal
  rewrite [cR b lal] at la0 la1 la2 la3
  replace lal := lK b lal
  replace cc := bK cc b
  clear b
  go_upto_region 4 with fail
  have xsqma : w.heap.size < w3.heap.size := mal
  have xsqla : w.heap.size + 1 < w3.heap.size := lal
  generalize hv_ : w3.alloc (.cells #[.slice Ap np cp, .slice Bp mp dp, .slice none 0 0, .slice none 0 0] 26) = v4
  have bA : Below w3.heap.size w3 v4 := by rw [← hv_]; exact below_one _ _
  replace hw := hw.on bA
  replace hm := hm.on bA
  replace hg := hg.on bA
  replace hxp := hxp.on bA
  replace hyp := hyp.on bA
  rewrite [cR bA mal] at ma0 ma1 ma2 ma3
  replace mal := lK bA mal
  rewrite [cR bA lal] at la0 la1 la2 la3
  replace lal := lK bA lal
  replace cc := bK cc bA
  clear bA
  have xs0 : v4.cell? ⟨w3.heap.size, 0, none⟩ = some (.slice Ap np cp) := by simp [← hv_, go_sem]
  have xs1 : v4.cell? ⟨w3.heap.size, 1, none⟩ = some (.slice Bp mp dp) := by simp [← hv_, go_sem]
  have xs2 : v4.cell? ⟨w3.heap.size, 2, none⟩ = some (.slice none 0 0) := by simp [← hv_, go_sem]
  have xs3 : v4.cell? ⟨w3.heap.size, 3, none⟩ = some (.slice none 0 0) := by simp [← hv_, go_sem]
  have xsl : w3.heap.size < v4.heap.size := by simp [← hv_]
  clear hv_
  go_upto_region 4 with fail
  go_cut [9, 10] (fun u ue wx => ∃ (g_ : Nat) (A_ : Option Addr) (n_ c_ : Nat) (B_ : Option Addr) (m_ d_ : Nat), u = .pointer (some ⟨g_, 0, none⟩) ∧ ue = .int .i64 (YC) ∧ LoneT17 v4 wx g_ A_ n_ c_ B_ m_ d_ (YW) (YV))
  case first =>
    have BB0 : Below v4.heap.size v4 v4.drew := below_drewN (Below.refl _ v4) 1
    have BB1 : Below v4.heap.size v4 (v4.alloc (.cells #[.slice none 0 0, .slice none 0 0, .slice none 0 0, .slice none 0 0] 26)).drew := below_drewN (below_one _ _) 1
    have bR : Below v4.heap.size v4 v4 := Below.refl _ _
    have k_ma0 : ∀ W : World, Below v4.heap.size v4 W → W.cell? ⟨w.heap.size, 0, none⟩ = some (.int .i64 lr) := fun W b => cK b ma0 mal
    have k_ma1 : ∀ W : World, Below v4.heap.size v4 W → W.cell? ⟨w.heap.size, 1, none⟩ = some (.int .i64 mu) := fun W b => cK b ma1 mal
    have k_ma2 : ∀ W : World, Below v4.heap.size v4 W → W.cell? ⟨w.heap.size, 2, none⟩ = some (.int .i64 wd) := fun W b => cK b ma2 mal
    have k_ma3 : ∀ W : World, Below v4.heap.size v4 W → W.cell? ⟨w.heap.size, 3, none⟩ = some (.bool ne) := fun W b => cK b ma3 mal
    have k_la0 : ∀ W : World, Below v4.heap.size v4 W → W.cell? ⟨w.heap.size + 1, 0, none⟩ = some (.slice Aw nw cw) := fun W b => cK b la0 lal
    have k_la1 : ∀ W : World, Below v4.heap.size v4 W → W.cell? ⟨w.heap.size + 1, 1, none⟩ = some (.slice Am nm cm) := fun W b => cK b la1 lal
    have k_la2 : ∀ W : World, Below v4.heap.size v4 W → W.cell? ⟨w.heap.size + 1, 2, none⟩ = some (.slice Av nv cv) := fun W b => cK b la2 lal
    have k_la3 : ∀ W : World, Below v4.heap.size v4 W → W.cell? ⟨w.heap.size + 1, 3, none⟩ = some (.slice Ag ng cg) := fun W b => cK b la3 lal
    have k_xs0 : ∀ W : World, Below v4.heap.size v4 W → W.cell? ⟨w3.heap.size, 0, none⟩ = some (.slice Ap np cp) := fun W b => cK b xs0 xsl
    have k_xs1 : ∀ W : World, Below v4.heap.size v4 W → W.cell? ⟨w3.heap.size, 1, none⟩ = some (.slice Bp mp dp) := fun W b => cK b xs1 xsl
    have k_xs2 : ∀ W : World, Below v4.heap.size v4 W → W.cell? ⟨w3.heap.size, 2, none⟩ = some (.slice none 0 0) := fun W b => cK b xs2 xsl
    have k_xs3 : ∀ W : World, Below v4.heap.size v4 W → W.cell? ⟨w3.heap.size, 3, none⟩ = some (.slice none 0 0) := fun W b => cK b xs3 xsl
    clear ma0 ma1 ma2 ma3 la0 la1 la2 la3 xs0 xs1 xs2 xs3
    go_region_held3 (fun w' => Below v4.heap.size v4 w')
      (repeat' (first | with_reducible assumption | with_reducible refine below_al17 _ ?_ | with_reducible refine below_dr17 ?_ | with_reducible refine below_sc17 _ ?_ () ?_ | (first | omega | (simp; omega))))
      (first
        | (go_at_call 22; (with_reducible refine (CU (hw.on BB0) (hm.on BB0) (hg.on BB0)).mono ?_); rintro e y1 ⟨At, nt, ct, Bt, mt, dt, Ct, kt, ht, Dt, rt, ot, rfl, t1, t2, t3, t4, q⟩; have qq := BB0.trans (q.mono BB0.size); have qs1 := qq.size; clear q)
        | (go_at_call 22; (with_reducible refine (CU (hw.on BB1) (hm.on BB1) (hg.on BB1)).mono ?_); rintro e y1 ⟨At, nt, ct, Bt, mt, dt, Ct, kt, ht, Dt, rt, ot, rfl, t1, t2, t3, t4, q⟩; have qq := BB1.trans (q.mono BB1.size); have qs1 := qq.size; have bo_0 := (q.cell (p := ⟨v4.heap.size, 0, none⟩) (by simp)).trans (show _ = some (.slice none 0 0) by simp [go_sem]); have fo_0 := (q.frozen (p := ⟨v4.heap.size, 0, none⟩) (by simp)).trans (show _ = false by simp [go_sem]); have bo_1 := (q.cell (p := ⟨v4.heap.size, 1, none⟩) (by simp)).trans (show _ = some (.slice none 0 0) by simp [go_sem]); have fo_1 := (q.frozen (p := ⟨v4.heap.size, 1, none⟩) (by simp)).trans (show _ = false by simp [go_sem]); have bo_2 := (q.cell (p := ⟨v4.heap.size, 2, none⟩) (by simp)).trans (show _ = some (.slice none 0 0) by simp [go_sem]); have fo_2 := (q.frozen (p := ⟨v4.heap.size, 2, none⟩) (by simp)).trans (show _ = false by simp [go_sem]); have bo_3 := (q.cell (p := ⟨v4.heap.size, 3, none⟩) (by simp)).trans (show _ = some (.slice none 0 0) by simp [go_sem]); have fo_3 := (q.frozen (p := ⟨v4.heap.size, 3, none⟩) (by simp)).trans (show _ = false by simp [go_sem]); have ol : v4.heap.size < y1.heap.size := Nat.lt_of_lt_of_le (by simp) q.size; clear q)
        | (go_at_call 10; have up := Below.refl y1.heap.size y1; (with_reducible refine (CT (by have h := ir_len17 (t1.on up); rw [List.length_map] at h; have := HN.out; have := HK.out; omega) (by have h := ir_len17 (t2.on up); rw [List.length_map] at h; have := HN.out; have := HK.out; omega) (by have h := ir_len17 (t4.on up); rw [List.length_map] at h; have := HN.out; have := HK.out; omega) (t1.on up) (t2.on up) (t4.on up)).mono ?_); rintro e y2 ⟨Ao, no, co, Bo, mo, do_, rfl, ox, oy, q⟩; replace qq := uK qq up q; replace t1 := (t1.on up).on q; replace t2 := (t2.on up).on q; replace t4 := (t4.on up).on q; (try replace bo_0 := (q.cell (Nat.lt_of_lt_of_le ol up.size)).trans ((up.cell ol).trans bo_0)); (try replace fo_0 := (q.frozen (Nat.lt_of_lt_of_le ol up.size)).trans ((up.frozen ol).trans fo_0)); (try (rewrite [cR up ol, cR q (lK up ol)] at bo_1 bo_2 bo_3; rewrite [fR up ol, fR q (lK up ol)] at fo_1 fo_2 fo_3; replace ol := lK q (lK up ol))); have qs2 := qq.size; clear q up)
        | (go_at_call 10; have up := below_one y1 (.cells #[.slice none 0 0, .slice none 0 0, .slice none 0 0, .slice none 0 0] 26); (with_reducible refine (CT (by have h := ir_len17 (t1.on up); rw [List.length_map] at h; have := HN.out; have := HK.out; omega) (by have h := ir_len17 (t2.on up); rw [List.length_map] at h; have := HN.out; have := HK.out; omega) (by have h := ir_len17 (t4.on up); rw [List.length_map] at h; have := HN.out; have := HK.out; omega) (t1.on up) (t2.on up) (t4.on up)).mono ?_); rintro e y2 ⟨Ao, no, co, Bo, mo, do_, rfl, ox, oy, q⟩; replace qq := uK qq up q; replace t1 := (t1.on up).on q; replace t2 := (t2.on up).on q; replace t4 := (t4.on up).on q; (try replace bo_0 := (q.cell (Nat.lt_of_lt_of_le ol up.size)).trans ((up.cell ol).trans bo_0)); (try replace fo_0 := (q.frozen (Nat.lt_of_lt_of_le ol up.size)).trans ((up.frozen ol).trans fo_0)); (try (rewrite [cR up ol, cR q (lK up ol)] at bo_1 bo_2 bo_3; rewrite [fR up ol, fR q (lK up ol)] at fo_1 fo_2 fo_3; replace ol := lK q (lK up ol))); have qs2 := qq.size; have bo_0 := (q.cell (p := ⟨y1.heap.size, 0, none⟩) (by simp)).trans (show _ = some (.slice none 0 0) by simp [go_sem]); have fo_0 := (q.frozen (p := ⟨y1.heap.size, 0, none⟩) (by simp)).trans (show _ = false by simp [go_sem]); have bo_1 := (q.cell (p := ⟨y1.heap.size, 1, none⟩) (by simp)).trans (show _ = some (.slice none 0 0) by simp [go_sem]); have fo_1 := (q.frozen (p := ⟨y1.heap.size, 1, none⟩) (by simp)).trans (show _ = false by simp [go_sem]); have bo_2 := (q.cell (p := ⟨y1.heap.size, 2, none⟩) (by simp)).trans (show _ = some (.slice none 0 0) by simp [go_sem]); have fo_2 := (q.frozen (p := ⟨y1.heap.size, 2, none⟩) (by simp)).trans (show _ = false by simp [go_sem]); have bo_3 := (q.cell (p := ⟨y1.heap.size, 3, none⟩) (by simp)).trans (show _ = some (.slice none 0 0) by simp [go_sem]); have fo_3 := (q.frozen (p := ⟨y1.heap.size, 3, none⟩) (by simp)).trans (show _ = false by simp [go_sem]); have ol : y1.heap.size < y2.heap.size := Nat.lt_of_lt_of_le (by simp) q.size; clear q up))
    all_goals (go_wp2_with fail; go_meet)
    all_goals refine ⟨_, Ao, no, co, Bo, mo, do_, rfl, rfl, ?_⟩
    all_goals first
      | with_reducible exact loneTA ox oy qq _
      | with_reducible exact loneTB bo_0 bo_1 bo_2 bo_3 ox oy qq (by omega)
  case rest =>
    obtain ⟨gys, Ays, nys, cys, Bys, mys, dys, rfl, rfl, ⟨ys0, ys1, ys2, ys3⟩, hxys, hyys, b, ysge⟩ := hcut
    have ysl := cell_lt ys0
    simp only at ysl
    have ysqma : w.heap.size < gys := Nat.lt_of_lt_of_le mal ysge
    have ysqla : w.heap.size + 1 < gys := Nat.lt_of_lt_of_le lal ysge
    have ysqxs : w3.heap.size < gys := Nat.lt_of_lt_of_le xsl ysge
    replace hw := hw.on b
    replace hm := hm.on b
    replace hg := hg.on b
    replace hxp := hxp.on b
    replace hyp := hyp.on b
    rewrite [cR b mal] at ma0 ma1 ma2 ma3
    replace mal := lK b mal
    rewrite [cR b lal] at la0 la1 la2 la3
    replace lal := lK b lal
    rewrite [cR b xsl] at xs0 xs1 xs2 xs3
    replace xsl := lK b xsl
    replace cc := bK cc b
    clear b
    go_wp2_with fail
    refine (CH hw hm hg).mono ?_
    rintro e w5 ⟨rfl, b⟩
    replace hw := hw.on b
    replace hm := hm.on b
    replace hg := hg.on b
    replace hxp := hxp.on b
    replace hyp := hyp.on b
    replace hxys := hxys.on b
    replace hyys := hyys.on b
    rewrite [cR b mal] at ma0 ma1 ma2 ma3
    replace mal := lK b mal
    rewrite [cR b lal] at la0 la1 la2 la3
    replace lal := lK b lal
    rewrite [cR b xsl] at xs0 xs1 xs2 xs3
    replace xsl := lK b xsl
    rewrite [cR b ysl] at ys0 ys1 ys2 ys3
    replace ysl := lK b ysl
    replace cc := bK cc b
    clear b
    go_wp2_with fail
    refine (CHr _ HL.out.1 HL.out.2.1 hxp hyp q2).mono ?_
    rintro e w6 ⟨rfl, b⟩
    replace hw := hw.on b
    replace hm := hm.on b
    replace hg := hg.on b
    replace hxp := hxp.on b
    replace hyp := hyp.on b
    replace hxys := hxys.on b
    replace hyys := hyys.on b
    rewrite [cR b mal] at ma0 ma1 ma2 ma3
    replace mal := lK b mal
    rewrite [cR b lal] at la0 la1 la2 la3
    replace lal := lK b lal
    rewrite [cR b xsl] at xs0 xs1 xs2 xs3
    replace xsl := lK b xsl
    rewrite [cR b ysl] at ys0 ys1 ys2 ys3
    replace ysl := lK b ysl
    replace cc := bK cc b
    clear b
    go_wp2_with fail
    refine (CHr _ HL.out.2.2.1 HL.out.2.2.2 hxys hyys q3).mono ?_
    rintro e w7 ⟨rfl, b⟩
    replace hw := hw.on b
    replace hm := hm.on b
    replace hg := hg.on b
    replace hxp := hxp.on b
    replace hyp := hyp.on b
    replace hxys := hxys.on b
    replace hyys := hyys.on b
    rewrite [cR b mal] at ma0 ma1 ma2 ma3
    replace mal := lK b mal
    rewrite [cR b lal] at la0 la1 la2 la3
    replace lal := lK b lal
    rewrite [cR b xsl] at xs0 xs1 xs2 xs3
    replace xsl := lK b xsl
    rewrite [cR b ysl] at ys0 ys1 ys2 ys3
    replace ysl := lK b ysl
    replace cc := bK cc b
    clear b
    clear hw hm hg hxp hyp hxys hyys CS CT CU CH CHr
    go_upto_region 6 with fail
    rcases HQ.out with ⟨a1, a2⟩ | ⟨⟨a1, a2⟩, a3, a4⟩
    all_goals rcases HS.out with c1 | ⟨c1, c2⟩ | ⟨c1, c2, c3⟩
    all_goals go_wp2_with fail
    all_goals refine (alive17_any _).mono ?_
    all_goals rintro e w9 ⟨rfl, b⟩
    all_goals replace cc := bK cc b
    all_goals clear b
    all_goals go_wp2_with fail
    all_goals go_ret
    all_goals exact ⟨rfl, cc⟩

theorem MomSides_yes {w : World} {lr mu wd f : Int} {ne : Bool} {Aw : Option Addr} {nw cw : Nat} {Lw : List Int} {Am : Option Addr} {nm cm : Nat} {Lm : List Int} {Av : Option Addr} {nv cv : Nat} {Lv : List Int} {Ag : Option Addr} {ng cg : Nat} {Lg : List Int} (iL : I64 lr) (iU : I64 mu) (iD : I64 wd) (iF : I64 f) (hw : IR w Aw nw cw Lw) (hm : IR w Am nm cm Lm) (hv : IR w Av nv cv Lv) (hg : IR w Ag ng cg Lg) (ew : ∀ z ∈ Lw, I64 z) (em : ∀ z ∈ Lm, I64 z) (ev : ∀ z ∈ Lv, I64 z) (eg : ∀ z ∈ Lg, I64 z) (kw : nw ≤ 2305843009213693951) (km : nm ≤ 2305843009213693951) (kv : nv ≤ 2305843009213693951) (kg : ng ≤ 2305843009213693951) (hf : ((nw + nm + nv + ng : Nat) : Int) ≤ 36) (q1 : decide ((-9223372036854775808 : Int) ∈ Lw ++ Lm ++ Lg) = false) (q2 : decide ((-9223372036854775808 : Int) ∈ stRW17 lr mu wd f ne Lw Lm Lg ++ stRV17 lr mu wd f ne Lw Lm Lg ++ []) = false) (q3 : decide ((-9223372036854775808 : Int) ∈ stRW17 lr mu wd f ne (Lw.map ng17) (Lm.map ng17) (Lg.map ng17) ++ stRV17 lr mu wd f ne (Lw.map ng17) (Lm.map ng17) (Lg.map ng17) ++ []) = false) (hc : stC17 lr mu wd f ne Lw Lm Lg = 0 ∧ stC17 lr mu wd f ne (Lw.map ng17) (Lm.map ng17) (Lg.map ng17) = 0) :
    Calls Try.prog 7 #[.agg #[.int .i64 lr, .int .i64 mu, .int .i64 wd, .bool ne], .agg #[.slice Aw nw cw, .slice Am nm cm, .slice Av nv cv, .slice Ag ng cg], .int .i64 f] w (GotV w (.bool true)) := by
  have HSD := Lib.hid (sides17 hc.1 hc.2 ew em eg (of_decide_eq_false q1) (by have := of_decide_eq_false q2; rwa [List.append_nil] at this))
  have hc1 := hc.1
  have hc2 := hc.2
  clear hc
  have CF := fun W : World => nFew17_N (w := W) (Aw := Aw) (cw := cw) (Am := Am) (cm := cm) (Av := Av) (cv := cv) (Ag := Ag) (cg := cg) (most := 36) kw km kv kg
  rw [decide_eq_true hf] at CF
  have CS := fun {W : World} {Aw : Option Addr} {cw : Nat} {Am : Option Addr} {cm : Nat} {Av : Option Addr} {nv cv : Nat} {Ag : Option Addr} {cg : Nat} (a : IR W Aw nw cw Lw) (b : IR W Am nm cm Lm) (c : IR W Ag ng cg Lg) => (mStep_N (ne := ne) (Av := Av) (nv := nv) (cv := cv) iL iU iD iF a b c ew em eg (by omega) (by omega) (by omega)).mono (fun e w h => h.weak)
  have CT := fun {W : World} {Aw : Option Addr} {nw cw : Nat} {Am : Option Addr} {nm cm : Nat} {Av : Option Addr} {nv cv : Nat} {Ag : Option Addr} {ng cg : Nat} (kw : nw ≤ 36) (km : nm ≤ 36) (kg : ng ≤ 36) (a : IR W Aw nw cw (Lw.map ng17)) (b : IR W Am nm cm (Lm.map ng17)) (c : IR W Ag ng cg (Lg.map ng17)) => (mStep_N (ne := ne) (Av := Av) (nv := nv) (cv := cv) iL iU iD iF a b c ng_all ng_all ng_all (by omega) (by omega) (by omega)).mono (fun e w h => h.weak)
  have hlw := len17 (lr := lr) (mu := mu) (wd := wd) (f := f) (ne := ne) (LW := Lw) (LM := Lm) (LG := Lg)
  have hln := len17 (lr := lr) (mu := mu) (wd := wd) (f := f) (ne := ne) (LW := Lw.map ng17) (LM := Lm.map ng17) (LG := Lg.map ng17)
  rw [List.length_map] at hln
  have HN : Hid (Lw.length = nw ∧ Lm.length = nm ∧ Lg.length = ng) := Lib.hid ⟨hw.1.symm, hm.1.symm, hg.1.symm⟩
  have HK : Hid (nw ≤ 36 ∧ nm ≤ 36 ∧ ng ≤ 36) := Lib.hid (by omega)
  have CU := fun {W : World} {Aw : Option Addr} {cw : Nat} {Am : Option Addr} {cm : Nat} {Av : Option Addr} {nv cv : Nat} {Ag : Option Addr} {cg : Nat} (a : IR W Aw nw cw Lw) (b : IR W Am nm cm Lm) (c : IR W Ag ng cg Lg) => turned17_N (Av := Av) (nv := nv) (cv := cv) a b c (by omega) (by omega) (by omega)
  have CH := fun {W : World} {Aw : Option Addr} {cw : Nat} {Am : Option Addr} {cm : Nat} {Av : Option Addr} {nv cv : Nat} {Ag : Option Addr} {cg : Nat} (a : IR W Aw nw cw Lw) (b : IR W Am nm cm Lm) (c : IR W Ag ng cg Lg) => has17_N (Av := Av) (nv := nv) (cv := cv) a b c (by omega) (by omega) (by omega)
  rw [q1] at CH
  generalize stRW17 lr mu wd f ne Lw Lm Lg = XW at *
  generalize stRV17 lr mu wd f ne Lw Lm Lg = XV at *
  generalize stC17 lr mu wd f ne Lw Lm Lg = XC at *
  generalize stRW17 lr mu wd f ne (Lw.map ng17) (Lm.map ng17) (Lg.map ng17) = YW at *
  generalize stRV17 lr mu wd f ne (Lw.map ng17) (Lm.map ng17) (Lg.map ng17) = YV at *
  generalize stC17 lr mu wd f ne (Lw.map ng17) (Lm.map ng17) (Lg.map ng17) = YC at *
  have HL : Hid (XW.length ≤ 36 ∧ XV.length ≤ 36 ∧ YW.length ≤ 36 ∧ YV.length ≤ 36) := Lib.hid (by have := hw.1; omega)
  have CHr : ∀ {W : World} {X Y : List Int} {A B : Option Addr} {a b c d : Nat} (r : Bool), X.length ≤ 36 → Y.length ≤ 36 → IR W A a b X → IR W B c d Y → decide ((-9223372036854775808 : Int) ∈ X ++ Y ++ []) = r → Calls Try.prog 23 #[.agg #[.slice A a b, .slice B c d, .slice none 0 0, .slice none 0 0]] W (GotV W (.bool r)) := fun r q s a b e => by have h := has17_N (Av := none) (nv := 0) (cv := 0) a b (IR.nil _ none 0) (by rw [a.1]; omega) (by rw [b.1]; omega) (by omega); rw [e] at h; exact h
  clear iL iU iD iF ew em ev eg kw km kv kg hf hlw hln
  subst hc1
  subst hc2
  obtain ⟨YW_, eYW⟩ : ∃ y, YW = y := ⟨_, rfl⟩
  obtain ⟨YV_, eYV⟩ : ∃ y, YV = y := ⟨_, rfl⟩
  have CX : ∀ {W : World} {A : Option Addr} {n c : Nat} {B : Option Addr} {m d : Nat}, IR W A n c XW → IR W B m d XV → Calls Try.prog 22 #[.agg #[.slice A n c, .slice B m d, .slice none 0 0, .slice none 0 0]] W (GotR17 W YW YV [] []) := fun a b => by have h := turned17_N (Av := none) (nv := 0) (cv := 0) a b (IR.nil _ none 0) (by rw [a.1]; have := HL.out; omega) (by rw [b.1]; have := HL.out; omega) (by omega); rw [← HSD.out.1, ← HSD.out.2] at h; exact h
  clear eYW eYV HSD
  have CM : ∀ {W : World} {A B C D E F : Option Addr} {a b c d e k g h o p q r : Nat}, IR W A a b YW → IR W B c d YV → IR W E o p [] → IR W F q r [] → IR W C e k YW → IR W D g h YV → Calls Try.prog 14 #[.agg #[.slice A a b, .slice B c d, .slice E o p, .slice F q r], .agg #[.slice C e k, .slice D g h, .slice none 0 0, .slice none 0 0]] W (GotV W (.bool true)) := fun p q x y s t => by have h := nSame17_N p q x y s t (IR.nil _ none 0) (IR.nil _ none 0) (by rw [p.1]; have := HL.out; omega) (by rw [q.1]; have := HL.out; omega) (by rw [x.1]; exact Nat.zero_le _) (by rw [y.1]; exact Nat.zero_le _); rw [decide_eq_true ⟨rfl, rfl, rfl, rfl⟩] at h; exact h
  have cc := Below.refl w.heap.size w
  go_enter Try.func7, Try.ntmps7
  go_wp2_with fail
  generalize hv_ : (w.alloc (.cells #[.int .i64 lr, .int .i64 mu, .int .i64 wd, .bool ne] 23)).alloc (.cells #[.slice Aw nw cw, .slice Am nm cm, .slice Av nv cv, .slice Ag ng cg] 26) = v1
  have bA : Below w.heap.size w v1 := by rw [← hv_]; exact (((Below.refl _ w).alloc (by simp) _).alloc (by simp) _)
  replace hw := hw.on bA
  replace hm := hm.on bA
  replace hg := hg.on bA
  replace cc := bK cc bA
  clear bA
  have ma0 : v1.cell? ⟨w.heap.size, 0, none⟩ = some (.int .i64 lr) := by simp [← hv_, go_sem]
  have ma1 : v1.cell? ⟨w.heap.size, 1, none⟩ = some (.int .i64 mu) := by simp [← hv_, go_sem]
  have ma2 : v1.cell? ⟨w.heap.size, 2, none⟩ = some (.int .i64 wd) := by simp [← hv_, go_sem]
  have ma3 : v1.cell? ⟨w.heap.size, 3, none⟩ = some (.bool ne) := by simp [← hv_, go_sem]
  have mal : w.heap.size < v1.heap.size := by simp [← hv_] <;> omega
  have la0 : v1.cell? ⟨w.heap.size + 1, 0, none⟩ = some (.slice Aw nw cw) := by simp [← hv_, go_sem]
  have la1 : v1.cell? ⟨w.heap.size + 1, 1, none⟩ = some (.slice Am nm cm) := by simp [← hv_, go_sem]
  have la2 : v1.cell? ⟨w.heap.size + 1, 2, none⟩ = some (.slice Av nv cv) := by simp [← hv_, go_sem]
  have la3 : v1.cell? ⟨w.heap.size + 1, 3, none⟩ = some (.slice Ag ng cg) := by simp [← hv_, go_sem]
  have lal : w.heap.size + 1 < v1.heap.size := by simp [← hv_] <;> omega
  clear hv_
  refine (CF _).mono ?_
  rintro e w2 ⟨rfl, b⟩
  replace hw := hw.on b
  replace hm := hm.on b
  replace hg := hg.on b
  rewrite [cR b mal] at ma0 ma1 ma2 ma3
  replace mal := lK b mal
  rewrite [cR b lal] at la0 la1 la2 la3
  replace lal := lK b lal
  replace cc := bK cc b
  clear b
  go_wp2_with fail
  refine (CS hw hm hg).mono ?_
  rintro e w3 ⟨Ap, np, cp, Bp, mp, dp, rfl, hxp, hyp, b⟩
  replace hw := hw.on b
  replace hm := hm.on b
  replace hg := hg.on b
  rewrite [cR b mal] at ma0 ma1 ma2 ma3
  replace mal := lK b mal
  rewrite [cR b lal] at la0 la1 la2 la3
  replace lal := lK b lal
  replace cc := bK cc b
  clear b
  go_upto_region 4 with fail
  have xsqma : w.heap.size < w3.heap.size := mal
  have xsqla : w.heap.size + 1 < w3.heap.size := lal
  generalize hv_ : w3.alloc (.cells #[.slice Ap np cp, .slice Bp mp dp, .slice none 0 0, .slice none 0 0] 26) = v4
  have bA : Below w3.heap.size w3 v4 := by rw [← hv_]; exact below_one _ _
  replace hw := hw.on bA
  replace hm := hm.on bA
  replace hg := hg.on bA
  replace hxp := hxp.on bA
  replace hyp := hyp.on bA
  rewrite [cR bA mal] at ma0 ma1 ma2 ma3
  replace mal := lK bA mal
  rewrite [cR bA lal] at la0 la1 la2 la3
  replace lal := lK bA lal
  replace cc := bK cc bA
  clear bA
  have xs0 : v4.cell? ⟨w3.heap.size, 0, none⟩ = some (.slice Ap np cp) := by simp [← hv_, go_sem]
  have xs1 : v4.cell? ⟨w3.heap.size, 1, none⟩ = some (.slice Bp mp dp) := by simp [← hv_, go_sem]
  have xs2 : v4.cell? ⟨w3.heap.size, 2, none⟩ = some (.slice none 0 0) := by simp [← hv_, go_sem]
  have xs3 : v4.cell? ⟨w3.heap.size, 3, none⟩ = some (.slice none 0 0) := by simp [← hv_, go_sem]
  have xsl : w3.heap.size < v4.heap.size := by simp [← hv_]
  clear hv_
  go_upto_region 4 with fail
  go_cut [9, 10] (fun u ue wx => ∃ (g_ : Nat) (A_ : Option Addr) (n_ c_ : Nat) (B_ : Option Addr) (m_ d_ : Nat), u = .pointer (some ⟨g_, 0, none⟩) ∧ ue = .int .i64 (0) ∧ LoneT17 v4 wx g_ A_ n_ c_ B_ m_ d_ (YW) (YV))
  case first =>
    have BB0 : Below v4.heap.size v4 v4.drew := below_drewN (Below.refl _ v4) 1
    have BB1 : Below v4.heap.size v4 (v4.alloc (.cells #[.slice none 0 0, .slice none 0 0, .slice none 0 0, .slice none 0 0] 26)).drew := below_drewN (below_one _ _) 1
    have bR : Below v4.heap.size v4 v4 := Below.refl _ _
    have k_ma0 : ∀ W : World, Below v4.heap.size v4 W → W.cell? ⟨w.heap.size, 0, none⟩ = some (.int .i64 lr) := fun W b => cK b ma0 mal
    have k_ma1 : ∀ W : World, Below v4.heap.size v4 W → W.cell? ⟨w.heap.size, 1, none⟩ = some (.int .i64 mu) := fun W b => cK b ma1 mal
    have k_ma2 : ∀ W : World, Below v4.heap.size v4 W → W.cell? ⟨w.heap.size, 2, none⟩ = some (.int .i64 wd) := fun W b => cK b ma2 mal
    have k_ma3 : ∀ W : World, Below v4.heap.size v4 W → W.cell? ⟨w.heap.size, 3, none⟩ = some (.bool ne) := fun W b => cK b ma3 mal
    have k_la0 : ∀ W : World, Below v4.heap.size v4 W → W.cell? ⟨w.heap.size + 1, 0, none⟩ = some (.slice Aw nw cw) := fun W b => cK b la0 lal
    have k_la1 : ∀ W : World, Below v4.heap.size v4 W → W.cell? ⟨w.heap.size + 1, 1, none⟩ = some (.slice Am nm cm) := fun W b => cK b la1 lal
    have k_la2 : ∀ W : World, Below v4.heap.size v4 W → W.cell? ⟨w.heap.size + 1, 2, none⟩ = some (.slice Av nv cv) := fun W b => cK b la2 lal
    have k_la3 : ∀ W : World, Below v4.heap.size v4 W → W.cell? ⟨w.heap.size + 1, 3, none⟩ = some (.slice Ag ng cg) := fun W b => cK b la3 lal
    have k_xs0 : ∀ W : World, Below v4.heap.size v4 W → W.cell? ⟨w3.heap.size, 0, none⟩ = some (.slice Ap np cp) := fun W b => cK b xs0 xsl
    have k_xs1 : ∀ W : World, Below v4.heap.size v4 W → W.cell? ⟨w3.heap.size, 1, none⟩ = some (.slice Bp mp dp) := fun W b => cK b xs1 xsl
    have k_xs2 : ∀ W : World, Below v4.heap.size v4 W → W.cell? ⟨w3.heap.size, 2, none⟩ = some (.slice none 0 0) := fun W b => cK b xs2 xsl
    have k_xs3 : ∀ W : World, Below v4.heap.size v4 W → W.cell? ⟨w3.heap.size, 3, none⟩ = some (.slice none 0 0) := fun W b => cK b xs3 xsl
    clear ma0 ma1 ma2 ma3 la0 la1 la2 la3 xs0 xs1 xs2 xs3
    go_region_held3 (fun w' => Below v4.heap.size v4 w')
      (repeat' (first | with_reducible assumption | with_reducible refine below_al17 _ ?_ | with_reducible refine below_dr17 ?_ | with_reducible refine below_sc17 _ ?_ () ?_ | (first | omega | (simp; omega))))
      (first
        | (go_at_call 22; (with_reducible refine (CU (hw.on BB0) (hm.on BB0) (hg.on BB0)).mono ?_); rintro e y1 ⟨At, nt, ct, Bt, mt, dt, Ct, kt, ht, Dt, rt, ot, rfl, t1, t2, t3, t4, q⟩; have qq := BB0.trans (q.mono BB0.size); have qs1 := qq.size; clear q)
        | (go_at_call 22; (with_reducible refine (CU (hw.on BB1) (hm.on BB1) (hg.on BB1)).mono ?_); rintro e y1 ⟨At, nt, ct, Bt, mt, dt, Ct, kt, ht, Dt, rt, ot, rfl, t1, t2, t3, t4, q⟩; have qq := BB1.trans (q.mono BB1.size); have qs1 := qq.size; have bo_0 := (q.cell (p := ⟨v4.heap.size, 0, none⟩) (by simp)).trans (show _ = some (.slice none 0 0) by simp [go_sem]); have fo_0 := (q.frozen (p := ⟨v4.heap.size, 0, none⟩) (by simp)).trans (show _ = false by simp [go_sem]); have bo_1 := (q.cell (p := ⟨v4.heap.size, 1, none⟩) (by simp)).trans (show _ = some (.slice none 0 0) by simp [go_sem]); have fo_1 := (q.frozen (p := ⟨v4.heap.size, 1, none⟩) (by simp)).trans (show _ = false by simp [go_sem]); have bo_2 := (q.cell (p := ⟨v4.heap.size, 2, none⟩) (by simp)).trans (show _ = some (.slice none 0 0) by simp [go_sem]); have fo_2 := (q.frozen (p := ⟨v4.heap.size, 2, none⟩) (by simp)).trans (show _ = false by simp [go_sem]); have bo_3 := (q.cell (p := ⟨v4.heap.size, 3, none⟩) (by simp)).trans (show _ = some (.slice none 0 0) by simp [go_sem]); have fo_3 := (q.frozen (p := ⟨v4.heap.size, 3, none⟩) (by simp)).trans (show _ = false by simp [go_sem]); have ol : v4.heap.size < y1.heap.size := Nat.lt_of_lt_of_le (by simp) q.size; clear q)
        | (go_at_call 10; have up := Below.refl y1.heap.size y1; (with_reducible refine (CT (by have h := ir_len17 (t1.on up); rw [List.length_map] at h; have := HN.out; have := HK.out; omega) (by have h := ir_len17 (t2.on up); rw [List.length_map] at h; have := HN.out; have := HK.out; omega) (by have h := ir_len17 (t4.on up); rw [List.length_map] at h; have := HN.out; have := HK.out; omega) (t1.on up) (t2.on up) (t4.on up)).mono ?_); rintro e y2 ⟨Ao, no, co, Bo, mo, do_, rfl, ox, oy, q⟩; replace qq := uK qq up q; replace t1 := (t1.on up).on q; replace t2 := (t2.on up).on q; replace t4 := (t4.on up).on q; (try replace bo_0 := (q.cell (Nat.lt_of_lt_of_le ol up.size)).trans ((up.cell ol).trans bo_0)); (try replace fo_0 := (q.frozen (Nat.lt_of_lt_of_le ol up.size)).trans ((up.frozen ol).trans fo_0)); (try (rewrite [cR up ol, cR q (lK up ol)] at bo_1 bo_2 bo_3; rewrite [fR up ol, fR q (lK up ol)] at fo_1 fo_2 fo_3; replace ol := lK q (lK up ol))); have qs2 := qq.size; clear q up)
        | (go_at_call 10; have up := below_one y1 (.cells #[.slice none 0 0, .slice none 0 0, .slice none 0 0, .slice none 0 0] 26); (with_reducible refine (CT (by have h := ir_len17 (t1.on up); rw [List.length_map] at h; have := HN.out; have := HK.out; omega) (by have h := ir_len17 (t2.on up); rw [List.length_map] at h; have := HN.out; have := HK.out; omega) (by have h := ir_len17 (t4.on up); rw [List.length_map] at h; have := HN.out; have := HK.out; omega) (t1.on up) (t2.on up) (t4.on up)).mono ?_); rintro e y2 ⟨Ao, no, co, Bo, mo, do_, rfl, ox, oy, q⟩; replace qq := uK qq up q; replace t1 := (t1.on up).on q; replace t2 := (t2.on up).on q; replace t4 := (t4.on up).on q; (try replace bo_0 := (q.cell (Nat.lt_of_lt_of_le ol up.size)).trans ((up.cell ol).trans bo_0)); (try replace fo_0 := (q.frozen (Nat.lt_of_lt_of_le ol up.size)).trans ((up.frozen ol).trans fo_0)); (try (rewrite [cR up ol, cR q (lK up ol)] at bo_1 bo_2 bo_3; rewrite [fR up ol, fR q (lK up ol)] at fo_1 fo_2 fo_3; replace ol := lK q (lK up ol))); have qs2 := qq.size; have bo_0 := (q.cell (p := ⟨y1.heap.size, 0, none⟩) (by simp)).trans (show _ = some (.slice none 0 0) by simp [go_sem]); have fo_0 := (q.frozen (p := ⟨y1.heap.size, 0, none⟩) (by simp)).trans (show _ = false by simp [go_sem]); have bo_1 := (q.cell (p := ⟨y1.heap.size, 1, none⟩) (by simp)).trans (show _ = some (.slice none 0 0) by simp [go_sem]); have fo_1 := (q.frozen (p := ⟨y1.heap.size, 1, none⟩) (by simp)).trans (show _ = false by simp [go_sem]); have bo_2 := (q.cell (p := ⟨y1.heap.size, 2, none⟩) (by simp)).trans (show _ = some (.slice none 0 0) by simp [go_sem]); have fo_2 := (q.frozen (p := ⟨y1.heap.size, 2, none⟩) (by simp)).trans (show _ = false by simp [go_sem]); have bo_3 := (q.cell (p := ⟨y1.heap.size, 3, none⟩) (by simp)).trans (show _ = some (.slice none 0 0) by simp [go_sem]); have fo_3 := (q.frozen (p := ⟨y1.heap.size, 3, none⟩) (by simp)).trans (show _ = false by simp [go_sem]); have ol : y1.heap.size < y2.heap.size := Nat.lt_of_lt_of_le (by simp) q.size; clear q up))
    all_goals (go_wp2_with fail; go_meet)
    all_goals refine ⟨_, Ao, no, co, Bo, mo, do_, rfl, rfl, ?_⟩
    all_goals first
      | with_reducible exact loneTA ox oy qq _
      | with_reducible exact loneTB bo_0 bo_1 bo_2 bo_3 ox oy qq (by omega)
  case rest =>
    obtain ⟨gys, Ays, nys, cys, Bys, mys, dys, rfl, rfl, ⟨ys0, ys1, ys2, ys3⟩, hxys, hyys, b, ysge⟩ := hcut
    have ysl := cell_lt ys0
    simp only at ysl
    have ysqma : w.heap.size < gys := Nat.lt_of_lt_of_le mal ysge
    have ysqla : w.heap.size + 1 < gys := Nat.lt_of_lt_of_le lal ysge
    have ysqxs : w3.heap.size < gys := Nat.lt_of_lt_of_le xsl ysge
    replace hw := hw.on b
    replace hm := hm.on b
    replace hg := hg.on b
    replace hxp := hxp.on b
    replace hyp := hyp.on b
    rewrite [cR b mal] at ma0 ma1 ma2 ma3
    replace mal := lK b mal
    rewrite [cR b lal] at la0 la1 la2 la3
    replace lal := lK b lal
    rewrite [cR b xsl] at xs0 xs1 xs2 xs3
    replace xsl := lK b xsl
    replace cc := bK cc b
    clear b
    go_wp2_with fail
    refine (CH hw hm hg).mono ?_
    rintro e w5 ⟨rfl, b⟩
    replace hw := hw.on b
    replace hm := hm.on b
    replace hg := hg.on b
    replace hxp := hxp.on b
    replace hyp := hyp.on b
    replace hxys := hxys.on b
    replace hyys := hyys.on b
    rewrite [cR b mal] at ma0 ma1 ma2 ma3
    replace mal := lK b mal
    rewrite [cR b lal] at la0 la1 la2 la3
    replace lal := lK b lal
    rewrite [cR b xsl] at xs0 xs1 xs2 xs3
    replace xsl := lK b xsl
    rewrite [cR b ysl] at ys0 ys1 ys2 ys3
    replace ysl := lK b ysl
    replace cc := bK cc b
    clear b
    clear hw hm hg
    go_wp2_with fail
    refine (CHr _ HL.out.1 HL.out.2.1 hxp hyp q2).mono ?_
    rintro e w6 ⟨rfl, b⟩
    replace hxp := hxp.on b
    replace hyp := hyp.on b
    replace hxys := hxys.on b
    replace hyys := hyys.on b
    rewrite [cR b mal] at ma0 ma1 ma2 ma3
    replace mal := lK b mal
    rewrite [cR b lal] at la0 la1 la2 la3
    replace lal := lK b lal
    rewrite [cR b xsl] at xs0 xs1 xs2 xs3
    replace xsl := lK b xsl
    rewrite [cR b ysl] at ys0 ys1 ys2 ys3
    replace ysl := lK b ysl
    replace cc := bK cc b
    clear b
    go_wp2_with fail
    refine (CHr _ HL.out.2.2.1 HL.out.2.2.2 hxys hyys q3).mono ?_
    rintro e w7 ⟨rfl, b⟩
    replace hxp := hxp.on b
    replace hyp := hyp.on b
    replace hxys := hxys.on b
    replace hyys := hyys.on b
    rewrite [cR b mal] at ma0 ma1 ma2 ma3
    replace mal := lK b mal
    rewrite [cR b lal] at la0 la1 la2 la3
    replace lal := lK b lal
    rewrite [cR b xsl] at xs0 xs1 xs2 xs3
    replace xsl := lK b xsl
    rewrite [cR b ysl] at ys0 ys1 ys2 ys3
    replace ysl := lK b ysl
    replace cc := bK cc b
    clear b
    go_wp2_with fail
    have bD : Below w7.heap.size w7 w7.drew := below_drewN (Below.refl _ w7) 1
    replace hxp := hxp.on bD
    replace hyp := hyp.on bD
    replace hxys := hxys.on bD
    replace hyys := hyys.on bD
    rewrite [cR bD mal] at ma0 ma1 ma2 ma3
    replace mal := lK bD mal
    rewrite [cR bD lal] at la0 la1 la2 la3
    replace lal := lK bD lal
    rewrite [cR bD xsl] at xs0 xs1 xs2 xs3
    replace xsl := lK bD xsl
    rewrite [cR bD ysl] at ys0 ys1 ys2 ys3
    replace ysl := lK bD ysl
    replace cc := bK cc bD
    clear bD
    refine wp_region_held_drew (S := fun w' => w'.cell? ⟨w.heap.size, 0, none⟩ = some (.int .i64 lr) ∧ w'.cell? ⟨w.heap.size, 1, none⟩ = some (.int .i64 mu) ∧ w'.cell? ⟨w.heap.size, 2, none⟩ = some (.int .i64 wd) ∧ w'.cell? ⟨w.heap.size, 3, none⟩ = some (.bool ne) ∧ w'.cell? ⟨w.heap.size + 1, 0, none⟩ = some (.slice Aw nw cw) ∧ w'.cell? ⟨w.heap.size + 1, 1, none⟩ = some (.slice Am nm cm) ∧ w'.cell? ⟨w.heap.size + 1, 2, none⟩ = some (.slice Av nv cv) ∧ w'.cell? ⟨w.heap.size + 1, 3, none⟩ = some (.slice Ag ng cg) ∧ w'.cell? ⟨w3.heap.size, 0, none⟩ = some (.slice Ap np cp) ∧ w'.cell? ⟨w3.heap.size, 1, none⟩ = some (.slice Bp mp dp) ∧ w'.cell? ⟨w3.heap.size, 2, none⟩ = some (.slice none 0 0) ∧ w'.cell? ⟨w3.heap.size, 3, none⟩ = some (.slice none 0 0) ∧ w'.cell? ⟨gys, 0, none⟩ = some (.slice Ays nys cys) ∧ w'.cell? ⟨gys, 1, none⟩ = some (.slice Bys mys dys) ∧ w'.cell? ⟨gys, 2, none⟩ = some (.slice none 0 0) ∧ w'.cell? ⟨gys, 3, none⟩ = some (.slice none 0 0)) (by kernel_rfl) ?_ (fun hHeld => ?_)
    · exact ⟨ma0, ma1, ma2, ma3, la0, la1, la2, la3, xs0, xs1, xs2, xs3, ys0, ys1, ys2, ys3⟩
    refine wpAnyH_ready (rs := [0]) (by kernel_rfl) (by simp) ?_
    refine AllReadyH.cons rfl (fun K hK => ?_) AllReadyH.nil
    (try simp only [pT])
    rw [if_pos (by rfl)]
    go_simp
    go_at_call 9
    refine (alive17_any _).mono ?_
    rintro e w8 ⟨rfl, b⟩
    replace hxp := hxp.on b
    replace hyp := hyp.on b
    replace hxys := hxys.on b
    replace hyys := hyys.on b
    rewrite [cR b mal] at ma0 ma1 ma2 ma3
    replace mal := lK b mal
    rewrite [cR b lal] at la0 la1 la2 la3
    replace lal := lK b lal
    rewrite [cR b xsl] at xs0 xs1 xs2 xs3
    replace xsl := lK b xsl
    rewrite [cR b ysl] at ys0 ys1 ys2 ys3
    replace ysl := lK b ysl
    replace cc := bK cc b
    clear b
    refine hK.out _ _ ?_ (fun hHeld => ?_)
    · exact ⟨ma0, ma1, ma2, ma3, la0, la1, la2, la3, xs0, xs1, xs2, xs3, ys0, ys1, ys2, ys3⟩
    clear hK K
    try simp only [Act.put, pT]
    refine tY (i := 1) (v := ?_) rfl ?_ hHeld ?_
    rotate_left
    · (intro w hSw; (try dsimp only at hSw); go_simp; (try with_reducible rfl))
    try simp only [Act.put, pT]
    refine tY (i := 2) (v := ?_) rfl ?_ hHeld ?_
    rotate_left
    · (intro w hSw; (try dsimp only at hSw); go_simp; (try with_reducible rfl))
    try simp only [Act.put, pT]
    refine tY (i := 4) (v := ?_) rfl ?_ hHeld ?_
    rotate_left
    · (intro w hSw; (try dsimp only at hSw); go_simp; (try with_reducible rfl))
    try simp only [Act.put, pT]
    refine wpAnyH_ready (rs := [3]) (by kernel_rfl) (by simp) ?_
    refine AllReadyH.cons rfl (fun K hK => ?_) AllReadyH.nil
    (try simp only [pT])
    rw [if_pos (by rfl)]
    go_simp
    go_at_call 22
    refine (CX hxp hyp).mono ?_
    rintro e w9 ⟨At, nt, ct, Bt, mt, dt, Ct, kt, ht, Dt, rt, ot, rfl, t1, t2, t3, t4, b⟩
    replace hxp := hxp.on b
    replace hyp := hyp.on b
    replace hxys := hxys.on b
    replace hyys := hyys.on b
    rewrite [cR b mal] at ma0 ma1 ma2 ma3
    replace mal := lK b mal
    rewrite [cR b lal] at la0 la1 la2 la3
    replace lal := lK b lal
    rewrite [cR b xsl] at xs0 xs1 xs2 xs3
    replace xsl := lK b xsl
    rewrite [cR b ysl] at ys0 ys1 ys2 ys3
    replace ysl := lK b ysl
    replace cc := bK cc b
    clear b
    refine hK.out _ _ ?_ (fun hHeld => ?_)
    · exact ⟨ma0, ma1, ma2, ma3, la0, la1, la2, la3, xs0, xs1, xs2, xs3, ys0, ys1, ys2, ys3⟩
    clear hK K
    try simp only [Act.put, pT]
    refine wpAnyH_ready (rs := [5]) (by kernel_rfl) (by simp) ?_
    refine AllReadyH.cons rfl (fun K hK => ?_) AllReadyH.nil
    (try simp only [pT])
    rw [if_pos (by rfl)]
    go_simp
    go_at_call 14
    refine (CM t1 t2 t3 t4 hxys hyys).mono ?_
    rintro e w10 ⟨rfl, b⟩
    replace hxp := hxp.on b
    replace hyp := hyp.on b
    replace hxys := hxys.on b
    replace hyys := hyys.on b
    replace t1 := t1.on b
    replace t2 := t2.on b
    replace t3 := t3.on b
    replace t4 := t4.on b
    rewrite [cR b mal] at ma0 ma1 ma2 ma3
    replace mal := lK b mal
    rewrite [cR b lal] at la0 la1 la2 la3
    replace lal := lK b lal
    rewrite [cR b xsl] at xs0 xs1 xs2 xs3
    replace xsl := lK b xsl
    rewrite [cR b ysl] at ys0 ys1 ys2 ys3
    replace ysl := lK b ysl
    replace cc := bK cc b
    clear b
    refine hK.out _ _ ?_ (fun hHeld => ?_)
    · exact ⟨ma0, ma1, ma2, ma3, la0, la1, la2, la3, xs0, xs1, xs2, xs3, ys0, ys1, ys2, ys3⟩
    clear hK K
    try simp only [Act.put, pT]
    refine tY (i := 6) (v := ?_) rfl ?_ hHeld ?_
    rotate_left
    · (intro w hSw; (try dsimp only at hSw); go_simp; (try with_reducible rfl))
    try simp only [Act.put, pT]
    refine tY (i := 7) (v := ?_) rfl ?_ hHeld ?_
    rotate_left
    · (intro w hSw; (try dsimp only at hSw); go_simp; (try with_reducible rfl))
    try simp only [Act.put, pT]
    refine wpAnyH_done (by kernel_rfl) ?_ _
    clear hHeld
    go_wp2_with fail
    go_ret
    exact ⟨rfl, cc⟩

theorem MomSides_walk {w : World} {lr mu wd f : Int} {ne : Bool} {Aw : Option Addr} {nw cw : Nat} {Lw : List Int} {Am : Option Addr} {nm cm : Nat} {Lm : List Int} {Av : Option Addr} {nv cv : Nat} {Lv : List Int} {Ag : Option Addr} {ng cg : Nat} {Lg : List Int} (iL : I64 lr) (iU : I64 mu) (iD : I64 wd) (iF : I64 f) (hw : IR w Aw nw cw Lw) (hm : IR w Am nm cm Lm) (hv : IR w Av nv cv Lv) (hg : IR w Ag ng cg Lg) (ew : ∀ z ∈ Lw, I64 z) (em : ∀ z ∈ Lm, I64 z) (ev : ∀ z ∈ Lv, I64 z) (eg : ∀ z ∈ Lg, I64 z) (kw : nw ≤ 2305843009213693951) (km : nm ≤ 2305843009213693951) (kv : nv ≤ 2305843009213693951) (kg : ng ≤ 2305843009213693951) : Calls Try.prog 7 #[.agg #[.int .i64 lr, .int .i64 mu, .int .i64 wd, .bool ne], .agg #[.slice Aw nw cw, .slice Am nm cm, .slice Av nv cv, .slice Ag ng cg], .int .i64 f] w (GotV w (.bool true)) := by
  by_cases hf : ((nw + nm + nv + ng : Nat) : Int) ≤ 36
  rotate_left
  · exact MomSides_many iL iU iD iF hw hm hv hg ew em ev eg kw km kv kg hf
  cases q1 : decide ((-9223372036854775808 : Int) ∈ Lw ++ Lm ++ Lg) with
  | true => exact MomSides_l iL iU iD iF hw hm hv hg ew em ev eg kw km kv kg hf q1
  | false =>
    cases q2 : decide ((-9223372036854775808 : Int) ∈ stRW17 lr mu wd f ne Lw Lm Lg ++ stRV17 lr mu wd f ne Lw Lm Lg ++ []) with
    | true => exact MomSides_x iL iU iD iF hw hm hv hg ew em ev eg kw km kv kg hf q1 q2
    | false =>
      cases q3 : decide ((-9223372036854775808 : Int) ∈ stRW17 lr mu wd f ne (Lw.map ng17) (Lm.map ng17) (Lg.map ng17) ++ stRV17 lr mu wd f ne (Lw.map ng17) (Lm.map ng17) (Lg.map ng17) ++ []) with
      | true => exact MomSides_y iL iU iD iF hw hm hv hg ew em ev eg kw km kv kg hf q1 q2 q3
      | false =>
        by_cases hc : stC17 lr mu wd f ne Lw Lm Lg = 0 ∧ stC17 lr mu wd f ne (Lw.map ng17) (Lm.map ng17) (Lg.map ng17) = 0
        · exact MomSides_yes iL iU iD iF hw hm hv hg ew em ev eg kw km kv kg hf q1 q2 q3 hc
        · exact MomSides_no iL iU iD iF hw hm hv hg ew em ev eg kw km kv kg hf q1 q2 q3 hc

end Go.Proofs.Ytckdbcngnghhiaa
