/-
  The walk of MomApart.
-/
import Derived.Test.YtckdbcngnghhiaaWSides17
import Derived.Test.YtckdbcngnghhiaaC17x
import Derived.Test.YtckdbcngnghhiaaGJ
import Derived.Test.YtckdbcngnghhiaaN17a
import Derived.Test.YtckdbcngnghhiaaA2
namespace Go.Proofs.Ytckdbcngnghhiaa
set_option maxRecDepth 100000
set_option maxHeartbeats 8000000
open Go.RowKit
set_option linter.unusedVariables false
set_option linter.unusedSimpArgs false

/-- A box stands there. -/
def HeapAt17 (W : World) (b : Nat) (o : Obj) : Prop := W.heap[b]? = some o
theorem HeapAt17.of {W : World} {b : Nat} {o : Obj} (h : W.heap[b]? = some o) : HeapAt17 W b o := h
theorem HeapAt17.on {W W' : World} {b : Nat} {o : Obj} (h : HeapAt17 W b o) (hb : Below W.heap.size W W') : HeapAt17 W' b o := (hb.block b (Array.getElem?_eq_some_iff.1 h).1).trans h
theorem cells8 {W : World} {g : Nat} {a b c d e k h i : Value} {T : TypeId} (z : W.heap[g]? = some (.cells #[a, b, c, d, e, k, h, i] T)) : W.cell? ⟨g, 0, none⟩ = some a ∧ W.cell? ⟨g, 1, none⟩ = some b ∧ W.cell? ⟨g, 2, none⟩ = some c ∧ W.cell? ⟨g, 3, none⟩ = some d ∧ W.cell? ⟨g, 4, none⟩ = some e ∧ W.cell? ⟨g, 5, none⟩ = some k ∧ W.cell? ⟨g, 6, none⟩ = some h ∧ W.cell? ⟨g, 7, none⟩ = some i :=
  ⟨cell_of_row W g 0 #[a, b, c, d, e, k, h, i] T _ z, cell_of_row W g 1 #[a, b, c, d, e, k, h, i] T _ z, cell_of_row W g 2 #[a, b, c, d, e, k, h, i] T _ z, cell_of_row W g 3 #[a, b, c, d, e, k, h, i] T _ z, cell_of_row W g 4 #[a, b, c, d, e, k, h, i] T _ z, cell_of_row W g 5 #[a, b, c, d, e, k, h, i] T _ z, cell_of_row W g 6 #[a, b, c, d, e, k, h, i] T _ z, cell_of_row W g 7 #[a, b, c, d, e, k, h, i] T _ z⟩
theorem mem_both {L M : List Int} (h : ∀ z ∈ L, I64 z) (h2 : ∀ z ∈ M, I64 z) : ∀ z ∈ L ++ M, I64 z := fun z hz => by
  rcases List.mem_append.1 hz with e | e
  · exact h z e
  · exact h2 z e

theorem MomApart_many0 {w : World} {lr mu wd f : Int} {ne : Bool} {Aw0 : Option Addr} {nw0 cw0 : Nat} {Lw0 : List Int} {Am0 : Option Addr} {nm0 cm0 : Nat} {Lm0 : List Int} {Av0 : Option Addr} {nv0 cv0 : Nat} {Lv0 : List Int} {Ag0 : Option Addr} {ng0 cg0 : Nat} {Lg0 : List Int} {Aw1 : Option Addr} {nw1 cw1 : Nat} {Lw1 : List Int} {Am1 : Option Addr} {nm1 cm1 : Nat} {Lm1 : List Int} {Av1 : Option Addr} {nv1 cv1 : Nat} {Lv1 : List Int} {Ag1 : Option Addr} {ng1 cg1 : Nat} {Lg1 : List Int} (iL : I64 lr) (iU : I64 mu) (iD : I64 wd) (iF : I64 f) (hw0 : IR w Aw0 nw0 cw0 Lw0) (hm0 : IR w Am0 nm0 cm0 Lm0) (hv0 : IR w Av0 nv0 cv0 Lv0) (hg0 : IR w Ag0 ng0 cg0 Lg0) (hw1 : IR w Aw1 nw1 cw1 Lw1) (hm1 : IR w Am1 nm1 cm1 Lm1) (hv1 : IR w Av1 nv1 cv1 Lv1) (hg1 : IR w Ag1 ng1 cg1 Lg1) (ew0 : ∀ z ∈ Lw0, I64 z) (em0 : ∀ z ∈ Lm0, I64 z) (ev0 : ∀ z ∈ Lv0, I64 z) (eg0 : ∀ z ∈ Lg0, I64 z) (ew1 : ∀ z ∈ Lw1, I64 z) (em1 : ∀ z ∈ Lm1, I64 z) (ev1 : ∀ z ∈ Lv1, I64 z) (eg1 : ∀ z ∈ Lg1, I64 z) (kw0 : nw0 ≤ 2305843009213693951) (km0 : nm0 ≤ 2305843009213693951) (kv0 : nv0 ≤ 2305843009213693951) (kg0 : ng0 ≤ 2305843009213693951) (kw1 : nw1 ≤ 2305843009213693951) (km1 : nm1 ≤ 2305843009213693951) (kv1 : nv1 ≤ 2305843009213693951) (kg1 : ng1 ≤ 2305843009213693951) (hf0 : ¬ ((nw0 + nm0 + nv0 + ng0 : Nat) : Int) ≤ 18) :
    Calls Try.prog 5 #[.agg #[.int .i64 lr, .int .i64 mu, .int .i64 wd, .bool ne], .agg #[.slice Aw0 nw0 cw0, .slice Am0 nm0 cm0, .slice Av0 nv0 cv0, .slice Ag0 ng0 cg0, .slice Aw1 nw1 cw1, .slice Am1 nm1 cm1, .slice Av1 nv1 cv1, .slice Ag1 ng1 cg1], .int .i64 f] w (GotV w (.bool true)) := by
  have CF0 := fun W : World => nFew17_N (w := W) (Aw := Aw0) (cw := cw0) (Am := Am0) (cm := cm0) (Av := Av0) (cv := cv0) (Ag := Ag0) (cg := cg0) (most := 18) kw0 km0 kv0 kg0
  rw [decide_eq_false hf0] at CF0
  clear iL iU iD iF hw0 ew0 kw0 hm0 em0 km0 hv0 ev0 kv0 hg0 eg0 kg0 hw1 ew1 kw1 hm1 em1 km1 hv1 ev1 kv1 hg1 eg1 kg1 hf0
  have cc := Below.refl w.heap.size w
  go_enter Try.func5, Try.ntmps5
  go_upto_region 1 with fail
  generalize hv_ : (w.alloc (.cells #[.int .i64 lr, .int .i64 mu, .int .i64 wd, .bool ne] 23)).alloc (.cells #[.slice Aw0 nw0 cw0, .slice Am0 nm0 cm0, .slice Av0 nv0 cv0, .slice Ag0 ng0 cg0, .slice Aw1 nw1 cw1, .slice Am1 nm1 cm1, .slice Av1 nv1 cv1, .slice Ag1 ng1 cg1] 46) = v1
  have zl0 : v1.heap[w.heap.size + 1]? = some (.cells #[.slice Aw0 nw0 cw0, .slice Am0 nm0 cm0, .slice Av0 nv0 cv0, .slice Ag0 ng0 cg0, .slice Aw1 nw1 cw1, .slice Am1 nm1 cm1, .slice Av1 nv1 cv1, .slice Ag1 ng1 cg1] 46) := by rw [← hv_]; exact by have h := World.alloc_heap_new (w.alloc (.cells #[.int .i64 lr, .int .i64 mu, .int .i64 wd, .bool ne] 23)) (.cells #[.slice Aw0 nw0 cw0, .slice Am0 nm0 cm0, .slice Av0 nv0 cv0, .slice Ag0 ng0 cg0, .slice Aw1 nw1 cw1, .slice Am1 nm1 cm1, .slice Av1 nv1 cv1, .slice Ag1 ng1 cg1] 46); simpa only [World.size_alloc] using h
  have zm : v1.heap[w.heap.size]? = some (.cells #[.int .i64 lr, .int .i64 mu, .int .i64 wd, .bool ne] 23) := by rw [← hv_]; exact heap_up (World.alloc_heap_new _ _)
  have bA : Below w.heap.size w v1 := by rw [← hv_]; exact ((Below.refl _ w).alloc (by simp) _).alloc (by simp) _
  replace cc := cc.trans bA
  clear bA
  clear hv_
  have zl := HeapAt17.of zl0
  clear zl0
  obtain ⟨ma0, ma1, ma2, ma3⟩ := cells4 zm
  obtain ⟨la0, la1, la2, la3, la4, la5, la6, la7⟩ := cells8 zl
  have mal := (Array.getElem?_eq_some_iff.1 zm).1
  have lal := (Array.getElem?_eq_some_iff.1 zl).1
  clear zm
  go_wp2_with fail
  refine (CF0 _).mono ?_
  rintro e w1 ⟨rfl, b⟩
  replace zl := zl.on b
  rewrite [cR b mal] at ma0 ma1 ma2 ma3
  replace mal := lK b mal
  rewrite [cR b lal] at la0 la1 la2 la3 la4 la5 la6 la7
  replace lal := lK b lal
  replace cc := bK cc b
  clear b
  go_wp2_with fail
  refine (alive17_any _).mono ?_
  rintro e w2 ⟨rfl, b⟩
  replace zl := zl.on b
  rewrite [cR b mal] at ma0 ma1 ma2 ma3
  replace mal := lK b mal
  rewrite [cR b lal] at la0 la1 la2 la3 la4 la5 la6 la7
  replace lal := lK b lal
  replace cc := bK cc b
  clear b
  go_wp2_with fail
  go_ret
  exact ⟨rfl, cc⟩

theorem MomApart_many1 {w : World} {lr mu wd f : Int} {ne : Bool} {Aw0 : Option Addr} {nw0 cw0 : Nat} {Lw0 : List Int} {Am0 : Option Addr} {nm0 cm0 : Nat} {Lm0 : List Int} {Av0 : Option Addr} {nv0 cv0 : Nat} {Lv0 : List Int} {Ag0 : Option Addr} {ng0 cg0 : Nat} {Lg0 : List Int} {Aw1 : Option Addr} {nw1 cw1 : Nat} {Lw1 : List Int} {Am1 : Option Addr} {nm1 cm1 : Nat} {Lm1 : List Int} {Av1 : Option Addr} {nv1 cv1 : Nat} {Lv1 : List Int} {Ag1 : Option Addr} {ng1 cg1 : Nat} {Lg1 : List Int} (iL : I64 lr) (iU : I64 mu) (iD : I64 wd) (iF : I64 f) (hw0 : IR w Aw0 nw0 cw0 Lw0) (hm0 : IR w Am0 nm0 cm0 Lm0) (hv0 : IR w Av0 nv0 cv0 Lv0) (hg0 : IR w Ag0 ng0 cg0 Lg0) (hw1 : IR w Aw1 nw1 cw1 Lw1) (hm1 : IR w Am1 nm1 cm1 Lm1) (hv1 : IR w Av1 nv1 cv1 Lv1) (hg1 : IR w Ag1 ng1 cg1 Lg1) (ew0 : ∀ z ∈ Lw0, I64 z) (em0 : ∀ z ∈ Lm0, I64 z) (ev0 : ∀ z ∈ Lv0, I64 z) (eg0 : ∀ z ∈ Lg0, I64 z) (ew1 : ∀ z ∈ Lw1, I64 z) (em1 : ∀ z ∈ Lm1, I64 z) (ev1 : ∀ z ∈ Lv1, I64 z) (eg1 : ∀ z ∈ Lg1, I64 z) (kw0 : nw0 ≤ 2305843009213693951) (km0 : nm0 ≤ 2305843009213693951) (kv0 : nv0 ≤ 2305843009213693951) (kg0 : ng0 ≤ 2305843009213693951) (kw1 : nw1 ≤ 2305843009213693951) (km1 : nm1 ≤ 2305843009213693951) (kv1 : nv1 ≤ 2305843009213693951) (kg1 : ng1 ≤ 2305843009213693951) (hf0 : ((nw0 + nm0 + nv0 + ng0 : Nat) : Int) ≤ 18) (hf1 : ¬ ((nw1 + nm1 + nv1 + ng1 : Nat) : Int) ≤ 18) :
    Calls Try.prog 5 #[.agg #[.int .i64 lr, .int .i64 mu, .int .i64 wd, .bool ne], .agg #[.slice Aw0 nw0 cw0, .slice Am0 nm0 cm0, .slice Av0 nv0 cv0, .slice Ag0 ng0 cg0, .slice Aw1 nw1 cw1, .slice Am1 nm1 cm1, .slice Av1 nv1 cv1, .slice Ag1 ng1 cg1], .int .i64 f] w (GotV w (.bool true)) := by
  have CF0 := fun W : World => nFew17_N (w := W) (Aw := Aw0) (cw := cw0) (Am := Am0) (cm := cm0) (Av := Av0) (cv := cv0) (Ag := Ag0) (cg := cg0) (most := 18) kw0 km0 kv0 kg0
  rw [decide_eq_true hf0] at CF0
  have CF1 := fun W : World => nFew17_N (w := W) (Aw := Aw1) (cw := cw1) (Am := Am1) (cm := cm1) (Av := Av1) (cv := cv1) (Ag := Ag1) (cg := cg1) (most := 18) kw1 km1 kv1 kg1
  rw [decide_eq_false hf1] at CF1
  clear iL iU iD iF hw0 ew0 kw0 hm0 em0 km0 hv0 ev0 kv0 hg0 eg0 kg0 hw1 ew1 kw1 hm1 em1 km1 hv1 ev1 kv1 hg1 eg1 kg1 hf0 hf1
  have cc := Below.refl w.heap.size w
  go_enter Try.func5, Try.ntmps5
  go_upto_region 1 with fail
  generalize hv_ : (w.alloc (.cells #[.int .i64 lr, .int .i64 mu, .int .i64 wd, .bool ne] 23)).alloc (.cells #[.slice Aw0 nw0 cw0, .slice Am0 nm0 cm0, .slice Av0 nv0 cv0, .slice Ag0 ng0 cg0, .slice Aw1 nw1 cw1, .slice Am1 nm1 cm1, .slice Av1 nv1 cv1, .slice Ag1 ng1 cg1] 46) = v1
  have zl0 : v1.heap[w.heap.size + 1]? = some (.cells #[.slice Aw0 nw0 cw0, .slice Am0 nm0 cm0, .slice Av0 nv0 cv0, .slice Ag0 ng0 cg0, .slice Aw1 nw1 cw1, .slice Am1 nm1 cm1, .slice Av1 nv1 cv1, .slice Ag1 ng1 cg1] 46) := by rw [← hv_]; exact by have h := World.alloc_heap_new (w.alloc (.cells #[.int .i64 lr, .int .i64 mu, .int .i64 wd, .bool ne] 23)) (.cells #[.slice Aw0 nw0 cw0, .slice Am0 nm0 cm0, .slice Av0 nv0 cv0, .slice Ag0 ng0 cg0, .slice Aw1 nw1 cw1, .slice Am1 nm1 cm1, .slice Av1 nv1 cv1, .slice Ag1 ng1 cg1] 46); simpa only [World.size_alloc] using h
  have zm : v1.heap[w.heap.size]? = some (.cells #[.int .i64 lr, .int .i64 mu, .int .i64 wd, .bool ne] 23) := by rw [← hv_]; exact heap_up (World.alloc_heap_new _ _)
  have bA : Below w.heap.size w v1 := by rw [← hv_]; exact ((Below.refl _ w).alloc (by simp) _).alloc (by simp) _
  replace cc := cc.trans bA
  clear bA
  clear hv_
  have zl := HeapAt17.of zl0
  clear zl0
  obtain ⟨ma0, ma1, ma2, ma3⟩ := cells4 zm
  obtain ⟨la0, la1, la2, la3, la4, la5, la6, la7⟩ := cells8 zl
  have mal := (Array.getElem?_eq_some_iff.1 zm).1
  have lal := (Array.getElem?_eq_some_iff.1 zl).1
  clear zm
  go_wp2_with fail
  refine (CF0 _).mono ?_
  rintro e w1 ⟨rfl, b⟩
  replace zl := zl.on b
  rewrite [cR b mal] at ma0 ma1 ma2 ma3
  replace mal := lK b mal
  rewrite [cR b lal] at la0 la1 la2 la3 la4 la5 la6 la7
  replace lal := lK b lal
  replace cc := bK cc b
  clear b
  go_wp2_with fail
  refine (CF1 _).mono ?_
  rintro e w2 ⟨rfl, b⟩
  replace zl := zl.on b
  rewrite [cR b mal] at ma0 ma1 ma2 ma3
  replace mal := lK b mal
  rewrite [cR b lal] at la0 la1 la2 la3 la4 la5 la6 la7
  replace lal := lK b lal
  replace cc := bK cc b
  clear b
  go_wp2_with fail
  refine (alive17_any _).mono ?_
  rintro e w3 ⟨rfl, b⟩
  replace zl := zl.on b
  rewrite [cR b mal] at ma0 ma1 ma2 ma3
  replace mal := lK b mal
  rewrite [cR b lal] at la0 la1 la2 la3 la4 la5 la6 la7
  replace lal := lK b lal
  replace cc := bK cc b
  clear b
  go_wp2_with fail
  go_ret
  exact ⟨rfl, cc⟩

theorem MomApart_shape0 {w : World} {lr mu wd f : Int} {ne : Bool} {Aw0 : Option Addr} {nw0 cw0 : Nat} {Lw0 : List Int} {Am0 : Option Addr} {nm0 cm0 : Nat} {Lm0 : List Int} {Av0 : Option Addr} {nv0 cv0 : Nat} {Lv0 : List Int} {Ag0 : Option Addr} {ng0 cg0 : Nat} {Lg0 : List Int} {Aw1 : Option Addr} {nw1 cw1 : Nat} {Lw1 : List Int} {Am1 : Option Addr} {nm1 cm1 : Nat} {Lm1 : List Int} {Av1 : Option Addr} {nv1 cv1 : Nat} {Lv1 : List Int} {Ag1 : Option Addr} {ng1 cg1 : Nat} {Lg1 : List Int} (iL : I64 lr) (iU : I64 mu) (iD : I64 wd) (iF : I64 f) (hw0 : IR w Aw0 nw0 cw0 Lw0) (hm0 : IR w Am0 nm0 cm0 Lm0) (hv0 : IR w Av0 nv0 cv0 Lv0) (hg0 : IR w Ag0 ng0 cg0 Lg0) (hw1 : IR w Aw1 nw1 cw1 Lw1) (hm1 : IR w Am1 nm1 cm1 Lm1) (hv1 : IR w Av1 nv1 cv1 Lv1) (hg1 : IR w Ag1 ng1 cg1 Lg1) (ew0 : ∀ z ∈ Lw0, I64 z) (em0 : ∀ z ∈ Lm0, I64 z) (ev0 : ∀ z ∈ Lv0, I64 z) (eg0 : ∀ z ∈ Lg0, I64 z) (ew1 : ∀ z ∈ Lw1, I64 z) (em1 : ∀ z ∈ Lm1, I64 z) (ev1 : ∀ z ∈ Lv1, I64 z) (eg1 : ∀ z ∈ Lg1, I64 z) (kw0 : nw0 ≤ 2305843009213693951) (km0 : nm0 ≤ 2305843009213693951) (kv0 : nv0 ≤ 2305843009213693951) (kg0 : ng0 ≤ 2305843009213693951) (kw1 : nw1 ≤ 2305843009213693951) (km1 : nm1 ≤ 2305843009213693951) (kv1 : nv1 ≤ 2305843009213693951) (kg1 : ng1 ≤ 2305843009213693951) (hf0 : ((nw0 + nm0 + nv0 + ng0 : Nat) : Int) ≤ 18) (hf1 : ((nw1 + nm1 + nv1 + ng1 : Nat) : Int) ≤ 18) (h5 : stC17 lr mu wd f ne Lw0 Lm0 Lg0 = 5) :
    Calls Try.prog 5 #[.agg #[.int .i64 lr, .int .i64 mu, .int .i64 wd, .bool ne], .agg #[.slice Aw0 nw0 cw0, .slice Am0 nm0 cm0, .slice Av0 nv0 cv0, .slice Ag0 ng0 cg0, .slice Aw1 nw1 cw1, .slice Am1 nm1 cm1, .slice Av1 nv1 cv1, .slice Ag1 ng1 cg1], .int .i64 f] w (GotV w (.bool true)) := by
  have CF0 := fun W : World => nFew17_N (w := W) (Aw := Aw0) (cw := cw0) (Am := Am0) (cm := cm0) (Av := Av0) (cv := cv0) (Ag := Ag0) (cg := cg0) (most := 18) kw0 km0 kv0 kg0
  rw [decide_eq_true hf0] at CF0
  have CF1 := fun W : World => nFew17_N (w := W) (Aw := Aw1) (cw := cw1) (Am := Am1) (cm := cm1) (Av := Av1) (cv := cv1) (Ag := Ag1) (cg := cg1) (most := 18) kw1 km1 kv1 kg1
  rw [decide_eq_true hf1] at CF1
  have CS0 := fun {W : World} {Aw : Option Addr} {cw : Nat} {Am : Option Addr} {cm : Nat} {Av : Option Addr} {nv cv : Nat} {Ag : Option Addr} {cg : Nat} (a : IR W Aw nw0 cw Lw0) (b : IR W Am nm0 cm Lm0) (c : IR W Ag ng0 cg Lg0) => (mStep_N (ne := ne) (Av := Av) (nv := nv) (cv := cv) iL iU iD iF a b c ew0 em0 eg0 (by omega) (by omega) (by omega)).mono (fun e w h => h.weak)
  have CS1 := fun {W : World} {Aw : Option Addr} {cw : Nat} {Am : Option Addr} {cm : Nat} {Av : Option Addr} {nv cv : Nat} {Ag : Option Addr} {cg : Nat} (a : IR W Aw nw1 cw Lw1) (b : IR W Am nm1 cm Lm1) (c : IR W Ag ng1 cg Lg1) => (mStep_N (ne := ne) (Av := Av) (nv := nv) (cv := cv) iL iU iD iF a b c ew1 em1 eg1 (by omega) (by omega) (by omega)).mono (fun e w h => h.weak)
  have CSA := fun {W : World} {Aw : Option Addr} {cw : Nat} {Am : Option Addr} {cm : Nat} {Ag : Option Addr} {cg : Nat} (a : IR W Aw (nw0 + nw1) cw (Lw0 ++ Lw1)) (b : IR W Am (nm0 + nm1) cm (Lm0 ++ Lm1)) (c : IR W Ag (ng0 + ng1) cg (Lg0 ++ Lg1)) => (mStep_N (ne := ne) (Av := none) (nv := 0) (cv := 0) iL iU iD iF a b c (mem_both ew0 ew1) (mem_both em0 em1) (mem_both eg0 eg1) (by omega) (by omega) (by omega)).mono (fun e w h => h.weak)
  have hl0 := len17 (lr := lr) (mu := mu) (wd := wd) (f := f) (ne := ne) (LW := Lw0) (LM := Lm0) (LG := Lg0)
  have hl1 := len17 (lr := lr) (mu := mu) (wd := wd) (f := f) (ne := ne) (LW := Lw1) (LM := Lm1) (LG := Lg1)
  have k18 : nw0 ≤ 18 ∧ nm0 ≤ 18 ∧ ng0 ≤ 18 ∧ nw1 ≤ 18 ∧ nm1 ≤ 18 ∧ ng1 ≤ 18 := by omega
  have q0 := hw0.1
  have q1 := hw1.1
  generalize stRW17 lr mu wd f ne Lw0 Lm0 Lg0 = XW0 at *
  generalize stRV17 lr mu wd f ne Lw0 Lm0 Lg0 = XV0 at *
  generalize stRW17 lr mu wd f ne Lw1 Lm1 Lg1 = XW1 at *
  generalize stRV17 lr mu wd f ne Lw1 Lm1 Lg1 = XV1 at *
  generalize stRW17 lr mu wd f ne (Lw0 ++ Lw1) (Lm0 ++ Lm1) (Lg0 ++ Lg1) = XWA at *
  generalize stRV17 lr mu wd f ne (Lw0 ++ Lw1) (Lm0 ++ Lm1) (Lg0 ++ Lg1) = XVA at *
  have HL : Hid (XW0.length ≤ 18 ∧ XV0.length ≤ 18 ∧ XW1.length ≤ 18 ∧ XV1.length ≤ 18) := Lib.hid (by omega)
  obtain ⟨b1_, b2_, b3_, b4_, b5_, b6_⟩ := k18
  have B1 := Lib.hid b1_
  have B2 := Lib.hid b2_
  have B3 := Lib.hid b3_
  have B4 := Lib.hid b4_
  have B5 := Lib.hid b5_
  have B6 := Lib.hid b6_
  clear b1_ b2_ b3_ b4_ b5_ b6_ hl0 hl1 q0 q1
  generalize stC17 lr mu wd f ne Lw0 Lm0 Lg0 = C0 at *
  generalize stC17 lr mu wd f ne Lw1 Lm1 Lg1 = C1 at *
  generalize stC17 lr mu wd f ne (Lw0 ++ Lw1) (Lm0 ++ Lm1) (Lg0 ++ Lg1) = CA at *
  have f0 : (C0 == 5) = true := beq_iff_eq.2 h5
  clear iL iU iD iF ew0 em0 ev0 eg0 ew1 em1 ev1 eg1 kw0 km0 kv0 kg0 kw1 km1 kv1 kg1 hf0 hf1 hv0 hv1 h5
  have cc := Below.refl w.heap.size w
  go_enter Try.func5, Try.ntmps5
  go_upto_region 1 with fail
  generalize hv_ : (w.alloc (.cells #[.int .i64 lr, .int .i64 mu, .int .i64 wd, .bool ne] 23)).alloc (.cells #[.slice Aw0 nw0 cw0, .slice Am0 nm0 cm0, .slice Av0 nv0 cv0, .slice Ag0 ng0 cg0, .slice Aw1 nw1 cw1, .slice Am1 nm1 cm1, .slice Av1 nv1 cv1, .slice Ag1 ng1 cg1] 46) = v1
  have zl0 : v1.heap[w.heap.size + 1]? = some (.cells #[.slice Aw0 nw0 cw0, .slice Am0 nm0 cm0, .slice Av0 nv0 cv0, .slice Ag0 ng0 cg0, .slice Aw1 nw1 cw1, .slice Am1 nm1 cm1, .slice Av1 nv1 cv1, .slice Ag1 ng1 cg1] 46) := by rw [← hv_]; exact by have h := World.alloc_heap_new (w.alloc (.cells #[.int .i64 lr, .int .i64 mu, .int .i64 wd, .bool ne] 23)) (.cells #[.slice Aw0 nw0 cw0, .slice Am0 nm0 cm0, .slice Av0 nv0 cv0, .slice Ag0 ng0 cg0, .slice Aw1 nw1 cw1, .slice Am1 nm1 cm1, .slice Av1 nv1 cv1, .slice Ag1 ng1 cg1] 46); simpa only [World.size_alloc] using h
  have zm : v1.heap[w.heap.size]? = some (.cells #[.int .i64 lr, .int .i64 mu, .int .i64 wd, .bool ne] 23) := by rw [← hv_]; exact heap_up (World.alloc_heap_new _ _)
  have bA : Below w.heap.size w v1 := by rw [← hv_]; exact ((Below.refl _ w).alloc (by simp) _).alloc (by simp) _
  replace cc := cc.trans bA
  replace hw0 := hw0.on bA
  replace hm0 := hm0.on bA
  replace hg0 := hg0.on bA
  replace hw1 := hw1.on bA
  replace hm1 := hm1.on bA
  replace hg1 := hg1.on bA
  clear bA
  clear hv_
  have zl := HeapAt17.of zl0
  clear zl0
  obtain ⟨ma0, ma1, ma2, ma3⟩ := cells4 zm
  obtain ⟨la0, la1, la2, la3, la4, la5, la6, la7⟩ := cells8 zl
  have mal := (Array.getElem?_eq_some_iff.1 zm).1
  have lal := (Array.getElem?_eq_some_iff.1 zl).1
  clear zm
  go_wp2_with fail
  refine (CF0 _).mono ?_
  rintro e w1 ⟨rfl, b⟩
  replace hw0 := hw0.on b
  replace hm0 := hm0.on b
  replace hg0 := hg0.on b
  replace hw1 := hw1.on b
  replace hm1 := hm1.on b
  replace hg1 := hg1.on b
  replace zl := zl.on b
  rewrite [cR b mal] at ma0 ma1 ma2 ma3
  replace mal := lK b mal
  rewrite [cR b lal] at la0 la1 la2 la3 la4 la5 la6 la7
  replace lal := lK b lal
  replace cc := bK cc b
  clear b
  go_wp2_with fail
  refine (CF1 _).mono ?_
  rintro e w2 ⟨rfl, b⟩
  replace hw0 := hw0.on b
  replace hm0 := hm0.on b
  replace hg0 := hg0.on b
  replace hw1 := hw1.on b
  replace hm1 := hm1.on b
  replace hg1 := hg1.on b
  replace zl := zl.on b
  rewrite [cR b mal] at ma0 ma1 ma2 ma3
  replace mal := lK b mal
  rewrite [cR b lal] at la0 la1 la2 la3 la4 la5 la6 la7
  replace lal := lK b lal
  replace cc := bK cc b
  clear b
  go_upto_region 3 with fail
  refine ApR3 (Lv0 := []) (Lv1 := []) (by intro c a d v w h; cases d <;> exact h) zl hw0 B1.out hm0 B2.out hg0 B3.out hw1 B4.out hm1 B5.out hg1 B6.out ?_
  intro wA g0 g4 k4 g8 k8 g9 g13 k13 g17 k17 g18 g22 k22 g26 k26 gx zx iw im ig b
  replace hw0 := hw0.on b
  replace hm0 := hm0.on b
  replace hg0 := hg0.on b
  replace hw1 := hw1.on b
  replace hm1 := hm1.on b
  replace hg1 := hg1.on b
  replace zl := zl.on b
  rewrite [cR b mal] at ma0 ma1 ma2 ma3
  replace mal := lK b mal
  rewrite [cR b lal] at la0 la1 la2 la3 la4 la5 la6 la7
  replace lal := lK b lal
  replace cc := bK cc b
  clear b
  obtain ⟨bx0, bx1, bx2, bx3⟩ := cells4 zx
  have bxl := (Array.getElem?_eq_some_iff.1 zx).1
  clear zx zl
  go_wp2_with fail
  refine (CS0 hw0 hm0 hg0).mono ?_
  rintro e w3 ⟨Ap, np, cp, Bp, mp, dp, rfl, hxp, hyp, b⟩
  replace hw0 := hw0.on b
  replace hm0 := hm0.on b
  replace hg0 := hg0.on b
  replace hw1 := hw1.on b
  replace hm1 := hm1.on b
  replace hg1 := hg1.on b
  replace iw := iw.on b
  replace im := im.on b
  replace ig := ig.on b
  rewrite [cR b mal] at ma0 ma1 ma2 ma3
  replace mal := lK b mal
  rewrite [cR b lal] at la0 la1 la2 la3 la4 la5 la6 la7
  replace lal := lK b lal
  rewrite [cR b bxl] at bx0 bx1 bx2 bx3
  replace bxl := lK b bxl
  replace cc := bK cc b
  clear b
  clear hw0 hm0 hg0
  go_upto_region 5 with fail
  generalize hv_ : w3.alloc (.cells #[.slice Ap np cp, .slice Bp mp dp, .slice none 0 0, .slice none 0 0] 26) = v4
  have bA : Below w3.heap.size w3 v4 := by rw [← hv_]; exact below_one _ _
  replace hw1 := hw1.on bA
  replace hm1 := hm1.on bA
  replace hg1 := hg1.on bA
  replace iw := iw.on bA
  replace im := im.on bA
  replace ig := ig.on bA
  replace hxp := hxp.on bA
  replace hyp := hyp.on bA
  rewrite [cR bA mal] at ma0 ma1 ma2 ma3
  replace mal := lK bA mal
  rewrite [cR bA lal] at la0 la1 la2 la3 la4 la5 la6 la7
  replace lal := lK bA lal
  rewrite [cR bA bxl] at bx0 bx1 bx2 bx3
  replace bxl := lK bA bxl
  replace cc := bK cc bA
  clear bA
  have xs0 : v4.cell? ⟨w3.heap.size, 0, none⟩ = some (.slice Ap np cp) := by simp [← hv_, go_sem]
  have xs1 : v4.cell? ⟨w3.heap.size, 1, none⟩ = some (.slice Bp mp dp) := by simp [← hv_, go_sem]
  have xs2 : v4.cell? ⟨w3.heap.size, 2, none⟩ = some (.slice none 0 0) := by simp [← hv_, go_sem]
  have xs3 : v4.cell? ⟨w3.heap.size, 3, none⟩ = some (.slice none 0 0) := by simp [← hv_, go_sem]
  have xsl : w3.heap.size < v4.heap.size := by simp [← hv_]
  clear hv_
  go_wp2_with fail
  refine (CS1 hw1 hm1 hg1).mono ?_
  rintro e w5 ⟨Aq, nq, cq, Bq, mq, dq, rfl, hxq, hyq, b⟩
  replace hw1 := hw1.on b
  replace hm1 := hm1.on b
  replace hg1 := hg1.on b
  replace iw := iw.on b
  replace im := im.on b
  replace ig := ig.on b
  replace hxp := hxp.on b
  replace hyp := hyp.on b
  rewrite [cR b mal] at ma0 ma1 ma2 ma3
  replace mal := lK b mal
  rewrite [cR b lal] at la0 la1 la2 la3 la4 la5 la6 la7
  replace lal := lK b lal
  rewrite [cR b bxl] at bx0 bx1 bx2 bx3
  replace bxl := lK b bxl
  rewrite [cR b xsl] at xs0 xs1 xs2 xs3
  replace xsl := lK b xsl
  replace cc := bK cc b
  clear b
  clear hw1 hm1 hg1
  go_upto_region 6 with fail
  generalize hv_ : w5.alloc (.cells #[.slice Aq nq cq, .slice Bq mq dq, .slice none 0 0, .slice none 0 0] 26) = v6
  have bA : Below w5.heap.size w5 v6 := by rw [← hv_]; exact below_one _ _
  replace iw := iw.on bA
  replace im := im.on bA
  replace ig := ig.on bA
  replace hxp := hxp.on bA
  replace hyp := hyp.on bA
  replace hxq := hxq.on bA
  replace hyq := hyq.on bA
  rewrite [cR bA mal] at ma0 ma1 ma2 ma3
  replace mal := lK bA mal
  rewrite [cR bA lal] at la0 la1 la2 la3 la4 la5 la6 la7
  replace lal := lK bA lal
  rewrite [cR bA bxl] at bx0 bx1 bx2 bx3
  replace bxl := lK bA bxl
  rewrite [cR bA xsl] at xs0 xs1 xs2 xs3
  replace xsl := lK bA xsl
  replace cc := bK cc bA
  clear bA
  have ys0 : v6.cell? ⟨w5.heap.size, 0, none⟩ = some (.slice Aq nq cq) := by simp [← hv_, go_sem]
  have ys1 : v6.cell? ⟨w5.heap.size, 1, none⟩ = some (.slice Bq mq dq) := by simp [← hv_, go_sem]
  have ys2 : v6.cell? ⟨w5.heap.size, 2, none⟩ = some (.slice none 0 0) := by simp [← hv_, go_sem]
  have ys3 : v6.cell? ⟨w5.heap.size, 3, none⟩ = some (.slice none 0 0) := by simp [← hv_, go_sem]
  have ysl : w5.heap.size < v6.heap.size := by simp [← hv_]
  clear hv_
  clear la0 la1 la2 la3 la4 la5 la6 la7 lal
  go_wp2_with fail
  refine (CSA iw im ig).mono ?_
  rintro e w7 ⟨At, nt, ct, Bt, mt, dt, rfl, hxt, hyt, b⟩
  replace iw := iw.on b
  replace im := im.on b
  replace ig := ig.on b
  replace hxp := hxp.on b
  replace hyp := hyp.on b
  replace hxq := hxq.on b
  replace hyq := hyq.on b
  rewrite [cR b mal] at ma0 ma1 ma2 ma3
  replace mal := lK b mal
  rewrite [cR b bxl] at bx0 bx1 bx2 bx3
  replace bxl := lK b bxl
  rewrite [cR b xsl] at xs0 xs1 xs2 xs3
  replace xsl := lK b xsl
  rewrite [cR b ysl] at ys0 ys1 ys2 ys3
  replace ysl := lK b ysl
  replace cc := bK cc b
  clear b
  clear iw im ig
  go_upto_region 7 with fail
  generalize hv_ : w7.alloc (.cells #[.slice At nt ct, .slice Bt mt dt, .slice none 0 0, .slice none 0 0] 26) = v8
  have bA : Below w7.heap.size w7 v8 := by rw [← hv_]; exact below_one _ _
  replace hxp := hxp.on bA
  replace hyp := hyp.on bA
  replace hxq := hxq.on bA
  replace hyq := hyq.on bA
  replace hxt := hxt.on bA
  replace hyt := hyt.on bA
  rewrite [cR bA mal] at ma0 ma1 ma2 ma3
  replace mal := lK bA mal
  rewrite [cR bA bxl] at bx0 bx1 bx2 bx3
  replace bxl := lK bA bxl
  rewrite [cR bA xsl] at xs0 xs1 xs2 xs3
  replace xsl := lK bA xsl
  rewrite [cR bA ysl] at ys0 ys1 ys2 ys3
  replace ysl := lK bA ysl
  replace cc := bK cc bA
  clear bA
  have zs0 : v8.cell? ⟨w7.heap.size, 0, none⟩ = some (.slice At nt ct) := by simp [← hv_, go_sem]
  have zs1 : v8.cell? ⟨w7.heap.size, 1, none⟩ = some (.slice Bt mt dt) := by simp [← hv_, go_sem]
  have zs2 : v8.cell? ⟨w7.heap.size, 2, none⟩ = some (.slice none 0 0) := by simp [← hv_, go_sem]
  have zs3 : v8.cell? ⟨w7.heap.size, 3, none⟩ = some (.slice none 0 0) := by simp [← hv_, go_sem]
  have zsl : w7.heap.size < v8.heap.size := by simp [← hv_]
  clear hv_
  go_wp2_with fail
  refine (alive17_any _).mono ?_
  rintro e w9 ⟨rfl, b⟩
  replace hxp := hxp.on b
  replace hyp := hyp.on b
  replace hxq := hxq.on b
  replace hyq := hyq.on b
  replace hxt := hxt.on b
  replace hyt := hyt.on b
  rewrite [cR b mal] at ma0 ma1 ma2 ma3
  replace mal := lK b mal
  rewrite [cR b bxl] at bx0 bx1 bx2 bx3
  replace bxl := lK b bxl
  rewrite [cR b xsl] at xs0 xs1 xs2 xs3
  replace xsl := lK b xsl
  rewrite [cR b ysl] at ys0 ys1 ys2 ys3
  replace ysl := lK b ysl
  rewrite [cR b zsl] at zs0 zs1 zs2 zs3
  replace zsl := lK b zsl
  replace cc := bK cc b
  clear b
  go_wp2_with fail
  go_ret
  exact ⟨rfl, cc⟩

theorem MomApart_shape1 {w : World} {lr mu wd f : Int} {ne : Bool} {Aw0 : Option Addr} {nw0 cw0 : Nat} {Lw0 : List Int} {Am0 : Option Addr} {nm0 cm0 : Nat} {Lm0 : List Int} {Av0 : Option Addr} {nv0 cv0 : Nat} {Lv0 : List Int} {Ag0 : Option Addr} {ng0 cg0 : Nat} {Lg0 : List Int} {Aw1 : Option Addr} {nw1 cw1 : Nat} {Lw1 : List Int} {Am1 : Option Addr} {nm1 cm1 : Nat} {Lm1 : List Int} {Av1 : Option Addr} {nv1 cv1 : Nat} {Lv1 : List Int} {Ag1 : Option Addr} {ng1 cg1 : Nat} {Lg1 : List Int} (iL : I64 lr) (iU : I64 mu) (iD : I64 wd) (iF : I64 f) (hw0 : IR w Aw0 nw0 cw0 Lw0) (hm0 : IR w Am0 nm0 cm0 Lm0) (hv0 : IR w Av0 nv0 cv0 Lv0) (hg0 : IR w Ag0 ng0 cg0 Lg0) (hw1 : IR w Aw1 nw1 cw1 Lw1) (hm1 : IR w Am1 nm1 cm1 Lm1) (hv1 : IR w Av1 nv1 cv1 Lv1) (hg1 : IR w Ag1 ng1 cg1 Lg1) (ew0 : ∀ z ∈ Lw0, I64 z) (em0 : ∀ z ∈ Lm0, I64 z) (ev0 : ∀ z ∈ Lv0, I64 z) (eg0 : ∀ z ∈ Lg0, I64 z) (ew1 : ∀ z ∈ Lw1, I64 z) (em1 : ∀ z ∈ Lm1, I64 z) (ev1 : ∀ z ∈ Lv1, I64 z) (eg1 : ∀ z ∈ Lg1, I64 z) (kw0 : nw0 ≤ 2305843009213693951) (km0 : nm0 ≤ 2305843009213693951) (kv0 : nv0 ≤ 2305843009213693951) (kg0 : ng0 ≤ 2305843009213693951) (kw1 : nw1 ≤ 2305843009213693951) (km1 : nm1 ≤ 2305843009213693951) (kv1 : nv1 ≤ 2305843009213693951) (kg1 : ng1 ≤ 2305843009213693951) (hf0 : ((nw0 + nm0 + nv0 + ng0 : Nat) : Int) ≤ 18) (hf1 : ((nw1 + nm1 + nv1 + ng1 : Nat) : Int) ≤ 18) (h50 : ¬ stC17 lr mu wd f ne Lw0 Lm0 Lg0 = 5) (h5 : stC17 lr mu wd f ne Lw1 Lm1 Lg1 = 5) :
    Calls Try.prog 5 #[.agg #[.int .i64 lr, .int .i64 mu, .int .i64 wd, .bool ne], .agg #[.slice Aw0 nw0 cw0, .slice Am0 nm0 cm0, .slice Av0 nv0 cv0, .slice Ag0 ng0 cg0, .slice Aw1 nw1 cw1, .slice Am1 nm1 cm1, .slice Av1 nv1 cv1, .slice Ag1 ng1 cg1], .int .i64 f] w (GotV w (.bool true)) := by
  have CF0 := fun W : World => nFew17_N (w := W) (Aw := Aw0) (cw := cw0) (Am := Am0) (cm := cm0) (Av := Av0) (cv := cv0) (Ag := Ag0) (cg := cg0) (most := 18) kw0 km0 kv0 kg0
  rw [decide_eq_true hf0] at CF0
  have CF1 := fun W : World => nFew17_N (w := W) (Aw := Aw1) (cw := cw1) (Am := Am1) (cm := cm1) (Av := Av1) (cv := cv1) (Ag := Ag1) (cg := cg1) (most := 18) kw1 km1 kv1 kg1
  rw [decide_eq_true hf1] at CF1
  have CS0 := fun {W : World} {Aw : Option Addr} {cw : Nat} {Am : Option Addr} {cm : Nat} {Av : Option Addr} {nv cv : Nat} {Ag : Option Addr} {cg : Nat} (a : IR W Aw nw0 cw Lw0) (b : IR W Am nm0 cm Lm0) (c : IR W Ag ng0 cg Lg0) => (mStep_N (ne := ne) (Av := Av) (nv := nv) (cv := cv) iL iU iD iF a b c ew0 em0 eg0 (by omega) (by omega) (by omega)).mono (fun e w h => h.weak)
  have CS1 := fun {W : World} {Aw : Option Addr} {cw : Nat} {Am : Option Addr} {cm : Nat} {Av : Option Addr} {nv cv : Nat} {Ag : Option Addr} {cg : Nat} (a : IR W Aw nw1 cw Lw1) (b : IR W Am nm1 cm Lm1) (c : IR W Ag ng1 cg Lg1) => (mStep_N (ne := ne) (Av := Av) (nv := nv) (cv := cv) iL iU iD iF a b c ew1 em1 eg1 (by omega) (by omega) (by omega)).mono (fun e w h => h.weak)
  have CSA := fun {W : World} {Aw : Option Addr} {cw : Nat} {Am : Option Addr} {cm : Nat} {Ag : Option Addr} {cg : Nat} (a : IR W Aw (nw0 + nw1) cw (Lw0 ++ Lw1)) (b : IR W Am (nm0 + nm1) cm (Lm0 ++ Lm1)) (c : IR W Ag (ng0 + ng1) cg (Lg0 ++ Lg1)) => (mStep_N (ne := ne) (Av := none) (nv := 0) (cv := 0) iL iU iD iF a b c (mem_both ew0 ew1) (mem_both em0 em1) (mem_both eg0 eg1) (by omega) (by omega) (by omega)).mono (fun e w h => h.weak)
  have hl0 := len17 (lr := lr) (mu := mu) (wd := wd) (f := f) (ne := ne) (LW := Lw0) (LM := Lm0) (LG := Lg0)
  have hl1 := len17 (lr := lr) (mu := mu) (wd := wd) (f := f) (ne := ne) (LW := Lw1) (LM := Lm1) (LG := Lg1)
  have k18 : nw0 ≤ 18 ∧ nm0 ≤ 18 ∧ ng0 ≤ 18 ∧ nw1 ≤ 18 ∧ nm1 ≤ 18 ∧ ng1 ≤ 18 := by omega
  have q0 := hw0.1
  have q1 := hw1.1
  generalize stRW17 lr mu wd f ne Lw0 Lm0 Lg0 = XW0 at *
  generalize stRV17 lr mu wd f ne Lw0 Lm0 Lg0 = XV0 at *
  generalize stRW17 lr mu wd f ne Lw1 Lm1 Lg1 = XW1 at *
  generalize stRV17 lr mu wd f ne Lw1 Lm1 Lg1 = XV1 at *
  generalize stRW17 lr mu wd f ne (Lw0 ++ Lw1) (Lm0 ++ Lm1) (Lg0 ++ Lg1) = XWA at *
  generalize stRV17 lr mu wd f ne (Lw0 ++ Lw1) (Lm0 ++ Lm1) (Lg0 ++ Lg1) = XVA at *
  have HL : Hid (XW0.length ≤ 18 ∧ XV0.length ≤ 18 ∧ XW1.length ≤ 18 ∧ XV1.length ≤ 18) := Lib.hid (by omega)
  obtain ⟨b1_, b2_, b3_, b4_, b5_, b6_⟩ := k18
  have B1 := Lib.hid b1_
  have B2 := Lib.hid b2_
  have B3 := Lib.hid b3_
  have B4 := Lib.hid b4_
  have B5 := Lib.hid b5_
  have B6 := Lib.hid b6_
  clear b1_ b2_ b3_ b4_ b5_ b6_ hl0 hl1 q0 q1
  generalize stC17 lr mu wd f ne Lw0 Lm0 Lg0 = C0 at *
  generalize stC17 lr mu wd f ne Lw1 Lm1 Lg1 = C1 at *
  generalize stC17 lr mu wd f ne (Lw0 ++ Lw1) (Lm0 ++ Lm1) (Lg0 ++ Lg1) = CA at *
  have f0 : (C0 == 5) = false := beq_eq_false_iff_ne.2 h50
  have f1 : (C1 == 5) = true := beq_iff_eq.2 h5
  clear iL iU iD iF ew0 em0 ev0 eg0 ew1 em1 ev1 eg1 kw0 km0 kv0 kg0 kw1 km1 kv1 kg1 hf0 hf1 hv0 hv1 h5 h50
  have cc := Below.refl w.heap.size w
  go_enter Try.func5, Try.ntmps5
  go_upto_region 1 with fail
  generalize hv_ : (w.alloc (.cells #[.int .i64 lr, .int .i64 mu, .int .i64 wd, .bool ne] 23)).alloc (.cells #[.slice Aw0 nw0 cw0, .slice Am0 nm0 cm0, .slice Av0 nv0 cv0, .slice Ag0 ng0 cg0, .slice Aw1 nw1 cw1, .slice Am1 nm1 cm1, .slice Av1 nv1 cv1, .slice Ag1 ng1 cg1] 46) = v1
  have zl0 : v1.heap[w.heap.size + 1]? = some (.cells #[.slice Aw0 nw0 cw0, .slice Am0 nm0 cm0, .slice Av0 nv0 cv0, .slice Ag0 ng0 cg0, .slice Aw1 nw1 cw1, .slice Am1 nm1 cm1, .slice Av1 nv1 cv1, .slice Ag1 ng1 cg1] 46) := by rw [← hv_]; exact by have h := World.alloc_heap_new (w.alloc (.cells #[.int .i64 lr, .int .i64 mu, .int .i64 wd, .bool ne] 23)) (.cells #[.slice Aw0 nw0 cw0, .slice Am0 nm0 cm0, .slice Av0 nv0 cv0, .slice Ag0 ng0 cg0, .slice Aw1 nw1 cw1, .slice Am1 nm1 cm1, .slice Av1 nv1 cv1, .slice Ag1 ng1 cg1] 46); simpa only [World.size_alloc] using h
  have zm : v1.heap[w.heap.size]? = some (.cells #[.int .i64 lr, .int .i64 mu, .int .i64 wd, .bool ne] 23) := by rw [← hv_]; exact heap_up (World.alloc_heap_new _ _)
  have bA : Below w.heap.size w v1 := by rw [← hv_]; exact ((Below.refl _ w).alloc (by simp) _).alloc (by simp) _
  replace cc := cc.trans bA
  replace hw0 := hw0.on bA
  replace hm0 := hm0.on bA
  replace hg0 := hg0.on bA
  replace hw1 := hw1.on bA
  replace hm1 := hm1.on bA
  replace hg1 := hg1.on bA
  clear bA
  clear hv_
  have zl := HeapAt17.of zl0
  clear zl0
  obtain ⟨ma0, ma1, ma2, ma3⟩ := cells4 zm
  obtain ⟨la0, la1, la2, la3, la4, la5, la6, la7⟩ := cells8 zl
  have mal := (Array.getElem?_eq_some_iff.1 zm).1
  have lal := (Array.getElem?_eq_some_iff.1 zl).1
  clear zm
  go_wp2_with fail
  refine (CF0 _).mono ?_
  rintro e w1 ⟨rfl, b⟩
  replace hw0 := hw0.on b
  replace hm0 := hm0.on b
  replace hg0 := hg0.on b
  replace hw1 := hw1.on b
  replace hm1 := hm1.on b
  replace hg1 := hg1.on b
  replace zl := zl.on b
  rewrite [cR b mal] at ma0 ma1 ma2 ma3
  replace mal := lK b mal
  rewrite [cR b lal] at la0 la1 la2 la3 la4 la5 la6 la7
  replace lal := lK b lal
  replace cc := bK cc b
  clear b
  go_wp2_with fail
  refine (CF1 _).mono ?_
  rintro e w2 ⟨rfl, b⟩
  replace hw0 := hw0.on b
  replace hm0 := hm0.on b
  replace hg0 := hg0.on b
  replace hw1 := hw1.on b
  replace hm1 := hm1.on b
  replace hg1 := hg1.on b
  replace zl := zl.on b
  rewrite [cR b mal] at ma0 ma1 ma2 ma3
  replace mal := lK b mal
  rewrite [cR b lal] at la0 la1 la2 la3 la4 la5 la6 la7
  replace lal := lK b lal
  replace cc := bK cc b
  clear b
  go_upto_region 3 with fail
  refine ApR3 (Lv0 := []) (Lv1 := []) (by intro c a d v w h; cases d <;> exact h) zl hw0 B1.out hm0 B2.out hg0 B3.out hw1 B4.out hm1 B5.out hg1 B6.out ?_
  intro wA g0 g4 k4 g8 k8 g9 g13 k13 g17 k17 g18 g22 k22 g26 k26 gx zx iw im ig b
  replace hw0 := hw0.on b
  replace hm0 := hm0.on b
  replace hg0 := hg0.on b
  replace hw1 := hw1.on b
  replace hm1 := hm1.on b
  replace hg1 := hg1.on b
  replace zl := zl.on b
  rewrite [cR b mal] at ma0 ma1 ma2 ma3
  replace mal := lK b mal
  rewrite [cR b lal] at la0 la1 la2 la3 la4 la5 la6 la7
  replace lal := lK b lal
  replace cc := bK cc b
  clear b
  obtain ⟨bx0, bx1, bx2, bx3⟩ := cells4 zx
  have bxl := (Array.getElem?_eq_some_iff.1 zx).1
  clear zx zl
  go_wp2_with fail
  refine (CS0 hw0 hm0 hg0).mono ?_
  rintro e w3 ⟨Ap, np, cp, Bp, mp, dp, rfl, hxp, hyp, b⟩
  replace hw0 := hw0.on b
  replace hm0 := hm0.on b
  replace hg0 := hg0.on b
  replace hw1 := hw1.on b
  replace hm1 := hm1.on b
  replace hg1 := hg1.on b
  replace iw := iw.on b
  replace im := im.on b
  replace ig := ig.on b
  rewrite [cR b mal] at ma0 ma1 ma2 ma3
  replace mal := lK b mal
  rewrite [cR b lal] at la0 la1 la2 la3 la4 la5 la6 la7
  replace lal := lK b lal
  rewrite [cR b bxl] at bx0 bx1 bx2 bx3
  replace bxl := lK b bxl
  replace cc := bK cc b
  clear b
  clear hw0 hm0 hg0
  go_upto_region 5 with fail
  generalize hv_ : w3.alloc (.cells #[.slice Ap np cp, .slice Bp mp dp, .slice none 0 0, .slice none 0 0] 26) = v4
  have bA : Below w3.heap.size w3 v4 := by rw [← hv_]; exact below_one _ _
  replace hw1 := hw1.on bA
  replace hm1 := hm1.on bA
  replace hg1 := hg1.on bA
  replace iw := iw.on bA
  replace im := im.on bA
  replace ig := ig.on bA
  replace hxp := hxp.on bA
  replace hyp := hyp.on bA
  rewrite [cR bA mal] at ma0 ma1 ma2 ma3
  replace mal := lK bA mal
  rewrite [cR bA lal] at la0 la1 la2 la3 la4 la5 la6 la7
  replace lal := lK bA lal
  rewrite [cR bA bxl] at bx0 bx1 bx2 bx3
  replace bxl := lK bA bxl
  replace cc := bK cc bA
  clear bA
  have xs0 : v4.cell? ⟨w3.heap.size, 0, none⟩ = some (.slice Ap np cp) := by simp [← hv_, go_sem]
  have xs1 : v4.cell? ⟨w3.heap.size, 1, none⟩ = some (.slice Bp mp dp) := by simp [← hv_, go_sem]
  have xs2 : v4.cell? ⟨w3.heap.size, 2, none⟩ = some (.slice none 0 0) := by simp [← hv_, go_sem]
  have xs3 : v4.cell? ⟨w3.heap.size, 3, none⟩ = some (.slice none 0 0) := by simp [← hv_, go_sem]
  have xsl : w3.heap.size < v4.heap.size := by simp [← hv_]
  clear hv_
  go_wp2_with fail
  refine (CS1 hw1 hm1 hg1).mono ?_
  rintro e w5 ⟨Aq, nq, cq, Bq, mq, dq, rfl, hxq, hyq, b⟩
  replace hw1 := hw1.on b
  replace hm1 := hm1.on b
  replace hg1 := hg1.on b
  replace iw := iw.on b
  replace im := im.on b
  replace ig := ig.on b
  replace hxp := hxp.on b
  replace hyp := hyp.on b
  rewrite [cR b mal] at ma0 ma1 ma2 ma3
  replace mal := lK b mal
  rewrite [cR b lal] at la0 la1 la2 la3 la4 la5 la6 la7
  replace lal := lK b lal
  rewrite [cR b bxl] at bx0 bx1 bx2 bx3
  replace bxl := lK b bxl
  rewrite [cR b xsl] at xs0 xs1 xs2 xs3
  replace xsl := lK b xsl
  replace cc := bK cc b
  clear b
  clear hw1 hm1 hg1
  go_upto_region 6 with fail
  generalize hv_ : w5.alloc (.cells #[.slice Aq nq cq, .slice Bq mq dq, .slice none 0 0, .slice none 0 0] 26) = v6
  have bA : Below w5.heap.size w5 v6 := by rw [← hv_]; exact below_one _ _
  replace iw := iw.on bA
  replace im := im.on bA
  replace ig := ig.on bA
  replace hxp := hxp.on bA
  replace hyp := hyp.on bA
  replace hxq := hxq.on bA
  replace hyq := hyq.on bA
  rewrite [cR bA mal] at ma0 ma1 ma2 ma3
  replace mal := lK bA mal
  rewrite [cR bA lal] at la0 la1 la2 la3 la4 la5 la6 la7
  replace lal := lK bA lal
  rewrite [cR bA bxl] at bx0 bx1 bx2 bx3
  replace bxl := lK bA bxl
  rewrite [cR bA xsl] at xs0 xs1 xs2 xs3
  replace xsl := lK bA xsl
  replace cc := bK cc bA
  clear bA
  have ys0 : v6.cell? ⟨w5.heap.size, 0, none⟩ = some (.slice Aq nq cq) := by simp [← hv_, go_sem]
  have ys1 : v6.cell? ⟨w5.heap.size, 1, none⟩ = some (.slice Bq mq dq) := by simp [← hv_, go_sem]
  have ys2 : v6.cell? ⟨w5.heap.size, 2, none⟩ = some (.slice none 0 0) := by simp [← hv_, go_sem]
  have ys3 : v6.cell? ⟨w5.heap.size, 3, none⟩ = some (.slice none 0 0) := by simp [← hv_, go_sem]
  have ysl : w5.heap.size < v6.heap.size := by simp [← hv_]
  clear hv_
  clear la0 la1 la2 la3 la4 la5 la6 la7 lal
  go_wp2_with fail
  refine (CSA iw im ig).mono ?_
  rintro e w7 ⟨At, nt, ct, Bt, mt, dt, rfl, hxt, hyt, b⟩
  replace iw := iw.on b
  replace im := im.on b
  replace ig := ig.on b
  replace hxp := hxp.on b
  replace hyp := hyp.on b
  replace hxq := hxq.on b
  replace hyq := hyq.on b
  rewrite [cR b mal] at ma0 ma1 ma2 ma3
  replace mal := lK b mal
  rewrite [cR b bxl] at bx0 bx1 bx2 bx3
  replace bxl := lK b bxl
  rewrite [cR b xsl] at xs0 xs1 xs2 xs3
  replace xsl := lK b xsl
  rewrite [cR b ysl] at ys0 ys1 ys2 ys3
  replace ysl := lK b ysl
  replace cc := bK cc b
  clear b
  clear iw im ig
  go_upto_region 7 with fail
  generalize hv_ : w7.alloc (.cells #[.slice At nt ct, .slice Bt mt dt, .slice none 0 0, .slice none 0 0] 26) = v8
  have bA : Below w7.heap.size w7 v8 := by rw [← hv_]; exact below_one _ _
  replace hxp := hxp.on bA
  replace hyp := hyp.on bA
  replace hxq := hxq.on bA
  replace hyq := hyq.on bA
  replace hxt := hxt.on bA
  replace hyt := hyt.on bA
  rewrite [cR bA mal] at ma0 ma1 ma2 ma3
  replace mal := lK bA mal
  rewrite [cR bA bxl] at bx0 bx1 bx2 bx3
  replace bxl := lK bA bxl
  rewrite [cR bA xsl] at xs0 xs1 xs2 xs3
  replace xsl := lK bA xsl
  rewrite [cR bA ysl] at ys0 ys1 ys2 ys3
  replace ysl := lK bA ysl
  replace cc := bK cc bA
  clear bA
  have zs0 : v8.cell? ⟨w7.heap.size, 0, none⟩ = some (.slice At nt ct) := by simp [← hv_, go_sem]
  have zs1 : v8.cell? ⟨w7.heap.size, 1, none⟩ = some (.slice Bt mt dt) := by simp [← hv_, go_sem]
  have zs2 : v8.cell? ⟨w7.heap.size, 2, none⟩ = some (.slice none 0 0) := by simp [← hv_, go_sem]
  have zs3 : v8.cell? ⟨w7.heap.size, 3, none⟩ = some (.slice none 0 0) := by simp [← hv_, go_sem]
  have zsl : w7.heap.size < v8.heap.size := by simp [← hv_]
  clear hv_
  go_wp2_with fail
  refine (alive17_any _).mono ?_
  rintro e w9 ⟨rfl, b⟩
  replace hxp := hxp.on b
  replace hyp := hyp.on b
  replace hxq := hxq.on b
  replace hyq := hyq.on b
  replace hxt := hxt.on b
  replace hyt := hyt.on b
  rewrite [cR b mal] at ma0 ma1 ma2 ma3
  replace mal := lK b mal
  rewrite [cR b bxl] at bx0 bx1 bx2 bx3
  replace bxl := lK b bxl
  rewrite [cR b xsl] at xs0 xs1 xs2 xs3
  replace xsl := lK b xsl
  rewrite [cR b ysl] at ys0 ys1 ys2 ys3
  replace ysl := lK b ysl
  rewrite [cR b zsl] at zs0 zs1 zs2 zs3
  replace zsl := lK b zsl
  replace cc := bK cc b
  clear b
  go_wp2_with fail
  go_ret
  exact ⟨rfl, cc⟩

theorem MomApart_no {w : World} {lr mu wd f : Int} {ne : Bool} {Aw0 : Option Addr} {nw0 cw0 : Nat} {Lw0 : List Int} {Am0 : Option Addr} {nm0 cm0 : Nat} {Lm0 : List Int} {Av0 : Option Addr} {nv0 cv0 : Nat} {Lv0 : List Int} {Ag0 : Option Addr} {ng0 cg0 : Nat} {Lg0 : List Int} {Aw1 : Option Addr} {nw1 cw1 : Nat} {Lw1 : List Int} {Am1 : Option Addr} {nm1 cm1 : Nat} {Lm1 : List Int} {Av1 : Option Addr} {nv1 cv1 : Nat} {Lv1 : List Int} {Ag1 : Option Addr} {ng1 cg1 : Nat} {Lg1 : List Int} (iL : I64 lr) (iU : I64 mu) (iD : I64 wd) (iF : I64 f) (hw0 : IR w Aw0 nw0 cw0 Lw0) (hm0 : IR w Am0 nm0 cm0 Lm0) (hv0 : IR w Av0 nv0 cv0 Lv0) (hg0 : IR w Ag0 ng0 cg0 Lg0) (hw1 : IR w Aw1 nw1 cw1 Lw1) (hm1 : IR w Am1 nm1 cm1 Lm1) (hv1 : IR w Av1 nv1 cv1 Lv1) (hg1 : IR w Ag1 ng1 cg1 Lg1) (ew0 : ∀ z ∈ Lw0, I64 z) (em0 : ∀ z ∈ Lm0, I64 z) (ev0 : ∀ z ∈ Lv0, I64 z) (eg0 : ∀ z ∈ Lg0, I64 z) (ew1 : ∀ z ∈ Lw1, I64 z) (em1 : ∀ z ∈ Lm1, I64 z) (ev1 : ∀ z ∈ Lv1, I64 z) (eg1 : ∀ z ∈ Lg1, I64 z) (kw0 : nw0 ≤ 2305843009213693951) (km0 : nm0 ≤ 2305843009213693951) (kv0 : nv0 ≤ 2305843009213693951) (kg0 : ng0 ≤ 2305843009213693951) (kw1 : nw1 ≤ 2305843009213693951) (km1 : nm1 ≤ 2305843009213693951) (kv1 : nv1 ≤ 2305843009213693951) (kg1 : ng1 ≤ 2305843009213693951) (hf0 : ((nw0 + nm0 + nv0 + ng0 : Nat) : Int) ≤ 18) (hf1 : ((nw1 + nm1 + nv1 + ng1 : Nat) : Int) ≤ 18) (h50 : ¬ stC17 lr mu wd f ne Lw0 Lm0 Lg0 = 5) (h51 : ¬ stC17 lr mu wd f ne Lw1 Lm1 Lg1 = 5) (hc : ¬ (stC17 lr mu wd f ne Lw0 Lm0 Lg0 = 0 ∧ stC17 lr mu wd f ne Lw1 Lm1 Lg1 = 0)) :
    Calls Try.prog 5 #[.agg #[.int .i64 lr, .int .i64 mu, .int .i64 wd, .bool ne], .agg #[.slice Aw0 nw0 cw0, .slice Am0 nm0 cm0, .slice Av0 nv0 cv0, .slice Ag0 ng0 cg0, .slice Aw1 nw1 cw1, .slice Am1 nm1 cm1, .slice Av1 nv1 cv1, .slice Ag1 ng1 cg1], .int .i64 f] w (GotV w (.bool true)) := by
  have hA := apart_no h50 h51 hc
  have CF0 := fun W : World => nFew17_N (w := W) (Aw := Aw0) (cw := cw0) (Am := Am0) (cm := cm0) (Av := Av0) (cv := cv0) (Ag := Ag0) (cg := cg0) (most := 18) kw0 km0 kv0 kg0
  rw [decide_eq_true hf0] at CF0
  have CF1 := fun W : World => nFew17_N (w := W) (Aw := Aw1) (cw := cw1) (Am := Am1) (cm := cm1) (Av := Av1) (cv := cv1) (Ag := Ag1) (cg := cg1) (most := 18) kw1 km1 kv1 kg1
  rw [decide_eq_true hf1] at CF1
  have CS0 := fun {W : World} {Aw : Option Addr} {cw : Nat} {Am : Option Addr} {cm : Nat} {Av : Option Addr} {nv cv : Nat} {Ag : Option Addr} {cg : Nat} (a : IR W Aw nw0 cw Lw0) (b : IR W Am nm0 cm Lm0) (c : IR W Ag ng0 cg Lg0) => (mStep_N (ne := ne) (Av := Av) (nv := nv) (cv := cv) iL iU iD iF a b c ew0 em0 eg0 (by omega) (by omega) (by omega)).mono (fun e w h => h.weak)
  have CS1 := fun {W : World} {Aw : Option Addr} {cw : Nat} {Am : Option Addr} {cm : Nat} {Av : Option Addr} {nv cv : Nat} {Ag : Option Addr} {cg : Nat} (a : IR W Aw nw1 cw Lw1) (b : IR W Am nm1 cm Lm1) (c : IR W Ag ng1 cg Lg1) => (mStep_N (ne := ne) (Av := Av) (nv := nv) (cv := cv) iL iU iD iF a b c ew1 em1 eg1 (by omega) (by omega) (by omega)).mono (fun e w h => h.weak)
  have CSA := fun {W : World} {Aw : Option Addr} {cw : Nat} {Am : Option Addr} {cm : Nat} {Ag : Option Addr} {cg : Nat} (a : IR W Aw (nw0 + nw1) cw (Lw0 ++ Lw1)) (b : IR W Am (nm0 + nm1) cm (Lm0 ++ Lm1)) (c : IR W Ag (ng0 + ng1) cg (Lg0 ++ Lg1)) => (mStep_N (ne := ne) (Av := none) (nv := 0) (cv := 0) iL iU iD iF a b c (mem_both ew0 ew1) (mem_both em0 em1) (mem_both eg0 eg1) (by omega) (by omega) (by omega)).mono (fun e w h => h.weak)
  have hl0 := len17 (lr := lr) (mu := mu) (wd := wd) (f := f) (ne := ne) (LW := Lw0) (LM := Lm0) (LG := Lg0)
  have hl1 := len17 (lr := lr) (mu := mu) (wd := wd) (f := f) (ne := ne) (LW := Lw1) (LM := Lm1) (LG := Lg1)
  have k18 : nw0 ≤ 18 ∧ nm0 ≤ 18 ∧ ng0 ≤ 18 ∧ nw1 ≤ 18 ∧ nm1 ≤ 18 ∧ ng1 ≤ 18 := by omega
  have q0 := hw0.1
  have q1 := hw1.1
  generalize stRW17 lr mu wd f ne Lw0 Lm0 Lg0 = XW0 at *
  generalize stRV17 lr mu wd f ne Lw0 Lm0 Lg0 = XV0 at *
  generalize stRW17 lr mu wd f ne Lw1 Lm1 Lg1 = XW1 at *
  generalize stRV17 lr mu wd f ne Lw1 Lm1 Lg1 = XV1 at *
  generalize stRW17 lr mu wd f ne (Lw0 ++ Lw1) (Lm0 ++ Lm1) (Lg0 ++ Lg1) = XWA at *
  generalize stRV17 lr mu wd f ne (Lw0 ++ Lw1) (Lm0 ++ Lm1) (Lg0 ++ Lg1) = XVA at *
  have HL : Hid (XW0.length ≤ 18 ∧ XV0.length ≤ 18 ∧ XW1.length ≤ 18 ∧ XV1.length ≤ 18) := Lib.hid (by omega)
  obtain ⟨b1_, b2_, b3_, b4_, b5_, b6_⟩ := k18
  have B1 := Lib.hid b1_
  have B2 := Lib.hid b2_
  have B3 := Lib.hid b3_
  have B4 := Lib.hid b4_
  have B5 := Lib.hid b5_
  have B6 := Lib.hid b6_
  clear b1_ b2_ b3_ b4_ b5_ b6_ hl0 hl1 q0 q1
  generalize stC17 lr mu wd f ne Lw0 Lm0 Lg0 = C0 at *
  generalize stC17 lr mu wd f ne Lw1 Lm1 Lg1 = C1 at *
  generalize stC17 lr mu wd f ne (Lw0 ++ Lw1) (Lm0 ++ Lm1) (Lg0 ++ Lg1) = CA at *
  have f0 : (C0 == 5) = false := beq_eq_false_iff_ne.2 h50
  have f1 : (C1 == 5) = false := beq_eq_false_iff_ne.2 h51
  have fA : (CA == 0) = false := beq_eq_false_iff_ne.2 hA
  have fB : (CA != 0) = true := by simpa using hA
  have HQ := Lib.hid (nz17 hc)
  clear iL iU iD iF ew0 em0 ev0 eg0 ew1 em1 ev1 eg1 kw0 km0 kv0 kg0 kw1 km1 kv1 kg1 hf0 hf1 hv0 hv1 h50 h51 hA hc
  have cc := Below.refl w.heap.size w
  go_enter Try.func5, Try.ntmps5
  go_upto_region 1 with fail
  generalize hv_ : (w.alloc (.cells #[.int .i64 lr, .int .i64 mu, .int .i64 wd, .bool ne] 23)).alloc (.cells #[.slice Aw0 nw0 cw0, .slice Am0 nm0 cm0, .slice Av0 nv0 cv0, .slice Ag0 ng0 cg0, .slice Aw1 nw1 cw1, .slice Am1 nm1 cm1, .slice Av1 nv1 cv1, .slice Ag1 ng1 cg1] 46) = v1
  have zl0 : v1.heap[w.heap.size + 1]? = some (.cells #[.slice Aw0 nw0 cw0, .slice Am0 nm0 cm0, .slice Av0 nv0 cv0, .slice Ag0 ng0 cg0, .slice Aw1 nw1 cw1, .slice Am1 nm1 cm1, .slice Av1 nv1 cv1, .slice Ag1 ng1 cg1] 46) := by rw [← hv_]; exact by have h := World.alloc_heap_new (w.alloc (.cells #[.int .i64 lr, .int .i64 mu, .int .i64 wd, .bool ne] 23)) (.cells #[.slice Aw0 nw0 cw0, .slice Am0 nm0 cm0, .slice Av0 nv0 cv0, .slice Ag0 ng0 cg0, .slice Aw1 nw1 cw1, .slice Am1 nm1 cm1, .slice Av1 nv1 cv1, .slice Ag1 ng1 cg1] 46); simpa only [World.size_alloc] using h
  have zm : v1.heap[w.heap.size]? = some (.cells #[.int .i64 lr, .int .i64 mu, .int .i64 wd, .bool ne] 23) := by rw [← hv_]; exact heap_up (World.alloc_heap_new _ _)
  have bA : Below w.heap.size w v1 := by rw [← hv_]; exact ((Below.refl _ w).alloc (by simp) _).alloc (by simp) _
  replace cc := cc.trans bA
  replace hw0 := hw0.on bA
  replace hm0 := hm0.on bA
  replace hg0 := hg0.on bA
  replace hw1 := hw1.on bA
  replace hm1 := hm1.on bA
  replace hg1 := hg1.on bA
  clear bA
  clear hv_
  have zl := HeapAt17.of zl0
  clear zl0
  obtain ⟨ma0, ma1, ma2, ma3⟩ := cells4 zm
  obtain ⟨la0, la1, la2, la3, la4, la5, la6, la7⟩ := cells8 zl
  have mal := (Array.getElem?_eq_some_iff.1 zm).1
  have lal := (Array.getElem?_eq_some_iff.1 zl).1
  clear zm
  go_wp2_with fail
  refine (CF0 _).mono ?_
  rintro e w1 ⟨rfl, b⟩
  replace hw0 := hw0.on b
  replace hm0 := hm0.on b
  replace hg0 := hg0.on b
  replace hw1 := hw1.on b
  replace hm1 := hm1.on b
  replace hg1 := hg1.on b
  replace zl := zl.on b
  rewrite [cR b mal] at ma0 ma1 ma2 ma3
  replace mal := lK b mal
  rewrite [cR b lal] at la0 la1 la2 la3 la4 la5 la6 la7
  replace lal := lK b lal
  replace cc := bK cc b
  clear b
  go_wp2_with fail
  refine (CF1 _).mono ?_
  rintro e w2 ⟨rfl, b⟩
  replace hw0 := hw0.on b
  replace hm0 := hm0.on b
  replace hg0 := hg0.on b
  replace hw1 := hw1.on b
  replace hm1 := hm1.on b
  replace hg1 := hg1.on b
  replace zl := zl.on b
  rewrite [cR b mal] at ma0 ma1 ma2 ma3
  replace mal := lK b mal
  rewrite [cR b lal] at la0 la1 la2 la3 la4 la5 la6 la7
  replace lal := lK b lal
  replace cc := bK cc b
  clear b
  go_upto_region 3 with fail
  refine ApR3 (Lv0 := []) (Lv1 := []) (by intro c a d v w h; cases d <;> exact h) zl hw0 B1.out hm0 B2.out hg0 B3.out hw1 B4.out hm1 B5.out hg1 B6.out ?_
  intro wA g0 g4 k4 g8 k8 g9 g13 k13 g17 k17 g18 g22 k22 g26 k26 gx zx iw im ig b
  replace hw0 := hw0.on b
  replace hm0 := hm0.on b
  replace hg0 := hg0.on b
  replace hw1 := hw1.on b
  replace hm1 := hm1.on b
  replace hg1 := hg1.on b
  replace zl := zl.on b
  rewrite [cR b mal] at ma0 ma1 ma2 ma3
  replace mal := lK b mal
  rewrite [cR b lal] at la0 la1 la2 la3 la4 la5 la6 la7
  replace lal := lK b lal
  replace cc := bK cc b
  clear b
  obtain ⟨bx0, bx1, bx2, bx3⟩ := cells4 zx
  have bxl := (Array.getElem?_eq_some_iff.1 zx).1
  clear zx zl
  go_wp2_with fail
  refine (CS0 hw0 hm0 hg0).mono ?_
  rintro e w3 ⟨Ap, np, cp, Bp, mp, dp, rfl, hxp, hyp, b⟩
  replace hw0 := hw0.on b
  replace hm0 := hm0.on b
  replace hg0 := hg0.on b
  replace hw1 := hw1.on b
  replace hm1 := hm1.on b
  replace hg1 := hg1.on b
  replace iw := iw.on b
  replace im := im.on b
  replace ig := ig.on b
  rewrite [cR b mal] at ma0 ma1 ma2 ma3
  replace mal := lK b mal
  rewrite [cR b lal] at la0 la1 la2 la3 la4 la5 la6 la7
  replace lal := lK b lal
  rewrite [cR b bxl] at bx0 bx1 bx2 bx3
  replace bxl := lK b bxl
  replace cc := bK cc b
  clear b
  clear hw0 hm0 hg0
  go_upto_region 5 with fail
  generalize hv_ : w3.alloc (.cells #[.slice Ap np cp, .slice Bp mp dp, .slice none 0 0, .slice none 0 0] 26) = v4
  have bA : Below w3.heap.size w3 v4 := by rw [← hv_]; exact below_one _ _
  replace hw1 := hw1.on bA
  replace hm1 := hm1.on bA
  replace hg1 := hg1.on bA
  replace iw := iw.on bA
  replace im := im.on bA
  replace ig := ig.on bA
  replace hxp := hxp.on bA
  replace hyp := hyp.on bA
  rewrite [cR bA mal] at ma0 ma1 ma2 ma3
  replace mal := lK bA mal
  rewrite [cR bA lal] at la0 la1 la2 la3 la4 la5 la6 la7
  replace lal := lK bA lal
  rewrite [cR bA bxl] at bx0 bx1 bx2 bx3
  replace bxl := lK bA bxl
  replace cc := bK cc bA
  clear bA
  have xs0 : v4.cell? ⟨w3.heap.size, 0, none⟩ = some (.slice Ap np cp) := by simp [← hv_, go_sem]
  have xs1 : v4.cell? ⟨w3.heap.size, 1, none⟩ = some (.slice Bp mp dp) := by simp [← hv_, go_sem]
  have xs2 : v4.cell? ⟨w3.heap.size, 2, none⟩ = some (.slice none 0 0) := by simp [← hv_, go_sem]
  have xs3 : v4.cell? ⟨w3.heap.size, 3, none⟩ = some (.slice none 0 0) := by simp [← hv_, go_sem]
  have xsl : w3.heap.size < v4.heap.size := by simp [← hv_]
  clear hv_
  go_wp2_with fail
  refine (CS1 hw1 hm1 hg1).mono ?_
  rintro e w5 ⟨Aq, nq, cq, Bq, mq, dq, rfl, hxq, hyq, b⟩
  replace hw1 := hw1.on b
  replace hm1 := hm1.on b
  replace hg1 := hg1.on b
  replace iw := iw.on b
  replace im := im.on b
  replace ig := ig.on b
  replace hxp := hxp.on b
  replace hyp := hyp.on b
  rewrite [cR b mal] at ma0 ma1 ma2 ma3
  replace mal := lK b mal
  rewrite [cR b lal] at la0 la1 la2 la3 la4 la5 la6 la7
  replace lal := lK b lal
  rewrite [cR b bxl] at bx0 bx1 bx2 bx3
  replace bxl := lK b bxl
  rewrite [cR b xsl] at xs0 xs1 xs2 xs3
  replace xsl := lK b xsl
  replace cc := bK cc b
  clear b
  clear hw1 hm1 hg1
  go_upto_region 6 with fail
  generalize hv_ : w5.alloc (.cells #[.slice Aq nq cq, .slice Bq mq dq, .slice none 0 0, .slice none 0 0] 26) = v6
  have bA : Below w5.heap.size w5 v6 := by rw [← hv_]; exact below_one _ _
  replace iw := iw.on bA
  replace im := im.on bA
  replace ig := ig.on bA
  replace hxp := hxp.on bA
  replace hyp := hyp.on bA
  replace hxq := hxq.on bA
  replace hyq := hyq.on bA
  rewrite [cR bA mal] at ma0 ma1 ma2 ma3
  replace mal := lK bA mal
  rewrite [cR bA lal] at la0 la1 la2 la3 la4 la5 la6 la7
  replace lal := lK bA lal
  rewrite [cR bA bxl] at bx0 bx1 bx2 bx3
  replace bxl := lK bA bxl
  rewrite [cR bA xsl] at xs0 xs1 xs2 xs3
  replace xsl := lK bA xsl
  replace cc := bK cc bA
  clear bA
  have ys0 : v6.cell? ⟨w5.heap.size, 0, none⟩ = some (.slice Aq nq cq) := by simp [← hv_, go_sem]
  have ys1 : v6.cell? ⟨w5.heap.size, 1, none⟩ = some (.slice Bq mq dq) := by simp [← hv_, go_sem]
  have ys2 : v6.cell? ⟨w5.heap.size, 2, none⟩ = some (.slice none 0 0) := by simp [← hv_, go_sem]
  have ys3 : v6.cell? ⟨w5.heap.size, 3, none⟩ = some (.slice none 0 0) := by simp [← hv_, go_sem]
  have ysl : w5.heap.size < v6.heap.size := by simp [← hv_]
  clear hv_
  clear la0 la1 la2 la3 la4 la5 la6 la7 lal
  go_wp2_with fail
  refine (CSA iw im ig).mono ?_
  rintro e w7 ⟨At, nt, ct, Bt, mt, dt, rfl, hxt, hyt, b⟩
  replace iw := iw.on b
  replace im := im.on b
  replace ig := ig.on b
  replace hxp := hxp.on b
  replace hyp := hyp.on b
  replace hxq := hxq.on b
  replace hyq := hyq.on b
  rewrite [cR b mal] at ma0 ma1 ma2 ma3
  replace mal := lK b mal
  rewrite [cR b bxl] at bx0 bx1 bx2 bx3
  replace bxl := lK b bxl
  rewrite [cR b xsl] at xs0 xs1 xs2 xs3
  replace xsl := lK b xsl
  rewrite [cR b ysl] at ys0 ys1 ys2 ys3
  replace ysl := lK b ysl
  replace cc := bK cc b
  clear b
  clear iw im ig
  go_upto_region 7 with fail
  generalize hv_ : w7.alloc (.cells #[.slice At nt ct, .slice Bt mt dt, .slice none 0 0, .slice none 0 0] 26) = v8
  have bA : Below w7.heap.size w7 v8 := by rw [← hv_]; exact below_one _ _
  replace hxp := hxp.on bA
  replace hyp := hyp.on bA
  replace hxq := hxq.on bA
  replace hyq := hyq.on bA
  replace hxt := hxt.on bA
  replace hyt := hyt.on bA
  rewrite [cR bA mal] at ma0 ma1 ma2 ma3
  replace mal := lK bA mal
  rewrite [cR bA bxl] at bx0 bx1 bx2 bx3
  replace bxl := lK bA bxl
  rewrite [cR bA xsl] at xs0 xs1 xs2 xs3
  replace xsl := lK bA xsl
  rewrite [cR bA ysl] at ys0 ys1 ys2 ys3
  replace ysl := lK bA ysl
  replace cc := bK cc bA
  clear bA
  have zs0 : v8.cell? ⟨w7.heap.size, 0, none⟩ = some (.slice At nt ct) := by simp [← hv_, go_sem]
  have zs1 : v8.cell? ⟨w7.heap.size, 1, none⟩ = some (.slice Bt mt dt) := by simp [← hv_, go_sem]
  have zs2 : v8.cell? ⟨w7.heap.size, 2, none⟩ = some (.slice none 0 0) := by simp [← hv_, go_sem]
  have zs3 : v8.cell? ⟨w7.heap.size, 3, none⟩ = some (.slice none 0 0) := by simp [← hv_, go_sem]
  have zsl : w7.heap.size < v8.heap.size := by simp [← hv_]
  clear hv_
  go_upto_region 9 with fail
  rcases HQ.out with ⟨a1, a2⟩ | ⟨⟨a1, a2⟩, a3, a4⟩
  all_goals go_wp2_with fail
  all_goals refine (alive17_any _).mono ?_
  all_goals rintro e w9 ⟨rfl, b⟩
  all_goals replace cc := bK cc b
  all_goals clear b
  all_goals go_wp2_with fail
  all_goals go_ret
  all_goals exact ⟨rfl, cc⟩

theorem MomApart_yes {w : World} {lr mu wd f : Int} {ne : Bool} {Aw0 : Option Addr} {nw0 cw0 : Nat} {Lw0 : List Int} {Am0 : Option Addr} {nm0 cm0 : Nat} {Lm0 : List Int} {Av0 : Option Addr} {nv0 cv0 : Nat} {Lv0 : List Int} {Ag0 : Option Addr} {ng0 cg0 : Nat} {Lg0 : List Int} {Aw1 : Option Addr} {nw1 cw1 : Nat} {Lw1 : List Int} {Am1 : Option Addr} {nm1 cm1 : Nat} {Lm1 : List Int} {Av1 : Option Addr} {nv1 cv1 : Nat} {Lv1 : List Int} {Ag1 : Option Addr} {ng1 cg1 : Nat} {Lg1 : List Int} (iL : I64 lr) (iU : I64 mu) (iD : I64 wd) (iF : I64 f) (hw0 : IR w Aw0 nw0 cw0 Lw0) (hm0 : IR w Am0 nm0 cm0 Lm0) (hv0 : IR w Av0 nv0 cv0 Lv0) (hg0 : IR w Ag0 ng0 cg0 Lg0) (hw1 : IR w Aw1 nw1 cw1 Lw1) (hm1 : IR w Am1 nm1 cm1 Lm1) (hv1 : IR w Av1 nv1 cv1 Lv1) (hg1 : IR w Ag1 ng1 cg1 Lg1) (ew0 : ∀ z ∈ Lw0, I64 z) (em0 : ∀ z ∈ Lm0, I64 z) (ev0 : ∀ z ∈ Lv0, I64 z) (eg0 : ∀ z ∈ Lg0, I64 z) (ew1 : ∀ z ∈ Lw1, I64 z) (em1 : ∀ z ∈ Lm1, I64 z) (ev1 : ∀ z ∈ Lv1, I64 z) (eg1 : ∀ z ∈ Lg1, I64 z) (kw0 : nw0 ≤ 2305843009213693951) (km0 : nm0 ≤ 2305843009213693951) (kv0 : nv0 ≤ 2305843009213693951) (kg0 : ng0 ≤ 2305843009213693951) (kw1 : nw1 ≤ 2305843009213693951) (km1 : nm1 ≤ 2305843009213693951) (kv1 : nv1 ≤ 2305843009213693951) (kg1 : ng1 ≤ 2305843009213693951) (hf0 : ((nw0 + nm0 + nv0 + ng0 : Nat) : Int) ≤ 18) (hf1 : ((nw1 + nm1 + nv1 + ng1 : Nat) : Int) ≤ 18) (hc0 : stC17 lr mu wd f ne Lw0 Lm0 Lg0 = 0) (hc1 : stC17 lr mu wd f ne Lw1 Lm1 Lg1 = 0) :
    Calls Try.prog 5 #[.agg #[.int .i64 lr, .int .i64 mu, .int .i64 wd, .bool ne], .agg #[.slice Aw0 nw0 cw0, .slice Am0 nm0 cm0, .slice Av0 nv0 cv0, .slice Ag0 ng0 cg0, .slice Aw1 nw1 cw1, .slice Am1 nm1 cm1, .slice Av1 nv1 cv1, .slice Ag1 ng1 cg1], .int .i64 f] w (GotV w (.bool true)) := by
  have CF0 := fun W : World => nFew17_N (w := W) (Aw := Aw0) (cw := cw0) (Am := Am0) (cm := cm0) (Av := Av0) (cv := cv0) (Ag := Ag0) (cg := cg0) (most := 18) kw0 km0 kv0 kg0
  rw [decide_eq_true hf0] at CF0
  have CF1 := fun W : World => nFew17_N (w := W) (Aw := Aw1) (cw := cw1) (Am := Am1) (cm := cm1) (Av := Av1) (cv := cv1) (Ag := Ag1) (cg := cg1) (most := 18) kw1 km1 kv1 kg1
  rw [decide_eq_true hf1] at CF1
  have CS0 := fun {W : World} {Aw : Option Addr} {cw : Nat} {Am : Option Addr} {cm : Nat} {Av : Option Addr} {nv cv : Nat} {Ag : Option Addr} {cg : Nat} (a : IR W Aw nw0 cw Lw0) (b : IR W Am nm0 cm Lm0) (c : IR W Ag ng0 cg Lg0) => (mStep_N (ne := ne) (Av := Av) (nv := nv) (cv := cv) iL iU iD iF a b c ew0 em0 eg0 (by omega) (by omega) (by omega)).mono (fun e w h => h.weak)
  have CS1 := fun {W : World} {Aw : Option Addr} {cw : Nat} {Am : Option Addr} {cm : Nat} {Av : Option Addr} {nv cv : Nat} {Ag : Option Addr} {cg : Nat} (a : IR W Aw nw1 cw Lw1) (b : IR W Am nm1 cm Lm1) (c : IR W Ag ng1 cg Lg1) => (mStep_N (ne := ne) (Av := Av) (nv := nv) (cv := cv) iL iU iD iF a b c ew1 em1 eg1 (by omega) (by omega) (by omega)).mono (fun e w h => h.weak)
  have CSA := fun {W : World} {Aw : Option Addr} {cw : Nat} {Am : Option Addr} {cm : Nat} {Ag : Option Addr} {cg : Nat} (a : IR W Aw (nw0 + nw1) cw (Lw0 ++ Lw1)) (b : IR W Am (nm0 + nm1) cm (Lm0 ++ Lm1)) (c : IR W Ag (ng0 + ng1) cg (Lg0 ++ Lg1)) => (mStep_N (ne := ne) (Av := none) (nv := 0) (cv := 0) iL iU iD iF a b c (mem_both ew0 ew1) (mem_both em0 em1) (mem_both eg0 eg1) (by omega) (by omega) (by omega)).mono (fun e w h => h.weak)
  have hap := apart_yes hc0 hc1
  rw [hap.1, hap.2.1, hap.2.2] at CSA
  clear hap
  rw [hc0] at CS0
  rw [hc1] at CS1
  have hl0 := len17 (lr := lr) (mu := mu) (wd := wd) (f := f) (ne := ne) (LW := Lw0) (LM := Lm0) (LG := Lg0)
  have hl1 := len17 (lr := lr) (mu := mu) (wd := wd) (f := f) (ne := ne) (LW := Lw1) (LM := Lm1) (LG := Lg1)
  have k18 : nw0 ≤ 18 ∧ nm0 ≤ 18 ∧ ng0 ≤ 18 ∧ nw1 ≤ 18 ∧ nm1 ≤ 18 ∧ ng1 ≤ 18 := by omega
  have q0 := hw0.1
  have q1 := hw1.1
  generalize stRW17 lr mu wd f ne Lw0 Lm0 Lg0 = XW0 at *
  generalize stRV17 lr mu wd f ne Lw0 Lm0 Lg0 = XV0 at *
  generalize stRW17 lr mu wd f ne Lw1 Lm1 Lg1 = XW1 at *
  generalize stRV17 lr mu wd f ne Lw1 Lm1 Lg1 = XV1 at *
  have HL : Hid (XW0.length ≤ 18 ∧ XV0.length ≤ 18 ∧ XW1.length ≤ 18 ∧ XV1.length ≤ 18) := Lib.hid (by omega)
  obtain ⟨b1_, b2_, b3_, b4_, b5_, b6_⟩ := k18
  have B1 := Lib.hid b1_
  have B2 := Lib.hid b2_
  have B3 := Lib.hid b3_
  have B4 := Lib.hid b4_
  have B5 := Lib.hid b5_
  have B6 := Lib.hid b6_
  clear b1_ b2_ b3_ b4_ b5_ b6_ hl0 hl1 q0 q1
  have f0 : ((0 : Int) == 5) = false := rfl
  have HC9 : ∀ {W : World} {A B : Option Addr} {n c m d : Nat} {L : List Int}, IR W A n c L → IR W B m d L → L.length ≤ 36 → Calls Try.prog 21 #[.slice A n c, .slice B m d] W (GotV W (.bool true)) := fun a b e => by have h := rsameI_N a b (by rw [a.1]; omega); rw [decide_eq_true rfl] at h; exact h
  clear iL iU iD iF ew0 em0 ev0 eg0 ew1 em1 ev1 eg1 kw0 km0 kv0 kg0 kw1 km1 kv1 kg1 hf0 hf1 hv0 hv1 hc0 hc1
  have cc := Below.refl w.heap.size w
  go_enter Try.func5, Try.ntmps5
  go_upto_region 1 with fail
  generalize hv_ : (w.alloc (.cells #[.int .i64 lr, .int .i64 mu, .int .i64 wd, .bool ne] 23)).alloc (.cells #[.slice Aw0 nw0 cw0, .slice Am0 nm0 cm0, .slice Av0 nv0 cv0, .slice Ag0 ng0 cg0, .slice Aw1 nw1 cw1, .slice Am1 nm1 cm1, .slice Av1 nv1 cv1, .slice Ag1 ng1 cg1] 46) = v1
  have zl0 : v1.heap[w.heap.size + 1]? = some (.cells #[.slice Aw0 nw0 cw0, .slice Am0 nm0 cm0, .slice Av0 nv0 cv0, .slice Ag0 ng0 cg0, .slice Aw1 nw1 cw1, .slice Am1 nm1 cm1, .slice Av1 nv1 cv1, .slice Ag1 ng1 cg1] 46) := by rw [← hv_]; exact by have h := World.alloc_heap_new (w.alloc (.cells #[.int .i64 lr, .int .i64 mu, .int .i64 wd, .bool ne] 23)) (.cells #[.slice Aw0 nw0 cw0, .slice Am0 nm0 cm0, .slice Av0 nv0 cv0, .slice Ag0 ng0 cg0, .slice Aw1 nw1 cw1, .slice Am1 nm1 cm1, .slice Av1 nv1 cv1, .slice Ag1 ng1 cg1] 46); simpa only [World.size_alloc] using h
  have zm : v1.heap[w.heap.size]? = some (.cells #[.int .i64 lr, .int .i64 mu, .int .i64 wd, .bool ne] 23) := by rw [← hv_]; exact heap_up (World.alloc_heap_new _ _)
  have bA : Below w.heap.size w v1 := by rw [← hv_]; exact ((Below.refl _ w).alloc (by simp) _).alloc (by simp) _
  replace cc := cc.trans bA
  replace hw0 := hw0.on bA
  replace hm0 := hm0.on bA
  replace hg0 := hg0.on bA
  replace hw1 := hw1.on bA
  replace hm1 := hm1.on bA
  replace hg1 := hg1.on bA
  clear bA
  clear hv_
  have zl := HeapAt17.of zl0
  clear zl0
  obtain ⟨ma0, ma1, ma2, ma3⟩ := cells4 zm
  obtain ⟨la0, la1, la2, la3, la4, la5, la6, la7⟩ := cells8 zl
  have mal := (Array.getElem?_eq_some_iff.1 zm).1
  have lal := (Array.getElem?_eq_some_iff.1 zl).1
  clear zm
  go_wp2_with fail
  refine (CF0 _).mono ?_
  rintro e w1 ⟨rfl, b⟩
  replace hw0 := hw0.on b
  replace hm0 := hm0.on b
  replace hg0 := hg0.on b
  replace hw1 := hw1.on b
  replace hm1 := hm1.on b
  replace hg1 := hg1.on b
  replace zl := zl.on b
  rewrite [cR b mal] at ma0 ma1 ma2 ma3
  replace mal := lK b mal
  rewrite [cR b lal] at la0 la1 la2 la3 la4 la5 la6 la7
  replace lal := lK b lal
  replace cc := bK cc b
  clear b
  go_wp2_with fail
  refine (CF1 _).mono ?_
  rintro e w2 ⟨rfl, b⟩
  replace hw0 := hw0.on b
  replace hm0 := hm0.on b
  replace hg0 := hg0.on b
  replace hw1 := hw1.on b
  replace hm1 := hm1.on b
  replace hg1 := hg1.on b
  replace zl := zl.on b
  rewrite [cR b mal] at ma0 ma1 ma2 ma3
  replace mal := lK b mal
  rewrite [cR b lal] at la0 la1 la2 la3 la4 la5 la6 la7
  replace lal := lK b lal
  replace cc := bK cc b
  clear b
  go_upto_region 3 with fail
  refine ApR3 (Lv0 := []) (Lv1 := []) (by intro c a d v w h; cases d <;> exact h) zl hw0 B1.out hm0 B2.out hg0 B3.out hw1 B4.out hm1 B5.out hg1 B6.out ?_
  intro wA g0 g4 k4 g8 k8 g9 g13 k13 g17 k17 g18 g22 k22 g26 k26 gx zx iw im ig b
  replace hw0 := hw0.on b
  replace hm0 := hm0.on b
  replace hg0 := hg0.on b
  replace hw1 := hw1.on b
  replace hm1 := hm1.on b
  replace hg1 := hg1.on b
  replace zl := zl.on b
  rewrite [cR b mal] at ma0 ma1 ma2 ma3
  replace mal := lK b mal
  rewrite [cR b lal] at la0 la1 la2 la3 la4 la5 la6 la7
  replace lal := lK b lal
  replace cc := bK cc b
  clear b
  obtain ⟨bx0, bx1, bx2, bx3⟩ := cells4 zx
  have bxl := (Array.getElem?_eq_some_iff.1 zx).1
  clear zx zl
  go_wp2_with fail
  refine (CS0 hw0 hm0 hg0).mono ?_
  rintro e w3 ⟨Ap, np, cp, Bp, mp, dp, rfl, hxp, hyp, b⟩
  replace hw0 := hw0.on b
  replace hm0 := hm0.on b
  replace hg0 := hg0.on b
  replace hw1 := hw1.on b
  replace hm1 := hm1.on b
  replace hg1 := hg1.on b
  replace iw := iw.on b
  replace im := im.on b
  replace ig := ig.on b
  rewrite [cR b mal] at ma0 ma1 ma2 ma3
  replace mal := lK b mal
  rewrite [cR b lal] at la0 la1 la2 la3 la4 la5 la6 la7
  replace lal := lK b lal
  rewrite [cR b bxl] at bx0 bx1 bx2 bx3
  replace bxl := lK b bxl
  replace cc := bK cc b
  clear b
  clear hw0 hm0 hg0
  go_upto_region 5 with fail
  generalize hv_ : w3.alloc (.cells #[.slice Ap np cp, .slice Bp mp dp, .slice none 0 0, .slice none 0 0] 26) = v4
  have bA : Below w3.heap.size w3 v4 := by rw [← hv_]; exact below_one _ _
  replace hw1 := hw1.on bA
  replace hm1 := hm1.on bA
  replace hg1 := hg1.on bA
  replace iw := iw.on bA
  replace im := im.on bA
  replace ig := ig.on bA
  replace hxp := hxp.on bA
  replace hyp := hyp.on bA
  rewrite [cR bA mal] at ma0 ma1 ma2 ma3
  replace mal := lK bA mal
  rewrite [cR bA lal] at la0 la1 la2 la3 la4 la5 la6 la7
  replace lal := lK bA lal
  rewrite [cR bA bxl] at bx0 bx1 bx2 bx3
  replace bxl := lK bA bxl
  replace cc := bK cc bA
  clear bA
  have xs0 : v4.cell? ⟨w3.heap.size, 0, none⟩ = some (.slice Ap np cp) := by simp [← hv_, go_sem]
  have xs1 : v4.cell? ⟨w3.heap.size, 1, none⟩ = some (.slice Bp mp dp) := by simp [← hv_, go_sem]
  have xs2 : v4.cell? ⟨w3.heap.size, 2, none⟩ = some (.slice none 0 0) := by simp [← hv_, go_sem]
  have xs3 : v4.cell? ⟨w3.heap.size, 3, none⟩ = some (.slice none 0 0) := by simp [← hv_, go_sem]
  have xsl : w3.heap.size < v4.heap.size := by simp [← hv_]
  clear hv_
  go_wp2_with fail
  refine (CS1 hw1 hm1 hg1).mono ?_
  rintro e w5 ⟨Aq, nq, cq, Bq, mq, dq, rfl, hxq, hyq, b⟩
  replace hw1 := hw1.on b
  replace hm1 := hm1.on b
  replace hg1 := hg1.on b
  replace iw := iw.on b
  replace im := im.on b
  replace ig := ig.on b
  replace hxp := hxp.on b
  replace hyp := hyp.on b
  rewrite [cR b mal] at ma0 ma1 ma2 ma3
  replace mal := lK b mal
  rewrite [cR b lal] at la0 la1 la2 la3 la4 la5 la6 la7
  replace lal := lK b lal
  rewrite [cR b bxl] at bx0 bx1 bx2 bx3
  replace bxl := lK b bxl
  rewrite [cR b xsl] at xs0 xs1 xs2 xs3
  replace xsl := lK b xsl
  replace cc := bK cc b
  clear b
  clear hw1 hm1 hg1
  go_upto_region 6 with fail
  generalize hv_ : w5.alloc (.cells #[.slice Aq nq cq, .slice Bq mq dq, .slice none 0 0, .slice none 0 0] 26) = v6
  have bA : Below w5.heap.size w5 v6 := by rw [← hv_]; exact below_one _ _
  replace iw := iw.on bA
  replace im := im.on bA
  replace ig := ig.on bA
  replace hxp := hxp.on bA
  replace hyp := hyp.on bA
  replace hxq := hxq.on bA
  replace hyq := hyq.on bA
  rewrite [cR bA mal] at ma0 ma1 ma2 ma3
  replace mal := lK bA mal
  rewrite [cR bA lal] at la0 la1 la2 la3 la4 la5 la6 la7
  replace lal := lK bA lal
  rewrite [cR bA bxl] at bx0 bx1 bx2 bx3
  replace bxl := lK bA bxl
  rewrite [cR bA xsl] at xs0 xs1 xs2 xs3
  replace xsl := lK bA xsl
  replace cc := bK cc bA
  clear bA
  have ys0 : v6.cell? ⟨w5.heap.size, 0, none⟩ = some (.slice Aq nq cq) := by simp [← hv_, go_sem]
  have ys1 : v6.cell? ⟨w5.heap.size, 1, none⟩ = some (.slice Bq mq dq) := by simp [← hv_, go_sem]
  have ys2 : v6.cell? ⟨w5.heap.size, 2, none⟩ = some (.slice none 0 0) := by simp [← hv_, go_sem]
  have ys3 : v6.cell? ⟨w5.heap.size, 3, none⟩ = some (.slice none 0 0) := by simp [← hv_, go_sem]
  have ysl : w5.heap.size < v6.heap.size := by simp [← hv_]
  clear hv_
  clear la0 la1 la2 la3 la4 la5 la6 la7 lal
  go_wp2_with fail
  refine (CSA iw im ig).mono ?_
  rintro e w7 ⟨At, nt, ct, Bt, mt, dt, rfl, hxt, hyt, b⟩
  replace iw := iw.on b
  replace im := im.on b
  replace ig := ig.on b
  replace hxp := hxp.on b
  replace hyp := hyp.on b
  replace hxq := hxq.on b
  replace hyq := hyq.on b
  rewrite [cR b mal] at ma0 ma1 ma2 ma3
  replace mal := lK b mal
  rewrite [cR b bxl] at bx0 bx1 bx2 bx3
  replace bxl := lK b bxl
  rewrite [cR b xsl] at xs0 xs1 xs2 xs3
  replace xsl := lK b xsl
  rewrite [cR b ysl] at ys0 ys1 ys2 ys3
  replace ysl := lK b ysl
  replace cc := bK cc b
  clear b
  clear iw im ig
  go_upto_region 7 with fail
  generalize hv_ : w7.alloc (.cells #[.slice At nt ct, .slice Bt mt dt, .slice none 0 0, .slice none 0 0] 26) = v8
  have bA : Below w7.heap.size w7 v8 := by rw [← hv_]; exact below_one _ _
  replace hxp := hxp.on bA
  replace hyp := hyp.on bA
  replace hxq := hxq.on bA
  replace hyq := hyq.on bA
  replace hxt := hxt.on bA
  replace hyt := hyt.on bA
  rewrite [cR bA mal] at ma0 ma1 ma2 ma3
  replace mal := lK bA mal
  rewrite [cR bA bxl] at bx0 bx1 bx2 bx3
  replace bxl := lK bA bxl
  rewrite [cR bA xsl] at xs0 xs1 xs2 xs3
  replace xsl := lK bA xsl
  rewrite [cR bA ysl] at ys0 ys1 ys2 ys3
  replace ysl := lK bA ysl
  replace cc := bK cc bA
  clear bA
  have zs0 : v8.cell? ⟨w7.heap.size, 0, none⟩ = some (.slice At nt ct) := by simp [← hv_, go_sem]
  have zs1 : v8.cell? ⟨w7.heap.size, 1, none⟩ = some (.slice Bt mt dt) := by simp [← hv_, go_sem]
  have zs2 : v8.cell? ⟨w7.heap.size, 2, none⟩ = some (.slice none 0 0) := by simp [← hv_, go_sem]
  have zs3 : v8.cell? ⟨w7.heap.size, 3, none⟩ = some (.slice none 0 0) := by simp [← hv_, go_sem]
  have zsl : w7.heap.size < v8.heap.size := by simp [← hv_]
  clear hv_
  obtain ⟨i0, hi, hz0, hz1, hz2⟩ := info_parts infoI
  go_upto_region 11 with fail
  have k_xs0 : ∀ W : World, Below v8.heap.size v8 W → W.cell? ⟨w3.heap.size, 0, none⟩ = some (.slice Ap np cp) := fun W b => cK b xs0 xsl
  have k_xs1 : ∀ W : World, Below v8.heap.size v8 W → W.cell? ⟨w3.heap.size, 1, none⟩ = some (.slice Bp mp dp) := fun W b => cK b xs1 xsl
  have k_ys0 : ∀ W : World, Below v8.heap.size v8 W → W.cell? ⟨w5.heap.size, 0, none⟩ = some (.slice Aq nq cq) := fun W b => cK b ys0 ysl
  have k_ys1 : ∀ W : World, Below v8.heap.size v8 W → W.cell? ⟨w5.heap.size, 1, none⟩ = some (.slice Bq mq dq) := fun W b => cK b ys1 ysl
  have k_zs0 : ∀ W : World, Below v8.heap.size v8 W → W.cell? ⟨w7.heap.size, 0, none⟩ = some (.slice At nt ct) := fun W b => cK b zs0 zsl
  have k_zs1 : ∀ W : World, Below v8.heap.size v8 W → W.cell? ⟨w7.heap.size, 1, none⟩ = some (.slice Bt mt dt) := fun W b => cK b zs1 zsl
  have H_hxp := Lib.hid hxp
  have H_hyp := Lib.hid hyp
  have H_hxq := Lib.hid hxq
  have H_hyq := Lib.hid hyq
  have H_hxt := Lib.hid hxt
  have H_hyt := Lib.hid hyt
  have HCC := Lib.hid cc
  clear hxp hyp hxq hyq hxt hyt cc ma0 ma1 ma2 ma3 bx0 bx1 bx2 bx3 xs0 xs1 xs2 xs3 ys0 ys1 ys2 ys3 zs0 zs1 zs2 zs3 mal bxl xsl ysl zsl
  have HBp : Hid (np ≤ 18 ∧ nq ≤ 18) := Lib.hid (by have h1 := H_hxp.out.1; have h2 := H_hxq.out.1; have := HL.out; omega)
  have HBr : Hid (mp ≤ 18 ∧ mq ≤ 18) := Lib.hid (by have h1 := H_hyp.out.1; have h2 := H_hyq.out.1; have := HL.out; omega)
  refine wp_region_held_drew (S := fun w' => Below v8.heap.size v8 w') (by kernel_rfl) (below_drewN (Below.refl _ _) 1) (fun hHeld => ?_)
  refine wpAnyH_ready (rs := [0]) (by kernel_rfl) (by simp) ?_
  refine AllReadyH.cons rfl (fun K hK => ?_) AllReadyH.nil
  (try simp only [pT])
  rw [if_pos (by rfl)]
  go_simp
  go_at_call 9
  refine (alive17_any _).mono ?_
  rintro e w_a ⟨rfl, b⟩
  have b0_ : Below v8.heap.size v8 w_a := (below_drewN (Below.refl _ _) 1).trans (b.mono (Nat.le_refl _))
  clear b
  refine hK.out _ _ b0_ (fun hHeld => ?_)
  clear hK K
  try simp only [Act.put, pT]
  refine tY (i := 1) (v := ?_) rfl ?_ hHeld ?_
  rotate_left
  · (intro w hSw; (try dsimp only at hSw); go_simp; (try with_reducible rfl))
  try simp only [Act.put, pT]
  refine tY (i := 2) (v := ?_) rfl ?_ hHeld ?_
  rotate_left
  · (intro w hSw; (try dsimp only at hSw); go_simp; (try with_reducible rfl))
  try simp only [Act.put, pT]
  refine tY (i := 3) (v := ?_) rfl ?_ hHeld ?_
  rotate_left
  · (intro w hSw; (try dsimp only at hSw); go_simp; (try with_reducible rfl))
  try simp only [Act.put, pT]
  refine tY (i := 4) (v := ?_) rfl ?_ hHeld ?_
  rotate_left
  · (intro w hSw; (try dsimp only at hSw); go_simp; (try with_reducible rfl))
  try simp only [Act.put, pT]
  refine tY (i := 5) (v := ?_) rfl ?_ hHeld ?_
  rotate_left
  · (intro w hSw; (try dsimp only at hSw); go_simp; (try with_reducible rfl))
  try simp only [Act.put, pT]
  refine tY (i := 6) (v := ?_) rfl ?_ hHeld ?_
  rotate_left
  · (intro w hSw; (try dsimp only at hSw); go_simp; (try with_reducible rfl))
  try simp only [Act.put, pT]
  refine tY (i := 7) (v := ?_) rfl ?_ hHeld ?_
  rotate_left
  · (intro w hSw; (try dsimp only at hSw); go_simp; (try with_reducible rfl))
  try simp only [Act.put, pT]
  refine tY (i := 9) (v := ?_) rfl ?_ hHeld ?_
  rotate_left
  · (intro w hSw; (try dsimp only at hSw); go_simp; (try with_reducible rfl))
  try simp only [Act.put, pT]
  refine tY (i := 10) (v := ?_) rfl ?_ hHeld ?_
  rotate_left
  · (intro w hSw; (try dsimp only at hSw); go_simp; (try with_reducible rfl))
  try simp only [Act.put, pT]
  refine tY (i := 12) (v := ?_) rfl ?_ hHeld ?_
  rotate_left
  · (intro w hSw; (try dsimp only at hSw); go_simp; (try with_reducible rfl))
  try simp only [Act.put, pT]
  refine tY (i := 13) (v := ?_) rfl ?_ hHeld ?_
  rotate_left
  · (intro w hSw; (try dsimp only at hSw); go_simp; (try with_reducible rfl))
  try simp only [Act.put, pT]
  refine wpAnyH_ready (rs := [8]) (by kernel_rfl) (by simp) ?_
  refine AllReadyH.cons rfl (fun K hK => ?_) AllReadyH.nil
  (try simp only [pT])
  rw [if_pos (by rfl)]
  go_simp
  have hOp : (w_a.alloc (.cells #[] 2)).ownsRow v8.heap.size 2 1 (.slice (some ⟨w_a.heap.size, 0, none⟩) 0 0) 0 (([] : List Int).map encI) := World.ownsRow_lit w_a #[] 0 b0_.size (by unfold maxLen; omega) rfl
  have bap : Below v8.heap.size v8 (w_a.alloc (.cells #[] 2)) := b0_.alloc b0_.size _
  refine hK.out _ _ bap (fun hHeld => ?_)
  clear hK K
  try simp only [Act.put, pT]
  refine wpAnyH_ready (rs := [11]) (by kernel_rfl) (by simp) ?_
  refine AllReadyH.cons rfl (fun K hK => ?_) AllReadyH.nil
  refine step_appW17 (by rfl) _ _ 24 rfl v8.heap.size 2 i0 (.int .i64 0) 1 8 Try.underlying24 hi hz0 hz1 hz2 rfl (by decide) w_a.heap.size 0 0 _ rfl hOp Ap np cp (XW0.map encI) rfl (by rw [List.length_map, Nat.mul_one]; exact H_hxp.out.1.symm) (ir_news17 H_hxp.out bap) (one_encI17 _) (by have := HBp.out; unfold maxLen; omega) (by have := HBp.out; omega) bap.size np (by omega) ?_
  intro grp0 krp0 wrp0 hown hgrow hat hlt_
  have hRp0 : wrp0.ownsRow v8.heap.size 2 1 (.slice (some ⟨grp0, 0, none⟩) np krp0) np ((XW0).map encI) := by rw [List.map_nil, List.nil_append] at hown; exact hown
  have bbp0 := bap.grown hgrow bap.size (fun q e => by injection e with e; have := (hOp.lt w_a.heap.size rfl).1; omega)
  clear hown hgrow hat hlt_
  refine hK.out _ _ bbp0 (fun hHeld => ?_)
  clear hK K
  try simp only [Act.put, pT]
  refine wpAnyH_ready (rs := [14]) (by kernel_rfl) (by simp) ?_
  refine AllReadyH.cons rfl (fun K hK => ?_) AllReadyH.nil
  refine step_appW17 (by rfl) _ _ 24 rfl v8.heap.size 2 i0 (.int .i64 0) 1 8 Try.underlying24 hi hz0 hz1 hz2 rfl (by decide) grp0 np krp0 _ rfl hRp0 Aq nq cq (XW1.map encI) rfl (by rw [List.length_map, Nat.mul_one]; exact H_hxq.out.1.symm) (ir_news17 H_hxq.out bbp0) (one_encI17 _) (by have := HBp.out; unfold maxLen; omega) (by have := HBp.out; omega) bbp0.size (np + nq) (by omega) ?_
  intro grp1 krp1 wrp1 hown hgrow hat hlt_
  have hRp1 : wrp1.ownsRow v8.heap.size 2 1 (.slice (some ⟨grp1, 0, none⟩) (np + nq) krp1) (np + nq) ((XW0 ++ XW1).map encI) := by rw [List.map_append]; exact hown
  have bbp1 := bbp0.grown hgrow bbp0.size (fun q e => by injection e with e; have := (hRp0.lt grp0 rfl).1; omega)
  clear hown hgrow hat hlt_
  refine hK.out _ _ bbp1 (fun hHeld => ?_)
  clear hK K
  try simp only [Act.put, pT]
  refine wpAnyH_ready (rs := [15]) (by kernel_rfl) (by simp) ?_
  refine AllReadyH.cons rfl (fun K hK => ?_) AllReadyH.nil
  (try simp only [pT])
  rw [if_pos (by rfl)]
  go_simp
  go_at_call 21
  refine (HC9 (H_hxt.out.on bbp1) (IR.of_own hRp1) (by rw [List.length_append]; have := HL.out; omega)).mono ?_
  rintro e w_p ⟨rfl, b⟩
  have bsp : Below v8.heap.size v8 w_p := bbp1.trans (b.mono bbp1.size)
  clear b
  refine hK.out _ _ bsp (fun hHeld => ?_)
  clear hK K
  try simp only [Act.put, pT]
  refine tY (i := 16) (v := ?_) rfl ?_ hHeld ?_
  rotate_left
  · (intro w hSw; (try dsimp only at hSw); go_simp; (try with_reducible rfl))
  try simp only [Act.put, pT]
  refine tY (i := 17) (v := ?_) rfl ?_ hHeld ?_
  rotate_left
  · (intro w hSw; (try dsimp only at hSw); go_simp; (try with_reducible rfl))
  try simp only [Act.put, pT]
  refine tY (i := 18) (v := ?_) rfl ?_ hHeld ?_
  rotate_left
  · (intro w hSw; (try dsimp only at hSw); go_simp; (try with_reducible rfl))
  try simp only [Act.put, pT]
  refine tY (i := 19) (v := ?_) rfl ?_ hHeld ?_
  rotate_left
  · (intro w hSw; (try dsimp only at hSw); go_simp; (try with_reducible rfl))
  try simp only [Act.put, pT]
  refine tY (i := 21) (v := ?_) rfl ?_ hHeld ?_
  rotate_left
  · (intro w hSw; (try dsimp only at hSw); go_simp; (try with_reducible rfl))
  try simp only [Act.put, pT]
  refine tY (i := 22) (v := ?_) rfl ?_ hHeld ?_
  rotate_left
  · (intro w hSw; (try dsimp only at hSw); go_simp; (try with_reducible rfl))
  try simp only [Act.put, pT]
  refine tY (i := 24) (v := ?_) rfl ?_ hHeld ?_
  rotate_left
  · (intro w hSw; (try dsimp only at hSw); go_simp; (try with_reducible rfl))
  try simp only [Act.put, pT]
  refine tY (i := 25) (v := ?_) rfl ?_ hHeld ?_
  rotate_left
  · (intro w hSw; (try dsimp only at hSw); go_simp; (try with_reducible rfl))
  try simp only [Act.put, pT]
  refine wpAnyH_ready (rs := [20]) (by kernel_rfl) (by simp) ?_
  refine AllReadyH.cons rfl (fun K hK => ?_) AllReadyH.nil
  (try simp only [pT])
  rw [if_pos (by rfl)]
  go_simp
  have hOr : (w_p.alloc (.cells #[] 2)).ownsRow v8.heap.size 2 1 (.slice (some ⟨w_p.heap.size, 0, none⟩) 0 0) 0 (([] : List Int).map encI) := World.ownsRow_lit w_p #[] 0 bsp.size (by unfold maxLen; omega) rfl
  have bar : Below v8.heap.size v8 (w_p.alloc (.cells #[] 2)) := bsp.alloc bsp.size _
  refine hK.out _ _ bar (fun hHeld => ?_)
  clear hK K
  try simp only [Act.put, pT]
  refine wpAnyH_ready (rs := [23]) (by kernel_rfl) (by simp) ?_
  refine AllReadyH.cons rfl (fun K hK => ?_) AllReadyH.nil
  refine step_appW17 (by rfl) _ _ 24 rfl v8.heap.size 2 i0 (.int .i64 0) 1 8 Try.underlying24 hi hz0 hz1 hz2 rfl (by decide) w_p.heap.size 0 0 _ rfl hOr Bp mp dp (XV0.map encI) rfl (by rw [List.length_map, Nat.mul_one]; exact H_hyp.out.1.symm) (ir_news17 H_hyp.out bar) (one_encI17 _) (by have := HBr.out; unfold maxLen; omega) (by have := HBr.out; omega) bar.size mp (by omega) ?_
  intro grr0 krr0 wrr0 hown hgrow hat hlt_
  have hRr0 : wrr0.ownsRow v8.heap.size 2 1 (.slice (some ⟨grr0, 0, none⟩) mp krr0) mp ((XV0).map encI) := by rw [List.map_nil, List.nil_append] at hown; exact hown
  have bbr0 := bar.grown hgrow bar.size (fun q e => by injection e with e; have := (hOr.lt w_p.heap.size rfl).1; omega)
  clear hown hgrow hat hlt_
  refine hK.out _ _ bbr0 (fun hHeld => ?_)
  clear hK K
  try simp only [Act.put, pT]
  refine wpAnyH_ready (rs := [26]) (by kernel_rfl) (by simp) ?_
  refine AllReadyH.cons rfl (fun K hK => ?_) AllReadyH.nil
  refine step_appW17 (by rfl) _ _ 24 rfl v8.heap.size 2 i0 (.int .i64 0) 1 8 Try.underlying24 hi hz0 hz1 hz2 rfl (by decide) grr0 mp krr0 _ rfl hRr0 Bq mq dq (XV1.map encI) rfl (by rw [List.length_map, Nat.mul_one]; exact H_hyq.out.1.symm) (ir_news17 H_hyq.out bbr0) (one_encI17 _) (by have := HBr.out; unfold maxLen; omega) (by have := HBr.out; omega) bbr0.size (mp + mq) (by omega) ?_
  intro grr1 krr1 wrr1 hown hgrow hat hlt_
  have hRr1 : wrr1.ownsRow v8.heap.size 2 1 (.slice (some ⟨grr1, 0, none⟩) (mp + mq) krr1) (mp + mq) ((XV0 ++ XV1).map encI) := by rw [List.map_append]; exact hown
  have bbr1 := bbr0.grown hgrow bbr0.size (fun q e => by injection e with e; have := (hRr0.lt grr0 rfl).1; omega)
  clear hown hgrow hat hlt_
  refine hK.out _ _ bbr1 (fun hHeld => ?_)
  clear hK K
  try simp only [Act.put, pT]
  refine wpAnyH_ready (rs := [27]) (by kernel_rfl) (by simp) ?_
  refine AllReadyH.cons rfl (fun K hK => ?_) AllReadyH.nil
  (try simp only [pT])
  rw [if_pos (by rfl)]
  go_simp
  go_at_call 21
  refine (HC9 (H_hyt.out.on bbr1) (IR.of_own hRr1) (by rw [List.length_append]; have := HL.out; omega)).mono ?_
  rintro e w_r ⟨rfl, b⟩
  have bsr : Below v8.heap.size v8 w_r := bbr1.trans (b.mono bbr1.size)
  clear b
  refine hK.out _ _ bsr (fun hHeld => ?_)
  clear hK K
  try simp only [Act.put, pT]
  refine tY (i := 28) (v := ?_) rfl ?_ hHeld ?_
  rotate_left
  · (intro w hSw; (try dsimp only at hSw); go_simp; (try with_reducible rfl))
  try simp only [Act.put, pT]
  refine tY (i := 29) (v := ?_) rfl ?_ hHeld ?_
  rotate_left
  · (intro w hSw; (try dsimp only at hSw); go_simp; (try with_reducible rfl))
  try simp only [Act.put, pT]
  refine wpAnyH_done (by kernel_rfl) ?_ _
  clear hHeld
  have cc := HCC.out.trans (bsr.mono HCC.out.size)
  go_wp2_with fail
  go_ret
  exact ⟨rfl, cc⟩

theorem MomApart_walk {w : World} {lr mu wd f : Int} {ne : Bool} {Aw0 : Option Addr} {nw0 cw0 : Nat} {Lw0 : List Int} {Am0 : Option Addr} {nm0 cm0 : Nat} {Lm0 : List Int} {Av0 : Option Addr} {nv0 cv0 : Nat} {Lv0 : List Int} {Ag0 : Option Addr} {ng0 cg0 : Nat} {Lg0 : List Int} {Aw1 : Option Addr} {nw1 cw1 : Nat} {Lw1 : List Int} {Am1 : Option Addr} {nm1 cm1 : Nat} {Lm1 : List Int} {Av1 : Option Addr} {nv1 cv1 : Nat} {Lv1 : List Int} {Ag1 : Option Addr} {ng1 cg1 : Nat} {Lg1 : List Int} (iL : I64 lr) (iU : I64 mu) (iD : I64 wd) (iF : I64 f) (hw0 : IR w Aw0 nw0 cw0 Lw0) (hm0 : IR w Am0 nm0 cm0 Lm0) (hv0 : IR w Av0 nv0 cv0 Lv0) (hg0 : IR w Ag0 ng0 cg0 Lg0) (hw1 : IR w Aw1 nw1 cw1 Lw1) (hm1 : IR w Am1 nm1 cm1 Lm1) (hv1 : IR w Av1 nv1 cv1 Lv1) (hg1 : IR w Ag1 ng1 cg1 Lg1) (ew0 : ∀ z ∈ Lw0, I64 z) (em0 : ∀ z ∈ Lm0, I64 z) (ev0 : ∀ z ∈ Lv0, I64 z) (eg0 : ∀ z ∈ Lg0, I64 z) (ew1 : ∀ z ∈ Lw1, I64 z) (em1 : ∀ z ∈ Lm1, I64 z) (ev1 : ∀ z ∈ Lv1, I64 z) (eg1 : ∀ z ∈ Lg1, I64 z) (kw0 : nw0 ≤ 2305843009213693951) (km0 : nm0 ≤ 2305843009213693951) (kv0 : nv0 ≤ 2305843009213693951) (kg0 : ng0 ≤ 2305843009213693951) (kw1 : nw1 ≤ 2305843009213693951) (km1 : nm1 ≤ 2305843009213693951) (kv1 : nv1 ≤ 2305843009213693951) (kg1 : ng1 ≤ 2305843009213693951) : Calls Try.prog 5 #[.agg #[.int .i64 lr, .int .i64 mu, .int .i64 wd, .bool ne], .agg #[.slice Aw0 nw0 cw0, .slice Am0 nm0 cm0, .slice Av0 nv0 cv0, .slice Ag0 ng0 cg0, .slice Aw1 nw1 cw1, .slice Am1 nm1 cm1, .slice Av1 nv1 cv1, .slice Ag1 ng1 cg1], .int .i64 f] w (GotV w (.bool true)) := by
  by_cases hf0 : ((nw0 + nm0 + nv0 + ng0 : Nat) : Int) ≤ 18
  rotate_left
  · exact MomApart_many0 iL iU iD iF hw0 hm0 hv0 hg0 hw1 hm1 hv1 hg1 ew0 em0 ev0 eg0 ew1 em1 ev1 eg1 kw0 km0 kv0 kg0 kw1 km1 kv1 kg1 hf0
  by_cases hf1 : ((nw1 + nm1 + nv1 + ng1 : Nat) : Int) ≤ 18
  rotate_left
  · exact MomApart_many1 iL iU iD iF hw0 hm0 hv0 hg0 hw1 hm1 hv1 hg1 ew0 em0 ev0 eg0 ew1 em1 ev1 eg1 kw0 km0 kv0 kg0 kw1 km1 kv1 kg1 hf0 hf1
  by_cases h50 : stC17 lr mu wd f ne Lw0 Lm0 Lg0 = 5
  · exact MomApart_shape0 iL iU iD iF hw0 hm0 hv0 hg0 hw1 hm1 hv1 hg1 ew0 em0 ev0 eg0 ew1 em1 ev1 eg1 kw0 km0 kv0 kg0 kw1 km1 kv1 kg1 hf0 hf1 h50
  by_cases h51 : stC17 lr mu wd f ne Lw1 Lm1 Lg1 = 5
  · exact MomApart_shape1 iL iU iD iF hw0 hm0 hv0 hg0 hw1 hm1 hv1 hg1 ew0 em0 ev0 eg0 ew1 em1 ev1 eg1 kw0 km0 kv0 kg0 kw1 km1 kv1 kg1 hf0 hf1 h50 h51
  by_cases hc : stC17 lr mu wd f ne Lw0 Lm0 Lg0 = 0 ∧ stC17 lr mu wd f ne Lw1 Lm1 Lg1 = 0
  · exact MomApart_yes iL iU iD iF hw0 hm0 hv0 hg0 hw1 hm1 hv1 hg1 ew0 em0 ev0 eg0 ew1 em1 ev1 eg1 kw0 km0 kv0 kg0 kw1 km1 kv1 kg1 hf0 hf1 hc.1 hc.2
  · exact MomApart_no iL iU iD iF hw0 hm0 hv0 hg0 hw1 hm1 hv1 hg1 ew0 em0 ev0 eg0 ew1 em1 ev1 eg1 kw0 km0 kv0 kg0 kw1 km1 kv1 kg1 hf0 hf1 h50 h51 hc

end Go.Proofs.Ytckdbcngnghhiaa
