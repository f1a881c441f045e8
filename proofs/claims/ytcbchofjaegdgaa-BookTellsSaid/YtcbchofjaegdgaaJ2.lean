/-
  The landed book: tree.
-/
import Derived.Test.YtcbchofjaegdgaaJ1
namespace Go.Proofs.Ytcbchofjaegdgaa
set_option maxRecDepth 100000
open Go.RowKit Go.Shelf
set_option linter.unusedVariables false
set_option linter.unusedSimpArgs false

attribute [local go_sem] Oper.semAt_some

/-- The place of nought. -/
def half9 (s : Bool) : Nat := if s then 127 else 0
/-- A number is laid down: the row, and the place. -/
def stepL (s : Bool) (st : List Int × Nat) (x : Mid) : List Int × Nat :=
  (if s then (st.1.set (st.2 + 1) (x.1 : Int)).set (254 - (st.2 + 1)) (-(x.1 : Int)) else st.1.set (st.2 + 1) (x.1 : Int), st.2 + 1)
def lay9 (s : Bool) (pre : List Mid) : List Int × Nat := pre.foldl (stepL s) (List.replicate 256 0, half9 s)
theorem lay9_snoc (s : Bool) (pre : List Mid) (x : Mid) : lay9 s (pre ++ [x]) = stepL s (lay9 s pre) x := by unfold lay9; rw [List.foldl_append]; rfl
theorem fold_place (s : Bool) : ∀ (pre : List Mid) (st : List Int × Nat), (pre.foldl (stepL s) st).2 = st.2 + pre.length
  | [], st => rfl
  | x :: pre, st => by rw [List.foldl_cons, fold_place s pre]; show st.2 + 1 + pre.length = _; rw [List.length_cons]; omega
theorem lay9_place (s : Bool) (pre : List Mid) : (lay9 s pre).2 = half9 s + pre.length := fold_place s pre _
theorem fold_len (s : Bool) : ∀ (pre : List Mid) (st : List Int × Nat), (pre.foldl (stepL s) st).1.length = st.1.length
  | [], st => rfl
  | x :: pre, st => by rw [List.foldl_cons, fold_len s pre]; unfold stepL; cases s <;> simp
theorem lay9_len (s : Bool) (pre : List Mid) : (lay9 s pre).1.length = 256 := by unfold lay9; rw [fold_len]; exact List.length_replicate
theorem lay9_done (s : Bool) : (lay9 s (told s 7)).1.set 255 2560000000 = tree9 s := by cases s <;> decide +kernel
theorem row_ownI {β : Type} (n₀ : Nat) (e : TypeId) (size : Nat) (v : β → Value) (k : β → Nat) (f : β → List Value) : Own (fun s W => W.ownsRow n₀ e size (v s) (k s) (f s)) := by
  rintro s X Y row hr hg hrow
  refine hr.kept hg ?_
  rcases hr.2 with ⟨h, _⟩ | ⟨g, cap, cur, h, _, hgb, _⟩
  · exact .inl (by rw [h]; rfl)
  · refine .inr fun e' => ?_
    obtain ⟨o, ho, hc⟩ := hrow g (by rw [← e', h]; rfl)
    rw [hgb] at ho; cases ho; cases hc
theorem atI {l : List Int} {j n : Nat} (h : l.length = n) (hj : j < n) : ∃ v, (l.map encI)[j]? = some (.int .i64 v) := by
  rw [List.getElem?_map, List.getElem?_eq_getElem (by omega)]
  exact ⟨_, rfl⟩
theorem made_zeroI (n : Nat) : (madeCells (Value.int .i64 0).cells (n * 1)).toList = (List.replicate n (0 : Int)).map encI := by
  rw [Nat.mul_one, show (Value.int .i64 0).cells = #[Value.int .i64 0] from rfl, toList_madeCells_one, List.map_replicate]
  rfl

theorem wpListIn_make_full9 {F : Fence} {n : Nat} {P : Program} (w : World) {ops : Array Oper} {rest : List Oper} {o : Oper} {a : Act} {Q : Exit → Act → World → Prop}
    (hg : o.guard = none) (l c : Operand) (t : TypeId) (hop : o.op = Op.makeSlice t l c)
    (base : Nat) (e : TypeId) (i : TypeInfo) (z : Value) (size : Nat) (h1 : P.underlying t = some (.slice e)) (h2 : P.info? e = some i) (h3 : i.zero = some z) (h4 : i.size = size)
    (kl kc : IntKind) (m : Nat) (hl : a.eval l = .int kl (m : Int)) (hc : a.eval c = .int kc (m : Int)) (b2 : i.bytes * m ≤ 281474976710656) (b3 : m ≤ maxLen) (b4 : base ≤ w.heap.size)
    (hK : ∀ w', w'.ownsRow base e size (.slice (some ⟨w.heap.size, 0, none⟩) m m) m (madeCells z.cells (m * size)).toList → w.grownBy w' none → wpListIn F n P ops Q rest (a.put o.dst (.slice (some ⟨w.heap.size, 0, none⟩) m m)) w') :
    wpListIn F n P ops Q (o :: rest) a w := by
  refine wpListIn_plain hg fun K hK' => ?_
  obtain ⟨w', hrun, r1, r2⟩ := run_make_full (P := P) w base t e i z size h1 h2 h3 h4 kl kc m b2 b3 b4
  unfold Oper.wpIn
  refine ⟨?_, ?_⟩
  · simp [Oper.about, hop]
  · rw [Oper.semAt_plain F _ _ (by rw [hop]; intro c hc'; cases hc')]
    simp [execOp, hop, hl, hc, hrun, Result.andThen]
    exact hK' _ _ (hK w' r1 r2)

set_option maxRecDepth 100000 in
set_option maxHeartbeats 4000000 in
theorem tree_t (Bq : Nat) (w : World) (hq : Boxed w Bq 2 (.int .i64 ((many9 true 0 : Nat) : Int))) :
    Calls Try.prog 18 #[.func (.func 22) #[] #[.pointer (some ⟨Bq, 0, none⟩)], .bool true] w (GotI w (tree9 true)) := by
  refine (callsIn_wide (n := 10)).1 ?_
  refine callsIn_of_wp_marks Try.func18 rfl trivial ?_ rfl
  simp only [Try.ntmps18, List.size_toArray, List.length_cons, List.length_nil, Nat.reduceAdd, Nat.reduceSub, Array.replicate_succ, Array.replicate_zero, List.push_toArray, List.append_toArray, List.nil_append, List.cons_append]
  obtain ⟨i0, hi, hz0, hz1, hz2⟩ := info_parts infoI
  obtain ⟨s, hs⟩ : ∃ s, w.heap.size = s := ⟨_, rfl⟩
  have HS := Lib.hid hs
  have bG := Boxed.new w 4 (.bool true)
  rw [hs] at bG
  have cG := bG.cell
  have hbw : Below s w (w.alloc (.cells #[.bool true] 4)) := (Below.refl s w).alloc (by omega) _
  obtain ⟨w0, hw0⟩ : ∃ w0, w.alloc (.cells #[.bool true] 4) = w0 := ⟨_, rfl⟩
  have hz0' : w0.heap.size = s + 1 := by rw [← hw0, World.size_alloc, hs]
  rw [hw0] at bG cG hbw
  gi_wp2_with (gi_at_make; refine wpListIn_make_full9 _ rfl _ _ 22 rfl s 2 i0 (.int .i64 0) 1 Try.underlying22 hi hz0 hz1 .i64 .i64 256 rfl rfl (by rw [hz2]; omega) (by unfold maxLen; omega) (by rw [hz0']; omega) ?_; intro w1 hown1 hgrow1; rw [made_zeroI] at hown1; have bG1 := bG.kept hgrow1 (by simp); have cG1 := ((bG1.alloc (.cells #[.slice (some ⟨s + 1, 0, none⟩) 256 256] 22)).alloc (.cells #[.int .i64 0] 3)).cell)
  rw [hz0'] at hown1
  obtain ⟨t, ht⟩ : ∃ t, w1.heap.size = t := ⟨_, rfl⟩
  rw [ht]
  have hst : s + 1 < t := by have := (hown1.lt (s + 1) rfl).2; omega
  have bL := Boxed.new w1 22 (.slice (some ⟨s + 1, 0, none⟩) 256 256)
  rw [ht] at bL
  have hB1 : Below s w w1 := hbw.grown hgrow1 (by omega) (fun k h => by cases h)
  have hown2 := hown1.alloc (.cells #[.slice (some ⟨s + 1, 0, none⟩) 256 256] 22)
  have bG2 := bG1.alloc (.cells #[.slice (some ⟨s + 1, 0, none⟩) 256 256] 22)
  have hB2 := hB1.alloc (by omega) (.cells #[.slice (some ⟨s + 1, 0, none⟩) 256 256] 22)
  obtain ⟨w2, hw2⟩ : ∃ w2, w1.alloc (.cells #[.slice (some ⟨s + 1, 0, none⟩) 256 256] 22) = w2 := ⟨_, rfl⟩
  have hz2' : w2.heap.size = t + 1 := by rw [← hw2, World.size_alloc, ht]
  rw [hw2] at bL hown2 bG2 hB2 ⊢
  have bH := Boxed.new w2 3 (.int .i64 127)
  rw [hz2'] at bH
  have hown3 := hown2.alloc (.cells #[.int .i64 127] 3)
  have bG3 := bG2.alloc (.cells #[.int .i64 127] 3)
  have bL3 := bL.alloc (.cells #[.int .i64 127] 3)
  have hB3 := hB2.alloc (by omega) (.cells #[.int .i64 127] 3)
  obtain ⟨w3, hw3⟩ : ∃ w3, w2.alloc (.cells #[.int .i64 127] 3) = w3 := ⟨_, rfl⟩
  have hz3' : w3.heap.size = t + 1 + 1 := by rw [← hw3, World.size_alloc, hz2']
  rw [hw3] at bH hown3 bG3 bL3 hB3 ⊢
  have bP := Boxed.new w3 3 (.int .i64 127)
  rw [hz3'] at bP
  have hown4 := hown3.alloc (.cells #[.int .i64 127] 3)
  have bG4 := bG3.alloc (.cells #[.int .i64 127] 3)
  have bL4 := bL3.alloc (.cells #[.int .i64 127] 3)
  have bH4 := bH.alloc (.cells #[.int .i64 127] 3)
  have hB4 := hB3.alloc (by omega) (.cells #[.int .i64 127] 3)
  obtain ⟨W0, hW0⟩ : ∃ W0, w3.alloc (.cells #[.int .i64 127] 3) = W0 := ⟨_, rfl⟩
  have hsz : W0.heap.size = t + 3 := by rw [← hW0, World.size_alloc, hz3']
  rw [hW0] at bP hown4 bG4 bL4 bH4 hB4 ⊢
  have hq0 : Boxed W0 Bq 2 (.int .i64 ((many9 true 0 : Nat) : Int)) := (hB4.block Bq (by have := hq.lt; omega)).trans hq
  clear hown1 hgrow1 hw2 hz2' hown2 bG2 hB2 hw3 hz3' hown3 bG3 bL3 hB3 hW0 ht bL bH bG bG1 cG cG1 hw0 hz0' hbw hB1 hq
  refine wpIn_rangeFunc_ownG rfl (by decide) (gf := 22) (lb := #[.pointer (some ⟨Bq, 0, none⟩)]) rfl trivial (enters_of Try.func22 (by kernel_rfl) rfl)
    (mids_stops Bq true W0 hq0)
    (fun _ _ => trivial) (fun _ _ _ _ _ _ _ _ => trivial) (Below.refl _ _) (fun _ => rfl)
    (fun pre W => (Boxed W s 4 (.bool true) ∧ Boxed W t 22 (.slice (some ⟨s + 1, 0, none⟩) 256 256) ∧ Boxed W (t + 1) 3 (.int .i64 127) ∧ Boxed W (t + 1 + 1) 3 (.int .i64 ((127 + pre.length : Nat) : Int)) ∧
      W.ownsRow s 2 1 (.slice (some ⟨s + 1, 0, none⟩) 256 256) 256 ((lay9 true pre).1.map encI)) ∧ Below s w W)
    (fun _ _ _ => False)
    (OwnFrom.and (OwnFrom.and (Own.from (boxed_own _ _ _) _) (OwnFrom.and (Own.from (boxed_own _ _ _) _) (OwnFrom.and (Own.from (boxed_own _ _ _) _) (OwnFrom.and (Own.from (boxed_own _ _ _) _) (Own.from (row_ownI _ _ _ _ _ _) _))))) (ownFrom_below (by have := HS.out; omega) (by omega)))
    (fun _ _ _ _ _ hs _ _ => hs)
    ⟨⟨bG4, bL4, bH4, bP, hown4⟩, hB4⟩
    (fun x => { tmps := #[.func (.func 22) #[] #[.pointer (some ⟨Bq, 0, none⟩)], .bool true, undef, .pointer (some ⟨s, 0, none⟩), .slice none 0 0, .pointer (some ⟨t, 0, none⟩), .pointer (some ⟨t + 1, 0, none⟩), .pointer (some ⟨t + 1 + 1, 0, none⟩), .int .i64 (x.1 : Int), .slice (some ⟨s + 1, 0, none⟩) 256 256, .bool true, .int .i64 127,
      .func (.func 22) #[] #[.pointer (some ⟨Bq, 0, none⟩)], .int .i64 (x.1 : Int), undef, undef, undef, undef, undef, undef, undef, undef, undef, undef, undef, undef, undef, undef, undef, undef, undef, undef], defers := [] }) ?assign ?body ?done ?stop
  case assign =>
    intro l x W K hK
    gi_wp2
    exact hK
  case body =>
    rintro l pre x W ⟨⟨hG, hL, hH, hP, hrow⟩, hBl⟩ hlt
    have hlt' : pre.length < 127 := hlt
    have hxl := x.2
    have hlen := lay9_len true pre
    have hpl := lay9_place true pre
    have hsn := lay9_snoc true pre x
    obtain ⟨r, er⟩ : ∃ r, lay9 true pre = r := ⟨_, rfl⟩
    obtain ⟨p, ep⟩ : ∃ p, 127 + pre.length = p := ⟨_, rfl⟩
    obtain ⟨p1, ep1⟩ : ∃ p1, p + 1 = p1 := ⟨_, rfl⟩
    have er2 : r.2 = p := by rw [← er, hpl]; exact ep
    have epl : 127 + (pre ++ [x]).length = p1 := by rw [List.length_append, ← ep1, ← ep]; rfl
    have hsn1 : (lay9 true (pre ++ [x])).1 = (r.1.set p1 (x.1 : Int)).set (254 - p1) (-(x.1 : Int)) := by rw [hsn, er]; unfold stepL; rw [er2, ep1]; rfl
    rw [er] at hrow hlen
    rw [ep] at hP
    have p1l : p1 ≤ 254 := by omega
    have k1 : IntKind.i64.wrap ((p : Int) + 1) = (p1 : Int) := by rw [IntWalk.i64_in _ (by omega)]; omega
    have p1i : (p1 : Int) < 256 := by omega
    have p1n : p1 < 256 := by omega
    obtain ⟨xv, ex⟩ : ∃ xv, ((x.1 : Nat) : Int) = xv := ⟨_, rfl⟩
    have hP1 := hP.set (.int .i64 (p1 : Int))
    have hG1 := hG.other (B' := t + 1 + 1) (by omega) (.int .i64 (p1 : Int))
    have hL1 := hL.other (B' := t + 1 + 1) (by omega) (.int .i64 (p1 : Int))
    have hH1 := hH.other (B' := t + 1 + 1) (by omega) (.int .i64 (p1 : Int))
    have hrow1 := hrow.kept (grownBy_setCell' W (t + 1 + 1) (.int .i64 (p1 : Int))) (.inr (by simp [Value.ownBlock]; omega))
    have cP0 := hP.cell
    have fP0 := hP.frozen
    obtain ⟨W1, eW1⟩ : ∃ W1, W.setCell ⟨t + 1 + 1, 0, none⟩ (.int .i64 (p1 : Int)) = W1 := ⟨_, rfl⟩
    rw [eW1] at hP1 hG1 hL1 hH1 hrow1
    have cL1 := hL1.cell
    have cP1 := hP1.cell
    have cR1 := hrow1.cellAt p1 (by omega)
    obtain ⟨v1, ev1⟩ := atI hlen p1n
    rw [ev1] at cR1
    have fR1 := hrow1.frozenAt p1
    obtain ⟨hrow2, hgr2⟩ := hrow1.stored p1 (.int .i64 xv)
    have hG2 := hG1.kept hgr2 (by simp)
    have hL2 := hL1.kept hgr2 (by simp; omega)
    have hH2 := hH1.kept hgr2 (by simp; omega)
    have hP2 := hP1.kept hgr2 (by simp; omega)
    obtain ⟨W2, eW2⟩ : ∃ W2, W1.setCell ⟨s + 1, p1, none⟩ (.int .i64 xv) = W2 := ⟨_, rfl⟩
    rw [eW2] at hrow2 hG2 hL2 hH2 hP2
    have cG2 := hG2.cell
    have cL2 := hL2.cell
    have cH2 := hH2.cell
    have cP2 := hP2.cell
    obtain ⟨q, eq⟩ : ∃ q, 254 - p1 = q := ⟨_, rfl⟩
    rw [eq] at hsn1
    have k2 : IntKind.i64.wrap ((254 : Int) - (p1 : Int)) = (q : Int) := by rw [IntWalk.i64_in _ (by omega)]; omega
    have k3 : IntKind.i64.wrap (-xv) = -xv := by rw [IntWalk.i64_in _ (by omega)]
    have qi : (q : Int) < 256 := by omega
    have qn : q < 256 := by omega
    obtain ⟨y, ey⟩ : ∃ y, -xv = y := ⟨_, rfl⟩
    have k4 : wrap64 (-xv) = y := (IntWalk.wrap64_in _ (by omega)).trans ey
    clear k3
    have cR2 := hrow2.cellAt q (by omega)
    obtain ⟨v2, ev2⟩ := atI (l := r.1.set p1 xv) (j := q) (by rw [List.length_set]; exact hlen) qn
    rw [List.map_set] at ev2
    rw [show (r.1.map encI).set p1 (.int .i64 xv) = (r.1.map encI).set p1 (encI xv) from rfl, ev2] at cR2
    have fR2 := hrow2.frozenAt q
    obtain ⟨hrow3, hgr3⟩ := hrow2.stored q (.int .i64 y)
    have hG3 := hG2.kept hgr3 (by simp)
    have hL3 := hL2.kept hgr3 (by simp; omega)
    have hH3 := hH2.kept hgr3 (by simp; omega)
    have hP3 := hP2.kept hgr3 (by simp; omega)
    have hKO : KeepsOthers W (W2.setCell ⟨s + 1, q, none⟩ (.int .i64 y)) := by rw [← eW2, ← eW1]; exact ((KeepsOthers.setCell _ _ _).trans (KeepsOthers.setCell _ _ _)).trans (KeepsOthers.setCell _ _ _)
    have hBW : Below s W (W2.setCell ⟨s + 1, q, none⟩ (.int .i64 y)) := by rw [← eW2, ← eW1]; exact (((Below.refl s W).setCell (p := ⟨t + 1 + 1, 0, none⟩) (by simp; omega) _).setCell (p := ⟨s + 1, p1, none⟩) (by simp) _).setCell (p := ⟨s + 1, q, none⟩) (by simp) _
    obtain ⟨W3, eW3⟩ : ∃ W3, W2.setCell ⟨s + 1, q, none⟩ (.int .i64 y) = W3 := ⟨_, rfl⟩
    rw [eW3] at hrow3 hG3 hL3 hH3 hP3 hKO hBW
    have HSN := Lib.hid hsn1
    have HEP := Lib.hid epl
    have HEX := Lib.hid ex
    have HEY := Lib.hid ey
    have hrow3' : W3.ownsRow s 2 1 (.slice (some ⟨s + 1, 0, none⟩) 256 256) 256 ((lay9 true (pre ++ [x])).1.map encI) := by
      rw [HSN.out, List.map_set, List.map_set, HEX.out, HEY.out]; exact hrow3
    rw [← HEP.out] at hP3
    have HRES := Lib.hid (And.intro (And.intro hG3 (And.intro hL3 (And.intro hH3 (And.intro hP3 hrow3')))) (hBl.trans hBW))
    clear ev1 ev2 hrow3' hrow3 hrow2 hrow1 hrow hG3 hL3 hH3 hP3 hG2 hL2 hH2 hP2 hG1 hL1 hH1 hP1 hG hL hH hP hgr2 hgr3 hsn1 epl ey eq ep1 ep er er2 hsn hpl hlen hBl
    rw [ex] at *
    clear ex
    gi_wp2
    exact ⟨hKO.from _, trivial, HRES.out⟩
  case done =>
    rintro D ys W hD hys ⟨⟨hG, hL, hH, hP, hrow⟩, hBl⟩ hK
    have hdone := lay9_done true
    rw [← hys] at hdone
    have hlen := lay9_len true ys
    obtain ⟨r, er⟩ : ∃ r, (lay9 true ys).1 = r := ⟨_, rfl⟩
    rw [er] at hrow hlen hdone
    have HD := Lib.hid hdone
    have hrl := (hrow.lt (s + 1) rfl).2
    have cL := hL.cell
    have cR := hrow.cellAt 255 (by omega)
    obtain ⟨v1, ev1⟩ := atI (j := 255) hlen (by omega)
    rw [ev1] at cR
    have fR := hrow.frozenAt 255
    obtain ⟨hrow2, hgr2⟩ := hrow.stored 255 (.int .i64 2560000000)
    have hL2 := hL.kept hgr2 (by simp; omega)
    have cL2 := hL2.cell
    have hBW : Below s W (W.setCell ⟨s + 1, 255, none⟩ (.int .i64 2560000000)) := (Below.refl s W).setCell (p := ⟨s + 1, 255, none⟩) (by simp) _
    have hK2 := (KeepsOthers.setCell W ⟨s + 1, 255, none⟩ (.int .i64 2560000000)).same D _ hK rfl
    obtain ⟨W2, eW2⟩ : ∃ W2, W.setCell ⟨s + 1, 255, none⟩ (.int .i64 2560000000) = W2 := ⟨_, rfl⟩
    rw [eW2] at hrow2 hL2 cL2 hBW hK2
    clear ev1 hdone er hys hrow hL hG hH hP hgr2
    gi_wp2
    refine ⟨by simp, .inl ⟨_, _, rfl, run_takeDeferred hK2, ?_⟩⟩
    have hrow' := ownsRow_putObj hrow2 (.deferred none) hK2 rfl
    refine ⟨_, results_tmp rfl _ _ _, _, _, _, rfl, ?_, ?_⟩
    · rw [← HD.out]
      refine IR.of_own (base := s) (e := 2) ?_
      rw [List.map_set]
      exact hrow'
    · rw [HS.out]; exact (hBl.trans hBW).trans (belowK_b (w := W0) (by omega) W2 D _ _ hD hK2 rfl rfl)
  case stop =>
    rintro D c pre W _ _ h _
    exact h.elim

set_option maxRecDepth 100000 in
set_option maxHeartbeats 4000000 in
theorem tree_f (Bq : Nat) (w : World) (hq : Boxed w Bq 2 (.int .i64 ((many9 false 0 : Nat) : Int))) :
    Calls Try.prog 18 #[.func (.func 22) #[] #[.pointer (some ⟨Bq, 0, none⟩)], .bool false] w (GotI w (tree9 false)) := by
  refine (callsIn_wide (n := 10)).1 ?_
  refine callsIn_of_wp_marks Try.func18 rfl trivial ?_ rfl
  simp only [Try.ntmps18, List.size_toArray, List.length_cons, List.length_nil, Nat.reduceAdd, Nat.reduceSub, Array.replicate_succ, Array.replicate_zero, List.push_toArray, List.append_toArray, List.nil_append, List.cons_append]
  obtain ⟨i0, hi, hz0, hz1, hz2⟩ := info_parts infoI
  obtain ⟨s, hs⟩ : ∃ s, w.heap.size = s := ⟨_, rfl⟩
  have HS := Lib.hid hs
  have bG := Boxed.new w 4 (.bool false)
  rw [hs] at bG
  have cG := bG.cell
  have hbw : Below s w (w.alloc (.cells #[.bool false] 4)) := (Below.refl s w).alloc (by omega) _
  obtain ⟨w0, hw0⟩ : ∃ w0, w.alloc (.cells #[.bool false] 4) = w0 := ⟨_, rfl⟩
  have hz0' : w0.heap.size = s + 1 := by rw [← hw0, World.size_alloc, hs]
  rw [hw0] at bG cG hbw
  gi_wp2_with (gi_at_make; refine wpListIn_make_full9 _ rfl _ _ 22 rfl s 2 i0 (.int .i64 0) 1 Try.underlying22 hi hz0 hz1 .i64 .i64 256 rfl rfl (by rw [hz2]; omega) (by unfold maxLen; omega) (by rw [hz0']; omega) ?_; intro w1 hown1 hgrow1; rw [made_zeroI] at hown1; have bG1 := bG.kept hgrow1 (by simp); have cG1 := ((bG1.alloc (.cells #[.slice (some ⟨s + 1, 0, none⟩) 256 256] 22)).alloc (.cells #[.int .i64 0] 3)).cell)
  rw [hz0'] at hown1
  obtain ⟨t, ht⟩ : ∃ t, w1.heap.size = t := ⟨_, rfl⟩
  rw [ht]
  have hst : s + 1 < t := by have := (hown1.lt (s + 1) rfl).2; omega
  have bL := Boxed.new w1 22 (.slice (some ⟨s + 1, 0, none⟩) 256 256)
  rw [ht] at bL
  have hB1 : Below s w w1 := hbw.grown hgrow1 (by omega) (fun k h => by cases h)
  have hown2 := hown1.alloc (.cells #[.slice (some ⟨s + 1, 0, none⟩) 256 256] 22)
  have bG2 := bG1.alloc (.cells #[.slice (some ⟨s + 1, 0, none⟩) 256 256] 22)
  have hB2 := hB1.alloc (by omega) (.cells #[.slice (some ⟨s + 1, 0, none⟩) 256 256] 22)
  obtain ⟨w2, hw2⟩ : ∃ w2, w1.alloc (.cells #[.slice (some ⟨s + 1, 0, none⟩) 256 256] 22) = w2 := ⟨_, rfl⟩
  have hz2' : w2.heap.size = t + 1 := by rw [← hw2, World.size_alloc, ht]
  rw [hw2] at bL hown2 bG2 hB2 ⊢
  have bH := Boxed.new w2 3 (.int .i64 0)
  rw [hz2'] at bH
  have hown3 := hown2.alloc (.cells #[.int .i64 0] 3)
  have bG3 := bG2.alloc (.cells #[.int .i64 0] 3)
  have bL3 := bL.alloc (.cells #[.int .i64 0] 3)
  have hB3 := hB2.alloc (by omega) (.cells #[.int .i64 0] 3)
  obtain ⟨w3, hw3⟩ : ∃ w3, w2.alloc (.cells #[.int .i64 0] 3) = w3 := ⟨_, rfl⟩
  have hz3' : w3.heap.size = t + 1 + 1 := by rw [← hw3, World.size_alloc, hz2']
  rw [hw3] at bH hown3 bG3 bL3 hB3 ⊢
  have bP := Boxed.new w3 3 (.int .i64 0)
  rw [hz3'] at bP
  have hown4 := hown3.alloc (.cells #[.int .i64 0] 3)
  have bG4 := bG3.alloc (.cells #[.int .i64 0] 3)
  have bL4 := bL3.alloc (.cells #[.int .i64 0] 3)
  have bH4 := bH.alloc (.cells #[.int .i64 0] 3)
  have hB4 := hB3.alloc (by omega) (.cells #[.int .i64 0] 3)
  obtain ⟨W0, hW0⟩ : ∃ W0, w3.alloc (.cells #[.int .i64 0] 3) = W0 := ⟨_, rfl⟩
  have hsz : W0.heap.size = t + 3 := by rw [← hW0, World.size_alloc, hz3']
  rw [hW0] at bP hown4 bG4 bL4 bH4 hB4 ⊢
  have hq0 : Boxed W0 Bq 2 (.int .i64 ((many9 false 0 : Nat) : Int)) := (hB4.block Bq (by have := hq.lt; omega)).trans hq
  clear hown1 hgrow1 hw2 hz2' hown2 bG2 hB2 hw3 hz3' hown3 bG3 bL3 hB3 hW0 ht bL bH bG bG1 cG cG1 hw0 hz0' hbw hB1 hq
  refine wpIn_rangeFunc_ownG rfl (by decide) (gf := 22) (lb := #[.pointer (some ⟨Bq, 0, none⟩)]) rfl trivial (enters_of Try.func22 (by kernel_rfl) rfl)
    (mids_stops Bq false W0 hq0)
    (fun _ _ => trivial) (fun _ _ _ _ _ _ _ _ => trivial) (Below.refl _ _) (fun _ => rfl)
    (fun pre W => (Boxed W s 4 (.bool false) ∧ Boxed W t 22 (.slice (some ⟨s + 1, 0, none⟩) 256 256) ∧ Boxed W (t + 1) 3 (.int .i64 0) ∧ Boxed W (t + 1 + 1) 3 (.int .i64 ((pre.length : Nat) : Int)) ∧
      W.ownsRow s 2 1 (.slice (some ⟨s + 1, 0, none⟩) 256 256) 256 ((lay9 false pre).1.map encI)) ∧ Below s w W)
    (fun _ _ _ => False)
    (OwnFrom.and (OwnFrom.and (Own.from (boxed_own _ _ _) _) (OwnFrom.and (Own.from (boxed_own _ _ _) _) (OwnFrom.and (Own.from (boxed_own _ _ _) _) (OwnFrom.and (Own.from (boxed_own _ _ _) _) (Own.from (row_ownI _ _ _ _ _ _) _))))) (ownFrom_below (by have := HS.out; omega) (by omega)))
    (fun _ _ _ _ _ hs _ _ => hs)
    ⟨⟨bG4, bL4, bH4, bP, hown4⟩, hB4⟩
    (fun x => { tmps := #[.func (.func 22) #[] #[.pointer (some ⟨Bq, 0, none⟩)], .bool false, undef, .pointer (some ⟨s, 0, none⟩), .slice none 0 0, .pointer (some ⟨t, 0, none⟩), .pointer (some ⟨t + 1, 0, none⟩), .pointer (some ⟨t + 1 + 1, 0, none⟩), .int .i64 (x.1 : Int), .slice (some ⟨s + 1, 0, none⟩) 256 256, .bool false, .int .i64 0,
      .func (.func 22) #[] #[.pointer (some ⟨Bq, 0, none⟩)], .int .i64 (x.1 : Int), undef, undef, undef, undef, undef, undef, undef, undef, undef, undef, undef, undef, undef, undef, undef, undef, undef, undef], defers := [] }) ?assign ?body ?done ?stop
  case assign =>
    intro l x W K hK
    gi_wp2
    exact hK
  case body =>
    rintro l pre x W ⟨⟨hG, hL, hH, hP, hrow⟩, hBl⟩ hlt
    have hlt' : pre.length < 254 := hlt
    have hxl := x.2
    have hlen := lay9_len false pre
    have hpl := lay9_place false pre
    have hsn := lay9_snoc false pre x
    obtain ⟨r, er⟩ : ∃ r, lay9 false pre = r := ⟨_, rfl⟩
    obtain ⟨p, ep⟩ : ∃ p, pre.length = p := ⟨_, rfl⟩
    obtain ⟨p1, ep1⟩ : ∃ p1, p + 1 = p1 := ⟨_, rfl⟩
    have er2 : r.2 = p := by rw [← er, hpl]; unfold half9; simpa using ep
    have epl : (pre ++ [x]).length = p1 := by rw [List.length_append, ← ep1, ← ep]; rfl
    have hsn1 : (lay9 false (pre ++ [x])).1 = r.1.set p1 (x.1 : Int) := by rw [hsn, er]; unfold stepL; rw [er2, ep1]; rfl
    rw [er] at hrow hlen
    rw [ep] at hP
    have p1l : p1 ≤ 254 := by omega
    have k1 : IntKind.i64.wrap ((p : Int) + 1) = (p1 : Int) := by rw [IntWalk.i64_in _ (by omega)]; omega
    have p1i : (p1 : Int) < 256 := by omega
    have p1n : p1 < 256 := by omega
    obtain ⟨xv, ex⟩ : ∃ xv, ((x.1 : Nat) : Int) = xv := ⟨_, rfl⟩
    have hP1 := hP.set (.int .i64 (p1 : Int))
    have hG1 := hG.other (B' := t + 1 + 1) (by omega) (.int .i64 (p1 : Int))
    have hL1 := hL.other (B' := t + 1 + 1) (by omega) (.int .i64 (p1 : Int))
    have hH1 := hH.other (B' := t + 1 + 1) (by omega) (.int .i64 (p1 : Int))
    have hrow1 := hrow.kept (grownBy_setCell' W (t + 1 + 1) (.int .i64 (p1 : Int))) (.inr (by simp [Value.ownBlock]; omega))
    have cP0 := hP.cell
    have fP0 := hP.frozen
    obtain ⟨W1, eW1⟩ : ∃ W1, W.setCell ⟨t + 1 + 1, 0, none⟩ (.int .i64 (p1 : Int)) = W1 := ⟨_, rfl⟩
    rw [eW1] at hP1 hG1 hL1 hH1 hrow1
    have cL1 := hL1.cell
    have cP1 := hP1.cell
    have cR1 := hrow1.cellAt p1 (by omega)
    obtain ⟨v1, ev1⟩ := atI hlen p1n
    rw [ev1] at cR1
    have fR1 := hrow1.frozenAt p1
    obtain ⟨hrow2, hgr2⟩ := hrow1.stored p1 (.int .i64 xv)
    have hG2 := hG1.kept hgr2 (by simp)
    have hL2 := hL1.kept hgr2 (by simp; omega)
    have hH2 := hH1.kept hgr2 (by simp; omega)
    have hP2 := hP1.kept hgr2 (by simp; omega)
    obtain ⟨W2, eW2⟩ : ∃ W2, W1.setCell ⟨s + 1, p1, none⟩ (.int .i64 xv) = W2 := ⟨_, rfl⟩
    rw [eW2] at hrow2 hG2 hL2 hH2 hP2
    have cG2 := hG2.cell
    have hKO : KeepsOthers W W2 := by rw [← eW2, ← eW1]; exact (KeepsOthers.setCell _ _ _).trans (KeepsOthers.setCell _ _ _)
    have hBW : Below s W W2 := by rw [← eW2, ← eW1]; exact ((Below.refl s W).setCell (p := ⟨t + 1 + 1, 0, none⟩) (by simp; omega) _).setCell (p := ⟨s + 1, p1, none⟩) (by simp) _
    have HSN := Lib.hid hsn1
    have HEP := Lib.hid epl
    have HEX := Lib.hid ex
    have hrow3' : W2.ownsRow s 2 1 (.slice (some ⟨s + 1, 0, none⟩) 256 256) 256 ((lay9 false (pre ++ [x])).1.map encI) := by
      rw [HSN.out, List.map_set, HEX.out]; exact hrow2
    rw [← HEP.out] at hP2
    have HRES := Lib.hid (And.intro (And.intro hG2 (And.intro hL2 (And.intro hH2 (And.intro hP2 hrow3')))) (hBl.trans hBW))
    clear ev1 hrow3' hrow2 hrow1 hrow hG2 hL2 hH2 hP2 hG1 hL1 hH1 hP1 hG hL hH hP hgr2 hsn1 epl ep1 ep er er2 hsn hpl hlen hBl
    rw [ex] at *
    clear ex
    gi_wp2
    exact ⟨hKO.from _, trivial, HRES.out⟩
  case done =>
    rintro D ys W hD hys ⟨⟨hG, hL, hH, hP, hrow⟩, hBl⟩ hK
    have hdone := lay9_done false
    rw [← hys] at hdone
    have hlen := lay9_len false ys
    obtain ⟨r, er⟩ : ∃ r, (lay9 false ys).1 = r := ⟨_, rfl⟩
    rw [er] at hrow hlen hdone
    have HD := Lib.hid hdone
    have hrl := (hrow.lt (s + 1) rfl).2
    have cL := hL.cell
    have cR := hrow.cellAt 255 (by omega)
    obtain ⟨v1, ev1⟩ := atI (j := 255) hlen (by omega)
    rw [ev1] at cR
    have fR := hrow.frozenAt 255
    obtain ⟨hrow2, hgr2⟩ := hrow.stored 255 (.int .i64 2560000000)
    have hL2 := hL.kept hgr2 (by simp; omega)
    have cL2 := hL2.cell
    have hBW : Below s W (W.setCell ⟨s + 1, 255, none⟩ (.int .i64 2560000000)) := (Below.refl s W).setCell (p := ⟨s + 1, 255, none⟩) (by simp) _
    have hK2 := (KeepsOthers.setCell W ⟨s + 1, 255, none⟩ (.int .i64 2560000000)).same D _ hK rfl
    obtain ⟨W2, eW2⟩ : ∃ W2, W.setCell ⟨s + 1, 255, none⟩ (.int .i64 2560000000) = W2 := ⟨_, rfl⟩
    rw [eW2] at hrow2 hL2 cL2 hBW hK2
    clear ev1 hdone er hys hrow hL hG hH hP hgr2
    gi_wp2
    refine ⟨by simp, .inl ⟨_, _, rfl, run_takeDeferred hK2, ?_⟩⟩
    have hrow' := ownsRow_putObj hrow2 (.deferred none) hK2 rfl
    refine ⟨_, results_tmp rfl _ _ _, _, _, _, rfl, ?_, ?_⟩
    · rw [← HD.out]
      refine IR.of_own (base := s) (e := 2) ?_
      rw [List.map_set]
      exact hrow'
    · rw [HS.out]; exact (hBl.trans hBW).trans (belowK_b (w := W0) (by omega) W2 D _ _ hD hK2 rfl rfl)
  case stop =>
    rintro D c pre W _ _ h _
    exact h.elim
end Go.Proofs.Ytcbchofjaegdgaa
