/-
  Several texts in one: J2, J3, JB, JC, J11b.
-/
import Derived.Test.YtpidpebgeblenaaGreatA5
import Derived.Test.YtpidpebgeblenaaGreatA4
import Derived.Test.YtpidpebgeblenaaGreatA3

/-
  The landed book: tree.
-/
namespace Go.Proofs.YtpidpebgeblenaaGreat
set_option maxRecDepth 100000
set_option maxHeartbeats 4000000
open Go.RowKit Go.Shelf
set_option linter.unusedVariables false
set_option linter.unusedSimpArgs false

attribute [local go_sem] Oper.semAt_some

/-- The place of nought. -/
def half9 (s : Bool) : Nat := if s then 127 else 0
/-- A number is laid down: the row, and the place. -/
def stepL (s : Bool) (st : List Int × Nat) (x : Mid) : List Int × Nat :=
  (if s then (st.1.set (st.2 + 1) (x.1 : Int)).set (254 - (st.2 + 1)) (-(x.1 : Int)) else st.1.set (st.2 + 1) (x.1 : Int), st.2 + 1)
def lay9 (s : Bool) (pre : List Mid) : List Int × Nat := pre.foldl (stepL s) (List.replicate 256 0, half9 s)
theorem lay9_snoc (s : Bool) (pre : List Mid) (x : Mid) : lay9 s (pre ++ [x]) = stepL s (lay9 s pre) x := by unfold lay9; rw [List.foldl_append]; rfl
theorem fold_place (s : Bool) : ∀ (pre : List Mid) (st : List Int × Nat), (pre.foldl (stepL s) st).2 = st.2 + pre.length
  | [], st => rfl
  | x :: pre, st => by rw [List.foldl_cons, fold_place s pre]; show st.2 + 1 + pre.length = _; rw [List.length_cons]; omega
theorem lay9_place (s : Bool) (pre : List Mid) : (lay9 s pre).2 = half9 s + pre.length := fold_place s pre _
theorem fold_len (s : Bool) : ∀ (pre : List Mid) (st : List Int × Nat), (pre.foldl (stepL s) st).1.length = st.1.length
  | [], st => rfl
  | x :: pre, st => by rw [List.foldl_cons, fold_len s pre]; unfold stepL; cases s <;> simp
theorem lay9_len (s : Bool) (pre : List Mid) : (lay9 s pre).1.length = 256 := by unfold lay9; rw [fold_len]; exact List.length_replicate
theorem lay9_done (s : Bool) : (lay9 s (told s 7)).1.set 255 2560000000 = tree9 s := by cases s <;> decide +kernel
theorem row_ownI {β : Type} (n₀ : Nat) (e : TypeId) (size : Nat) (v : β → Value) (k : β → Nat) (f : β → List Value) : Own (fun s W => W.ownsRow n₀ e size (v s) (k s) (f s)) := by
  rintro s X Y row hr hg hrow
  refine hr.kept hg ?_
  rcases hr.2 with ⟨h, _⟩ | ⟨g, cap, cur, h, _, hgb, _⟩
  · exact .inl (by rw [h]; rfl)
  · refine .inr fun e' => ?_
    obtain ⟨o, ho, hc⟩ := hrow g (by rw [← e', h]; rfl)
    rw [hgb] at ho; cases ho; cases hc
theorem atI {l : List Int} {j n : Nat} (h : l.length = n) (hj : j < n) : ∃ v, (l.map encI)[j]? = some (.int .i64 v) := by
  rw [List.getElem?_map, List.getElem?_eq_getElem (by omega)]
  exact ⟨_, rfl⟩
theorem made_zeroI (n : Nat) : (madeCells (Value.int .i64 0).cells (n * 1)).toList = (List.replicate n (0 : Int)).map encI := by
  rw [Nat.mul_one, show (Value.int .i64 0).cells = #[Value.int .i64 0] from rfl, toList_madeCells_one, List.map_replicate]
  rfl

theorem wpListIn_make_full9 {F : Fence} {n : Nat} {P : Program} (w : World) {ops : Array Oper} {rest : List Oper} {o : Oper} {a : Act} {Q : Exit → Act → World → Prop}
    (hg : o.guard = none) (l c : Operand) (t : TypeId) (hop : o.op = Op.makeSlice t l c)
    (base : Nat) (e : TypeId) (i : TypeInfo) (z : Value) (size : Nat) (h1 : P.underlying t = some (.slice e)) (h2 : P.info? e = some i) (h3 : i.zero = some z) (h4 : i.size = size)
    (kl kc : IntKind) (m : Nat) (hl : a.eval l = .int kl (m : Int)) (hc : a.eval c = .int kc (m : Int)) (b2 : i.bytes * m ≤ 281474976710656) (b3 : m ≤ maxLen) (b4 : base ≤ w.heap.size)
    (hK : ∀ w', w'.ownsRow base e size (.slice (some ⟨w.heap.size, 0, none⟩) m m) m (madeCells z.cells (m * size)).toList → w.grownBy w' none → wpListIn F n P ops Q rest (a.put o.dst (.slice (some ⟨w.heap.size, 0, none⟩) m m)) w') :
    wpListIn F n P ops Q (o :: rest) a w := by
  refine wpListIn_plain hg fun K hK' => ?_
  obtain ⟨w', hrun, r1, r2⟩ := run_make_full (P := P) w base t e i z size h1 h2 h3 h4 kl kc m b2 b3 b4
  unfold Oper.wpIn
  refine ⟨?_, ?_⟩
  · simp [Oper.about, hop]
  · rw [Oper.semAt_plain F _ _ (by rw [hop]; intro c hc'; cases hc')]
    simp [execOp, hop, hl, hc, hrun, Result.andThen]
    exact hK' _ _ (hK w' r1 r2)

theorem tree_t (Bq : Nat) (w : World) (hq : Boxed w Bq 2 (.int .i64 ((many9 true 0 : Nat) : Int))) :
    Calls Tryz.prog 130 #[.func (.func 141) #[] #[.pointer (some ⟨Bq, 0, none⟩)], .bool true] w (GotI w (tree9 true)) := by
  refine (callsIn_wide (n := 10)).1 ?_
  refine callsIn_of_wp_marks Tryz.func130 rfl trivial ?_ rfl
  simp only [Tryz.ntmps130, List.size_toArray, List.length_cons, List.length_nil, Nat.reduceAdd, Nat.reduceSub, Array.replicate_succ, Array.replicate_zero, List.push_toArray, List.append_toArray, List.nil_append, List.cons_append]
  obtain ⟨i0, hi, hz0, hz1, hz2⟩ := info_parts infoI
  obtain ⟨s, hs⟩ : ∃ s, w.heap.size = s := ⟨_, rfl⟩
  have HS := Lib.hid hs
  have bG := Boxed.new w 4 (.bool true)
  rw [hs] at bG
  have cG := bG.cell
  have hbw : Below s w (w.alloc (.cells #[.bool true] 4)) := (Below.refl s w).alloc (by omega) _
  obtain ⟨w0, hw0⟩ : ∃ w0, w.alloc (.cells #[.bool true] 4) = w0 := ⟨_, rfl⟩
  have hz0' : w0.heap.size = s + 1 := by rw [← hw0, World.size_alloc, hs]
  rw [hw0] at bG cG hbw
  gi_wp2_with (gi_at_make; refine wpListIn_make_full9 _ rfl _ _ 34 rfl s 2 i0 (.int .i64 0) 1 Tryz.underlying34 hi hz0 hz1 .i64 .i64 256 rfl rfl (by rw [hz2]; omega) (by unfold maxLen; omega) (by rw [hz0']; omega) ?_; intro w1 hown1 hgrow1; rw [made_zeroI] at hown1; have bG1 := bG.kept hgrow1 (by simp); have cG1 := ((bG1.alloc (.cells #[.slice (some ⟨s + 1, 0, none⟩) 256 256] 34)).alloc (.cells #[.int .i64 0] 3)).cell)
  rw [hz0'] at hown1
  obtain ⟨t, ht⟩ : ∃ t, w1.heap.size = t := ⟨_, rfl⟩
  rw [ht]
  have hst : s + 1 < t := by have := (hown1.lt (s + 1) rfl).2; omega
  have bL := Boxed.new w1 34 (.slice (some ⟨s + 1, 0, none⟩) 256 256)
  rw [ht] at bL
  have hB1 : Below s w w1 := hbw.grown hgrow1 (by omega) (fun k h => by cases h)
  have hown2 := hown1.alloc (.cells #[.slice (some ⟨s + 1, 0, none⟩) 256 256] 34)
  have bG2 := bG1.alloc (.cells #[.slice (some ⟨s + 1, 0, none⟩) 256 256] 34)
  have hB2 := hB1.alloc (by omega) (.cells #[.slice (some ⟨s + 1, 0, none⟩) 256 256] 34)
  obtain ⟨w2, hw2⟩ : ∃ w2, w1.alloc (.cells #[.slice (some ⟨s + 1, 0, none⟩) 256 256] 34) = w2 := ⟨_, rfl⟩
  have hz2' : w2.heap.size = t + 1 := by rw [← hw2, World.size_alloc, ht]
  rw [hw2] at bL hown2 bG2 hB2 ⊢
  have bH := Boxed.new w2 3 (.int .i64 127)
  rw [hz2'] at bH
  have hown3 := hown2.alloc (.cells #[.int .i64 127] 3)
  have bG3 := bG2.alloc (.cells #[.int .i64 127] 3)
  have bL3 := bL.alloc (.cells #[.int .i64 127] 3)
  have hB3 := hB2.alloc (by omega) (.cells #[.int .i64 127] 3)
  obtain ⟨w3, hw3⟩ : ∃ w3, w2.alloc (.cells #[.int .i64 127] 3) = w3 := ⟨_, rfl⟩
  have hz3' : w3.heap.size = t + 1 + 1 := by rw [← hw3, World.size_alloc, hz2']
  rw [hw3] at bH hown3 bG3 bL3 hB3 ⊢
  have bP := Boxed.new w3 3 (.int .i64 127)
  rw [hz3'] at bP
  have hown4 := hown3.alloc (.cells #[.int .i64 127] 3)
  have bG4 := bG3.alloc (.cells #[.int .i64 127] 3)
  have bL4 := bL3.alloc (.cells #[.int .i64 127] 3)
  have bH4 := bH.alloc (.cells #[.int .i64 127] 3)
  have hB4 := hB3.alloc (by omega) (.cells #[.int .i64 127] 3)
  obtain ⟨W0, hW0⟩ : ∃ W0, w3.alloc (.cells #[.int .i64 127] 3) = W0 := ⟨_, rfl⟩
  have hsz : W0.heap.size = t + 3 := by rw [← hW0, World.size_alloc, hz3']
  rw [hW0] at bP hown4 bG4 bL4 bH4 hB4 ⊢
  have hq0 : Boxed W0 Bq 2 (.int .i64 ((many9 true 0 : Nat) : Int)) := (hB4.block Bq (by have := hq.lt; omega)).trans hq
  clear hown1 hgrow1 hw2 hz2' hown2 bG2 hB2 hw3 hz3' hown3 bG3 bL3 hB3 hW0 ht bL bH bG bG1 cG cG1 hw0 hz0' hbw hB1 hq
  refine wpIn_rangeFunc_ownG rfl (by decide) (gf := 141) (lb := #[.pointer (some ⟨Bq, 0, none⟩)]) rfl trivial (enters_of Tryz.func141 (by kernel_rfl) rfl)
    (mids_stops Bq true W0 hq0)
    (fun _ _ => trivial) (fun _ _ _ _ _ _ _ _ => trivial) (Below.refl _ _) (fun _ => rfl)
    (fun pre W => (Boxed W s 4 (.bool true) ∧ Boxed W t 34 (.slice (some ⟨s + 1, 0, none⟩) 256 256) ∧ Boxed W (t + 1) 3 (.int .i64 127) ∧ Boxed W (t + 1 + 1) 3 (.int .i64 ((127 + pre.length : Nat) : Int)) ∧
      W.ownsRow s 2 1 (.slice (some ⟨s + 1, 0, none⟩) 256 256) 256 ((lay9 true pre).1.map encI)) ∧ Below s w W)
    (fun _ _ _ => False)
    (OwnFrom.and (OwnFrom.and (Own.from (boxed_own _ _ _) _) (OwnFrom.and (Own.from (boxed_own _ _ _) _) (OwnFrom.and (Own.from (boxed_own _ _ _) _) (OwnFrom.and (Own.from (boxed_own _ _ _) _) (Own.from (row_ownI _ _ _ _ _ _) _))))) (ownFrom_below (by have := HS.out; omega) (by omega)))
    (fun _ _ _ _ _ hs _ _ => hs)
    ⟨⟨bG4, bL4, bH4, bP, hown4⟩, hB4⟩
    (fun x => { tmps := #[.func (.func 141) #[] #[.pointer (some ⟨Bq, 0, none⟩)], .bool true, undef, .pointer (some ⟨s, 0, none⟩), .slice none 0 0, .pointer (some ⟨t, 0, none⟩), .pointer (some ⟨t + 1, 0, none⟩), .pointer (some ⟨t + 1 + 1, 0, none⟩), .int .i64 (x.1 : Int), .slice (some ⟨s + 1, 0, none⟩) 256 256, .bool true, .int .i64 127,
      .func (.func 141) #[] #[.pointer (some ⟨Bq, 0, none⟩)], .int .i64 (x.1 : Int), undef, undef, undef, undef, undef, undef, undef, undef, undef, undef, undef, undef, undef, undef, undef, undef, undef, undef], defers := [] }) ?assign ?body ?done ?stop
  case assign =>
    intro l x W K hK
    gi_wp2
    exact hK
  case body =>
    rintro l pre x W ⟨⟨hG, hL, hH, hP, hrow⟩, hBl⟩ hlt
    have hlt' : pre.length < 127 := hlt
    have hxl := x.2
    have hlen := lay9_len true pre
    have hpl := lay9_place true pre
    have hsn := lay9_snoc true pre x
    obtain ⟨r, er⟩ : ∃ r, lay9 true pre = r := ⟨_, rfl⟩
    obtain ⟨p, ep⟩ : ∃ p, 127 + pre.length = p := ⟨_, rfl⟩
    obtain ⟨p1, ep1⟩ : ∃ p1, p + 1 = p1 := ⟨_, rfl⟩
    have er2 : r.2 = p := by rw [← er, hpl]; exact ep
    have epl : 127 + (pre ++ [x]).length = p1 := by rw [List.length_append, ← ep1, ← ep]; rfl
    have hsn1 : (lay9 true (pre ++ [x])).1 = (r.1.set p1 (x.1 : Int)).set (254 - p1) (-(x.1 : Int)) := by rw [hsn, er]; unfold stepL; rw [er2, ep1]; rfl
    rw [er] at hrow hlen
    rw [ep] at hP
    have p1l : p1 ≤ 254 := by omega
    have k1 : IntKind.i64.wrap ((p : Int) + 1) = (p1 : Int) := by rw [IntWalk.i64_in _ (by omega)]; omega
    have p1i : (p1 : Int) < 256 := by omega
    have p1n : p1 < 256 := by omega
    obtain ⟨xv, ex⟩ : ∃ xv, ((x.1 : Nat) : Int) = xv := ⟨_, rfl⟩
    have hP1 := hP.set (.int .i64 (p1 : Int))
    have hG1 := hG.other (B' := t + 1 + 1) (by omega) (.int .i64 (p1 : Int))
    have hL1 := hL.other (B' := t + 1 + 1) (by omega) (.int .i64 (p1 : Int))
    have hH1 := hH.other (B' := t + 1 + 1) (by omega) (.int .i64 (p1 : Int))
    have hrow1 := hrow.kept (grownBy_setCell' W (t + 1 + 1) (.int .i64 (p1 : Int))) (.inr (by simp [Value.ownBlock]; omega))
    have cP0 := hP.cell
    have fP0 := hP.frozen
    obtain ⟨W1, eW1⟩ : ∃ W1, W.setCell ⟨t + 1 + 1, 0, none⟩ (.int .i64 (p1 : Int)) = W1 := ⟨_, rfl⟩
    rw [eW1] at hP1 hG1 hL1 hH1 hrow1
    have cL1 := hL1.cell
    have cP1 := hP1.cell
    have cR1 := hrow1.cellAt p1 (by omega)
    obtain ⟨v1, ev1⟩ := atI hlen p1n
    rw [ev1] at cR1
    have fR1 := hrow1.frozenAt p1
    obtain ⟨hrow2, hgr2⟩ := hrow1.stored p1 (.int .i64 xv)
    have hG2 := hG1.kept hgr2 (by simp)
    have hL2 := hL1.kept hgr2 (by simp; omega)
    have hH2 := hH1.kept hgr2 (by simp; omega)
    have hP2 := hP1.kept hgr2 (by simp; omega)
    obtain ⟨W2, eW2⟩ : ∃ W2, W1.setCell ⟨s + 1, p1, none⟩ (.int .i64 xv) = W2 := ⟨_, rfl⟩
    rw [eW2] at hrow2 hG2 hL2 hH2 hP2
    have cG2 := hG2.cell
    have cL2 := hL2.cell
    have cH2 := hH2.cell
    have cP2 := hP2.cell
    obtain ⟨q, eq⟩ : ∃ q, 254 - p1 = q := ⟨_, rfl⟩
    rw [eq] at hsn1
    have k2 : IntKind.i64.wrap ((254 : Int) - (p1 : Int)) = (q : Int) := by rw [IntWalk.i64_in _ (by omega)]; omega
    have k3 : IntKind.i64.wrap (-xv) = -xv := by rw [IntWalk.i64_in _ (by omega)]
    have qi : (q : Int) < 256 := by omega
    have qn : q < 256 := by omega
    obtain ⟨y, ey⟩ : ∃ y, -xv = y := ⟨_, rfl⟩
    have k4 : wrap64 (-xv) = y := (IntWalk.wrap64_in _ (by omega)).trans ey
    clear k3
    have cR2 := hrow2.cellAt q (by omega)
    obtain ⟨v2, ev2⟩ := atI (l := r.1.set p1 xv) (j := q) (by rw [List.length_set]; exact hlen) qn
    rw [List.map_set] at ev2
    rw [show (r.1.map encI).set p1 (.int .i64 xv) = (r.1.map encI).set p1 (encI xv) from rfl, ev2] at cR2
    have fR2 := hrow2.frozenAt q
    obtain ⟨hrow3, hgr3⟩ := hrow2.stored q (.int .i64 y)
    have hG3 := hG2.kept hgr3 (by simp)
    have hL3 := hL2.kept hgr3 (by simp; omega)
    have hH3 := hH2.kept hgr3 (by simp; omega)
    have hP3 := hP2.kept hgr3 (by simp; omega)
    have hKO : KeepsOthers W (W2.setCell ⟨s + 1, q, none⟩ (.int .i64 y)) := by rw [← eW2, ← eW1]; exact ((KeepsOthers.setCell _ _ _).trans (KeepsOthers.setCell _ _ _)).trans (KeepsOthers.setCell _ _ _)
    have hBW : Below s W (W2.setCell ⟨s + 1, q, none⟩ (.int .i64 y)) := by rw [← eW2, ← eW1]; exact (((Below.refl s W).setCell (p := ⟨t + 1 + 1, 0, none⟩) (by simp; omega) _).setCell (p := ⟨s + 1, p1, none⟩) (by simp) _).setCell (p := ⟨s + 1, q, none⟩) (by simp) _
    obtain ⟨W3, eW3⟩ : ∃ W3, W2.setCell ⟨s + 1, q, none⟩ (.int .i64 y) = W3 := ⟨_, rfl⟩
    rw [eW3] at hrow3 hG3 hL3 hH3 hP3 hKO hBW
    have HSN := Lib.hid hsn1
    have HEP := Lib.hid epl
    have HEX := Lib.hid ex
    have HEY := Lib.hid ey
    have hrow3' : W3.ownsRow s 2 1 (.slice (some ⟨s + 1, 0, none⟩) 256 256) 256 ((lay9 true (pre ++ [x])).1.map encI) := by
      rw [HSN.out, List.map_set, List.map_set, HEX.out, HEY.out]; exact hrow3
    rw [← HEP.out] at hP3
    have HRES := Lib.hid (And.intro (And.intro hG3 (And.intro hL3 (And.intro hH3 (And.intro hP3 hrow3')))) (hBl.trans hBW))
    clear ev1 ev2 hrow3' hrow3 hrow2 hrow1 hrow hG3 hL3 hH3 hP3 hG2 hL2 hH2 hP2 hG1 hL1 hH1 hP1 hG hL hH hP hgr2 hgr3 hsn1 epl ey eq ep1 ep er er2 hsn hpl hlen hBl
    rw [ex] at *
    clear ex
    gi_wp2
    exact ⟨hKO.from _, trivial, HRES.out⟩
  case done =>
    rintro D ys W hD hys ⟨⟨hG, hL, hH, hP, hrow⟩, hBl⟩ hK
    have hdone := lay9_done true
    rw [← hys] at hdone
    have hlen := lay9_len true ys
    obtain ⟨r, er⟩ : ∃ r, (lay9 true ys).1 = r := ⟨_, rfl⟩
    rw [er] at hrow hlen hdone
    have HD := Lib.hid hdone
    have hrl := (hrow.lt (s + 1) rfl).2
    have cL := hL.cell
    have cR := hrow.cellAt 255 (by omega)
    obtain ⟨v1, ev1⟩ := atI (j := 255) hlen (by omega)
    rw [ev1] at cR
    have fR := hrow.frozenAt 255
    obtain ⟨hrow2, hgr2⟩ := hrow.stored 255 (.int .i64 2560000000)
    have hL2 := hL.kept hgr2 (by simp; omega)
    have cL2 := hL2.cell
    have hBW : Below s W (W.setCell ⟨s + 1, 255, none⟩ (.int .i64 2560000000)) := (Below.refl s W).setCell (p := ⟨s + 1, 255, none⟩) (by simp) _
    have hK2 := (KeepsOthers.setCell W ⟨s + 1, 255, none⟩ (.int .i64 2560000000)).same D _ hK rfl
    obtain ⟨W2, eW2⟩ : ∃ W2, W.setCell ⟨s + 1, 255, none⟩ (.int .i64 2560000000) = W2 := ⟨_, rfl⟩
    rw [eW2] at hrow2 hL2 cL2 hBW hK2
    clear ev1 hdone er hys hrow hL hG hH hP hgr2
    gi_wp2
    refine ⟨by simp, .inl ⟨_, _, rfl, run_takeDeferred hK2, ?_⟩⟩
    have hrow' := ownsRow_putObj hrow2 (.deferred none) hK2 rfl
    refine ⟨_, results_tmp rfl _ _ _, _, _, _, rfl, ?_, ?_⟩
    · rw [← HD.out]
      refine IR.of_own (base := s) (e := 2) ?_
      rw [List.map_set]
      exact hrow'
    · rw [HS.out]; exact (hBl.trans hBW).trans (belowK_b (w := W0) (by omega) W2 D _ _ hD hK2 rfl rfl)
  case stop =>
    rintro D c pre W _ _ h _
    exact h.elim

theorem tree_f (Bq : Nat) (w : World) (hq : Boxed w Bq 2 (.int .i64 ((many9 false 0 : Nat) : Int))) :
    Calls Tryz.prog 130 #[.func (.func 141) #[] #[.pointer (some ⟨Bq, 0, none⟩)], .bool false] w (GotI w (tree9 false)) := by
  refine (callsIn_wide (n := 10)).1 ?_
  refine callsIn_of_wp_marks Tryz.func130 rfl trivial ?_ rfl
  simp only [Tryz.ntmps130, List.size_toArray, List.length_cons, List.length_nil, Nat.reduceAdd, Nat.reduceSub, Array.replicate_succ, Array.replicate_zero, List.push_toArray, List.append_toArray, List.nil_append, List.cons_append]
  obtain ⟨i0, hi, hz0, hz1, hz2⟩ := info_parts infoI
  obtain ⟨s, hs⟩ : ∃ s, w.heap.size = s := ⟨_, rfl⟩
  have HS := Lib.hid hs
  have bG := Boxed.new w 4 (.bool false)
  rw [hs] at bG
  have cG := bG.cell
  have hbw : Below s w (w.alloc (.cells #[.bool false] 4)) := (Below.refl s w).alloc (by omega) _
  obtain ⟨w0, hw0⟩ : ∃ w0, w.alloc (.cells #[.bool false] 4) = w0 := ⟨_, rfl⟩
  have hz0' : w0.heap.size = s + 1 := by rw [← hw0, World.size_alloc, hs]
  rw [hw0] at bG cG hbw
  gi_wp2_with (gi_at_make; refine wpListIn_make_full9 _ rfl _ _ 34 rfl s 2 i0 (.int .i64 0) 1 Tryz.underlying34 hi hz0 hz1 .i64 .i64 256 rfl rfl (by rw [hz2]; omega) (by unfold maxLen; omega) (by rw [hz0']; omega) ?_; intro w1 hown1 hgrow1; rw [made_zeroI] at hown1; have bG1 := bG.kept hgrow1 (by simp); have cG1 := ((bG1.alloc (.cells #[.slice (some ⟨s + 1, 0, none⟩) 256 256] 34)).alloc (.cells #[.int .i64 0] 3)).cell)
  rw [hz0'] at hown1
  obtain ⟨t, ht⟩ : ∃ t, w1.heap.size = t := ⟨_, rfl⟩
  rw [ht]
  have hst : s + 1 < t := by have := (hown1.lt (s + 1) rfl).2; omega
  have bL := Boxed.new w1 34 (.slice (some ⟨s + 1, 0, none⟩) 256 256)
  rw [ht] at bL
  have hB1 : Below s w w1 := hbw.grown hgrow1 (by omega) (fun k h => by cases h)
  have hown2 := hown1.alloc (.cells #[.slice (some ⟨s + 1, 0, none⟩) 256 256] 34)
  have bG2 := bG1.alloc (.cells #[.slice (some ⟨s + 1, 0, none⟩) 256 256] 34)
  have hB2 := hB1.alloc (by omega) (.cells #[.slice (some ⟨s + 1, 0, none⟩) 256 256] 34)
  obtain ⟨w2, hw2⟩ : ∃ w2, w1.alloc (.cells #[.slice (some ⟨s + 1, 0, none⟩) 256 256] 34) = w2 := ⟨_, rfl⟩
  have hz2' : w2.heap.size = t + 1 := by rw [← hw2, World.size_alloc, ht]
  rw [hw2] at bL hown2 bG2 hB2 ⊢
  have bH := Boxed.new w2 3 (.int .i64 0)
  rw [hz2'] at bH
  have hown3 := hown2.alloc (.cells #[.int .i64 0] 3)
  have bG3 := bG2.alloc (.cells #[.int .i64 0] 3)
  have bL3 := bL.alloc (.cells #[.int .i64 0] 3)
  have hB3 := hB2.alloc (by omega) (.cells #[.int .i64 0] 3)
  obtain ⟨w3, hw3⟩ : ∃ w3, w2.alloc (.cells #[.int .i64 0] 3) = w3 := ⟨_, rfl⟩
  have hz3' : w3.heap.size = t + 1 + 1 := by rw [← hw3, World.size_alloc, hz2']
  rw [hw3] at bH hown3 bG3 bL3 hB3 ⊢
  have bP := Boxed.new w3 3 (.int .i64 0)
  rw [hz3'] at bP
  have hown4 := hown3.alloc (.cells #[.int .i64 0] 3)
  have bG4 := bG3.alloc (.cells #[.int .i64 0] 3)
  have bL4 := bL3.alloc (.cells #[.int .i64 0] 3)
  have bH4 := bH.alloc (.cells #[.int .i64 0] 3)
  have hB4 := hB3.alloc (by omega) (.cells #[.int .i64 0] 3)
  obtain ⟨W0, hW0⟩ : ∃ W0, w3.alloc (.cells #[.int .i64 0] 3) = W0 := ⟨_, rfl⟩
  have hsz : W0.heap.size = t + 3 := by rw [← hW0, World.size_alloc, hz3']
  rw [hW0] at bP hown4 bG4 bL4 bH4 hB4 ⊢
  have hq0 : Boxed W0 Bq 2 (.int .i64 ((many9 false 0 : Nat) : Int)) := (hB4.block Bq (by have := hq.lt; omega)).trans hq
  clear hown1 hgrow1 hw2 hz2' hown2 bG2 hB2 hw3 hz3' hown3 bG3 bL3 hB3 hW0 ht bL bH bG bG1 cG cG1 hw0 hz0' hbw hB1 hq
  refine wpIn_rangeFunc_ownG rfl (by decide) (gf := 141) (lb := #[.pointer (some ⟨Bq, 0, none⟩)]) rfl trivial (enters_of Tryz.func141 (by kernel_rfl) rfl)
    (mids_stops Bq false W0 hq0)
    (fun _ _ => trivial) (fun _ _ _ _ _ _ _ _ => trivial) (Below.refl _ _) (fun _ => rfl)
    (fun pre W => (Boxed W s 4 (.bool false) ∧ Boxed W t 34 (.slice (some ⟨s + 1, 0, none⟩) 256 256) ∧ Boxed W (t + 1) 3 (.int .i64 0) ∧ Boxed W (t + 1 + 1) 3 (.int .i64 ((pre.length : Nat) : Int)) ∧
      W.ownsRow s 2 1 (.slice (some ⟨s + 1, 0, none⟩) 256 256) 256 ((lay9 false pre).1.map encI)) ∧ Below s w W)
    (fun _ _ _ => False)
    (OwnFrom.and (OwnFrom.and (Own.from (boxed_own _ _ _) _) (OwnFrom.and (Own.from (boxed_own _ _ _) _) (OwnFrom.and (Own.from (boxed_own _ _ _) _) (OwnFrom.and (Own.from (boxed_own _ _ _) _) (Own.from (row_ownI _ _ _ _ _ _) _))))) (ownFrom_below (by have := HS.out; omega) (by omega)))
    (fun _ _ _ _ _ hs _ _ => hs)
    ⟨⟨bG4, bL4, bH4, bP, hown4⟩, hB4⟩
    (fun x => { tmps := #[.func (.func 141) #[] #[.pointer (some ⟨Bq, 0, none⟩)], .bool false, undef, .pointer (some ⟨s, 0, none⟩), .slice none 0 0, .pointer (some ⟨t, 0, none⟩), .pointer (some ⟨t + 1, 0, none⟩), .pointer (some ⟨t + 1 + 1, 0, none⟩), .int .i64 (x.1 : Int), .slice (some ⟨s + 1, 0, none⟩) 256 256, .bool false, .int .i64 0,
      .func (.func 141) #[] #[.pointer (some ⟨Bq, 0, none⟩)], .int .i64 (x.1 : Int), undef, undef, undef, undef, undef, undef, undef, undef, undef, undef, undef, undef, undef, undef, undef, undef, undef, undef], defers := [] }) ?assign ?body ?done ?stop
  case assign =>
    intro l x W K hK
    gi_wp2
    exact hK
  case body =>
    rintro l pre x W ⟨⟨hG, hL, hH, hP, hrow⟩, hBl⟩ hlt
    have hlt' : pre.length < 254 := hlt
    have hxl := x.2
    have hlen := lay9_len false pre
    have hpl := lay9_place false pre
    have hsn := lay9_snoc false pre x
    obtain ⟨r, er⟩ : ∃ r, lay9 false pre = r := ⟨_, rfl⟩
    obtain ⟨p, ep⟩ : ∃ p, pre.length = p := ⟨_, rfl⟩
    obtain ⟨p1, ep1⟩ : ∃ p1, p + 1 = p1 := ⟨_, rfl⟩
    have er2 : r.2 = p := by rw [← er, hpl]; unfold half9; simpa using ep
    have epl : (pre ++ [x]).length = p1 := by rw [List.length_append, ← ep1, ← ep]; rfl
    have hsn1 : (lay9 false (pre ++ [x])).1 = r.1.set p1 (x.1 : Int) := by rw [hsn, er]; unfold stepL; rw [er2, ep1]; rfl
    rw [er] at hrow hlen
    rw [ep] at hP
    have p1l : p1 ≤ 254 := by omega
    have k1 : IntKind.i64.wrap ((p : Int) + 1) = (p1 : Int) := by rw [IntWalk.i64_in _ (by omega)]; omega
    have p1i : (p1 : Int) < 256 := by omega
    have p1n : p1 < 256 := by omega
    obtain ⟨xv, ex⟩ : ∃ xv, ((x.1 : Nat) : Int) = xv := ⟨_, rfl⟩
    have hP1 := hP.set (.int .i64 (p1 : Int))
    have hG1 := hG.other (B' := t + 1 + 1) (by omega) (.int .i64 (p1 : Int))
    have hL1 := hL.other (B' := t + 1 + 1) (by omega) (.int .i64 (p1 : Int))
    have hH1 := hH.other (B' := t + 1 + 1) (by omega) (.int .i64 (p1 : Int))
    have hrow1 := hrow.kept (grownBy_setCell' W (t + 1 + 1) (.int .i64 (p1 : Int))) (.inr (by simp [Value.ownBlock]; omega))
    have cP0 := hP.cell
    have fP0 := hP.frozen
    obtain ⟨W1, eW1⟩ : ∃ W1, W.setCell ⟨t + 1 + 1, 0, none⟩ (.int .i64 (p1 : Int)) = W1 := ⟨_, rfl⟩
    rw [eW1] at hP1 hG1 hL1 hH1 hrow1
    have cL1 := hL1.cell
    have cP1 := hP1.cell
    have cR1 := hrow1.cellAt p1 (by omega)
    obtain ⟨v1, ev1⟩ := atI hlen p1n
    rw [ev1] at cR1
    have fR1 := hrow1.frozenAt p1
    obtain ⟨hrow2, hgr2⟩ := hrow1.stored p1 (.int .i64 xv)
    have hG2 := hG1.kept hgr2 (by simp)
    have hL2 := hL1.kept hgr2 (by simp; omega)
    have hH2 := hH1.kept hgr2 (by simp; omega)
    have hP2 := hP1.kept hgr2 (by simp; omega)
    obtain ⟨W2, eW2⟩ : ∃ W2, W1.setCell ⟨s + 1, p1, none⟩ (.int .i64 xv) = W2 := ⟨_, rfl⟩
    rw [eW2] at hrow2 hG2 hL2 hH2 hP2
    have cG2 := hG2.cell
    have hKO : KeepsOthers W W2 := by rw [← eW2, ← eW1]; exact (KeepsOthers.setCell _ _ _).trans (KeepsOthers.setCell _ _ _)
    have hBW : Below s W W2 := by rw [← eW2, ← eW1]; exact ((Below.refl s W).setCell (p := ⟨t + 1 + 1, 0, none⟩) (by simp; omega) _).setCell (p := ⟨s + 1, p1, none⟩) (by simp) _
    have HSN := Lib.hid hsn1
    have HEP := Lib.hid epl
    have HEX := Lib.hid ex
    have hrow3' : W2.ownsRow s 2 1 (.slice (some ⟨s + 1, 0, none⟩) 256 256) 256 ((lay9 false (pre ++ [x])).1.map encI) := by
      rw [HSN.out, List.map_set, HEX.out]; exact hrow2
    rw [← HEP.out] at hP2
    have HRES := Lib.hid (And.intro (And.intro hG2 (And.intro hL2 (And.intro hH2 (And.intro hP2 hrow3')))) (hBl.trans hBW))
    clear ev1 hrow3' hrow2 hrow1 hrow hG2 hL2 hH2 hP2 hG1 hL1 hH1 hP1 hG hL hH hP hgr2 hsn1 epl ep1 ep er er2 hsn hpl hlen hBl
    rw [ex] at *
    clear ex
    gi_wp2
    exact ⟨hKO.from _, trivial, HRES.out⟩
  case done =>
    rintro D ys W hD hys ⟨⟨hG, hL, hH, hP, hrow⟩, hBl⟩ hK
    have hdone := lay9_done false
    rw [← hys] at hdone
    have hlen := lay9_len false ys
    obtain ⟨r, er⟩ : ∃ r, (lay9 false ys).1 = r := ⟨_, rfl⟩
    rw [er] at hrow hlen hdone
    have HD := Lib.hid hdone
    have hrl := (hrow.lt (s + 1) rfl).2
    have cL := hL.cell
    have cR := hrow.cellAt 255 (by omega)
    obtain ⟨v1, ev1⟩ := atI (j := 255) hlen (by omega)
    rw [ev1] at cR
    have fR := hrow.frozenAt 255
    obtain ⟨hrow2, hgr2⟩ := hrow.stored 255 (.int .i64 2560000000)
    have hL2 := hL.kept hgr2 (by simp; omega)
    have cL2 := hL2.cell
    have hBW : Below s W (W.setCell ⟨s + 1, 255, none⟩ (.int .i64 2560000000)) := (Below.refl s W).setCell (p := ⟨s + 1, 255, none⟩) (by simp) _
    have hK2 := (KeepsOthers.setCell W ⟨s + 1, 255, none⟩ (.int .i64 2560000000)).same D _ hK rfl
    obtain ⟨W2, eW2⟩ : ∃ W2, W.setCell ⟨s + 1, 255, none⟩ (.int .i64 2560000000) = W2 := ⟨_, rfl⟩
    rw [eW2] at hrow2 hL2 cL2 hBW hK2
    clear ev1 hdone er hys hrow hL hG hH hP hgr2
    gi_wp2
    refine ⟨by simp, .inl ⟨_, _, rfl, run_takeDeferred hK2, ?_⟩⟩
    have hrow' := ownsRow_putObj hrow2 (.deferred none) hK2 rfl
    refine ⟨_, results_tmp rfl _ _ _, _, _, _, rfl, ?_, ?_⟩
    · rw [← HD.out]
      refine IR.of_own (base := s) (e := 2) ?_
      rw [List.map_set]
      exact hrow'
    · rw [HS.out]; exact (hBl.trans hBW).trans (belowK_b (w := W0) (by omega) W2 D _ _ hD hK2 rfl rfl)
  case stop =>
    rintro D c pre W _ _ h _
    exact h.elim
end Go.Proofs.YtpidpebgeblenaaGreat

/-
  The landed book: line, Book.
-/
namespace Go.Proofs.YtpidpebgeblenaaGreat
set_option maxRecDepth 100000
set_option maxHeartbeats 4000000
open Go.RowKit
set_option linter.unusedVariables false
set_option linter.unusedSimpArgs false


/-- The first c numbers of a line are laid down. -/
def lin9 (f s : Int) : Nat → List Int
  | 0 => List.replicate 256 0
  | c + 1 => (lin9 f s c).set c (f + s * (c : Int))
theorem lin9_len (f s : Int) : ∀ c, (lin9 f s c).length = 256
  | 0 => List.length_replicate
  | c + 1 => by show ((lin9 f s c).set c _).length = 256; rw [List.length_set]; exact lin9_len f s c
theorem lin9_line : lin9 (-255) 2 256 = linek 256 := by decide +kernel
theorem lin9_uline : lin9 0 1 256 = ulinek 256 := by decide +kernel

theorem bline9 (w : World) : Calls Tryz.prog 132 #[.int .i64 (-255), .int .i64 2] w (GotI w (linek 256)) := by
  obtain ⟨i0, hi, hz0, hz1, hz2⟩ := info_parts infoI
  obtain ⟨s, hs⟩ : ∃ s, w.heap.size = s := ⟨_, rfl⟩
  have HS := Lib.hid hs
  clear hs
  go_enter Tryz.func132, Tryz.ntmps132
  go_wp2_with (at_make; refine wpList_make_full _ rfl _ _ 34 rfl s 2 i0 (.int .i64 0) 1 Tryz.underlying34 hi hz0 hz1 .i64 .i64 _ _ 256 rfl rfl (by omega) (by omega) (by rw [hz2]; omega) (by unfold maxLen; omega) (by rw [HS.out]; omega) ?_; intro w1 hown1 hgrow1; rw [made_zeroI] at hown1)
  rw [HS.out] at hown1 ⊢
  have hB1 : Below s w w1 := (Below.refl s w).grown hgrow1 (by have := HS.out; omega) (fun k h => by cases h)
  go_loopw [6, 10] (fun _ iv wr => ∃ c : Nat, c ≤ 256 ∧ iv = .int .i64 (c : Int) ∧ wr.ownsRow s 2 1 (.slice (some ⟨s, 0, none⟩) 256 256) 256 ((lin9 (-255) 2 c).map encI) ∧ Below s w wr) (fun _ iv _ => 256 - (intOf iv).toNat)
  case atStart => exact ⟨0, by omega, rfl, hown1, hB1⟩
  case round =>
    clear hown1 hgrow1 hB1
    obtain ⟨c, hc, rfl, hrow, hbl⟩ := hrel
    by_cases hlt : c < 256
    · have hlen := lin9_len (-255) 2 c
      have hci : (c : Int) < 256 := by omega
      have cR := hrow.cellAt c (by omega)
      obtain ⟨v1, ev1⟩ := atI (j := c) hlen (by omega)
      rw [ev1] at cR
      have fR := hrow.frozenAt c
      obtain ⟨u, eu⟩ : ∃ u : Int, 2 * (c : Int) = u := ⟨_, rfl⟩
      obtain ⟨x, ex⟩ : ∃ x : Int, (-255) + u = x := ⟨_, rfl⟩
      have k1 : IntKind.i64.wrap (2 * (c : Int)) = u := by rw [IntWalk.i64_in _ (by omega)]; exact eu
      have k2 : IntKind.i64.wrap ((-255) + u) = x := by rw [IntWalk.i64_in _ (by omega)]; exact ex
      obtain ⟨hrow2, hgr2⟩ := hrow.stored c (.int .i64 x)
      have hB2 : Below s w (wr.setCell ⟨s, c, none⟩ (.int .i64 x)) := hbl.setCell (p := ⟨s, c, none⟩) (by simp) _
      have hN : ((lin9 (-255) 2 c).map encI).set c (.int .i64 x) = (lin9 (-255) 2 (c + 1)).map encI := by show _ = ((lin9 (-255) 2 c).set c ((-255) + 2 * (c : Int))).map encI; rw [List.map_set, eu, ex]; rfl
      rw [hN] at hrow2
      have HR := Lib.hid hrow2
      have HB := Lib.hid hB2
      clear hN hrow2 hB2 hrow hbl hgr2 ev1 hlen eu ex
      go_wp2_with fail
      go_roundw
      case rel => exact ⟨c + 1, by omega, by go_num, HR.out, HB.out⟩
      case measure => simp [intOf] <;> omega
    · obtain rfl : c = 256 := by omega
      rw [lin9_line] at hrow
      go_wp2_with fail
      go_ret
      exact ⟨_, _, _, rfl, IR.of_own hrow, by rw [HS.out]; exact hbl⟩

theorem buline9 (w : World) : Calls Tryz.prog 132 #[.int .i64 0, .int .i64 1] w (GotI w (ulinek 256)) := by
  obtain ⟨i0, hi, hz0, hz1, hz2⟩ := info_parts infoI
  obtain ⟨s, hs⟩ : ∃ s, w.heap.size = s := ⟨_, rfl⟩
  have HS := Lib.hid hs
  clear hs
  go_enter Tryz.func132, Tryz.ntmps132
  go_wp2_with (at_make; refine wpList_make_full _ rfl _ _ 34 rfl s 2 i0 (.int .i64 0) 1 Tryz.underlying34 hi hz0 hz1 .i64 .i64 _ _ 256 rfl rfl (by omega) (by omega) (by rw [hz2]; omega) (by unfold maxLen; omega) (by rw [HS.out]; omega) ?_; intro w1 hown1 hgrow1; rw [made_zeroI] at hown1)
  rw [HS.out] at hown1 ⊢
  have hB1 : Below s w w1 := (Below.refl s w).grown hgrow1 (by have := HS.out; omega) (fun k h => by cases h)
  go_loopw [6, 10] (fun _ iv wr => ∃ c : Nat, c ≤ 256 ∧ iv = .int .i64 (c : Int) ∧ wr.ownsRow s 2 1 (.slice (some ⟨s, 0, none⟩) 256 256) 256 ((lin9 0 1 c).map encI) ∧ Below s w wr) (fun _ iv _ => 256 - (intOf iv).toNat)
  case atStart => exact ⟨0, by omega, rfl, hown1, hB1⟩
  case round =>
    clear hown1 hgrow1 hB1
    obtain ⟨c, hc, rfl, hrow, hbl⟩ := hrel
    by_cases hlt : c < 256
    · have hlen := lin9_len 0 1 c
      have hci : (c : Int) < 256 := by omega
      have cR := hrow.cellAt c (by omega)
      obtain ⟨v1, ev1⟩ := atI (j := c) hlen (by omega)
      rw [ev1] at cR
      have fR := hrow.frozenAt c
      obtain ⟨u, eu⟩ : ∃ u : Int, 1 * (c : Int) = u := ⟨_, rfl⟩
      obtain ⟨x, ex⟩ : ∃ x : Int, 0 + u = x := ⟨_, rfl⟩
      have k1 : IntKind.i64.wrap (1 * (c : Int)) = u := by rw [IntWalk.i64_in _ (by omega)]; exact eu
      have k2 : IntKind.i64.wrap (0 + u) = x := by rw [IntWalk.i64_in _ (by omega)]; exact ex
      have k3 : IntKind.i64.wrap (c : Int) = u := by rw [IntWalk.i64_in _ (by omega)]; omega
      have k4 : IntKind.i64.wrap u = x := by rw [IntWalk.i64_in _ (by omega)]; omega
      obtain ⟨hrow2, hgr2⟩ := hrow.stored c (.int .i64 x)
      have hB2 : Below s w (wr.setCell ⟨s, c, none⟩ (.int .i64 x)) := hbl.setCell (p := ⟨s, c, none⟩) (by simp) _
      have hN : ((lin9 0 1 c).map encI).set c (.int .i64 x) = (lin9 0 1 (c + 1)).map encI := by show _ = ((lin9 0 1 c).set c (0 + 1 * (c : Int))).map encI; rw [List.map_set, eu, ex]; rfl
      rw [hN] at hrow2
      have HR := Lib.hid hrow2
      have HB := Lib.hid hB2
      clear hN hrow2 hB2 hrow hbl hgr2 ev1 hlen eu ex
      go_wp2_with fail
      go_roundw
      case rel => exact ⟨c + 1, by omega, by go_num, HR.out, HB.out⟩
      case measure => simp [intOf] <;> omega
    · obtain rfl : c = 256 := by omega
      rw [lin9_uline] at hrow
      go_wp2_with fail
      go_ret
      exact ⟨_, _, _, rfl, IR.of_own hrow, by rw [HS.out]; exact hbl⟩

theorem bbook9_0 (w : World) : Calls Tryz.prog 123 #[.int .i64 0] w (GotIp w (tree9 true) 0) := by
  have hq : Boxed (w.alloc (.cells #[.int .i64 1] 2)) w.heap.size 2 (.int .i64 ((many9 true 0 : Nat) : Int)) := Boxed.new w _ _
  have hb : Below w.heap.size w (w.alloc (.cells #[.int .i64 1] 2)) := (Below.refl _ w).alloc (Nat.le_refl _) _
  go_enter Tryz.func123, Tryz.ntmps123
  go_wp2_with fail
  refine (middles_any 1 _).mono ?_
  rintro e w' ⟨rfl, rfl⟩
  obtain ⟨W, hW⟩ : ∃ W, w.alloc (.cells #[.int .i64 1] 2) = W := ⟨_, rfl⟩
  rw [hW] at hq hb
  try rw [hW]
  have CT := tree_t _ _ hq
  clear hq
  go_wp2_with fail
  refine CT.mono ?_
  rintro e w2 ⟨A, n, c, rfl, h, b⟩
  go_wp2_with fail
  go_ret2
  exact ⟨A, n, c, rfl, h, hb.trans (b.mono hb.size)⟩

theorem bbook9_1 (w : World) : Calls Tryz.prog 123 #[.int .i64 1] w (GotIp w (tree9 false) 0) := by
  have hq : Boxed (w.alloc (.cells #[.int .i64 2] 2)) w.heap.size 2 (.int .i64 ((many9 false 0 : Nat) : Int)) := Boxed.new w _ _
  have hb : Below w.heap.size w (w.alloc (.cells #[.int .i64 2] 2)) := (Below.refl _ w).alloc (Nat.le_refl _) _
  go_enter Tryz.func123, Tryz.ntmps123
  go_wp2_with fail
  refine (middles_any 2 _).mono ?_
  rintro e w' ⟨rfl, rfl⟩
  obtain ⟨W, hW⟩ : ∃ W, w.alloc (.cells #[.int .i64 2] 2) = W := ⟨_, rfl⟩
  rw [hW] at hq hb
  try rw [hW]
  have CT := tree_f _ _ hq
  clear hq
  go_wp2_with fail
  refine CT.mono ?_
  rintro e w2 ⟨A, n, c, rfl, h, b⟩
  go_wp2_with fail
  go_ret2
  exact ⟨A, n, c, rfl, h, hb.trans (b.mono hb.size)⟩

theorem bbook9_2 (w : World) : Calls Tryz.prog 123 #[.int .i64 2] w (GotIp w (linek 256) 0) := by
  go_enter Tryz.func123, Tryz.ntmps123
  go_wp2_with fail
  refine (bline9 _).mono ?_
  rintro e w' ⟨A, n, c, rfl, h, b⟩
  go_wp2_with fail
  go_ret2
  exact ⟨A, n, c, rfl, h, b⟩

theorem bbook9_3 (w : World) : Calls Tryz.prog 123 #[.int .i64 3] w (GotIp w (ulinek 256) 0) := by
  go_enter Tryz.func123, Tryz.ntmps123
  go_wp2_with fail
  refine (buline9 _).mono ?_
  rintro e w' ⟨A, n, c, rfl, h, b⟩
  go_wp2_with fail
  go_ret2
  exact ⟨A, n, c, rfl, h, b⟩

theorem bbook9_no (w : World) {k : Int} (h : ¬ Kind9 k) : Calls Tryz.prog 123 #[.int .i64 k] w (GotIp w [] 1) := by
  have k0 : (k == 0) = false := by simp; exact fun e => h (.inl e)
  have k1 : (k == 1) = false := by simp; exact fun e => h (.inr (.inl e))
  have k2 : (k == 2) = false := by simp; exact fun e => h (.inr (.inr (.inl e)))
  have k3 : (k == 3) = false := by simp; exact fun e => h (.inr (.inr (.inr e)))
  clear h
  go_enter Tryz.func123, Tryz.ntmps123
  go_wp2_with fail
  go_ret2
  exact ⟨_, _, _, rfl, IR.nil _ _ _, Below.refl _ _⟩
theorem bbook_N (w : World) (k : Int) : Calls Tryz.prog 123 #[.int .i64 k] w (GotIp w (book9 k) (code9 k)) := by
  by_cases h : Kind9 k
  · rcases h with rfl | rfl | rfl | rfl
    · exact bbook9_0 w
    · exact bbook9_1 w
    · exact bbook9_2 w
    · exact bbook9_3 w
  · have e1 : book9 k = [] := by unfold book9; unfold Kind9 at h; rw [if_neg (fun e => h (.inl e)), if_neg (fun e => h (.inr (.inl e))), if_neg (fun e => h (.inr (.inr (.inl e)))), if_neg (fun e => h (.inr (.inr (.inr e))))]
    rw [e1, show code9 k = 1 from if_neg h]
    exact bbook9_no w h
end Go.Proofs.YtpidpebgeblenaaGreat

/-
  The landed book: Den, Signed, Gap.
-/
namespace Go.Proofs.YtpidpebgeblenaaGreat
set_option maxRecDepth 100000
set_option maxHeartbeats 1000000
open Go.RowKit
set_option linter.unusedVariables false
set_option linter.unusedSimpArgs false


theorem bden_N (w : World) (k : Int) :
    Calls Tryz.prog 49 #[.int .i64 k] w (GotV w (.int .i64 (den9 k))) := by
  by_cases h : Kind9 k
  · rcases h with rfl | rfl | rfl | rfl
    · go_enter Tryz.func49, Tryz.ntmps49
      go_wp2_with fail
      go_ret
      exact ⟨rfl, Below.refl _ _⟩
    · go_enter Tryz.func49, Tryz.ntmps49
      go_wp2_with fail
      go_ret
      exact ⟨rfl, Below.refl _ _⟩
    · go_enter Tryz.func49, Tryz.ntmps49
      go_wp2_with fail
      go_ret
      exact ⟨rfl, Below.refl _ _⟩
    · go_enter Tryz.func49, Tryz.ntmps49
      go_wp2_with fail
      go_ret
      exact ⟨rfl, Below.refl _ _⟩
  · have k0 : (k == 0) = false := by simp; exact fun e => h (.inl e)
    have k1 : (k == 1) = false := by simp; exact fun e => h (.inr (.inl e))
    have k2 : (k == 2) = false := by simp; exact fun e => h (.inr (.inr (.inl e)))
    have k3 : (k == 3) = false := by simp; exact fun e => h (.inr (.inr (.inr e)))
    have e1 : den9 k = 0 := by unfold den9; simp at k0 k1 k2 k3; simp [k0, k1, k2, k3]
    rw [e1]
    clear h
    go_enter Tryz.func49, Tryz.ntmps49
    go_wp2_with fail
    go_ret
    exact ⟨rfl, Below.refl _ _⟩

theorem bsig_N (w : World) (k : Int) :
    Calls Tryz.prog 128 #[.int .i64 k] w (GotV w (.bool (sig9 k))) := by
  by_cases h : Kind9 k
  · rcases h with rfl | rfl | rfl | rfl
    · go_enter Tryz.func128, Tryz.ntmps128
      go_wp2_with fail
      go_ret
      exact ⟨rfl, Below.refl _ _⟩
    · go_enter Tryz.func128, Tryz.ntmps128
      go_wp2_with fail
      go_ret
      exact ⟨rfl, Below.refl _ _⟩
    · go_enter Tryz.func128, Tryz.ntmps128
      go_wp2_with fail
      go_ret
      exact ⟨rfl, Below.refl _ _⟩
    · go_enter Tryz.func128, Tryz.ntmps128
      go_wp2_with fail
      go_ret
      exact ⟨rfl, Below.refl _ _⟩
  · have k0 : (k == 0) = false := by simp; exact fun e => h (.inl e)
    have k1 : (k == 1) = false := by simp; exact fun e => h (.inr (.inl e))
    have k2 : (k == 2) = false := by simp; exact fun e => h (.inr (.inr (.inl e)))
    have k3 : (k == 3) = false := by simp; exact fun e => h (.inr (.inr (.inr e)))
    have e1 : sig9 k = false := by unfold sig9; simp at k0 k1 k2 k3; simp [k0, k2]
    rw [e1]
    clear h
    go_enter Tryz.func128, Tryz.ntmps128
    go_wp2_with fail
    go_ret
    exact ⟨rfl, Below.refl _ _⟩

attribute [local go_sem ↓] mxI_run
end Go.Proofs.YtpidpebgeblenaaGreat

/-
  The contracts of the landed code: isShare, the closure of Near, sort.Search over it, Near, Num.
-/
namespace Go.Proofs.YtpidpebgeblenaaGreat
set_option maxRecDepth 100000
set_option maxHeartbeats 8000000
open Go.RowKit
set_option linter.unusedVariables false
set_option linter.unusedSimpArgs false

/-- Where the half of a share is not above the middle of two numbers side by side: behind the code of it. -/
theorem near10_search {k num den : Int} {i : Nat} (h : Kind9 k) (hd : 0 < den) (hi : i < 255) : (num * (2 * den9 k) ≤ (num10 k i + num10 k (i + 1)) * den) ↔ near10 k num den ≤ i := by
  have hr := near10_le k num den
  have e1 : num * (2 * den9 k) = 2 * (num * den9 k) := by rw [Int.mul_left_comm]
  rw [e1, Int.add_mul]
  have mono : ∀ a b, a < b → b ≤ 255 → num10 k a * den < num10 k b * den := fun a b hab hb => Int.mul_lt_mul_of_pos_right (num10_up h hab hb) hd
  constructor
  · intro hle
    rcases Nat.lt_or_ge i (near10 k num den) with e | e
    · exfalso
      have h1 := (near10_least (k := k) (num := num) (den := den) (c := i) (by omega)).2 e
      have h2 := mono _ _ e hr
      have h3 : num10 k (i + 1) * den ≤ num10 k (near10 k num den) * den := by
        rcases Nat.lt_or_ge (i + 1) (near10 k num den) with e2 | e2
        · exact Int.le_of_lt (mono _ _ e2 hr)
        · have : i + 1 = near10 k num den := by omega
          rw [this]; exact Int.le_refl _
      unfold dst at h1
      omega
    · exact e
  · intro hle
    have h1 := (near10_least (k := k) (num := num) (den := den) (c := i + 1) (by omega)).1
    have h2 := mono _ _ (show near10 k num den < i + 1 by omega) (by omega)
    have h3 : num10 k (near10 k num den) * den ≤ num10 k i * den := by
      rcases Nat.lt_or_ge (near10 k num den) i with e2 | e2
      · exact Int.le_of_lt (mono _ _ e2 (by omega))
      · have : near10 k num den = i := by omega
        rw [this]; exact Int.le_refl _
    unfold dst at h1
    omega
theorem two_i64 (k : Int) : I64 (2 * den9 k) ∧ IntKind.i64.wrap (2 * den9 k) = 2 * den9 k := by have := den9_bd k; exact ⟨by unfold I64; omega, IntWalk.i64_in _ (by omega)⟩
theorem sum_i64 (k : Int) (i : Nat) : I64 (num10 k i + num10 k (i + 1)) ∧ IntKind.i64.wrap (num10 k i + num10 k (i + 1)) = num10 k i + num10 k (i + 1) := by have := num10_bd k i; have := num10_bd k (i + 1); exact ⟨by unfold I64; omega, IntWalk.i64_in _ (by omega)⟩
theorem zcmp_w {w : World} {b b' : Bool} {A B : Option Addr} {n c m d : Nat} {z z' : Int} (r : Int) (ha : Zn w b A n c z) (hb : Zn w b' B m d z') (hx : (limbs z.natAbs).length ≤ 300) (hy : (limbs z'.natAbs).length ≤ 300) (h : cmpZ z z' = r) : Calls Tryz.prog 151 #[.agg #[.bool b, .slice A n c], .agg #[.bool b', .slice B m d]] w (GotV w (.int .i64 r)) := by
  subst h
  exact zcmp_N ha hb hx hy

theorem cShare_de (w : World) {k num den : Int} (hd : I64 den) (q0 : den < 1) :
    Calls Tryz.prog 147 #[.int .i64 k, .int .i64 num, .int .i64 den] w (GotV w (.bool false)) := by
  have t0 : decide (den < 1) = true := decide_eq_true (by omega)
  clear q0
  have cc := Below.refl w.heap.size w
  go_enter Tryz.func147, Tryz.ntmps147
  go_wp2_with fail
  go_wp2_with fail
  go_ret
  exact ⟨rfl, cc⟩

theorem cShare_big (w : World) {k num den : Int} (hd : I64 den) (q0 : 1 ≤ den) (q1 : den < num) :
    Calls Tryz.prog 147 #[.int .i64 k, .int .i64 num, .int .i64 den] w (GotV w (.bool false)) := by
  have t0 : decide (den < 1) = false := decide_eq_false (by omega)
  have t1 : decide (den < num) = true := decide_eq_true (by omega)
  clear q0 q1
  have cc := Below.refl w.heap.size w
  go_enter Tryz.func147, Tryz.ntmps147
  go_wp2_with fail
  go_wp2_with fail
  go_ret
  exact ⟨rfl, cc⟩

theorem cShare_sig (w : World) {k num den : Int} (hd : I64 den) (q0 : 1 ≤ den) (q1 : num ≤ den) (q2 : sig9 k = true) :
    Calls Tryz.prog 147 #[.int .i64 k, .int .i64 num, .int .i64 den] w (GotV w (.bool (decide (-den ≤ num)))) := by
  have t0 : decide (den < 1) = false := decide_eq_false (by omega)
  have t1 : decide (den < num) = false := decide_eq_false (by omega)
  have CS := fun W => bsig_N W k
  rw [q2] at CS
  obtain ⟨m, hm⟩ : ∃ m, m = -den := ⟨_, rfl⟩
  have k1 : IntKind.i64.wrap (-den) = m := by rw [IntWalk.i64_in (-den) (by unfold I64 at hd; omega), hm]
  rw [← hm]
  clear hm
  clear q0 q1 q2
  have cc := Below.refl w.heap.size w
  go_enter Tryz.func147, Tryz.ntmps147
  go_wp2_with fail
  refine (CS _).mono ?_
  rintro e w1 ⟨rfl, b⟩
  replace cc := bK cc b
  clear b
  go_wp2_with fail
  go_ret
  exact ⟨rfl, cc⟩

theorem cShare_uns (w : World) {k num den : Int} (hd : I64 den) (q0 : 1 ≤ den) (q1 : num ≤ den) (q2 : sig9 k = false) :
    Calls Tryz.prog 147 #[.int .i64 k, .int .i64 num, .int .i64 den] w (GotV w (.bool (decide (0 ≤ num)))) := by
  have t0 : decide (den < 1) = false := decide_eq_false (by omega)
  have t1 : decide (den < num) = false := decide_eq_false (by omega)
  have CS := fun W => bsig_N W k
  rw [q2] at CS
  clear q0 q1 q2
  have cc := Below.refl w.heap.size w
  go_enter Tryz.func147, Tryz.ntmps147
  go_wp2_with fail
  refine (CS _).mono ?_
  rintro e w1 ⟨rfl, b⟩
  replace cc := bK cc b
  clear b
  go_wp2_with fail
  go_ret
  exact ⟨rfl, cc⟩

theorem cShare_N (w : World) {k num den : Int} (hk : Kind9 k) (hd : I64 den) : Calls Tryz.prog 147 #[.int .i64 k, .int .i64 num, .int .i64 den] w (GotV w (.bool (decide (Shr k num den)))) := by
  by_cases a2 : den < 1
  · rw [decide_eq_false (fun h => by have := h.2.1; omega)]; exact cShare_de w hd a2
  by_cases a3 : den < num
  · rw [decide_eq_false (fun h => by have := h.2.2.1; omega)]; exact cShare_big w hd (by omega) a3
  cases hs : sig9 k with
  | true =>
    have e : decide (Shr k num den) = decide (-den ≤ num) := decide_eq_decide.2 ⟨fun h => h.2.2.2.1, fun h => ⟨hk, by omega, by omega, h, .inr hs⟩⟩
    rw [e]; exact cShare_sig w hd (by omega) (by omega) hs
  | false =>
    have e : decide (Shr k num den) = decide (0 ≤ num) := decide_eq_decide.2 ⟨fun h => (by rcases h.2.2.2.2 with h | h; exact h; rw [hs] at h; cases h), fun h => ⟨hk, by omega, by omega, by omega, .inl h⟩⟩
    rw [e]; exact cShare_uns w hd (by omega) (by omega) hs

theorem reach_N {w : World} {k s den : Int} {bs bm : Bool} {As Am : Option Addr} {ns cs nm cm bb off cl gl gm gs i : Nat} (hl : IR w (some ⟨bb, off, none⟩) 256 cl (book9 k)) (hbb : bb < w.heap.size) (l0 : w.cell? ⟨gl, 0, none⟩ = some (.slice (some ⟨bb, off, none⟩) 256 cl)) (ll : gl < w.heap.size) (s0 : w.cell? ⟨gs, 0, none⟩ = some (.bool bs)) (s1 : w.cell? ⟨gs, 1, none⟩ = some (.slice As ns cs)) (sl : gs < w.heap.size) (m0 : w.cell? ⟨gm, 0, none⟩ = some (.bool bm)) (m1 : w.cell? ⟨gm, 1, none⟩ = some (.slice Am nm cm)) (ml : gm < w.heap.size) (hs : Zn w bs As ns cs s) (hm : Zn w bm Am nm cm den) (hden : I64 den) (ls : (limbs s.natAbs).length ≤ 4) (hi : i < 255) :
    Calls Tryz.prog 150 #[.int .i64 (i : Int), .pointer (some ⟨gl, 0, none⟩), .pointer (some ⟨gm, 0, none⟩), .pointer (some ⟨gs, 0, none⟩)] w (GotV w (.bool (decide (s ≤ (num10 k i + num10 k (i + 1)) * den)))) := by
  have hi2 : (i : Int) < 256 := by omega
  have c0 : w.cell? ⟨bb, off + i, none⟩ = some (.int .i64 (num10 k i)) := hl.cell (by omega)
  have c1 : w.cell? ⟨bb, off + (i + 1), none⟩ = some (.int .i64 (num10 k (i + 1))) := hl.cell (by omega)
  obtain ⟨hb1, hb2⟩ := sum_i64 k i
  have k1 : IntKind.i64.wrap ((i : Int) + 1) = ((i + 1 : Nat) : Int) := by rw [IntWalk.i64_in _ (by omega)]; omega
  have hlt1 : ((i + 1 : Nat) : Int) < 256 := by omega
  generalize num10 k i = p at *
  generalize num10 k (i + 1) = q at *
  obtain ⟨v, hv⟩ : ∃ v, p + q = v := ⟨_, rfl⟩
  have k2 : IntKind.i64.wrap (p + q) = v := by rw [hb2]; exact hv
  rw [hv] at hb1 ⊢
  clear hb2
  have lm := len_prod hb1 hden
  obtain ⟨r0, hr0⟩ : ∃ r, cmpZ s (v * den) = r := ⟨_, rfl⟩
  have ht : decide (s ≤ v * den) = decide (r0 ≤ 0) := decide_eq_decide.2 (by rw [← hr0]; exact cmpZ_ngt.symm)
  rw [ht]
  have HR := Lib.hid hr0
  have HI := Lib.hid hi
  generalize hj : i + 1 = j at *
  clear hr0 ht hl hv hj hi
  have cc := Below.refl w.heap.size w
  have hbl : bb < w.heap.size := hbb
  go_enter Tryz.func150, Tryz.ntmps150
  go_wp2_with fail
  go_upto_region 1 with fail
  go_cut [6] (fun u wx => ∃ (g_ : Nat) (b_ : Bool) (A_ : Option Addr) (n_ c_ : Nat), u = .pointer (some ⟨g_, 0, none⟩) ∧ LoneZ w wx g_ b_ A_ n_ c_ (v * den))
  case first =>
    have BB0 : Below w.heap.size w w.drew := below_drewN (Below.refl _ w) 1
    have BB1 : Below w.heap.size w (w.alloc (.cells #[.bool false, .slice none 0 0] 81)).drew := below_drewN (below_one _ _) 1
    go_region_held3 (fun w' => w'.cell? ⟨gl, 0, none⟩ = some (.slice (some ⟨bb, off, none⟩) 256 cl) ∧ w'.cell? ⟨bb, off + i, none⟩ = some (.int .i64 p) ∧ w'.cell? ⟨bb, off + j, none⟩ = some (.int .i64 q) ∧ w'.cell? ⟨gs, 0, none⟩ = some (.bool bs) ∧ w'.cell? ⟨gs, 1, none⟩ = some (.slice As ns cs) ∧ w'.cell? ⟨gm, 0, none⟩ = some (.bool bm) ∧ w'.cell? ⟨gm, 1, none⟩ = some (.slice Am nm cm))
      (first | with_reducible exact ⟨l0, c0, c1, s0, s1, m0, m1⟩ | with_reducible exact ⟨keep_alloc (l0), keep_alloc (c0), keep_alloc (c1), keep_alloc (s0), keep_alloc (s1), keep_alloc (m0), keep_alloc (m1)⟩ | with_reducible exact ⟨keep_alloc (keep_alloc (l0)), keep_alloc (keep_alloc (c0)), keep_alloc (keep_alloc (c1)), keep_alloc (keep_alloc (s0)), keep_alloc (keep_alloc (s1)), keep_alloc (keep_alloc (m0)), keep_alloc (keep_alloc (m1))⟩ | with_reducible exact ⟨(cK qq l0 ll), (cK qq c0 hbl), (cK qq c1 hbl), (cK qq s0 sl), (cK qq s1 sl), (cK qq m0 ml), (cK qq m1 ml)⟩ | with_reducible exact ⟨keep_alloc ((cK qq l0 ll)), keep_alloc ((cK qq c0 hbl)), keep_alloc ((cK qq c1 hbl)), keep_alloc ((cK qq s0 sl)), keep_alloc ((cK qq s1 sl)), keep_alloc ((cK qq m0 ml)), keep_alloc ((cK qq m1 ml))⟩ | with_reducible exact ⟨keep_alloc (keep_alloc ((cK qq l0 ll))), keep_alloc (keep_alloc ((cK qq c0 hbl))), keep_alloc (keep_alloc ((cK qq c1 hbl))), keep_alloc (keep_alloc ((cK qq s0 sl))), keep_alloc (keep_alloc ((cK qq s1 sl))), keep_alloc (keep_alloc ((cK qq m0 ml))), keep_alloc (keep_alloc ((cK qq m1 ml)))⟩ | with_reducible exact ⟨((cell_store (by omega)).trans (cK qq l0 ll)), ((cell_store (by omega)).trans (cK qq c0 hbl)), ((cell_store (by omega)).trans (cK qq c1 hbl)), ((cell_store (by omega)).trans (cK qq s0 sl)), ((cell_store (by omega)).trans (cK qq s1 sl)), ((cell_store (by omega)).trans (cK qq m0 ml)), ((cell_store (by omega)).trans (cK qq m1 ml))⟩ | with_reducible exact ⟨keep_alloc (((cell_store (by omega)).trans (cK qq l0 ll))), keep_alloc (((cell_store (by omega)).trans (cK qq c0 hbl))), keep_alloc (((cell_store (by omega)).trans (cK qq c1 hbl))), keep_alloc (((cell_store (by omega)).trans (cK qq s0 sl))), keep_alloc (((cell_store (by omega)).trans (cK qq s1 sl))), keep_alloc (((cell_store (by omega)).trans (cK qq m0 ml))), keep_alloc (((cell_store (by omega)).trans (cK qq m1 ml)))⟩ | with_reducible exact ⟨keep_alloc (keep_alloc (((cell_store (by omega)).trans (cK qq l0 ll)))), keep_alloc (keep_alloc (((cell_store (by omega)).trans (cK qq c0 hbl)))), keep_alloc (keep_alloc (((cell_store (by omega)).trans (cK qq c1 hbl)))), keep_alloc (keep_alloc (((cell_store (by omega)).trans (cK qq s0 sl)))), keep_alloc (keep_alloc (((cell_store (by omega)).trans (cK qq s1 sl)))), keep_alloc (keep_alloc (((cell_store (by omega)).trans (cK qq m0 ml)))), keep_alloc (keep_alloc (((cell_store (by omega)).trans (cK qq m1 ml))))⟩ | go_keep)
      (first
        | (go_at_call 149; (with_reducible refine (zof_N _ v hb1).mono ?_); rintro e y1 ⟨bu, Au, nu, cu, rfl, hu, q⟩; have qq := BB0.trans (q.mono BB0.size); have hs' := (hs.on BB0).on q; have hm' := (hm.on BB0).on q; have qs1 := qq.size; clear q)
        | (go_at_call 149; (with_reducible refine (zof_N _ v hb1).mono ?_); rintro e y1 ⟨bu, Au, nu, cu, rfl, hu, q⟩; have qq := BB1.trans (q.mono BB1.size); have hs' := (hs.on BB1).on q; have hm' := (hm.on BB1).on q; have qs1 := qq.size; obtain ⟨bo_0, fo_0, bo_1, fo_1, ol⟩ := zb2 (g := w.heap.size) q (by simp) (by simp [Cs2, go_sem]) (by simp [Fz2, go_sem]); clear q)
        | (go_at_call 148; have up := Below.refl y1.heap.size y1; (with_reducible refine (zmul_N (hu.on up) (hm'.on up) (Nat.le_trans (len_one hb1.abs) (by omega)) (Nat.le_trans (len_one hden.abs) (by omega))).mono ?_); rintro e y2 ⟨bx, Ax, nx, cx, rfl, hx, q⟩; replace qq := uK qq up q; replace hs' := (hs'.on up).on q; replace hm' := (hm'.on up).on q; replace hu := (hu.on up).on q; (try (rewrite [cR up ol, cR q (lK up ol)] at bo_0 bo_1; rewrite [fR up ol, fR q (lK up ol)] at fo_0 fo_1; replace ol := lK q (lK up ol))); have qs2 := qq.size; clear q up)
        | (go_at_call 148; have up := below_one y1 (.cells #[.bool false, .slice none 0 0] 81); (with_reducible refine (zmul_N (hu.on up) (hm'.on up) (Nat.le_trans (len_one hb1.abs) (by omega)) (Nat.le_trans (len_one hden.abs) (by omega))).mono ?_); rintro e y2 ⟨bx, Ax, nx, cx, rfl, hx, q⟩; replace qq := uK qq up q; replace hs' := (hs'.on up).on q; replace hm' := (hm'.on up).on q; replace hu := (hu.on up).on q; (try (rewrite [cR up ol, cR q (lK up ol)] at bo_0 bo_1; rewrite [fR up ol, fR q (lK up ol)] at fo_0 fo_1; replace ol := lK q (lK up ol))); have qs2 := qq.size; obtain ⟨bo_0, fo_0, bo_1, fo_1, ol⟩ := zb2 (g := y1.heap.size) q (by simp) (by simp [Cs2, go_sem]) (by simp [Fz2, go_sem]); clear q up))
    all_goals (go_wp2_with fail; go_meet)
    all_goals refine ⟨_, bx, Ax, nx, cx, rfl, ?_⟩
    all_goals first
      | with_reducible exact loneZA hx qq _
      | with_reducible exact loneZB bo_0 bo_1 hx qq (by omega)
  case rest =>
    obtain ⟨gd, bd, Ad, nd, cd, rfl, ⟨d0, d1⟩, hd, b, dge⟩ := hcut
    have dl := cell_lt d0
    simp only at dl
    have dqs : gs < gd := Nat.lt_of_lt_of_le sl dge
    have dqm : gm < gd := Nat.lt_of_lt_of_le ml dge
    replace l0 := cK b l0 ll
    rewrite [cR b hbl] at c0 c1
    replace hbl := lK b hbl
    replace ll := lK b ll
    replace hs := hs.on b
    replace hm := hm.on b
    rewrite [cR b sl] at s0 s1
    replace sl := lK b sl
    rewrite [cR b ml] at m0 m1
    replace ml := lK b ml
    replace cc := bK cc b
    clear b
    go_wp2_with fail
    refine (zcmp_w r0 hs hd (Nat.le_trans ls (by omega)) (Nat.le_trans lm (by omega)) HR.out).mono ?_
    rintro e w1 ⟨rfl, b⟩
    replace l0 := cK b l0 ll
    rewrite [cR b hbl] at c0 c1
    replace hbl := lK b hbl
    replace ll := lK b ll
    replace hs := hs.on b
    replace hm := hm.on b
    replace hd := hd.on b
    rewrite [cR b sl] at s0 s1
    replace sl := lK b sl
    rewrite [cR b ml] at m0 m1
    replace ml := lK b ml
    rewrite [cR b dl] at d0 d1
    replace dl := lK b dl
    replace cc := bK cc b
    clear b
    go_wp2_with fail
    go_ret
    exact ⟨rfl, cc⟩

theorem search_N {w : World} {r gl gm gs : Nat} (hr : r ≤ 255) (hf : ∀ (W : World) (i : Nat), i < 255 → Below w.heap.size w W → Calls Tryz.prog 150 #[.int .i64 (i : Int), .pointer (some ⟨gl, 0, none⟩), .pointer (some ⟨gm, 0, none⟩), .pointer (some ⟨gs, 0, none⟩)] W (GotV W (.bool (decide (r ≤ i))))) :
    Calls Tryz.prog 152 #[.int .i64 255, .func (.func 150) #[] #[.pointer (some ⟨gl, 0, none⟩), .pointer (some ⟨gm, 0, none⟩), .pointer (some ⟨gs, 0, none⟩)]] w (GotV w (.int .i64 (r : Int))) := by
  have cc := Below.refl w.heap.size w
  go_enter Tryz.func152, Tryz.ntmps152
  go_wp2_with fail
  go_loopw [5, 6] (fun av bv wr => ∃ a b : Nat, av = .int .i64 (a : Int) ∧ bv = .int .i64 (b : Int) ∧ a ≤ r ∧ r ≤ b ∧ b ≤ 255 ∧ Below w.heap.size w wr) (fun av bv _ => (intOf bv).toNat - (intOf av).toNat)
  case atStart => exact ⟨0, 255, rfl, rfl, by omega, by omega, by omega, cc⟩
  case round =>
    clear cc
    obtain ⟨a, b, rfl, rfl, ha, hb, h5, cc⟩ := hrel
    by_cases hlt : a < b
    · obtain ⟨m, hm⟩ : ∃ m, (a + b) / 2 = m := ⟨_, rfl⟩
      have hmz : ((a : Int) + (b : Int)) / 2 = (m : Int) := by omega
      have hc := hf wr m (by omega) cc
      by_cases hq : r ≤ m
      · rw [decide_eq_true hq] at hc
        have HM := Lib.hid hm
        clear hm
        go_wp2_with fail
        refine hc.mono ?_
        rintro e w1 ⟨rfl, b1⟩
        replace cc := bK cc b1
        clear b1 hc
        go_wp2_with fail
        go_roundw
        case rel => exact ⟨a, m, rfl, rfl, ha, hq, by have := HM.out; omega, cc⟩
        case measure => have := HM.out; simp [intOf]; omega
      · rw [decide_eq_false hq] at hc
        have HM := Lib.hid hm
        clear hm
        go_wp2_with fail
        refine hc.mono ?_
        rintro e w1 ⟨rfl, b1⟩
        replace cc := bK cc b1
        clear b1 hc
        go_wp2_with fail
        go_roundw
        case rel => exact ⟨m + 1, b, by go_num, rfl, by omega, hb, h5, cc⟩
        case measure => have := HM.out; simp [intOf]; omega
    · obtain rfl : a = r := by omega
      obtain rfl : b = a := by omega
      go_wp2_with fail
      go_ret
      exact ⟨rfl, cc⟩

theorem cNear_kyes (w : World) {k num den : Int} (hn : I64 num) (hd : I64 den) (hk : Kind9 k) (hS : Shr k num den) :
    Calls Tryz.prog 136 #[.int .i64 k, .int .i64 num, .int .i64 den] w (GotV w (.tuple #[.int .u8 ((near10 k num den : Nat) : Int), .int .i64 0])) := by
  have CB : ∀ W : World, Calls Tryz.prog 123 #[.int .i64 k] W (GotIp W (book9 k) 0) := fun W => by have h := bbook_N W k; rw [kind9_code hk] at h; exact h
  have CS : ∀ W : World, Calls Tryz.prog 147 #[.int .i64 k, .int .i64 num, .int .i64 den] W (GotV W (.bool true)) := fun W => by have h := cShare_N (num := num) W hk hd; rw [decide_eq_true hS] at h; exact h
  have hd0 := hS.2.1
  have CD := fun W => bden_N W k
  obtain ⟨hD1, hD2⟩ := two_i64 k
  have hlen := (facts10 hk).1
  have ls : (limbs (num * (2 * den9 k)).natAbs).length ≤ 4 := Nat.le_trans (len_prod hn hD1) (by omega)
  have hr := near10_le k num den
  have hsr : ∀ i, i < 255 → decide (num * (2 * den9 k) ≤ (num10 k i + num10 k (i + 1)) * den) = decide (near10 k num den ≤ i) := fun i hi => decide_eq_decide.2 (near10_search hk (by omega) hi)
  have HSR := Lib.hid hsr
  clear hsr hS hk
  generalize near10 k num den = r at *
  obtain ⟨D, hD⟩ : ∃ D, den9 k = D := ⟨_, rfl⟩
  obtain ⟨E, hE⟩ : ∃ E, 2 * den9 k = E := ⟨_, rfl⟩
  rw [hE] at hD1 hD2 ls HSR
  have hE2 : IntKind.i64.wrap (2 * D) = E := by rw [← hD, hE]; exact hD2
  rw [hD] at CD
  have kw : IntKind.u8.wrap (r : Int) = (r : Int) := by rw [IntKind.wrap_u8]; omega
  clear hD hE hD2
  have cc := Below.refl w.heap.size w
  go_enter Tryz.func136, Tryz.ntmps136
  go_wp2_with fail
  refine (CB _).mono ?_
  rintro e w1 ⟨Al, nl, cl, rfl, hl, b⟩
  replace cc := bK cc b
  clear b
  have hn_ : nl = 256 := by rw [hl.1, hlen]
  subst hn_
  obtain ⟨bb, off, rfl, hb⟩ := hl.some (by omega)
  go_wp2_with fail
  generalize hv_ : w1.alloc (.cells #[.slice (some ⟨bb, off, none⟩) 256 cl] 34) = v2
  have bA : Below w1.heap.size w1 v2 := by rw [← hv_]; exact below_one _ _
  replace hl := hl.on bA
  replace cc := bK cc bA
  clear bA
  have lb0 : v2.cell? ⟨w1.heap.size, 0, none⟩ = some (.slice (some ⟨bb, off, none⟩) 256 cl) := by simp [← hv_, go_sem]
  have lbl : w1.heap.size < v2.heap.size := by simp [← hv_]
  clear hv_
  refine (CS _).mono ?_
  rintro e w3 ⟨rfl, b⟩
  replace hl := hl.on b
  replace lb0 := cK b lb0 lbl
  replace lbl := lK b lbl
  replace cc := bK cc b
  clear b
  go_wp2_with fail
  refine (zof_N _ num hn).mono ?_
  rintro e w4 ⟨bu, Au, nu, cu, rfl, hu, b⟩
  replace hl := hl.on b
  replace lb0 := cK b lb0 lbl
  replace lbl := lK b lbl
  replace cc := bK cc b
  clear b
  go_wp2_with fail
  refine (CD _).mono ?_
  rintro e w5 ⟨rfl, b⟩
  replace hl := hl.on b
  replace hu := hu.on b
  replace lb0 := cK b lb0 lbl
  replace lbl := lK b lbl
  replace cc := bK cc b
  clear b
  go_wp2_with fail
  refine (zof_N _ E hD1).mono ?_
  rintro e w6 ⟨bv, Av, nv, cv, rfl, hv, b⟩
  replace hl := hl.on b
  replace hu := hu.on b
  replace lb0 := cK b lb0 lbl
  replace lbl := lK b lbl
  replace cc := bK cc b
  clear b
  go_wp2_with fail
  refine (zmul_N hu hv (Nat.le_trans (len_one hn.abs) (by omega)) (Nat.le_trans (len_one hD1.abs) (by omega))).mono ?_
  rintro e w7 ⟨bs, As, ns, cs, rfl, hs, b⟩
  replace hl := hl.on b
  replace hu := hu.on b
  replace hv := hv.on b
  replace lb0 := cK b lb0 lbl
  replace lbl := lK b lbl
  replace cc := bK cc b
  clear b
  go_wp2_with fail
  generalize hv_ : w7.alloc (.cells #[.bool bs, .slice As ns cs] 81) = v8
  have bA : Below w7.heap.size w7 v8 := by rw [← hv_]; exact below_one _ _
  replace hl := hl.on bA
  replace hu := hu.on bA
  replace hv := hv.on bA
  replace hs := hs.on bA
  replace lb0 := cK bA lb0 lbl
  replace lbl := lK bA lbl
  replace cc := bK cc bA
  clear bA
  obtain ⟨sb0, sb1⟩ : Cs2 v8 w7.heap.size (.bool bs) (.slice As ns cs) := by simp [Cs2, ← hv_, go_sem]
  have sbl : w7.heap.size < v8.heap.size := by simp [← hv_]
  clear hv_
  refine (zof_N _ den hd).mono ?_
  rintro e w9 ⟨bm, Am, nm, cm, rfl, hm, b⟩
  replace hl := hl.on b
  replace hu := hu.on b
  replace hv := hv.on b
  replace hs := hs.on b
  replace lb0 := cK b lb0 lbl
  replace lbl := lK b lbl
  rewrite [cR b sbl] at sb0 sb1
  replace sbl := lK b sbl
  replace cc := bK cc b
  clear b
  go_wp2_with fail
  generalize hv_ : w9.alloc (.cells #[.bool bm, .slice Am nm cm] 81) = v10
  have bA : Below w9.heap.size w9 v10 := by rw [← hv_]; exact below_one _ _
  replace hl := hl.on bA
  replace hu := hu.on bA
  replace hv := hv.on bA
  replace hs := hs.on bA
  replace hm := hm.on bA
  replace lb0 := cK bA lb0 lbl
  replace lbl := lK bA lbl
  rewrite [cR bA sbl] at sb0 sb1
  replace sbl := lK bA sbl
  replace cc := bK cc bA
  clear bA
  obtain ⟨mb0, mb1⟩ : Cs2 v10 w9.heap.size (.bool bm) (.slice Am nm cm) := by simp [Cs2, ← hv_, go_sem]
  have mbl : w9.heap.size < v10.heap.size := by simp [← hv_]
  clear hv_
  have hbb : bb < v10.heap.size := by obtain ⟨b_, o_, e_, h_, _⟩ := hl.2.2 (by omega); injection e_ with e_; injection e_ with e1 e2; omega
  have CF : ∀ (W : World) (i : Nat), i < 255 → Below v10.heap.size v10 W → Calls Tryz.prog 150 #[.int .i64 (i : Int), .pointer (some ⟨w1.heap.size, 0, none⟩), .pointer (some ⟨w9.heap.size, 0, none⟩), .pointer (some ⟨w7.heap.size, 0, none⟩)] W (GotV W (.bool (decide (r ≤ i)))) := fun W i hi b => by
    have h := reach_N (hl.on b) (Nat.lt_of_lt_of_le hbb b.size) (cK b lb0 lbl) (Nat.lt_of_lt_of_le lbl b.size) (cK b sb0 sbl) (cK b sb1 sbl) (Nat.lt_of_lt_of_le sbl b.size) (cK b mb0 mbl) (cK b mb1 mbl) (Nat.lt_of_lt_of_le mbl b.size) (hs.on b) (hm.on b) hd ls hi
    rw [HSR.out i hi] at h
    exact h
  have CQ := search_N hr CF
  clear CF HSR CB CS CD hl hu hv hs hm
  go_wp2_with fail
  refine CQ.mono ?_
  rintro e wq ⟨rfl, b⟩
  replace cc := bK cc b
  clear b CQ
  go_wp2_with fail
  go_ret2
  exact ⟨rfl, cc⟩

theorem cNear_yes (w : World) {k num den : Int} (hn : I64 num) (hd : I64 den) (hS : Shr k num den) : Calls Tryz.prog 136 #[.int .i64 k, .int .i64 num, .int .i64 den] w (GotV w (.tuple #[.int .u8 ((near10 k num den : Nat) : Int), .int .i64 0])) := cNear_kyes w hn hd hS.1 hS



end Go.Proofs.YtpidpebgeblenaaGreat

/-
  What the landed block's small calls answer: near, mannerOf, takes, greatest; rows cloned, bytes compared.
-/
namespace Go.Proofs.YtpidpebgeblenaaGreat
set_option maxRecDepth 100000
set_option maxHeartbeats 8000000
open Go.RowKit
set_option linter.unusedVariables false
set_option linter.unusedSimpArgs false

/-- What a kind takes: wide numbers, or those of a codebook. -/
def tkW (x : Int) : Bool := decide (x ≠ -9223372036854775808)
def tkC (k x : Int) : Bool := decide (0 ≤ x ∨ (x ≠ -9223372036854775808 ∧ sig9 k = true))
/-- The two manners as values. -/
abbrev mnW : Value := .iface 75 (.agg #[])
abbrev mnC (k : Int) : Value := .iface 76 (.int .i64 k)
/-- A row of integers that is new. -/
def GotIn (w : World) (l : List Int) (e : Ending) (w' : World) : Prop := ∃ A n c, e = .returned (.slice A n c) ∧ IR w' A n c l ∧ Below w.heap.size w w' ∧ ∀ p, A = some p → w.heap.size ≤ p.block
theorem GotIn.old {w w' : World} {l : List Int} {e : Ending} (h : GotIn w l e w') : GotI w l e w' := by obtain ⟨A, n, c, h1, h2, h3, _⟩ := h; exact ⟨A, n, c, h1, h2, h3⟩
theorem eql_i64s (w : World) (a : Option Addr) (n c : Nat) : (binOp .eql 34 (.slice a n c) (.slice none 0 0)).run Tryz.prog w = .ok (.bool a.isNone) w := Lib.run_eql_slice_nil w _ 2 a n c 0 0 Tryz.underlying34
theorem conv_br {w : World} {A : Option Addr} {n c : Nat} {C : List Nat} (h : BR w A n c C) : (convert 41 9 (.slice A n c)).run Tryz.prog w = .ok (.string (strOfNums (ints8 C))) w := by
  rcases Nat.eq_zero_or_pos n with hn | hn
  · have hC0 : C = [] := List.eq_nil_of_length_eq_zero (by rw [← h.1]; exact hn)
    subst hn; subst hC0
    rcases A with _ | a
    · exact run_convert_bytes_nil (P := Tryz.prog) w 41 5 Tryz.underlying41 Tryz.underlying5 0 c 9 Tryz.underlying9
    · rw [run_convert_bytes_string w _ _ 5 (some a) 0 c Tryz.underlying41 Tryz.underlying5 Tryz.underlying9]
      exact run_bytesToString w a 0 c [] (by simp [loadCells, go_sem] <;> rfl)
  · obtain ⟨b, off, rfl, _⟩ := h.some hn
    exact run_convert_bytes_arg (P := Tryz.prog) w 41 5 Tryz.underlying41 Tryz.underlying5 b off n c (ints8 C) (by rw [ints8_len, ← h.1]) (br_ints h) 9 Tryz.underlying9
theorem str8_eq {C D : List Nat} (hC : ∀ x ∈ C, x < 256) (hD : ∀ x ∈ D, x < 256) : strOfNums (ints8 C) = strOfNums (ints8 D) ↔ C = D := by
  constructor
  · intro h
    have h2 : (strOfNums (ints8 C)).data.toList = (strOfNums (ints8 D)).data.toList := by rw [h]
    rw [strOfNums_data, strOfNums_data] at h2
    unfold ints8 at h2
    rw [List.map_map, List.map_map] at h2
    induction C generalizing D with
    | nil => cases D with
      | nil => rfl
      | cons y D => simp at h2
    | cons x C ih => cases D with
      | nil => simp at h2
      | cons y D =>
        simp only [List.map_cons, List.cons.injEq, Function.comp] at h2
        have e1 : x = y := (ofNat8 (hC x (List.mem_cons_self ..)) (hD y (List.mem_cons_self ..))).1 (by simpa using h2.1)
        have e2 := ih (fun z hz => hC z (List.mem_cons_of_mem _ hz)) (fun z hz => hD z (List.mem_cons_of_mem _ hz)) (by
          have : (strOfNums (ints8 C)).data.toList = (strOfNums (ints8 D)).data.toList := by
            rw [strOfNums_data, strOfNums_data]; unfold ints8; rw [List.map_map, List.map_map]; exact h2.2
          exact ByteArray.ext (Array.toList_inj.1 this)) h2.2
        rw [e1, e2]
  · rintro rfl; rfl

set_option maxRecDepth 1000000 in
theorem bknear_N (w : World) {k num den : Int} (hn : I64 num) (hd : I64 den) (hS : Shr k num den) : Calls Tryz.prog 126 #[.int .i64 k, .int .i64 num, .int .i64 den] w (GotV w (.int .u8 ((near10 k num den : Nat) : Int))) := by
  have CN := fun W => cNear_yes W hn hd hS
  have h6 := near10_le k num den
  clear hS
  generalize near10 k num den = c at *
  have cc := Below.refl w.heap.size w
  go_enter Tryz.func126, Tryz.ntmps126
  go_wp2_with fail
  refine (CN _).mono ?_
  rintro e w1 ⟨rfl, b⟩
  replace cc := bK cc b
  clear b
  go_wp2_with fail
  go_ret
  exact ⟨rfl, cc⟩

set_option maxRecDepth 1000000 in
theorem bkman_w (w : World) {k : Int} (h : k = 4) : Calls Tryz.prog 42 #[.int .i64 k] w (GotV w (.tuple #[mnW, .int .i64 0])) := by
  subst h
  have cc := Below.refl w.heap.size w
  go_enter Tryz.func42, Tryz.ntmps42
  go_wp2_with fail
  go_ret2
  exact ⟨rfl, cc⟩

set_option maxRecDepth 1000000 in
theorem bkman_c (w : World) {k : Int} (h : Kind9 k) : Calls Tryz.prog 42 #[.int .i64 k] w (GotV w (.tuple #[mnC k, .int .i64 0])) := by
  have k4 : (k == 4) = false := beq_eq_false_iff_ne.2 (by unfold Kind9 at h; omega)
  have CD := fun W => bden_N W k
  have hd := (facts10 h).2.2.2.2.2.2
  have k0 : (den9 k == 0) = false := beq_eq_false_iff_ne.2 (by omega)
  clear h hd
  generalize den9 k = D at *
  have cc := Below.refl w.heap.size w
  go_enter Tryz.func42, Tryz.ntmps42
  go_wp2_with fail
  refine (CD _).mono ?_
  rintro e w1 ⟨rfl, b⟩
  replace cc := bK cc b
  clear b
  go_wp2_with fail
  go_ret2
  exact ⟨rfl, cc⟩

set_option maxRecDepth 1000000 in
theorem bkman_no (w : World) {k : Int} (h : ¬ (0 ≤ k ∧ k ≤ 4)) : Calls Tryz.prog 42 #[.int .i64 k] w (GotV w (.tuple #[.nilIface, .int .i64 1])) := by
  have k4 : (k == 4) = false := beq_eq_false_iff_ne.2 (by omega)
  have CD := fun W => bden_N W k
  have hd : den9 k = 0 := by unfold den9; rw [if_neg (by omega), if_neg (by omega)]
  rw [hd] at CD
  clear hd
  have cc := Below.refl w.heap.size w
  go_enter Tryz.func42, Tryz.ntmps42
  go_wp2_with fail
  refine (CD _).mono ?_
  rintro e w1 ⟨rfl, b⟩
  replace cc := bK cc b
  clear b
  go_wp2_with fail
  go_ret2
  exact ⟨rfl, cc⟩

set_option maxRecDepth 1000000 in
theorem bktkw_N (w : World) {x : Int} : Calls Tryz.prog 117 #[.agg #[], .int .i64 x] w (GotV w (.bool (tkW x))) := by
  have hx : (x != -9223372036854775808) = tkW x := by unfold tkW; rw [Bool.eq_iff_iff]; simp
  generalize tkW x = r at *
  have cc := (Below.refl w.heap.size w).alloc (Nat.le_refl _) (.cells #[] 75)
  go_enter Tryz.func117, Tryz.ntmps117
  go_wp2_with fail
  go_ret
  exact ⟨rfl, cc⟩

set_option maxRecDepth 1000000 in
theorem bktkc_p (w : World) {k x : Int} (h : 0 ≤ x) : Calls Tryz.prog 122 #[.int .i64 k, .int .i64 x] w (GotV w (.bool (tkC k x))) := by
  have t0 : decide (0 ≤ x) = true := decide_eq_true h
  have hv : tkC k x = true := decide_eq_true (.inl h)
  rw [hv]
  clear h hv
  have cc := Below.refl w.heap.size w
  go_enter Tryz.func122, Tryz.ntmps122
  go_wp2_with fail
  go_ret
  exact ⟨rfl, cc⟩

set_option maxRecDepth 1000000 in
theorem bktkc_l (w : World) {k x : Int} (h : x = -9223372036854775808) : Calls Tryz.prog 122 #[.int .i64 k, .int .i64 x] w (GotV w (.bool (tkC k x))) := by
  subst h
  have hv : tkC k (-9223372036854775808) = false := by unfold tkC; simp
  rw [hv]
  clear hv
  have cc := Below.refl w.heap.size w
  go_enter Tryz.func122, Tryz.ntmps122
  go_wp2_with fail
  go_ret
  exact ⟨rfl, cc⟩

set_option maxRecDepth 1000000 in
theorem bktkc_n (w : World) {k x : Int} (h : ¬ 0 ≤ x) (h2 : x ≠ -9223372036854775808) : Calls Tryz.prog 122 #[.int .i64 k, .int .i64 x] w (GotV w (.bool (tkC k x))) := by
  have t0 : decide (0 ≤ x) = false := decide_eq_false h
  have t1 : (x != -9223372036854775808) = true := by simp; exact h2
  have t2 : (x == -9223372036854775808) = false := beq_eq_false_iff_ne.2 h2
  have hv : tkC k x = sig9 k := by unfold tkC; rw [Bool.eq_iff_iff, decide_eq_true_eq]; exact ⟨fun e => (by rcases e with e | e; exact absurd e h; exact e.2), fun e => .inr ⟨h2, e⟩⟩
  rw [hv]
  have CS := fun W => bsig_N W k
  generalize sig9 k = r at *
  clear h h2 hv
  have cc := Below.refl w.heap.size w
  go_enter Tryz.func122, Tryz.ntmps122
  go_wp2_with fail
  refine (CS _).mono ?_
  rintro e w1 ⟨rfl, b⟩
  replace cc := bK cc b
  clear b
  go_wp2_with fail
  go_ret
  exact ⟨rfl, cc⟩

theorem bktkc_N (w : World) {k x : Int} : Calls Tryz.prog 122 #[.int .i64 k, .int .i64 x] w (GotV w (.bool (tkC k x))) := by
  by_cases h : 0 ≤ x
  · exact bktkc_p w h
  · by_cases h2 : x = -9223372036854775808
    · exact bktkc_l w h2
    · exact bktkc_n w h h2

attribute [local go_sem ↓] mxT_run

set_option maxRecDepth 1000000 in
theorem bkgreat_N {w : World} {A : Option Addr} {n c : Nat} {L : List Int} (hA : IR w A n c L) (hn : n ≤ 9223372036854775807) (hL : ∀ j : Nat, I64 (L[j]?.getD 0) ∧ L[j]?.getD 0 ≠ -9223372036854775808) :
    Calls Tryz.prog 125 #[.slice A n c] w (fun e w' => e = .returned (.int .i64 (gr L)) ∧ w' = w) := by
  go_enter Tryz.func125, Tryz.ntmps125
  go_wp2_with fail
  go_loopw [3, 8] (fun nv iv wr => ∃ i : Nat, i ≤ n ∧ iv = .int .i64 (i : Int) ∧ nv = .int .i64 (grk L i) ∧ wr = w) (fun _ iv _ => n - (intOf iv).toNat)
  case atStart => exact ⟨0, by omega, rfl, rfl, rfl⟩
  case round =>
    obtain ⟨i, hi, rfl, rfl, hbl⟩ := hrel
    subst hbl
    by_cases hlt : i < n
    · obtain ⟨bb, off, rfl, hb, hcell⟩ := hA.2.2 (by omega)
      have h1 := hcell i hlt
      have hx := hL i
      have k3 : IntKind.i64.wrap ((i : Int) + 1) = ((i + 1 : Nat) : Int) := by rw [IntWalk.i64_in _ (by omega)]; omega
      have hG : grk L (i + 1) = mxT (grk L i) (L[i]?.getD 0) := rfl
      obtain ⟨x, ex⟩ : ∃ x, L[i]?.getD 0 = x := ⟨_, rfl⟩
      rw [ex] at h1 hx hG
      have k4 : IntKind.i64.wrap (-x) = -x := IntWalk.i64_in _ (by unfold I64 at hx; omega)
      have HG := Lib.hid hG
      have MX := fun (ts : Array TypeId) (t : TypeId) (g : Int) (W : World) => mxT_run (P := Tryz.prog) W ts t g x (-x) rfl
      clear hcell hx ex hG
      generalize grk L i = g at *
      go_wp2_with fail
      go_roundw
      case rel => exact ⟨i + 1, by omega, rfl, by rw [HG.out], by trivial⟩
      case measure => simp [intOf] <;> omega
    · obtain rfl : i = n := by omega
      have hG : grk L i = gr L := by unfold gr; rw [← hA.1]
      rw [hG]
      go_wp2_with fail
      go_ret
      exact ⟨rfl, rfl⟩

set_option maxRecDepth 1000000 in
theorem bkclone_none (w : World) {c : Nat} : Calls Tryz.prog 118 #[.slice none 0 c] w (GotIn w []) := by
  have hq := eql_i64s
  have cc := Below.refl w.heap.size w
  go_enter Tryz.func118, Tryz.ntmps118
  go_wp2_with fail
  go_ret
  exact ⟨_, _, _, rfl, IR.nil _ _ _, cc, fun p e => by cases e⟩

set_option maxRecDepth 1000000 in
theorem bkclone_zero (w : World) {a : Addr} {c : Nat} : Calls Tryz.prog 118 #[.slice (some a) 0 c] w (GotIn w []) := by
  have hq := eql_i64s
  have cc := (Below.refl w.heap.size w).alloc (Nat.le_refl _) (.cells #[] 2)
  go_enter Tryz.func118, Tryz.ntmps118
  go_wp2_with fail
  go_ret
  exact ⟨_, _, _, rfl, IR.nil _ _ _, cc, fun p e => by injection e with e; subst e; exact Nat.le_refl _⟩

set_option maxRecDepth 1000000 in
theorem bkclone_some {w : World} {b off n c : Nat} {L : List Int} (hW : IR w (some ⟨b, off, none⟩) n c L) (hm : 0 < n) (hm2 : n ≤ 4096) : Calls Tryz.prog 118 #[.slice (some ⟨b, off, none⟩) n c] w (GotIn w L) := by
  have hq := eql_i64s
  obtain ⟨i0, hi, hz0, hz1, hz2⟩ := info_parts infoI
  obtain ⟨t, ht⟩ : ∃ t, w.heap.size = t := ⟨_, rfl⟩
  have HT := Lib.hid ht
  have hl := hW.1
  have hb : b < w.heap.size := by obtain ⟨b', o', e, hlt⟩ := hW.some hm; injection e with e; injection e with e1; rw [e1]; exact hlt
  have HNV : Hid (∀ j u, (L.map encI)[j]? = some u → (w.alloc (.cells #[] 2)).cell? ((⟨b, off, none⟩ : Addr).add j) = some u) := Lib.hid (fun j u e => by
    rw [List.getElem?_map] at e
    rcases hj : L[j]? with _ | z
    · rw [hj] at e; cases e
    · rw [hj] at e; injection e with e
      have hlt : j < L.length := (List.getElem?_eq_some_iff.1 hj).1
      have h1 := (hW.on ((Below.refl _ w).alloc (Nat.le_refl _) (.cells #[] 2))).cell (j := j) (by omega)
      rw [hj] at h1
      rw [← e, addr_add]
      exact h1)
  have HL := Lib.hid hl
  have HO : Hid ((w.alloc (.cells #[] 2)).ownsRow t 2 1 (.slice (some ⟨w.heap.size, 0, none⟩) 0 0) 0 ([] : List Value)) := Lib.hid (World.ownsRow_lit w #[] 0 (by omega) (by unfold maxLen; omega) rfl)
  have HB : Hid (Below t w (w.alloc (.cells #[] 2))) := Lib.hid ((Below.refl t w).alloc (by omega) _)
  have t_le : t ≤ w.heap.size + 1 := by rw [← HT.out]; omega
  clear ht hW hb hl
  go_enter Tryz.func118, Tryz.ntmps118
  go_wp2_with (at_builtin; refine wpList_append_lies _ rfl _ _ 34 rfl t 2 i0 (.int .i64 0) 1 8 Tryz.underlying34 hi hz0 hz1 hz2 rfl (by decide) _ 0 [] rfl HO.out ⟨b, off, none⟩ n c (L.map encI) rfl (by rw [List.length_map, HL.out]; simp) HNV.out (by simp [encI, Value.oneCell']) hm (by unfold maxLen; omega) (by omega) (by simp; omega) _ rfl ?_; intro g1 cap1 w3 hown1 hgrow1 hat hlt1)
  go_ret
  have h1 : Below t w w3 := HB.out.grown hgrow1 (by simp; omega) (fun q e => by injection (show some w.heap.size = some q from e) with e1; have := HT.out; omega)
  rw [← HT.out] at h1
  rw [List.nil_append] at hown1
  rw [Nat.zero_add] at hown1
  exact ⟨_, _, _, rfl, IR.of_own hown1, h1, fun p e => by injection e with e; subst e; have := (hown1.lt g1 rfl).1; rw [HT.out]; exact this⟩

theorem bkclone_N {w : World} {A : Option Addr} {n c : Nat} {L : List Int} (hA : IR w A n c L) (hn : n ≤ 4096) : Calls Tryz.prog 118 #[.slice A n c] w (GotIn w L) := by
  rcases Nat.eq_zero_or_pos n with h | h
  · have hL : L = [] := List.eq_nil_of_length_eq_zero (by rw [← hA.1]; exact h)
    subst h; subst hL
    rcases A with _ | a
    · exact bkclone_none w
    · exact bkclone_zero w
  · obtain ⟨b, off, rfl, _⟩ := hA.some h
    exact bkclone_some hA h hn

set_option maxRecDepth 1000000 in
theorem bkbeq_N {w : World} {A B : Option Addr} {n c m d : Nat} {C D : List Nat} (hC : BR w A n c C) (hD : BR w B m d D) : Calls Tryz.prog 40 #[.slice A n c, .slice B m d] w (GotV w (.bool (decide (C = D)))) := by
  have h1 := conv_br hC
  have h2 := conv_br hD
  have h3 : ((strOfNums (ints8 C)).toList == (strOfNums (ints8 D)).toList) = decide (C = D) := by rw [Bool.eq_iff_iff, beq_iff_eq, decide_eq_true_eq]; rw [ByteArray.toList_eq, ByteArray.toList_eq]; exact ⟨fun e => (str8_eq hC.2.2.1 hD.2.2.1).1 (ByteArray.ext (Array.toList_inj.1 e)), fun e => by rw [e]⟩
  clear hC hD
  generalize strOfNums (ints8 C) = p at *
  generalize strOfNums (ints8 D) = q at *
  generalize decide (C = D) = r at *
  have cc := Below.refl w.heap.size w
  go_enter Tryz.func40, Tryz.ntmps40
  go_wp2_with fail
  go_ret
  exact ⟨rfl, cc⟩
end Go.Proofs.YtpidpebgeblenaaGreat
