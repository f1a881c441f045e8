/-
  The contract of nat.Add.
-/
import Derived.Test.YtglabefefedfoaaShare
namespace Go.Proofs.Ytglabefefedfoaa
open Go.RowKit Go.Shelf

attribute [local go_sem] Oper.semAt_some
attribute [local go_sem ↓] mx_run

set_option maxRecDepth 100000 in
set_option maxHeartbeats 2000000 in
theorem add_lim (A B : Option Addr) (n c m d x y : Nat) (w : World) (ha : Lim w.heap.size w A n c (limbs x)) (hb : Lim w.heap.size w B m d (limbs y)) (hn : n ≤ 4294967296) (hm : m ≤ 4294967296) :
    Calls Try.prog 25 #[.slice A n c, .slice B m d] w fun e w' => ∃ v, e = .returned v ∧ IsN w' v (x + y) ∧ Below w.heap.size w w' := by
  obtain ⟨i0, hi, hz0, hz1, hz2⟩ := info_parts info24
  refine (callsIn_wide (n := 10)).1 ?_
  refine callsIn_of_wp_marks Try.func25 rfl trivial ?_ rfl
  simp only [Try.ntmps25, List.size_toArray, List.length_cons, List.length_nil, Nat.reduceAdd, Nat.reduceSub, Array.replicate_succ, Array.replicate_zero, List.push_toArray, List.append_toArray, List.nil_append, List.cons_append]
  have hnl := Lib.hid ha.1
  have hml := Lib.hid hb.1
  have hmx : mx n m ≤ 4294967296 := by unfold mx; omega
  obtain ⟨s, hs⟩ : ∃ s, w.heap.size = s := ⟨_, rfl⟩
  have HS := Lib.hid hs
  clear hs
  gi_wp2_with (first
    | (gi_at_make; refine wpListIn_make_own _ rfl _ _ 23 rfl s 24 i0 (.int .u64 0) 1 Try.underlying23 hi hz0 hz1 .i64 .i64 _ (mx n m + 1) rfl rfl (by omega) (by rw [hz2]; omega) (by unfold maxLen; omega) (by rw [HS.out]; omega) ?_; intro w1 hown1 hgrow1)
    | (refine ⟨trivial, ?_⟩; gi_at_call 31; refine (callsIn_wide.2 (pairs_any _ _ _ _ _ _ _ _ rfl rfl _)).mono ?_; rintro e w' ⟨rfl, rfl⟩))
  obtain ⟨t, ht⟩ : ∃ t, w1.heap.size = t := ⟨_, rfl⟩
  rw [HS.out] at hown1 ha hb ⊢
  rw [ht]
  have hst : s < t := by have := (hown1.lt s rfl).2; omega
  have bS := Boxed.new w1 23 (.slice (some ⟨s, 0, none⟩) 0 (mx n m + 1))
  rw [ht] at bS
  obtain ⟨w2, hw2⟩ : ∃ w2, w1.alloc (.cells #[.slice (some ⟨s, 0, none⟩) 0 (mx n m + 1)] 23) = w2 := ⟨_, rfl⟩
  have hz2' : w2.heap.size = t + 1 := by rw [← hw2, World.size_alloc, ht]
  have hown2 := hown1.alloc (.cells #[.slice (some ⟨s, 0, none⟩) 0 (mx n m + 1)] 23)
  have hB2 : Below s w w2 := by rw [← hw2]; exact (((Below.refl s w).grown hgrow1 (by have := HS.out; omega) (fun k h => by cases h)).alloc (by omega) _)
  rw [hw2] at bS hown2 ⊢
  have bC := Boxed.new w2 24 (.int .u64 0)
  rw [hz2'] at bC
  obtain ⟨w3, hw3⟩ : ∃ w3, w2.alloc (.cells #[.int .u64 0] 24) = w3 := ⟨_, rfl⟩
  have hz3' : w3.heap.size = t + 1 + 1 := by rw [← hw3, World.size_alloc, hz2']
  have hown3 := hown2.alloc (.cells #[.int .u64 0] 24)
  have bS3 := bS.alloc (.cells #[.int .u64 0] 24)
  have hB3 : Below s w w3 := by rw [← hw3]; exact hB2.alloc (by omega) _
  rw [hw3] at bC hown3 bS3 ⊢
  have bA := Boxed.new w3 23 (.slice A n c)
  rw [hz3'] at bA
  obtain ⟨w4, hw4⟩ : ∃ w4, w3.alloc (.cells #[.slice A n c] 23) = w4 := ⟨_, rfl⟩
  have hz4' : w4.heap.size = t + 1 + 1 + 1 := by rw [← hw4, World.size_alloc, hz3']
  have hown4 := hown3.alloc (.cells #[.slice A n c] 23)
  have bS4 := bS3.alloc (.cells #[.slice A n c] 23)
  have bC4 := bC.alloc (.cells #[.slice A n c] 23)
  have hB4 : Below s w w4 := by rw [← hw4]; exact hB3.alloc (by omega) _
  rw [hw4] at bA hown4 bS4 bC4 ⊢
  have bB := Boxed.new w4 23 (.slice B m d)
  rw [hz4'] at bB
  obtain ⟨W0, hW0⟩ : ∃ w5, w4.alloc (.cells #[.slice B m d] 23) = w5 := ⟨_, rfl⟩
  have hsz : W0.heap.size = t + 4 := by rw [← hW0, World.size_alloc, hz4']
  have hown5 := hown4.alloc (.cells #[.slice B m d] 23)
  have bS5 := bS4.alloc (.cells #[.slice B m d] 23)
  have bC5 := bC4.alloc (.cells #[.slice B m d] 23)
  have bA5 := bA.alloc (.cells #[.slice B m d] 23)
  have hB0 : Below s w W0 := by rw [← hW0]; exact hB4.alloc (by omega) _
  rw [hW0] at bB hown5 bS5 bC5 bA5 ⊢
  clear hown1 hgrow1 hw2 hz2' hown2 hB2 hw3 hz3' hown3 bS3 hB3 hw4 hz4' hown4 bS4 bC4 hB4 bS bC bA hW0 ht
  refine wpIn_rangeFunc_ownG rfl (by decide) (gf := 41) (lb := #[.pointer (some ⟨t + 1 + 1, 0, none⟩), .pointer (some ⟨t + 1 + 1 + 1, 0, none⟩)]) rfl trivial (enters_of Try.func41 (by kernel_rfl) rfl)
    (pairs_stops (t + 1 + 1) (t + 1 + 1 + 1) s A B n c m d (limbs x) (limbs y) (limbs_dig x) (limbs_dig y) hn hm W0 (by omega) bA5 bB (ha.below hB0) (hb.below hB0))
    (fun h k => h.trans k) (keep_b (by omega) (by omega) (by omega)) (Below.refl _ _) (fun _ => rfl)
    (fun pre W => (Boxed W t 23 (.slice (some ⟨s, 0, none⟩) pre.length (mx n m + 1)) ∧ Boxed W (t + 1) 24 (.int .u64 (addC pre : Int)) ∧ Boxed W (t + 1 + 1) 23 (.slice A n c) ∧ Boxed W (t + 1 + 1 + 1) 23 (.slice B m d) ∧
      W.ownsRow s 24 1 (.slice (some ⟨s, 0, none⟩) pre.length (mx n m + 1)) pre.length ((addD pre).map encD)) ∧ Below s w W)
    (fun _ _ _ => False)
    (OwnFrom.and (OwnFrom.and (Own.from (boxed_own _ _ _) _) (OwnFrom.and (Own.from (boxed_own _ _ _) _) (OwnFrom.and (Own.from (boxed_own _ _ _) _) (OwnFrom.and (Own.from (boxed_own _ _ _) _) (Own.from (row_own _ _ _ _ _ _) _))))) (ownFrom_below (by have := HS.out; omega) (by omega)))
    (fun _ _ _ _ _ hs _ _ => hs)
    ⟨⟨bS5, bC5, bA5, bB, hown5⟩, hB0⟩
    (fun x => { tmps := #[.slice A n c, .slice B m d, undef, undef, .slice none 0 0, .pointer (some ⟨t, 0, none⟩), .pointer (some ⟨t + 1, 0, none⟩), .int .u64 (x.1.1 : Int), .int .u64 (x.1.2 : Int), undef, .slice A n c, .int .i64 (n : Int), .slice B m d, .int .i64 (m : Int), .int .i64 (mx n m : Int), .int .i64 ((mx n m : Int) + 1), .slice (some ⟨s, 0, none⟩) 0 (mx n m + 1), .slice A n c, .slice B m d,
      .func (.func 41) #[] #[.pointer (some ⟨t + 1 + 1, 0, none⟩), .pointer (some ⟨t + 1 + 1 + 1, 0, none⟩)], .int .u64 (x.1.1 : Int), .int .u64 (x.1.2 : Int), undef, undef, undef, undef, undef, undef, undef, undef, undef, undef, undef, undef, undef, undef, undef, undef, undef, undef], defers := [] }) ?assign ?body ?done ?stop
  case assign =>
    intro l x W K hK
    gi_wp2
    exact hK
  case body =>
    rintro l pre x W ⟨⟨hS, hC, hA, hB, hrow⟩, hBl⟩ hlt
    have hc1 := hS.cell
    have hf1 := hS.frozen
    have hc2 := hC.cell
    have hf2 := hC.frozen
    have h39 := add64_run x.1.1 x.1.2 (addC pre) (addC_le pre)
    have hF39 : Fence.wide.fn 39 := trivial
    have hrow2 := (hrow.kept (grownBy_setCell' W (t + 1) (.int .u64 (sumHi x.1.1 x.1.2 (addC pre) : Int))) (.inr (by simp [Value.ownBlock]; omega))).alloc (.cells #[.int .u64 (sumLo x.1.1 x.1.2 (addC pre) : Int)] 24)
    have hcn := cell_one_new (W.setCell ⟨t + 1, 0, none⟩ (.int .u64 (sumHi x.1.1 x.1.2 (addC pre) : Int))) (.int .u64 (sumLo x.1.1 x.1.2 (addC pre) : Int)) 24
    rw [World.size_setCell] at hcn
    gi_wp2_with (gi_at_builtin; refine wpListIn_append_fits _ rfl _ _ 23 rfl s 24 i0 1 Try.underlying23 hi hz1 s pre.length (mx n m + 1) _ rfl hrow2 ⟨W.heap.size, 0, none⟩ 1 1 [.int .u64 (sumLo x.1.1 x.1.2 (addC pre) : Int)] rfl rfl hcn (by simp [Value.oneCell']) (by unfold mx; omega) ?_; intro w6 hown6 hgrow6; have hS6 := ((hS.other (B' := t + 1) (by omega) (.int .u64 (sumHi x.1.1 x.1.2 (addC pre) : Int))).alloc (.cells #[.int .u64 (sumLo x.1.1 x.1.2 (addC pre) : Int)] 24)).kept hgrow6 (by simp; omega); have hc6 := hS6.cell; have hf6 := hS6.frozen)
    have hC6 := ((hC.set (.int .u64 (sumHi x.1.1 x.1.2 (addC pre) : Int))).alloc (.cells #[.int .u64 (sumLo x.1.1 x.1.2 (addC pre) : Int)] 24)).kept hgrow6 (by simp; omega)
    have hA6 := ((hA.other (B' := t + 1) (by omega) (.int .u64 (sumHi x.1.1 x.1.2 (addC pre) : Int))).alloc (.cells #[.int .u64 (sumLo x.1.1 x.1.2 (addC pre) : Int)] 24)).kept hgrow6 (by simp; omega)
    have hB6 := ((hB.other (B' := t + 1) (by omega) (.int .u64 (sumHi x.1.1 x.1.2 (addC pre) : Int))).alloc (.cells #[.int .u64 (sumLo x.1.1 x.1.2 (addC pre) : Int)] 24)).kept hgrow6 (by simp; omega)
    have hA7 := hA6.other (B' := t) (by omega) (.slice (some ⟨s, 0, none⟩) (pre.length + 1) (mx n m + 1))
    have hB7 := hB6.other (B' := t) (by omega) (.slice (some ⟨s, 0, none⟩) (pre.length + 1) (mx n m + 1))
    have hC7 := hC6.other (B' := t) (by omega) (.slice (some ⟨s, 0, none⟩) (pre.length + 1) (mx n m + 1))
    have hS7 := hS6.set (.slice (some ⟨s, 0, none⟩) (pre.length + 1) (mx n m + 1))
    have hrow7 := hown6.kept (grownBy_setCell' w6 t (.slice (some ⟨s, 0, none⟩) (pre.length + 1) (mx n m + 1))) (.inr (by simp [Value.ownBlock]; omega))
    have hWs : s < W.heap.size := by have := hA.lt; omega
    have hBW : Below s W (w6.setCell ⟨t, 0, none⟩ (.slice (some ⟨s, 0, none⟩) (pre.length + 1) (mx n m + 1))) :=
      (((((Below.refl s W).setCell (p := ⟨t + 1, 0, none⟩) (by simp; omega) _).alloc (by simp; omega) _).grown hgrow6 (by simp; omega) (fun k e => by cases e; omega))).setCell (p := ⟨t, 0, none⟩) (by simp; omega) _
    have hKO : KeepsOthers W (w6.setCell ⟨t, 0, none⟩ (.slice (some ⟨s, 0, none⟩) (pre.length + 1) (mx n m + 1))) := by
      refine (((KeepsOthers.setCell W ⟨t + 1, 0, none⟩ _).trans (KeepsOthers.alloc _ _)).trans (KeepsOthers.of_grownBy hgrow6 fun j o ej hj => ?_)).trans (KeepsOthers.setCell _ _ _)
      cases ej
      rcases hrow2.2 with ⟨e1, _⟩ | ⟨g, cap, cur, e1, _, hgb, _⟩
      · cases e1
      · injection e1 with e2
        injection e2 with e3
        injection e3 with e4
        subst e4
        rw [hgb] at hj; cases hj; rfl
    refine ⟨hKO.from _, ⟨hBW, hA7.trans hA.symm, hB7.trans hB.symm⟩, ⟨?_, ?_, hA7, hB7, ?_⟩, hBl.trans hBW⟩
    · rw [List.length_append]; exact hS7
    · rw [addC_snoc]; exact hC7
    · rw [List.length_append, addD_snoc, List.map_append]; exact hrow7
  case done =>
    rintro D ys W hD hys ⟨⟨hS, hC, hA, hB, hrow⟩, hBl⟩ hK
    have hc1 := hS.cell
    have hf1 := hS.frozen
    have hc2 := hC.cell
    have hyl : ys.length = max n m := by rw [hys, upto_length]
    have HYL := Lib.hid hyl
    have hyl' : ys.length ≤ mx n m := by unfold mx; omega
    have hWs : s < W.heap.size := by have := hA.lt; omega
    have HYS := Lib.hid hys
    clear hys hyl
    have hN : ys = upto (limbs_dig x) (limbs_dig y) (max (limbs x).length (limbs y).length) := by rw [HYS.out, hnl.out, hml.out]
    have HNN := Lib.hid hN
    clear hN
    by_cases hz : addC ys = 0
    · have hzb : ((addC ys : Int) != 0) = false := by simp [hz]
      have hz' := Lib.hid hz
      clear hz
      gi_wp2
      refine ⟨by simp, .inl ⟨_, _, rfl, run_takeDeferred hK, ?_⟩⟩
      have hrow' := ownsRow_putObj hrow (.deferred none) hK rfl
      refine ⟨_, results_tmp rfl _ _ _, _, rfl, ?_, ?_⟩
      · have hd := add_done0 x y (by rw [← HNN.out]; exact hz'.out)
        rw [← HNN.out] at hd
        refine ⟨_, _, _, rfl, ?_⟩
        rw [← hd]
        exact Lim.of_own hrow' (addD_dig _)
      · rw [HS.out]; exact hBl.trans (belowK_b (w := W0) (by omega) W D _ _ hD hK rfl rfl)
    · have hzb : ((addC ys : Int) != 0) = true := by simp [hz]
      have hz' := Lib.hid hz
      clear hz
      have hrow2 := hrow.alloc (.cells #[.int .u64 (addC ys : Int)] 24)
      gi_wp2_with (gi_at_builtin; refine wpListIn_append_fits _ rfl _ _ 23 rfl s 24 i0 1 Try.underlying23 hi hz1 s ys.length (mx n m + 1) _ rfl hrow2 ⟨W.heap.size, 0, none⟩ 1 1 [.int .u64 (addC ys : Int)] rfl rfl (cell_one_new _ _ _) (by simp [Value.oneCell']) (by omega) ?_; intro w6 hown6 hgrow6; have hS6 := (hS.alloc (.cells #[.int .u64 (addC ys : Int)] 24)).kept hgrow6 (by simp; omega); have hc6 := hS6.cell; have hf6 := hS6.frozen)
      have hKO : KeepsOthers W (w6.setCell ⟨t, 0, none⟩ (.slice (some ⟨s, 0, none⟩) (ys.length + 1) (mx n m + 1))) := by
        refine ((KeepsOthers.alloc W _).trans (KeepsOthers.of_grownBy hgrow6 fun j o ej hj => ?_)).trans (KeepsOthers.setCell _ _ _)
        cases ej
        rcases hrow2.2 with ⟨e1, _⟩ | ⟨g, cap, cur, e1, _, hgb, _⟩
        · cases e1
        · injection e1 with e2
          injection e2 with e3
          injection e3 with e4
          subst e4
          rw [hgb] at hj; cases hj; rfl
      have hK' := hKO.same D _ hK rfl
      have hrow7 := hown6.kept (grownBy_setCell' w6 t (.slice (some ⟨s, 0, none⟩) (ys.length + 1) (mx n m + 1))) (.inr (by simp [Value.ownBlock]; omega))
      have hBW : Below s W (w6.setCell ⟨t, 0, none⟩ (.slice (some ⟨s, 0, none⟩) (ys.length + 1) (mx n m + 1))) :=
        ((((Below.refl s W).alloc (by omega) _).grown hgrow6 (by simp; omega) (fun k e => by cases e; omega))).setCell (p := ⟨t, 0, none⟩) (by simp; omega) _
      refine ⟨by simp, .inl ⟨_, _, rfl, run_takeDeferred hK', ?_⟩⟩
      have hrow' := ownsRow_putObj hrow7 (.deferred none) hK' rfl
      refine ⟨_, results_tmp rfl _ _ _, _, rfl, ?_, ?_⟩
      · have hd := add_done1 x y (by rw [← HNN.out]; exact hz'.out)
        rw [← HNN.out] at hd
        refine ⟨_, _, _, rfl, ?_⟩
        rw [← hd]
        refine Lim.of_own (base := s) (e := 24) (l := addD ys ++ [addC ys]) ?_ ((addD_dig _).snoc (by have := addC_le ys; have := B64_gt; omega))
        rw [List.map_append]
        exact hrow'
      · rw [HS.out]; exact (hBl.trans hBW).trans (belowK_b (w := W0) (by omega) _ D _ _ hD hK' rfl rfl)
  case stop =>
    rintro D c pre W _ _ h _
    exact h.elim

end Go.Proofs.Ytglabefefedfoaa
