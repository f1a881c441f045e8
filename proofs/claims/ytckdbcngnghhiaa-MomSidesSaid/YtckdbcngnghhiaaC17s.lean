/-
  The law's helper: is the least number of 64 bits among rows?
-/
import Derived.Test.YtckdbcngnghhiaaA8
namespace Go.Proofs.Ytckdbcngnghhiaa
set_option maxRecDepth 100000
open Go.RowKit
set_option linter.unusedVariables false
set_option linter.unusedSimpArgs false

set_option maxHeartbeats 8000000 in
theorem has17_N {w : World} {Aw : Option Addr} {nw cw : Nat} {Am : Option Addr} {nm cm : Nat} {Av : Option Addr} {nv cv : Nat} {Ag : Option Addr} {ng_ cg : Nat} {LW LM LG : List Int} (hW : IR w Aw nw cw LW) (hM : IR w Am nm cm LM) (hG : IR w Ag ng_ cg LG) (kw : nw ≤ 100) (km : nm ≤ 100) (kg : ng_ ≤ 100) :
    Calls Try.prog 23 #[.agg #[.slice Aw nw cw, .slice Am nm cm, .slice Av nv cv, .slice Ag ng_ cg]] w (GotV w (.bool (decide ((-9223372036854775808) ∈ LW ++ LM ++ LG)))) := by
  obtain ⟨i0, hi, hz0, hz1, hz2⟩ := info_parts infoI
  have cc := Below.refl w.heap.size w
  have HN : Hid (LW.length = nw ∧ LM.length = nm ∧ LG.length = ng_) := Lib.hid ⟨hW.1.symm, hM.1.symm, hG.1.symm⟩
  obtain ⟨r, er⟩ : ∃ r, decide ((-9223372036854775808) ∈ LW ++ LM ++ LG) = r := ⟨_, rfl⟩
  rw [er]
  have HER := Lib.hid er
  clear er
  go_enter Try.func23, Try.ntmps23
  go_upto_region 1 with fail
  have zl : (w.alloc (.cells #[.slice Aw nw cw, .slice Am nm cm, .slice Av nv cv, .slice Ag ng_ cg] 26)).heap[w.heap.size]? = some (.cells #[.slice Aw nw cw, .slice Am nm cm, .slice Av nv cv, .slice Ag ng_ cg] 26) := World.alloc_heap_new w _
  have bA := one_upD w (.cells #[.slice Aw nw cw, .slice Am nm cm, .slice Av nv cv, .slice Ag ng_ cg] 26)
  replace cc := cc.trans bA
  replace hW := hW.on bA
  replace hM := hM.on bA
  replace hG := hG.on bA
  clear bA
  generalize w.alloc (.cells #[.slice Aw nw cw, .slice Am nm cm, .slice Av nv cv, .slice Ag ng_ cg] 26) = V at *
  have lt := fun {W : World} {b : Nat} {o : Obj} (h : W.heap[b]? = some o) => (Array.getElem?_eq_some_iff.1 h).1
  have bD : Below V.heap.size V V.drew := below_drewN (Below.refl _ V) 1
  have hsz : V.drew.heap.size = V.heap.size := rfl
  have zld := (bD.block _ (lt zl)).trans zl
  clear bD hsz
  obtain ⟨xa0, xa1, xa2, xa3⟩ := cells4 zld
  clear zld
  refine wp_region_held_drew (S := fun w' => w'.cell? ⟨w.heap.size, 0, none⟩ = some (.slice Aw nw cw) ∧ w'.cell? ⟨w.heap.size, 1, none⟩ = some (.slice Am nm cm) ∧ w'.cell? ⟨w.heap.size, 3, none⟩ = some (.slice Ag ng_ cg)) (by kernel_rfl) ?_ (fun hHeld => ?_)
  · exact ⟨xa0, xa1, xa3⟩
  refine tY (i := 1) (v := ?_) rfl ?_ hHeld ?_
  rotate_left
  · (intro w hSw; (try dsimp only at hSw); go_simp; (try with_reducible rfl))
  try simp only [Act.put, pT]
  refine tY (i := 2) (v := ?_) rfl ?_ hHeld ?_
  rotate_left
  · (intro w hSw; (try dsimp only at hSw); go_simp; (try with_reducible rfl))
  try simp only [Act.put, pT]
  refine tY (i := 4) (v := ?_) rfl ?_ hHeld ?_
  rotate_left
  · (intro w hSw; (try dsimp only at hSw); go_simp; (try with_reducible rfl))
  try simp only [Act.put, pT]
  refine tY (i := 5) (v := ?_) rfl ?_ hHeld ?_
  rotate_left
  · (intro w hSw; (try dsimp only at hSw); go_simp; (try with_reducible rfl))
  try simp only [Act.put, pT]
  refine tY (i := 7) (v := ?_) rfl ?_ hHeld ?_
  rotate_left
  · (intro w hSw; (try dsimp only at hSw); go_simp; (try with_reducible rfl))
  try simp only [Act.put, pT]
  refine tY (i := 8) (v := ?_) rfl ?_ hHeld ?_
  rotate_left
  · (intro w hSw; (try dsimp only at hSw); go_simp; (try with_reducible rfl))
  try simp only [Act.put, pT]
  refine wpAnyH_ready (rs := [0]) (by kernel_rfl) (by simp) ?_
  refine AllReadyH.cons rfl (fun K hK => ?_) AllReadyH.nil
  (try simp only [pT])
  rw [if_pos (by rfl)]
  go_simp
  have hO : ((V.alloc (.cells #[] 2)).drew).ownsRow V.heap.size 2 1 (.slice (some ⟨V.heap.size, 0, none⟩) 0 0) 0 (([] : List Int).map encI) := (World.ownsRow_lit V #[] 0 (Nat.le_refl _) (by unfold maxLen; omega) rfl).drew
  have b : Below V.heap.size V ((V.alloc (.cells #[] 2)).drew) := below_drewN (one_upD V (.cells #[] 2)) 1
  generalize (V.alloc (.cells #[] 2)).drew = U0 at *
  obtain ⟨t, et⟩ : ∃ t, V.heap.size = t := ⟨_, rfl⟩
  rw [et] at hO b ⊢
  have HZ : Hid (U0.heap[w.heap.size]? = some (.cells #[.slice Aw nw cw, .slice Am nm cm, .slice Av nv cv, .slice Ag ng_ cg] 26)) := Lib.hid ((b.block _ (by rw [← et]; exact lt zl)).trans zl)
  refine hK.out _ _ ?_ (fun hHeld => ?_)
  · exact ⟨(cells4 HZ.out).1, (cells4 HZ.out).2.1, (cells4 HZ.out).2.2.2⟩
  clear hK K HZ
  try simp only [Act.put, pT]
  refine wpAnyH_ready (rs := [3]) (by kernel_rfl) (by simp) ?_
  refine AllReadyH.cons rfl (fun K hK => ?_) AllReadyH.nil
  (try simp only [pT])
  have hb0 : Below V.heap.size V U0 := by rw [et]; exact b
  refine step_app17 rfl _ _ 24 rfl t 2 i0 (.int .i64 0) 1 8 Try.underlying24 hi hz0 hz1 hz2 rfl (by decide) t 0 0 _ rfl hO Aw nw cw (LW.map encI) rfl (by rw [List.length_map, Nat.mul_one]; exact hW.1.symm) (ir_news17 hW hb0) (one_encI17 _) (by unfold maxLen; omega) (by omega) (by have := b.size; omega) nw (by omega) ?_
  intro g0 cap0 W0 hown0 hgrow0 hat0 hlt0
  have hO0 : W0.ownsRow t 2 1 (.slice (some ⟨g0, 0, none⟩) nw cap0) nw (LW.map encI) := by rw [List.map_nil, List.nil_append] at hown0; exact hown0
  have b0 : Below t V W0 := b.grown hgrow0 (by have := b.size; omega) (fun q e => by injection e with e; have := (hO.lt t rfl).1; omega)
  have HZ : Hid (W0.heap[w.heap.size]? = some (.cells #[.slice Aw nw cw, .slice Am nm cm, .slice Av nv cv, .slice Ag ng_ cg] 26)) := Lib.hid ((b0.block _ (by rw [← et]; exact lt zl)).trans zl)
  refine hK.out _ _ ?_ (fun hHeld => ?_)
  · exact ⟨(cells4 HZ.out).1, (cells4 HZ.out).2.1, (cells4 HZ.out).2.2.2⟩
  clear hK K HZ
  try simp only [Act.put, pT]
  refine wpAnyH_ready (rs := [6]) (by kernel_rfl) (by simp) ?_
  refine AllReadyH.cons rfl (fun K hK => ?_) AllReadyH.nil
  (try simp only [pT])
  have hb1 : Below V.heap.size V W0 := by rw [et]; exact b0
  refine step_app17 rfl _ _ 24 rfl t 2 i0 (.int .i64 0) 1 8 Try.underlying24 hi hz0 hz1 hz2 rfl (by decide) g0 nw cap0 _ rfl hO0 Am nm cm (LM.map encI) rfl (by rw [List.length_map, Nat.mul_one]; exact hM.1.symm) (ir_news17 hM hb1) (one_encI17 _) (by unfold maxLen; omega) (by omega) (by have := b0.size; omega) (nw + nm) (by omega) ?_
  intro g1 cap1 W1 hown1 hgrow1 hat1 hlt1
  have hO1 : W1.ownsRow t 2 1 (.slice (some ⟨g1, 0, none⟩) (nw + nm) cap1) (nw + nm) ((LW ++ LM).map encI) := by rw [List.map_append]; exact hown1
  have b1 : Below t V W1 := b0.grown hgrow1 (by have := b0.size; omega) (fun q e => by injection e with e; have := (hO0.lt g0 rfl).1; omega)
  have HZ : Hid (W1.heap[w.heap.size]? = some (.cells #[.slice Aw nw cw, .slice Am nm cm, .slice Av nv cv, .slice Ag ng_ cg] 26)) := Lib.hid ((b1.block _ (by rw [← et]; exact lt zl)).trans zl)
  refine hK.out _ _ ?_ (fun hHeld => ?_)
  · exact ⟨(cells4 HZ.out).1, (cells4 HZ.out).2.1, (cells4 HZ.out).2.2.2⟩
  clear hK K HZ
  try simp only [Act.put, pT]
  refine wpAnyH_ready (rs := [9]) (by kernel_rfl) (by simp) ?_
  refine AllReadyH.cons rfl (fun K hK => ?_) AllReadyH.nil
  (try simp only [pT])
  have hb2 : Below V.heap.size V W1 := by rw [et]; exact b1
  refine step_app17 rfl _ _ 24 rfl t 2 i0 (.int .i64 0) 1 8 Try.underlying24 hi hz0 hz1 hz2 rfl (by decide) g1 (nw + nm) cap1 _ rfl hO1 Ag ng_ cg (LG.map encI) rfl (by rw [List.length_map, Nat.mul_one]; exact hG.1.symm) (ir_news17 hG hb2) (one_encI17 _) (by unfold maxLen; omega) (by omega) (by have := b1.size; omega) (nw + nm + ng_) (by omega) ?_
  intro g2 cap2 W2 hown2 hgrow2 hat2 hlt2
  have hO2 : W2.ownsRow t 2 1 (.slice (some ⟨g2, 0, none⟩) (nw + nm + ng_) cap2) (nw + nm + ng_) ((LW ++ LM ++ LG).map encI) := by rw [List.map_append]; exact hown2
  have b2 : Below t V W2 := b1.grown hgrow2 (by have := b1.size; omega) (fun q e => by injection e with e; have := (hO1.lt g1 rfl).1; omega)
  have HZ : Hid (W2.heap[w.heap.size]? = some (.cells #[.slice Aw nw cw, .slice Am nm cm, .slice Av nv cv, .slice Ag ng_ cg] 26)) := Lib.hid ((b2.block _ (by rw [← et]; exact lt zl)).trans zl)
  refine hK.out _ _ ?_ (fun hHeld => ?_)
  · exact ⟨(cells4 HZ.out).1, (cells4 HZ.out).2.1, (cells4 HZ.out).2.2.2⟩
  clear hK K HZ
  try simp only [Act.put, pT]
  refine tY (i := 10) (v := ?_) rfl ?_ hHeld ?_
  rotate_left
  · (intro w hSw; (try dsimp only at hSw); go_simp; (try with_reducible rfl))
  try simp only [Act.put, pT]
  refine wpAnyH_done (by kernel_rfl) ?_ _
  clear hHeld
  have hR := IR.of_own hO2
  have cc2 : Below w.heap.size w W2 := cc.trans (b2.mono (by have := cc.size; omega))
  have HR := Lib.hid hR
  have HC := Lib.hid cc2
  have HM : Hid (∀ j, j < nw + nm + ng_ → ∃ z, (LW ++ LM ++ LG)[j]?.getD 0 = z) := Lib.hid fun j _ => ⟨_, rfl⟩
  have hll : (LW ++ LM ++ LG).length = nw + nm + ng_ := by rw [List.length_append, List.length_append, HN.out.1, HN.out.2.1, HN.out.2.2]
  generalize LW ++ LM ++ LG = LL at *
  obtain ⟨N, eN⟩ : ∃ N, nw + nm + ng_ = N := ⟨_, rfl⟩
  have kN : N ≤ 300 := by omega
  simp only [eN] at *
  have HLL := Lib.hid hll
  have HLT : Hid (g2 < W2.heap.size) := Lib.hid (hO2.lt g2 rfl).2
  have cO := Lib.hid (fun (j : Nat) (hj : j < N) => hO2.cellAt j (by omega))
  clear hO hO0 hO1 hO2 hown0 hown1 hown2 hgrow0 hgrow1 hgrow2 b b0 b1 b2 hb0 hb1 hb2 cc cc2 hR zl xa0 xa1 xa2 xa3 hW hM hG hll et eN hat0 hat1 hat2 hlt0 hlt1 hlt2
  go_wp2_with fail
  go_loopw [4] (fun iv wr => ∃ i : Nat, i ≤ N ∧ iv = .int .i64 (i : Int) ∧ wr = W2 ∧ ∀ j, j < i → LL[j]?.getD 0 ≠ (-9223372036854775808)) (fun iv _ => N - (intOf iv).toNat)
  case atStart => exact ⟨0, by omega, rfl, rfl, fun j h => absurd h (by omega)⟩
  case round =>
    obtain ⟨i, hi_, rfl, hwr, hj⟩ := hrel
    subst hwr
    by_cases hlt : i < N
    · have e1 : wr.cell? ⟨g2, i, none⟩ = some (.int .i64 (LL[i]?.getD 0)) := by rw [cO.out i hlt, List.getElem?_map, List.getElem?_eq_getElem (by rw [HLL.out]; exact hlt)]; rfl
      have jlt : (i : Int) < (N : Int) := by omega
      have k4_ : IntKind.i64.wrap ((i : Int) + 1) = ((i + 1 : Nat) : Int) := by rw [IntWalk.i64_in _ (by omega)]; omega
      by_cases hx : LL[i]?.getD 0 = (-9223372036854775808)
      · have hd : decide ((-9223372036854775808) ∈ LL) = true := decide_eq_true (by have h := List.getElem_mem (l := LL) (n := i) (by rw [HLL.out]; exact hlt); rw [List.getElem?_eq_getElem (by rw [HLL.out]; exact hlt)] at hx; rw [← hx]; exact h)
        obtain rfl : true = r := by rw [← HER.out]; exact hd.symm
        rw [hx] at e1
        clear hj hx hd
        go_wp2_with fail
        go_ret
        exact ⟨rfl, HC.out⟩
      · have HJ : Hid (∀ j, j < i + 1 → LL[j]?.getD 0 ≠ (-9223372036854775808)) := Lib.hid (fun j h => by
          rcases Nat.lt_or_ge j i with e | e
          · exact hj j e
          · have e2 : j = i := by omega
            rw [e2]; exact hx)
        obtain ⟨x, ex⟩ : ∃ x, LL[i]?.getD 0 = x := ⟨_, rfl⟩
        rw [ex] at e1 hx
        have tx : (x == (-9223372036854775808)) = false := beq_eq_false_iff_ne.2 hx
        clear hj hx ex
        go_wp2_with fail
        go_roundw
        case rel => exact ⟨i + 1, by omega, by go_num, by trivial, HJ.out⟩
        case measure => simp [intOf] <;> omega
    · obtain rfl : N = i := by omega
      have hd : decide ((-9223372036854775808) ∈ LL) = false := decide_eq_false (fun h => by
        obtain ⟨j, hj1, hj2⟩ := List.mem_iff_getElem.1 h
        exact hj j (by rw [← HLL.out]; exact hj1) (by rw [List.getElem?_eq_getElem hj1]; exact hj2))
      have jl : ¬ ((N : Int) < (N : Int)) := by omega
      obtain rfl : false = r := by rw [← HER.out]; exact hd.symm
      clear hj hd
      go_wp2_with fail
      go_ret
      exact ⟨rfl, HC.out⟩
end Go.Proofs.Ytckdbcngnghhiaa
