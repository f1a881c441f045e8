/-
  Several texts in one: C17d, C17e, C17f.
-/
import Derived.Test.YtckdbcngnghhiaaA8
import Derived.Test.YtckdbcngnghhiaaA2

/-
  The contract of the seventeenth reference: step.
-/
namespace Go.Proofs.Ytckdbcngnghhiaa
set_option maxRecDepth 100000
set_option maxHeartbeats 8000000
open Go.RowKit
set_option linter.unusedVariables false
set_option linter.unusedSimpArgs false

theorem nstep17_t {w : World} {lr mu wd f x0 x1 x2 : Int} (f0 : 0 ≤ f) (f1 : f ≤ 40) (hl : I64 lr) (hm : I64 mu) (hw : I64 wd) (h0 : I64 x0) (h1 : I64 x1) (h2 : I64 x2) :
    Calls Try.prog 25 #[.agg #[.int .i64 lr, .int .i64 mu, .int .i64 wd, .bool true], .int .i64 f, .agg #[.int .i64 x0, .int .i64 x1, .int .i64 x2]] w (GotV w (.tuple #[.agg #[.int .i64 (stV mu wd f.toNat x0 x1 x2).1, .bool (stV mu wd f.toNat x0 x1 x2).2], .agg #[.int .i64 (stW lr mu wd true f.toNat x0 x1 x2).1, .bool (stW lr mu wd true f.toNat x0 x1 x2).2]])) := by
  have CMul := fun {x y : Int} {p q : Bool} (hx : I64 x) (hy : I64 y) (W : World) => nMul17_N (w := W) f0 f1 hx hy (p := p) (q := q)
  have CAdd := fun {x y : Int} {p q : Bool} (hx : I64 x) (hy : I64 y) (W : World) => nAdd17_N (w := W) hx hy (p := p) (q := q)
  have CSub := fun {x y : Int} {p q : Bool} (hx : I64 x) (hy : I64 y) (W : World) => nSub17_N (w := W) hx hy (p := p) (q := q)
  obtain ⟨K, hK⟩ : ∃ K, f.toNat = K := ⟨_, rfl⟩
  rw [hK] at CMul ⊢
  have CP := CMul (p := true) (q := true) hw h0
  obtain ⟨P, eP⟩ : ∃ P, nMul K (wd, true) (x0, true) = P := ⟨_, rfl⟩
  rw [eP] at CP
  have iP : I64 P.1 := by rw [← eP]; exact nMul_i64 _ _ _
  have CD := CAdd (p := true) (q := P.2) h2 iP
  obtain ⟨D, eD⟩ : ∃ D, nAdd (x2, true) P = D := ⟨_, rfl⟩
  rw [show nAdd (x2, true) (P.1, P.2) = D from eD] at CD
  have iD : I64 D.1 := by rw [← eD]; exact nAdd_i64 _ _
  have CR := CMul (p := true) (q := true) hm h1
  obtain ⟨R, eR⟩ : ∃ R, nMul K (mu, true) (x1, true) = R := ⟨_, rfl⟩
  rw [eR] at CR
  have iR : I64 R.1 := by rw [← eR]; exact nMul_i64 _ _ _
  have CG := CAdd (p := R.2) (q := D.2) iR iD
  obtain ⟨G, eG⟩ : ∃ G, nAdd R D = G := ⟨_, rfl⟩
  rw [show nAdd (R.1, R.2) (D.1, D.2) = G from eG] at CG
  have iG : I64 G.1 := by rw [← eG]; exact nAdd_i64 _ _
  have CN := CMul (p := true) (q := G.2) hm iG
  obtain ⟨N, eN⟩ : ∃ N, nMul K (mu, true) G = N := ⟨_, rfl⟩
  rw [show nMul K (mu, true) (G.1, G.2) = N from eN] at CN
  have iN : I64 N.1 := by rw [← eN]; exact nMul_i64 _ _ _
  have CU := CAdd (p := D.2) (q := N.2) iD iN
  obtain ⟨U, eU⟩ : ∃ U, nAdd D N = U := ⟨_, rfl⟩
  rw [show nAdd (D.1, D.2) (N.1, N.2) = U from eU] at CU
  have iU : I64 U.1 := by rw [← eU]; exact nAdd_i64 _ _
  have hV : stV mu wd K x0 x1 x2 = G := by unfold stV stD nOf; rw [eP, eD, eR, eG]
  have hU : stU mu wd true K x0 x1 x2 = U := by unfold stU; rw [hV]; unfold stD nOf; rw [if_pos rfl, eP, eD, eN, eU]
  have CM := CMul (p := true) (q := U.2) hl iU
  obtain ⟨M, eM⟩ : ∃ M, nMul K (lr, true) U = M := ⟨_, rfl⟩
  rw [show nMul K (lr, true) (U.1, U.2) = M from eM] at CM
  have iM : I64 M.1 := by rw [← eM]; exact nMul_i64 _ _ _
  have CY := CSub (p := true) (q := M.2) h0 iM
  obtain ⟨Y, eY⟩ : ∃ Y, nSub (x0, true) M = Y := ⟨_, rfl⟩
  rw [show nSub (x0, true) (M.1, M.2) = Y from eY] at CY
  have hW : stW lr mu wd true K x0 x1 x2 = Y := by unfold stW nOf; rw [hU, eM, eY]
  rw [hV, hW]
  have cc := Below.refl w.heap.size w
  clear eP eD eR eG eN eU eM eY iP iD iR iG iN iU iM CMul CAdd CSub h0 h1 h2 hl hm hw hV hU hW hK f0 f1
  go_enter Try.func25, Try.ntmps25
  go_upto_region 1 with fail
  have zbm : ((((w.alloc (.cells #[.int .i64 lr, .int .i64 mu, .int .i64 wd, .bool true] 23)).alloc (.cells #[.int .i64 x0, .int .i64 x1, .int .i64 x2] 61)).alloc (.cells #[.int .i64 0, .bool false] 58)).alloc (.cells #[.int .i64 0, .bool false] 58)).heap[w.heap.size]? = some (.cells #[.int .i64 lr, .int .i64 mu, .int .i64 wd, .bool true] 23) := heap_up (heap_up (heap_up (World.alloc_heap_new w _)))
  have zbl : ((((w.alloc (.cells #[.int .i64 lr, .int .i64 mu, .int .i64 wd, .bool true] 23)).alloc (.cells #[.int .i64 x0, .int .i64 x1, .int .i64 x2] 61)).alloc (.cells #[.int .i64 0, .bool false] 58)).alloc (.cells #[.int .i64 0, .bool false] 58)).heap[w.heap.size + 1]? = some (.cells #[.int .i64 x0, .int .i64 x1, .int .i64 x2] 61) := heap_up (heap_up (by have h := World.alloc_heap_new (w.alloc (.cells #[.int .i64 lr, .int .i64 mu, .int .i64 wd, .bool true] 23)) (.cells #[.int .i64 x0, .int .i64 x1, .int .i64 x2] 61); simpa only [World.size_alloc] using h))
  have z6 : ((((w.alloc (.cells #[.int .i64 lr, .int .i64 mu, .int .i64 wd, .bool true] 23)).alloc (.cells #[.int .i64 x0, .int .i64 x1, .int .i64 x2] 61)).alloc (.cells #[.int .i64 0, .bool false] 58)).alloc (.cells #[.int .i64 0, .bool false] 58)).heap[w.heap.size + 1 + 1]? = some (.cells #[.int .i64 0, .bool false] 58) := heap_up (by have h := World.alloc_heap_new ((w.alloc (.cells #[.int .i64 lr, .int .i64 mu, .int .i64 wd, .bool true] 23)).alloc (.cells #[.int .i64 x0, .int .i64 x1, .int .i64 x2] 61)) (.cells #[.int .i64 0, .bool false] 58); simpa only [World.size_alloc] using h)
  have z7 : ((((w.alloc (.cells #[.int .i64 lr, .int .i64 mu, .int .i64 wd, .bool true] 23)).alloc (.cells #[.int .i64 x0, .int .i64 x1, .int .i64 x2] 61)).alloc (.cells #[.int .i64 0, .bool false] 58)).alloc (.cells #[.int .i64 0, .bool false] 58)).heap[w.heap.size + 1 + 1 + 1]? = some (.cells #[.int .i64 0, .bool false] 58) := (by have h := World.alloc_heap_new (((w.alloc (.cells #[.int .i64 lr, .int .i64 mu, .int .i64 wd, .bool true] 23)).alloc (.cells #[.int .i64 x0, .int .i64 x1, .int .i64 x2] 61)).alloc (.cells #[.int .i64 0, .bool false] 58)) (.cells #[.int .i64 0, .bool false] 58); simpa only [World.size_alloc] using h)
  have bA : Below w.heap.size w ((((w.alloc (.cells #[.int .i64 lr, .int .i64 mu, .int .i64 wd, .bool true] 23)).alloc (.cells #[.int .i64 x0, .int .i64 x1, .int .i64 x2] 61)).alloc (.cells #[.int .i64 0, .bool false] 58)).alloc (.cells #[.int .i64 0, .bool false] 58)) := ((((Below.refl _ w).alloc (by simp) _).alloc (by simp) _).alloc (by simp <;> omega) _).alloc (by simp <;> omega) _
  replace cc := bK cc bA
  clear bA
  generalize (((w.alloc (.cells #[.int .i64 lr, .int .i64 mu, .int .i64 wd, .bool true] 23)).alloc (.cells #[.int .i64 x0, .int .i64 x1, .int .i64 x2] 61)).alloc (.cells #[.int .i64 0, .bool false] 58)).alloc (.cells #[.int .i64 0, .bool false] 58) = V1 at *
  have lt := fun {W : World} {b : Nat} {o : Obj} (h : W.heap[b]? = some o) => (Array.getElem?_eq_some_iff.1 h).1
  refine stepR1 (C := V1.heap.size) (by intro c a d v w h; cases d <;> exact h) (Nat.le_refl _) zbl ?_
  intro V2 ga gb gc b zbl2 zga zgb zgc ma mb mc
  have HL7 : w.heap.size + 1 + 1 + 1 < ga := Nat.lt_of_lt_of_le (lt z7) ma
  clear zbl zbl2
  replace zbm := (b.block _ (lt zbm)).trans zbm
  replace z6 := (b.block _ (lt z6)).trans z6
  replace z7 := (b.block _ (lt z7)).trans z7
  replace cc := bK cc b
  clear b
  go_upto_region 2 with fail
  refine stepR2 (C := V2.heap.size) CP CD (by intro c a d v w h; cases d <;> exact h) (Nat.le_refl _) zbm zga zgc ?_
  intro V3 gd b _ _ _ zgd md
  replace zbm := (b.block _ (lt zbm)).trans zbm
  replace z6 := (b.block _ (lt z6)).trans z6
  replace z7 := (b.block _ (lt z7)).trans z7
  replace zga := (b.block _ (lt zga)).trans zga
  replace zgb := (b.block _ (lt zgb)).trans zgb
  replace zgc := (b.block _ (lt zgc)).trans zgc
  replace cc := bK cc b
  clear b
  go_upto_region 3 with fail
  refine stepR3 (C := V3.heap.size) CR CG (by intro c a d v w h; cases d <;> exact h) (Nat.le_refl _) zbm zgb zgd ?_
  intro V4 ge b _ _ _ zge me
  have HLe : ga < ge := Nat.lt_of_lt_of_le (lt zga) me
  replace zbm := (b.block _ (lt zbm)).trans zbm
  replace z6 := (b.block _ (lt z6)).trans z6
  replace z7 := (b.block _ (lt z7)).trans z7
  replace zga := (b.block _ (lt zga)).trans zga
  replace zgb := (b.block _ (lt zgb)).trans zgb
  replace zgc := (b.block _ (lt zgc)).trans zgc
  replace zgd := (b.block _ (lt zgd)).trans zgd
  replace cc := bK cc b
  clear b
  have e0 : V4.cell? ⟨ge, 0, none⟩ = some (.int .i64 G.1) := cell_of_row V4 (ge) 0 #[.int .i64 G.1, .bool G.2] 58 _ zge
  have e1 : V4.cell? ⟨ge, 1, none⟩ = some (.bool G.2) := cell_of_row V4 (ge) 1 #[.int .i64 G.1, .bool G.2] 58 _ zge
  go_upto_region 5 with fail
  have zgu : (V4.alloc (.cells #[.int .i64 G.1, .bool G.2] 58)).heap[V4.heap.size]? = some (.cells #[.int .i64 G.1, .bool G.2] 58) := World.alloc_heap_new V4 _
  have b := one_upD V4 (.cells #[.int .i64 G.1, .bool G.2] 58)
  have lzbm := lt zbm
  have lz6 := lt z6
  have lz7 := lt z7
  have lzga := lt zga
  have lzgb := lt zgb
  have lzgc := lt zgc
  have lzgd := lt zgd
  have lzge := lt zge
  replace zbm := heap_up (o := (.cells #[.int .i64 G.1, .bool G.2] 58)) zbm
  replace z6 := heap_up (o := (.cells #[.int .i64 G.1, .bool G.2] 58)) z6
  replace z7 := heap_up (o := (.cells #[.int .i64 G.1, .bool G.2] 58)) z7
  replace zga := heap_up (o := (.cells #[.int .i64 G.1, .bool G.2] 58)) zga
  replace zgb := heap_up (o := (.cells #[.int .i64 G.1, .bool G.2] 58)) zgb
  replace zgc := heap_up (o := (.cells #[.int .i64 G.1, .bool G.2] 58)) zgc
  replace zgd := heap_up (o := (.cells #[.int .i64 G.1, .bool G.2] 58)) zgd
  replace zge := heap_up (o := (.cells #[.int .i64 G.1, .bool G.2] 58)) zge
  replace cc := bK cc b
  have hu : V4.heap.size < (V4.alloc (.cells #[.int .i64 G.1, .bool G.2] 58)).heap.size := lt zgu
  clear b e0 e1
  generalize V4.alloc (.cells #[.int .i64 G.1, .bool G.2] 58) = V5 at *
  generalize V4.heap.size = gu at *
  have q0 : V5.cell? ⟨w.heap.size, 0, none⟩ = some (.int .i64 lr) := cell_of_row V5 (w.heap.size) 0 #[.int .i64 lr, .int .i64 mu, .int .i64 wd, .bool true] 23 _ zbm
  have q1 : V5.cell? ⟨w.heap.size, 1, none⟩ = some (.int .i64 mu) := cell_of_row V5 (w.heap.size) 1 #[.int .i64 lr, .int .i64 mu, .int .i64 wd, .bool true] 23 _ zbm
  have q2 : V5.cell? ⟨w.heap.size, 2, none⟩ = some (.int .i64 wd) := cell_of_row V5 (w.heap.size) 2 #[.int .i64 lr, .int .i64 mu, .int .i64 wd, .bool true] 23 _ zbm
  have q3 : V5.cell? ⟨w.heap.size, 3, none⟩ = some (.bool true) := cell_of_row V5 (w.heap.size) 3 #[.int .i64 lr, .int .i64 mu, .int .i64 wd, .bool true] 23 _ zbm
  go_upto_region 6 with fail
  clear q0 q1 q2 q3
  refine stepR6 (C := gu) CN CU (by intro c a d v w h; cases d <;> exact h) (Nat.le_of_lt hu) zbm zgd zge zgu (Nat.le_refl _) (Nat.ne_of_lt lzbm) (Nat.ne_of_lt lzgd) (Nat.ne_of_lt lzge) ?_
  intro V6 b y1 y2 y3 y4
  replace zga := (b.block _ lzga).trans zga
  replace z6 := (b.block _ lz6).trans z6
  replace z7 := (b.block _ lz7).trans z7
  replace zbm := y1
  replace zge := y3
  replace zgu := y4
  have hlw : w.heap.size ≤ gu := by omega
  replace cc := cc.trans (b.mono hlw)
  clear b y2 zgd
  go_upto_region 7 with fail
  have l7a : w.heap.size + 1 + 1 + 1 < ga := HL7
  refine stepR7 (C := w.heap.size) CM CY (by intro c a d v w h; cases d <;> exact h) cc.size zbm z6 z7 zga zge zgu (by omega) (by omega) (by omega) (by omega) (by omega) (by omega) (by omega) (by omega) (by omega) (by omega) (by omega) ?_
  intro V7 b y1 z6 z7 y4 y5 y6
  have r0 : V7.cell? ⟨w.heap.size + 1 + 1, 0, none⟩ = some (.int .i64 G.1) := cell_of_row V7 (w.heap.size + 1 + 1) 0 #[.int .i64 G.1, .bool G.2] 58 _ z6
  have r1 : V7.cell? ⟨w.heap.size + 1 + 1, 1, none⟩ = some (.bool G.2) := cell_of_row V7 (w.heap.size + 1 + 1) 1 #[.int .i64 G.1, .bool G.2] 58 _ z6
  have s0 : V7.cell? ⟨w.heap.size + 1 + 1 + 1, 0, none⟩ = some (.int .i64 Y.1) := cell_of_row V7 (w.heap.size + 1 + 1 + 1) 0 #[.int .i64 Y.1, .bool Y.2] 58 _ z7
  have s1 : V7.cell? ⟨w.heap.size + 1 + 1 + 1, 1, none⟩ = some (.bool Y.2) := cell_of_row V7 (w.heap.size + 1 + 1 + 1) 1 #[.int .i64 Y.1, .bool Y.2] 58 _ z7
  replace cc := cc.trans b
  clear b y1 y4 y5 y6 z6 z7
  go_wp2_with fail
  exact bodyPost_ret (v := .tuple #[.agg #[.int .i64 G.1, .bool G.2], .agg #[.int .i64 Y.1, .bool Y.2]]) (by simp [results, Try.results25, go_sem, r0, r1, s0, s1]) rfl ⟨rfl, cc⟩

theorem nstep17_f {w : World} {lr mu wd f x0 x1 x2 : Int} (f0 : 0 ≤ f) (f1 : f ≤ 40) (hl : I64 lr) (hm : I64 mu) (hw : I64 wd) (h0 : I64 x0) (h1 : I64 x1) (h2 : I64 x2) :
    Calls Try.prog 25 #[.agg #[.int .i64 lr, .int .i64 mu, .int .i64 wd, .bool false], .int .i64 f, .agg #[.int .i64 x0, .int .i64 x1, .int .i64 x2]] w (GotV w (.tuple #[.agg #[.int .i64 (stV mu wd f.toNat x0 x1 x2).1, .bool (stV mu wd f.toNat x0 x1 x2).2], .agg #[.int .i64 (stW lr mu wd false f.toNat x0 x1 x2).1, .bool (stW lr mu wd false f.toNat x0 x1 x2).2]])) := by
  have CMul := fun {x y : Int} {p q : Bool} (hx : I64 x) (hy : I64 y) (W : World) => nMul17_N (w := W) f0 f1 hx hy (p := p) (q := q)
  have CAdd := fun {x y : Int} {p q : Bool} (hx : I64 x) (hy : I64 y) (W : World) => nAdd17_N (w := W) hx hy (p := p) (q := q)
  have CSub := fun {x y : Int} {p q : Bool} (hx : I64 x) (hy : I64 y) (W : World) => nSub17_N (w := W) hx hy (p := p) (q := q)
  obtain ⟨K, hK⟩ : ∃ K, f.toNat = K := ⟨_, rfl⟩
  rw [hK] at CMul ⊢
  have CP := CMul (p := true) (q := true) hw h0
  obtain ⟨P, eP⟩ : ∃ P, nMul K (wd, true) (x0, true) = P := ⟨_, rfl⟩
  rw [eP] at CP
  have iP : I64 P.1 := by rw [← eP]; exact nMul_i64 _ _ _
  have CD := CAdd (p := true) (q := P.2) h2 iP
  obtain ⟨D, eD⟩ : ∃ D, nAdd (x2, true) P = D := ⟨_, rfl⟩
  rw [show nAdd (x2, true) (P.1, P.2) = D from eD] at CD
  have iD : I64 D.1 := by rw [← eD]; exact nAdd_i64 _ _
  have CR := CMul (p := true) (q := true) hm h1
  obtain ⟨R, eR⟩ : ∃ R, nMul K (mu, true) (x1, true) = R := ⟨_, rfl⟩
  rw [eR] at CR
  have iR : I64 R.1 := by rw [← eR]; exact nMul_i64 _ _ _
  have CG := CAdd (p := R.2) (q := D.2) iR iD
  obtain ⟨G, eG⟩ : ∃ G, nAdd R D = G := ⟨_, rfl⟩
  rw [show nAdd (R.1, R.2) (D.1, D.2) = G from eG] at CG
  have iG : I64 G.1 := by rw [← eG]; exact nAdd_i64 _ _
  have CN := CMul (p := true) (q := G.2) hm iG
  obtain ⟨N, eN⟩ : ∃ N, nMul K (mu, true) G = N := ⟨_, rfl⟩
  rw [show nMul K (mu, true) (G.1, G.2) = N from eN] at CN
  have iN : I64 N.1 := by rw [← eN]; exact nMul_i64 _ _ _
  have CU := CAdd (p := D.2) (q := N.2) iD iN
  obtain ⟨U, eU⟩ : ∃ U, nAdd D N = U := ⟨_, rfl⟩
  rw [show nAdd (D.1, D.2) (N.1, N.2) = U from eU] at CU
  have iU : I64 U.1 := by rw [← eU]; exact nAdd_i64 _ _
  have hV : stV mu wd K x0 x1 x2 = G := by unfold stV stD nOf; rw [eP, eD, eR, eG]
  have hU : stU mu wd false K x0 x1 x2 = G := by unfold stU; rw [hV]; rfl
  have CM := CMul (p := true) (q := G.2) hl iG
  obtain ⟨M, eM⟩ : ∃ M, nMul K (lr, true) G = M := ⟨_, rfl⟩
  rw [show nMul K (lr, true) (G.1, G.2) = M from eM] at CM
  have iM : I64 M.1 := by rw [← eM]; exact nMul_i64 _ _ _
  have CY := CSub (p := true) (q := M.2) h0 iM
  obtain ⟨Y, eY⟩ : ∃ Y, nSub (x0, true) M = Y := ⟨_, rfl⟩
  rw [show nSub (x0, true) (M.1, M.2) = Y from eY] at CY
  have hW : stW lr mu wd false K x0 x1 x2 = Y := by unfold stW nOf; rw [hU, eM, eY]
  rw [hV, hW]
  have cc := Below.refl w.heap.size w
  clear eP eD eR eG eN eU eM eY iP iD iR iG iN iU iM CMul CAdd CSub h0 h1 h2 hl hm hw hV hU hW hK f0 f1
  go_enter Try.func25, Try.ntmps25
  go_upto_region 1 with fail
  have zbm : ((((w.alloc (.cells #[.int .i64 lr, .int .i64 mu, .int .i64 wd, .bool false] 23)).alloc (.cells #[.int .i64 x0, .int .i64 x1, .int .i64 x2] 61)).alloc (.cells #[.int .i64 0, .bool false] 58)).alloc (.cells #[.int .i64 0, .bool false] 58)).heap[w.heap.size]? = some (.cells #[.int .i64 lr, .int .i64 mu, .int .i64 wd, .bool false] 23) := heap_up (heap_up (heap_up (World.alloc_heap_new w _)))
  have zbl : ((((w.alloc (.cells #[.int .i64 lr, .int .i64 mu, .int .i64 wd, .bool false] 23)).alloc (.cells #[.int .i64 x0, .int .i64 x1, .int .i64 x2] 61)).alloc (.cells #[.int .i64 0, .bool false] 58)).alloc (.cells #[.int .i64 0, .bool false] 58)).heap[w.heap.size + 1]? = some (.cells #[.int .i64 x0, .int .i64 x1, .int .i64 x2] 61) := heap_up (heap_up (by have h := World.alloc_heap_new (w.alloc (.cells #[.int .i64 lr, .int .i64 mu, .int .i64 wd, .bool false] 23)) (.cells #[.int .i64 x0, .int .i64 x1, .int .i64 x2] 61); simpa only [World.size_alloc] using h))
  have z6 : ((((w.alloc (.cells #[.int .i64 lr, .int .i64 mu, .int .i64 wd, .bool false] 23)).alloc (.cells #[.int .i64 x0, .int .i64 x1, .int .i64 x2] 61)).alloc (.cells #[.int .i64 0, .bool false] 58)).alloc (.cells #[.int .i64 0, .bool false] 58)).heap[w.heap.size + 1 + 1]? = some (.cells #[.int .i64 0, .bool false] 58) := heap_up (by have h := World.alloc_heap_new ((w.alloc (.cells #[.int .i64 lr, .int .i64 mu, .int .i64 wd, .bool false] 23)).alloc (.cells #[.int .i64 x0, .int .i64 x1, .int .i64 x2] 61)) (.cells #[.int .i64 0, .bool false] 58); simpa only [World.size_alloc] using h)
  have z7 : ((((w.alloc (.cells #[.int .i64 lr, .int .i64 mu, .int .i64 wd, .bool false] 23)).alloc (.cells #[.int .i64 x0, .int .i64 x1, .int .i64 x2] 61)).alloc (.cells #[.int .i64 0, .bool false] 58)).alloc (.cells #[.int .i64 0, .bool false] 58)).heap[w.heap.size + 1 + 1 + 1]? = some (.cells #[.int .i64 0, .bool false] 58) := (by have h := World.alloc_heap_new (((w.alloc (.cells #[.int .i64 lr, .int .i64 mu, .int .i64 wd, .bool false] 23)).alloc (.cells #[.int .i64 x0, .int .i64 x1, .int .i64 x2] 61)).alloc (.cells #[.int .i64 0, .bool false] 58)) (.cells #[.int .i64 0, .bool false] 58); simpa only [World.size_alloc] using h)
  have bA : Below w.heap.size w ((((w.alloc (.cells #[.int .i64 lr, .int .i64 mu, .int .i64 wd, .bool false] 23)).alloc (.cells #[.int .i64 x0, .int .i64 x1, .int .i64 x2] 61)).alloc (.cells #[.int .i64 0, .bool false] 58)).alloc (.cells #[.int .i64 0, .bool false] 58)) := ((((Below.refl _ w).alloc (by simp) _).alloc (by simp) _).alloc (by simp <;> omega) _).alloc (by simp <;> omega) _
  replace cc := bK cc bA
  clear bA
  generalize (((w.alloc (.cells #[.int .i64 lr, .int .i64 mu, .int .i64 wd, .bool false] 23)).alloc (.cells #[.int .i64 x0, .int .i64 x1, .int .i64 x2] 61)).alloc (.cells #[.int .i64 0, .bool false] 58)).alloc (.cells #[.int .i64 0, .bool false] 58) = V1 at *
  have lt := fun {W : World} {b : Nat} {o : Obj} (h : W.heap[b]? = some o) => (Array.getElem?_eq_some_iff.1 h).1
  refine stepR1 (C := V1.heap.size) (by intro c a d v w h; cases d <;> exact h) (Nat.le_refl _) zbl ?_
  intro V2 ga gb gc b zbl2 zga zgb zgc ma mb mc
  have HL7 : w.heap.size + 1 + 1 + 1 < ga := Nat.lt_of_lt_of_le (lt z7) ma
  clear zbl zbl2
  replace zbm := (b.block _ (lt zbm)).trans zbm
  replace z6 := (b.block _ (lt z6)).trans z6
  replace z7 := (b.block _ (lt z7)).trans z7
  replace cc := bK cc b
  clear b
  go_upto_region 2 with fail
  refine stepR2 (C := V2.heap.size) CP CD (by intro c a d v w h; cases d <;> exact h) (Nat.le_refl _) zbm zga zgc ?_
  intro V3 gd b _ _ _ zgd md
  replace zbm := (b.block _ (lt zbm)).trans zbm
  replace z6 := (b.block _ (lt z6)).trans z6
  replace z7 := (b.block _ (lt z7)).trans z7
  replace zga := (b.block _ (lt zga)).trans zga
  replace zgb := (b.block _ (lt zgb)).trans zgb
  replace zgc := (b.block _ (lt zgc)).trans zgc
  replace cc := bK cc b
  clear b
  go_upto_region 3 with fail
  refine stepR3 (C := V3.heap.size) CR CG (by intro c a d v w h; cases d <;> exact h) (Nat.le_refl _) zbm zgb zgd ?_
  intro V4 ge b _ _ _ zge me
  have HLe : ga < ge := Nat.lt_of_lt_of_le (lt zga) me
  replace zbm := (b.block _ (lt zbm)).trans zbm
  replace z6 := (b.block _ (lt z6)).trans z6
  replace z7 := (b.block _ (lt z7)).trans z7
  replace zga := (b.block _ (lt zga)).trans zga
  replace zgb := (b.block _ (lt zgb)).trans zgb
  replace zgc := (b.block _ (lt zgc)).trans zgc
  replace zgd := (b.block _ (lt zgd)).trans zgd
  replace cc := bK cc b
  clear b
  have e0 : V4.cell? ⟨ge, 0, none⟩ = some (.int .i64 G.1) := cell_of_row V4 (ge) 0 #[.int .i64 G.1, .bool G.2] 58 _ zge
  have e1 : V4.cell? ⟨ge, 1, none⟩ = some (.bool G.2) := cell_of_row V4 (ge) 1 #[.int .i64 G.1, .bool G.2] 58 _ zge
  go_upto_region 5 with fail
  have zgu : (V4.alloc (.cells #[.int .i64 G.1, .bool G.2] 58)).heap[V4.heap.size]? = some (.cells #[.int .i64 G.1, .bool G.2] 58) := World.alloc_heap_new V4 _
  have b := one_upD V4 (.cells #[.int .i64 G.1, .bool G.2] 58)
  have lzbm := lt zbm
  have lz6 := lt z6
  have lz7 := lt z7
  have lzga := lt zga
  have lzgb := lt zgb
  have lzgc := lt zgc
  have lzgd := lt zgd
  have lzge := lt zge
  replace zbm := heap_up (o := (.cells #[.int .i64 G.1, .bool G.2] 58)) zbm
  replace z6 := heap_up (o := (.cells #[.int .i64 G.1, .bool G.2] 58)) z6
  replace z7 := heap_up (o := (.cells #[.int .i64 G.1, .bool G.2] 58)) z7
  replace zga := heap_up (o := (.cells #[.int .i64 G.1, .bool G.2] 58)) zga
  replace zgb := heap_up (o := (.cells #[.int .i64 G.1, .bool G.2] 58)) zgb
  replace zgc := heap_up (o := (.cells #[.int .i64 G.1, .bool G.2] 58)) zgc
  replace zgd := heap_up (o := (.cells #[.int .i64 G.1, .bool G.2] 58)) zgd
  replace zge := heap_up (o := (.cells #[.int .i64 G.1, .bool G.2] 58)) zge
  replace cc := bK cc b
  have hu : V4.heap.size < (V4.alloc (.cells #[.int .i64 G.1, .bool G.2] 58)).heap.size := lt zgu
  clear b e0 e1
  generalize V4.alloc (.cells #[.int .i64 G.1, .bool G.2] 58) = V5 at *
  generalize V4.heap.size = gu at *
  have q0 : V5.cell? ⟨w.heap.size, 0, none⟩ = some (.int .i64 lr) := cell_of_row V5 (w.heap.size) 0 #[.int .i64 lr, .int .i64 mu, .int .i64 wd, .bool false] 23 _ zbm
  have q1 : V5.cell? ⟨w.heap.size, 1, none⟩ = some (.int .i64 mu) := cell_of_row V5 (w.heap.size) 1 #[.int .i64 lr, .int .i64 mu, .int .i64 wd, .bool false] 23 _ zbm
  have q2 : V5.cell? ⟨w.heap.size, 2, none⟩ = some (.int .i64 wd) := cell_of_row V5 (w.heap.size) 2 #[.int .i64 lr, .int .i64 mu, .int .i64 wd, .bool false] 23 _ zbm
  have q3 : V5.cell? ⟨w.heap.size, 3, none⟩ = some (.bool false) := cell_of_row V5 (w.heap.size) 3 #[.int .i64 lr, .int .i64 mu, .int .i64 wd, .bool false] 23 _ zbm
  go_upto_region 7 with fail
  clear q0 q1 q2 q3
  have l7a : w.heap.size + 1 + 1 + 1 < ga := HL7
  refine stepR7 (C := w.heap.size) CM CY (by intro c a d v w h; cases d <;> exact h) cc.size zbm z6 z7 zga zge zgu (by omega) (by omega) (by omega) (by omega) (by omega) (by omega) (by omega) (by omega) (by omega) (by omega) (by omega) ?_
  intro V7 b y1 z6 z7 y4 y5 y6
  have r0 : V7.cell? ⟨w.heap.size + 1 + 1, 0, none⟩ = some (.int .i64 G.1) := cell_of_row V7 (w.heap.size + 1 + 1) 0 #[.int .i64 G.1, .bool G.2] 58 _ z6
  have r1 : V7.cell? ⟨w.heap.size + 1 + 1, 1, none⟩ = some (.bool G.2) := cell_of_row V7 (w.heap.size + 1 + 1) 1 #[.int .i64 G.1, .bool G.2] 58 _ z6
  have s0 : V7.cell? ⟨w.heap.size + 1 + 1 + 1, 0, none⟩ = some (.int .i64 Y.1) := cell_of_row V7 (w.heap.size + 1 + 1 + 1) 0 #[.int .i64 Y.1, .bool Y.2] 58 _ z7
  have s1 : V7.cell? ⟨w.heap.size + 1 + 1 + 1, 1, none⟩ = some (.bool Y.2) := cell_of_row V7 (w.heap.size + 1 + 1 + 1) 1 #[.int .i64 Y.1, .bool Y.2] 58 _ z7
  replace cc := cc.trans b
  clear b y1 y4 y5 y6 z6 z7
  go_wp2_with fail
  exact bodyPost_ret (v := .tuple #[.agg #[.int .i64 G.1, .bool G.2], .agg #[.int .i64 Y.1, .bool Y.2]]) (by simp [results, Try.results25, go_sem, r0, r1, s0, s1]) rfl ⟨rfl, cc⟩

theorem nstep17_N {w : World} {lr mu wd f x0 x1 x2 : Int} (f0 : 0 ≤ f) (f1 : f ≤ 40) (hl : I64 lr) (hm : I64 mu) (hw : I64 wd) (h0 : I64 x0) (h1 : I64 x1) (h2 : I64 x2) {ne : Bool} : Calls Try.prog 25 #[.agg #[.int .i64 lr, .int .i64 mu, .int .i64 wd, .bool ne], .int .i64 f, .agg #[.int .i64 x0, .int .i64 x1, .int .i64 x2]] w (GotV w (.tuple #[.agg #[.int .i64 (stV mu wd f.toNat x0 x1 x2).1, .bool (stV mu wd f.toNat x0 x1 x2).2], .agg #[.int .i64 (stW lr mu wd ne f.toNat x0 x1 x2).1, .bool (stW lr mu wd ne f.toNat x0 x1 x2).2]])) := by
  cases ne
  · exact nstep17_f f0 f1 hl hm hw h0 h1 h2
  · exact nstep17_t f0 f1 hl hm hw h0 h1 h2

end Go.Proofs.Ytckdbcngnghhiaa

/-
  The contracts of the seventeenth reference: Same, Few.
-/
namespace Go.Proofs.Ytckdbcngnghhiaa
set_option maxRecDepth 100000
set_option maxHeartbeats 8000000
open Go.RowKit
set_option linter.unusedVariables false
set_option linter.unusedSimpArgs false

theorem rsameI_n {w : World} {A B : Option Addr} {n c m d : Nat} (hnm : n ≠ m) : Calls Try.prog 21 #[.slice A n c, .slice B m d] w (GotV w (.bool false)) := by
  have e1 : ((n : Int) == (m : Int)) = false := beq_eq_false_iff_ne.2 (by omega)
  have e2 : ((n : Int) != (m : Int)) = true := by simp; omega
  have e3 : (n == m) = false := beq_eq_false_iff_ne.2 hnm
  have e4 : (n != m) = true := by simp; omega
  clear hnm
  have cc := Below.refl w.heap.size w
  go_enter Try.func21, Try.ntmps21
  go_wp2_with fail
  go_ret
  exact ⟨rfl, cc⟩
theorem rsameI_eq {w : World} {A B : Option Addr} {n c d : Nat} {L K : List Int} (hA : IR w A n c L) (hB : IR w B n d K) (hn : n ≤ 9223372036854775807) : Calls Try.prog 21 #[.slice A n c, .slice B n d] w (GotV w (.bool (decide (L = K)))) := by
  have HN := Lib.hid hn
  have l1 := Lib.hid hA.1
  have l2 := Lib.hid hB.1
  obtain ⟨R, hR⟩ : ∃ R, decide (L = K) = R := ⟨_, rfl⟩
  rw [hR]
  have HR := Lib.hid hR
  clear hR hn
  go_enter Try.func21, Try.ntmps21
  go_wp2_with fail
  go_loopw [5] (fun iv wr => ∃ i : Nat, i ≤ n ∧ iv = .int .i64 (i : Int) ∧ (∀ j, j < i → L[j]?.getD 0 = K[j]?.getD 0) ∧ Below w.heap.size w wr) (fun iv _ => n - (intOf iv).toNat)
  case atStart => exact ⟨0, by omega, rfl, fun j h => absurd h (by omega), Below.refl _ _⟩
  case round =>
    obtain ⟨i, hi, rfl, hj, hbl⟩ := hrel
    by_cases hlt : i < n
    · obtain ⟨b1, o1, rfl, hb1, hc1⟩ := (hA.on hbl).2.2 (by omega)
      obtain ⟨b2, o2, rfl, hb2, hc2⟩ := (hB.on hbl).2.2 (by omega)
      have h1 := hc1 i hlt
      have h2 := hc2 i hlt
      have k3 : IntKind.i64.wrap ((i : Int) + 1) = ((i + 1 : Nat) : Int) := by rw [IntWalk.i64_in _ (by have := HN.out; omega)]; omega
      have jl : (i : Int) < (n : Int) := by omega
      obtain ⟨x, hx⟩ : ∃ x, L[i]?.getD 0 = x := ⟨_, rfl⟩
      obtain ⟨y, hy⟩ : ∃ y, K[i]?.getD 0 = y := ⟨_, rfl⟩
      rw [hx] at h1
      rw [hy] at h2
      have HX := Lib.hid hx
      have HY := Lib.hid hy
      have HJ0 := Lib.hid hj
      clear hc1 hc2 hx hy hj hA hB
      by_cases hxy : x = y
      · have HJ : Hid (∀ j, j < i + 1 → L[j]?.getD 0 = K[j]?.getD 0) := Lib.hid (fun j h => by
          rcases Nat.lt_or_ge j i with e | e
          · exact HJ0.out j e
          · have e2 : j = i := by omega
            rw [e2, HX.out, HY.out, hxy])
        have t1 : (x == y) = true := beq_iff_eq.2 hxy
        have t2 : (x != y) = false := by rw [hxy]; simp
        clear hxy
        go_wp2_with fail
        go_region_held3 (fun w' => w'.cell? ⟨b1, o1 + i, none⟩ = some (.int .i64 x) ∧ w'.cell? ⟨b2, o2 + i, none⟩ = some (.int .i64 y)) (exact ⟨h1, h2⟩) (fail)
        go_wp2_with fail
        go_roundw
        case rel => exact ⟨i + 1, by omega, by go_num, HJ.out, below_drewN hbl 1⟩
        case measure => simp [intOf] <;> omega
      · have HF : Hid (R = false) := Lib.hid (by rw [← HR.out]; exact decide_eq_false (fun h => hxy (by rw [← HX.out, ← HY.out, h])))
        have t1 : (x == y) = false := beq_eq_false_iff_ne.2 hxy
        have t2 : (x != y) = true := by simp; exact hxy
        clear hxy
        go_wp2_with fail
        go_region_held3 (fun w' => w'.cell? ⟨b1, o1 + i, none⟩ = some (.int .i64 x) ∧ w'.cell? ⟨b2, o2 + i, none⟩ = some (.int .i64 y)) (exact ⟨h1, h2⟩) (fail)
        go_wp2_with fail
        go_ret
        exact ⟨by rw [HF.out]; rfl, below_drewN hbl 1⟩
    · obtain rfl : i = n := by omega
      have HF : Hid (R = true) := Lib.hid (by
        rw [← HR.out]
        have l1 := l1.out
        have l2 := l2.out
        refine decide_eq_true (List.ext_getElem (by omega) fun j h1 h2 => ?_)
        have := hj j (by omega)
        rwa [List.getElem?_eq_getElem h1, List.getElem?_eq_getElem h2] at this)
      clear hj hA hB
      go_wp2_with fail
      go_ret
      exact ⟨by rw [HF.out]; rfl, hbl⟩
theorem rsameI_N {w : World} {A B : Option Addr} {n c m d : Nat} {L K : List Int} (hA : IR w A n c L) (hB : IR w B m d K) (hn : n ≤ 9223372036854775807) : Calls Try.prog 21 #[.slice A n c, .slice B m d] w (GotV w (.bool (decide (L = K)))) := by
  by_cases hnm : n = m
  · subst hnm; exact rsameI_eq hA hB hn
  · rw [decide_eq_false (fun h => hnm (by rw [hA.1, hB.1, h]))]; exact rsameI_n hnm

theorem nSame17_0 {w : World} {Awa : Option Addr} {nwa cwa : Nat} {Lwa : List Int} {Ama : Option Addr} {nma cma : Nat} {Lma : List Int} {Ava : Option Addr} {nva cva : Nat} {Lva : List Int} {Aga : Option Addr} {nga cga : Nat} {Lga : List Int} {Awb : Option Addr} {nwb cwb : Nat} {Lwb : List Int} {Amb : Option Addr} {nmb cmb : Nat} {Lmb : List Int} {Avb : Option Addr} {nvb cvb : Nat} {Lvb : List Int} {Agb : Option Addr} {ngb cgb : Nat} {Lgb : List Int} (hwa : IR w Awa nwa cwa Lwa) (hma : IR w Ama nma cma Lma) (hva : IR w Ava nva cva Lva) (hga : IR w Aga nga cga Lga) (hwb : IR w Awb nwb cwb Lwb) (hmb : IR w Amb nmb cmb Lmb) (hvb : IR w Avb nvb cvb Lvb) (hgb : IR w Agb ngb cgb Lgb) (kwa : nwa ≤ 9223372036854775807) (kma : nma ≤ 9223372036854775807) (kva : nva ≤ 9223372036854775807) (kga : nga ≤ 9223372036854775807) (q0 : ¬ Lwa = Lwb) :
    Calls Try.prog 14 #[.agg #[.slice Awa nwa cwa, .slice Ama nma cma, .slice Ava nva cva, .slice Aga nga cga], .agg #[.slice Awb nwb cwb, .slice Amb nmb cmb, .slice Avb nvb cvb, .slice Agb ngb cgb]] w (GotV w (.bool false)) := by
  have Cw := fun {W : World} (a : IR W Awa nwa cwa Lwa) (b : IR W Awb nwb cwb Lwb) => rsameI_N a b kwa
  rw [decide_eq_false q0] at Cw
  clear q0 kwa kma kva kga
  have cc := Below.refl w.heap.size w
  go_enter Try.func14, Try.ntmps14
  go_upto_region 1 with fail
  generalize hv_ : (w.alloc (.cells #[.slice Awa nwa cwa, .slice Ama nma cma, .slice Ava nva cva, .slice Aga nga cga] 26)).alloc (.cells #[.slice Awb nwb cwb, .slice Amb nmb cmb, .slice Avb nvb cvb, .slice Agb ngb cgb] 26) = v1
  have bA : Below w.heap.size w v1 := by rw [← hv_]; exact (((Below.refl _ w).alloc (by simp) _).alloc (by simp) _)
  replace hwa := hwa.on bA
  replace hwb := hwb.on bA
  replace cc := bK cc bA
  clear bA
  have xa0 : v1.cell? ⟨w.heap.size, 0, none⟩ = some (.slice Awa nwa cwa) := by simp [← hv_, go_sem]
  have xa1 : v1.cell? ⟨w.heap.size, 1, none⟩ = some (.slice Ama nma cma) := by simp [← hv_, go_sem]
  have xa2 : v1.cell? ⟨w.heap.size, 2, none⟩ = some (.slice Ava nva cva) := by simp [← hv_, go_sem]
  have xa3 : v1.cell? ⟨w.heap.size, 3, none⟩ = some (.slice Aga nga cga) := by simp [← hv_, go_sem]
  have xal : w.heap.size < v1.heap.size := by simp [← hv_] <;> omega
  have xb0 : v1.cell? ⟨w.heap.size + 1, 0, none⟩ = some (.slice Awb nwb cwb) := by simp [← hv_, go_sem]
  have xb1 : v1.cell? ⟨w.heap.size + 1, 1, none⟩ = some (.slice Amb nmb cmb) := by simp [← hv_, go_sem]
  have xb2 : v1.cell? ⟨w.heap.size + 1, 2, none⟩ = some (.slice Avb nvb cvb) := by simp [← hv_, go_sem]
  have xb3 : v1.cell? ⟨w.heap.size + 1, 3, none⟩ = some (.slice Agb ngb cgb) := by simp [← hv_, go_sem]
  have xbl : w.heap.size + 1 < v1.heap.size := by simp [← hv_] <;> omega
  clear hv_
  go_wp2_with fail
  refine (Cw hwa hwb).mono ?_
  rintro e w2 ⟨rfl, b⟩
  replace hwa := hwa.on b
  replace hwb := hwb.on b
  rewrite [cR b xal] at xa0 xa1 xa2 xa3
  replace xal := lK b xal
  rewrite [cR b xbl] at xb0 xb1 xb2 xb3
  replace xbl := lK b xbl
  replace cc := bK cc b
  clear b
  go_wp2_with fail
  go_ret
  exact ⟨rfl, cc⟩

theorem nSame17_1 {w : World} {Awa : Option Addr} {nwa cwa : Nat} {Lwa : List Int} {Ama : Option Addr} {nma cma : Nat} {Lma : List Int} {Ava : Option Addr} {nva cva : Nat} {Lva : List Int} {Aga : Option Addr} {nga cga : Nat} {Lga : List Int} {Awb : Option Addr} {nwb cwb : Nat} {Lwb : List Int} {Amb : Option Addr} {nmb cmb : Nat} {Lmb : List Int} {Avb : Option Addr} {nvb cvb : Nat} {Lvb : List Int} {Agb : Option Addr} {ngb cgb : Nat} {Lgb : List Int} (hwa : IR w Awa nwa cwa Lwa) (hma : IR w Ama nma cma Lma) (hva : IR w Ava nva cva Lva) (hga : IR w Aga nga cga Lga) (hwb : IR w Awb nwb cwb Lwb) (hmb : IR w Amb nmb cmb Lmb) (hvb : IR w Avb nvb cvb Lvb) (hgb : IR w Agb ngb cgb Lgb) (kwa : nwa ≤ 9223372036854775807) (kma : nma ≤ 9223372036854775807) (kva : nva ≤ 9223372036854775807) (kga : nga ≤ 9223372036854775807) (q0 : Lwa = Lwb) (q1 : ¬ Lma = Lmb) :
    Calls Try.prog 14 #[.agg #[.slice Awa nwa cwa, .slice Ama nma cma, .slice Ava nva cva, .slice Aga nga cga], .agg #[.slice Awb nwb cwb, .slice Amb nmb cmb, .slice Avb nvb cvb, .slice Agb ngb cgb]] w (GotV w (.bool false)) := by
  have Cw := fun {W : World} (a : IR W Awa nwa cwa Lwa) (b : IR W Awb nwb cwb Lwb) => rsameI_N a b kwa
  rw [decide_eq_true q0] at Cw
  have Cm := fun {W : World} (a : IR W Ama nma cma Lma) (b : IR W Amb nmb cmb Lmb) => rsameI_N a b kma
  rw [decide_eq_false q1] at Cm
  clear q0 q1 kwa kma kva kga
  have cc := Below.refl w.heap.size w
  go_enter Try.func14, Try.ntmps14
  go_upto_region 1 with fail
  generalize hv_ : (w.alloc (.cells #[.slice Awa nwa cwa, .slice Ama nma cma, .slice Ava nva cva, .slice Aga nga cga] 26)).alloc (.cells #[.slice Awb nwb cwb, .slice Amb nmb cmb, .slice Avb nvb cvb, .slice Agb ngb cgb] 26) = v1
  have bA : Below w.heap.size w v1 := by rw [← hv_]; exact (((Below.refl _ w).alloc (by simp) _).alloc (by simp) _)
  replace hwa := hwa.on bA
  replace hwb := hwb.on bA
  replace hma := hma.on bA
  replace hmb := hmb.on bA
  replace cc := bK cc bA
  clear bA
  have xa0 : v1.cell? ⟨w.heap.size, 0, none⟩ = some (.slice Awa nwa cwa) := by simp [← hv_, go_sem]
  have xa1 : v1.cell? ⟨w.heap.size, 1, none⟩ = some (.slice Ama nma cma) := by simp [← hv_, go_sem]
  have xa2 : v1.cell? ⟨w.heap.size, 2, none⟩ = some (.slice Ava nva cva) := by simp [← hv_, go_sem]
  have xa3 : v1.cell? ⟨w.heap.size, 3, none⟩ = some (.slice Aga nga cga) := by simp [← hv_, go_sem]
  have xal : w.heap.size < v1.heap.size := by simp [← hv_] <;> omega
  have xb0 : v1.cell? ⟨w.heap.size + 1, 0, none⟩ = some (.slice Awb nwb cwb) := by simp [← hv_, go_sem]
  have xb1 : v1.cell? ⟨w.heap.size + 1, 1, none⟩ = some (.slice Amb nmb cmb) := by simp [← hv_, go_sem]
  have xb2 : v1.cell? ⟨w.heap.size + 1, 2, none⟩ = some (.slice Avb nvb cvb) := by simp [← hv_, go_sem]
  have xb3 : v1.cell? ⟨w.heap.size + 1, 3, none⟩ = some (.slice Agb ngb cgb) := by simp [← hv_, go_sem]
  have xbl : w.heap.size + 1 < v1.heap.size := by simp [← hv_] <;> omega
  clear hv_
  go_wp2_with fail
  refine (Cw hwa hwb).mono ?_
  rintro e w2 ⟨rfl, b⟩
  replace hwa := hwa.on b
  replace hwb := hwb.on b
  replace hma := hma.on b
  replace hmb := hmb.on b
  rewrite [cR b xal] at xa0 xa1 xa2 xa3
  replace xal := lK b xal
  rewrite [cR b xbl] at xb0 xb1 xb2 xb3
  replace xbl := lK b xbl
  replace cc := bK cc b
  clear b
  go_wp2_with fail
  refine (Cm hma hmb).mono ?_
  rintro e w3 ⟨rfl, b⟩
  replace hwa := hwa.on b
  replace hwb := hwb.on b
  replace hma := hma.on b
  replace hmb := hmb.on b
  rewrite [cR b xal] at xa0 xa1 xa2 xa3
  replace xal := lK b xal
  rewrite [cR b xbl] at xb0 xb1 xb2 xb3
  replace xbl := lK b xbl
  replace cc := bK cc b
  clear b
  go_wp2_with fail
  go_ret
  exact ⟨rfl, cc⟩

theorem nSame17_2 {w : World} {Awa : Option Addr} {nwa cwa : Nat} {Lwa : List Int} {Ama : Option Addr} {nma cma : Nat} {Lma : List Int} {Ava : Option Addr} {nva cva : Nat} {Lva : List Int} {Aga : Option Addr} {nga cga : Nat} {Lga : List Int} {Awb : Option Addr} {nwb cwb : Nat} {Lwb : List Int} {Amb : Option Addr} {nmb cmb : Nat} {Lmb : List Int} {Avb : Option Addr} {nvb cvb : Nat} {Lvb : List Int} {Agb : Option Addr} {ngb cgb : Nat} {Lgb : List Int} (hwa : IR w Awa nwa cwa Lwa) (hma : IR w Ama nma cma Lma) (hva : IR w Ava nva cva Lva) (hga : IR w Aga nga cga Lga) (hwb : IR w Awb nwb cwb Lwb) (hmb : IR w Amb nmb cmb Lmb) (hvb : IR w Avb nvb cvb Lvb) (hgb : IR w Agb ngb cgb Lgb) (kwa : nwa ≤ 9223372036854775807) (kma : nma ≤ 9223372036854775807) (kva : nva ≤ 9223372036854775807) (kga : nga ≤ 9223372036854775807) (q0 : Lwa = Lwb) (q1 : Lma = Lmb) (q2 : ¬ Lva = Lvb) :
    Calls Try.prog 14 #[.agg #[.slice Awa nwa cwa, .slice Ama nma cma, .slice Ava nva cva, .slice Aga nga cga], .agg #[.slice Awb nwb cwb, .slice Amb nmb cmb, .slice Avb nvb cvb, .slice Agb ngb cgb]] w (GotV w (.bool false)) := by
  have Cw := fun {W : World} (a : IR W Awa nwa cwa Lwa) (b : IR W Awb nwb cwb Lwb) => rsameI_N a b kwa
  rw [decide_eq_true q0] at Cw
  have Cm := fun {W : World} (a : IR W Ama nma cma Lma) (b : IR W Amb nmb cmb Lmb) => rsameI_N a b kma
  rw [decide_eq_true q1] at Cm
  have Cv := fun {W : World} (a : IR W Ava nva cva Lva) (b : IR W Avb nvb cvb Lvb) => rsameI_N a b kva
  rw [decide_eq_false q2] at Cv
  clear q0 q1 q2 kwa kma kva kga
  have cc := Below.refl w.heap.size w
  go_enter Try.func14, Try.ntmps14
  go_upto_region 1 with fail
  generalize hv_ : (w.alloc (.cells #[.slice Awa nwa cwa, .slice Ama nma cma, .slice Ava nva cva, .slice Aga nga cga] 26)).alloc (.cells #[.slice Awb nwb cwb, .slice Amb nmb cmb, .slice Avb nvb cvb, .slice Agb ngb cgb] 26) = v1
  have bA : Below w.heap.size w v1 := by rw [← hv_]; exact (((Below.refl _ w).alloc (by simp) _).alloc (by simp) _)
  replace hwa := hwa.on bA
  replace hwb := hwb.on bA
  replace hma := hma.on bA
  replace hmb := hmb.on bA
  replace hva := hva.on bA
  replace hvb := hvb.on bA
  replace cc := bK cc bA
  clear bA
  have xa0 : v1.cell? ⟨w.heap.size, 0, none⟩ = some (.slice Awa nwa cwa) := by simp [← hv_, go_sem]
  have xa1 : v1.cell? ⟨w.heap.size, 1, none⟩ = some (.slice Ama nma cma) := by simp [← hv_, go_sem]
  have xa2 : v1.cell? ⟨w.heap.size, 2, none⟩ = some (.slice Ava nva cva) := by simp [← hv_, go_sem]
  have xa3 : v1.cell? ⟨w.heap.size, 3, none⟩ = some (.slice Aga nga cga) := by simp [← hv_, go_sem]
  have xal : w.heap.size < v1.heap.size := by simp [← hv_] <;> omega
  have xb0 : v1.cell? ⟨w.heap.size + 1, 0, none⟩ = some (.slice Awb nwb cwb) := by simp [← hv_, go_sem]
  have xb1 : v1.cell? ⟨w.heap.size + 1, 1, none⟩ = some (.slice Amb nmb cmb) := by simp [← hv_, go_sem]
  have xb2 : v1.cell? ⟨w.heap.size + 1, 2, none⟩ = some (.slice Avb nvb cvb) := by simp [← hv_, go_sem]
  have xb3 : v1.cell? ⟨w.heap.size + 1, 3, none⟩ = some (.slice Agb ngb cgb) := by simp [← hv_, go_sem]
  have xbl : w.heap.size + 1 < v1.heap.size := by simp [← hv_] <;> omega
  clear hv_
  go_wp2_with fail
  refine (Cw hwa hwb).mono ?_
  rintro e w2 ⟨rfl, b⟩
  replace hwa := hwa.on b
  replace hwb := hwb.on b
  replace hma := hma.on b
  replace hmb := hmb.on b
  replace hva := hva.on b
  replace hvb := hvb.on b
  rewrite [cR b xal] at xa0 xa1 xa2 xa3
  replace xal := lK b xal
  rewrite [cR b xbl] at xb0 xb1 xb2 xb3
  replace xbl := lK b xbl
  replace cc := bK cc b
  clear b
  go_wp2_with fail
  refine (Cm hma hmb).mono ?_
  rintro e w3 ⟨rfl, b⟩
  replace hwa := hwa.on b
  replace hwb := hwb.on b
  replace hma := hma.on b
  replace hmb := hmb.on b
  replace hva := hva.on b
  replace hvb := hvb.on b
  rewrite [cR b xal] at xa0 xa1 xa2 xa3
  replace xal := lK b xal
  rewrite [cR b xbl] at xb0 xb1 xb2 xb3
  replace xbl := lK b xbl
  replace cc := bK cc b
  clear b
  go_wp2_with fail
  refine (Cv hva hvb).mono ?_
  rintro e w4 ⟨rfl, b⟩
  replace hwa := hwa.on b
  replace hwb := hwb.on b
  replace hma := hma.on b
  replace hmb := hmb.on b
  replace hva := hva.on b
  replace hvb := hvb.on b
  rewrite [cR b xal] at xa0 xa1 xa2 xa3
  replace xal := lK b xal
  rewrite [cR b xbl] at xb0 xb1 xb2 xb3
  replace xbl := lK b xbl
  replace cc := bK cc b
  clear b
  go_wp2_with fail
  go_ret
  exact ⟨rfl, cc⟩

theorem nSame17_3 {w : World} {Awa : Option Addr} {nwa cwa : Nat} {Lwa : List Int} {Ama : Option Addr} {nma cma : Nat} {Lma : List Int} {Ava : Option Addr} {nva cva : Nat} {Lva : List Int} {Aga : Option Addr} {nga cga : Nat} {Lga : List Int} {Awb : Option Addr} {nwb cwb : Nat} {Lwb : List Int} {Amb : Option Addr} {nmb cmb : Nat} {Lmb : List Int} {Avb : Option Addr} {nvb cvb : Nat} {Lvb : List Int} {Agb : Option Addr} {ngb cgb : Nat} {Lgb : List Int} (hwa : IR w Awa nwa cwa Lwa) (hma : IR w Ama nma cma Lma) (hva : IR w Ava nva cva Lva) (hga : IR w Aga nga cga Lga) (hwb : IR w Awb nwb cwb Lwb) (hmb : IR w Amb nmb cmb Lmb) (hvb : IR w Avb nvb cvb Lvb) (hgb : IR w Agb ngb cgb Lgb) (kwa : nwa ≤ 9223372036854775807) (kma : nma ≤ 9223372036854775807) (kva : nva ≤ 9223372036854775807) (kga : nga ≤ 9223372036854775807) (q0 : Lwa = Lwb) (q1 : Lma = Lmb) (q2 : Lva = Lvb) (q3 : ¬ Lga = Lgb) :
    Calls Try.prog 14 #[.agg #[.slice Awa nwa cwa, .slice Ama nma cma, .slice Ava nva cva, .slice Aga nga cga], .agg #[.slice Awb nwb cwb, .slice Amb nmb cmb, .slice Avb nvb cvb, .slice Agb ngb cgb]] w (GotV w (.bool false)) := by
  have Cw := fun {W : World} (a : IR W Awa nwa cwa Lwa) (b : IR W Awb nwb cwb Lwb) => rsameI_N a b kwa
  rw [decide_eq_true q0] at Cw
  have Cm := fun {W : World} (a : IR W Ama nma cma Lma) (b : IR W Amb nmb cmb Lmb) => rsameI_N a b kma
  rw [decide_eq_true q1] at Cm
  have Cv := fun {W : World} (a : IR W Ava nva cva Lva) (b : IR W Avb nvb cvb Lvb) => rsameI_N a b kva
  rw [decide_eq_true q2] at Cv
  have Cg := fun {W : World} (a : IR W Aga nga cga Lga) (b : IR W Agb ngb cgb Lgb) => rsameI_N a b kga
  rw [decide_eq_false q3] at Cg
  clear q0 q1 q2 q3 kwa kma kva kga
  have cc := Below.refl w.heap.size w
  go_enter Try.func14, Try.ntmps14
  go_upto_region 1 with fail
  generalize hv_ : (w.alloc (.cells #[.slice Awa nwa cwa, .slice Ama nma cma, .slice Ava nva cva, .slice Aga nga cga] 26)).alloc (.cells #[.slice Awb nwb cwb, .slice Amb nmb cmb, .slice Avb nvb cvb, .slice Agb ngb cgb] 26) = v1
  have bA : Below w.heap.size w v1 := by rw [← hv_]; exact (((Below.refl _ w).alloc (by simp) _).alloc (by simp) _)
  replace hwa := hwa.on bA
  replace hwb := hwb.on bA
  replace hma := hma.on bA
  replace hmb := hmb.on bA
  replace hva := hva.on bA
  replace hvb := hvb.on bA
  replace hga := hga.on bA
  replace hgb := hgb.on bA
  replace cc := bK cc bA
  clear bA
  have xa0 : v1.cell? ⟨w.heap.size, 0, none⟩ = some (.slice Awa nwa cwa) := by simp [← hv_, go_sem]
  have xa1 : v1.cell? ⟨w.heap.size, 1, none⟩ = some (.slice Ama nma cma) := by simp [← hv_, go_sem]
  have xa2 : v1.cell? ⟨w.heap.size, 2, none⟩ = some (.slice Ava nva cva) := by simp [← hv_, go_sem]
  have xa3 : v1.cell? ⟨w.heap.size, 3, none⟩ = some (.slice Aga nga cga) := by simp [← hv_, go_sem]
  have xal : w.heap.size < v1.heap.size := by simp [← hv_] <;> omega
  have xb0 : v1.cell? ⟨w.heap.size + 1, 0, none⟩ = some (.slice Awb nwb cwb) := by simp [← hv_, go_sem]
  have xb1 : v1.cell? ⟨w.heap.size + 1, 1, none⟩ = some (.slice Amb nmb cmb) := by simp [← hv_, go_sem]
  have xb2 : v1.cell? ⟨w.heap.size + 1, 2, none⟩ = some (.slice Avb nvb cvb) := by simp [← hv_, go_sem]
  have xb3 : v1.cell? ⟨w.heap.size + 1, 3, none⟩ = some (.slice Agb ngb cgb) := by simp [← hv_, go_sem]
  have xbl : w.heap.size + 1 < v1.heap.size := by simp [← hv_] <;> omega
  clear hv_
  go_wp2_with fail
  refine (Cw hwa hwb).mono ?_
  rintro e w2 ⟨rfl, b⟩
  replace hwa := hwa.on b
  replace hwb := hwb.on b
  replace hma := hma.on b
  replace hmb := hmb.on b
  replace hva := hva.on b
  replace hvb := hvb.on b
  replace hga := hga.on b
  replace hgb := hgb.on b
  rewrite [cR b xal] at xa0 xa1 xa2 xa3
  replace xal := lK b xal
  rewrite [cR b xbl] at xb0 xb1 xb2 xb3
  replace xbl := lK b xbl
  replace cc := bK cc b
  clear b
  go_wp2_with fail
  refine (Cm hma hmb).mono ?_
  rintro e w3 ⟨rfl, b⟩
  replace hwa := hwa.on b
  replace hwb := hwb.on b
  replace hma := hma.on b
  replace hmb := hmb.on b
  replace hva := hva.on b
  replace hvb := hvb.on b
  replace hga := hga.on b
  replace hgb := hgb.on b
  rewrite [cR b xal] at xa0 xa1 xa2 xa3
  replace xal := lK b xal
  rewrite [cR b xbl] at xb0 xb1 xb2 xb3
  replace xbl := lK b xbl
  replace cc := bK cc b
  clear b
  go_wp2_with fail
  refine (Cv hva hvb).mono ?_
  rintro e w4 ⟨rfl, b⟩
  replace hwa := hwa.on b
  replace hwb := hwb.on b
  replace hma := hma.on b
  replace hmb := hmb.on b
  replace hva := hva.on b
  replace hvb := hvb.on b
  replace hga := hga.on b
  replace hgb := hgb.on b
  rewrite [cR b xal] at xa0 xa1 xa2 xa3
  replace xal := lK b xal
  rewrite [cR b xbl] at xb0 xb1 xb2 xb3
  replace xbl := lK b xbl
  replace cc := bK cc b
  clear b
  go_wp2_with fail
  refine (Cg hga hgb).mono ?_
  rintro e w5 ⟨rfl, b⟩
  replace hwa := hwa.on b
  replace hwb := hwb.on b
  replace hma := hma.on b
  replace hmb := hmb.on b
  replace hva := hva.on b
  replace hvb := hvb.on b
  replace hga := hga.on b
  replace hgb := hgb.on b
  rewrite [cR b xal] at xa0 xa1 xa2 xa3
  replace xal := lK b xal
  rewrite [cR b xbl] at xb0 xb1 xb2 xb3
  replace xbl := lK b xbl
  replace cc := bK cc b
  clear b
  go_wp2_with fail
  go_ret
  exact ⟨rfl, cc⟩

theorem nSame17_4 {w : World} {Awa : Option Addr} {nwa cwa : Nat} {Lwa : List Int} {Ama : Option Addr} {nma cma : Nat} {Lma : List Int} {Ava : Option Addr} {nva cva : Nat} {Lva : List Int} {Aga : Option Addr} {nga cga : Nat} {Lga : List Int} {Awb : Option Addr} {nwb cwb : Nat} {Lwb : List Int} {Amb : Option Addr} {nmb cmb : Nat} {Lmb : List Int} {Avb : Option Addr} {nvb cvb : Nat} {Lvb : List Int} {Agb : Option Addr} {ngb cgb : Nat} {Lgb : List Int} (hwa : IR w Awa nwa cwa Lwa) (hma : IR w Ama nma cma Lma) (hva : IR w Ava nva cva Lva) (hga : IR w Aga nga cga Lga) (hwb : IR w Awb nwb cwb Lwb) (hmb : IR w Amb nmb cmb Lmb) (hvb : IR w Avb nvb cvb Lvb) (hgb : IR w Agb ngb cgb Lgb) (kwa : nwa ≤ 9223372036854775807) (kma : nma ≤ 9223372036854775807) (kva : nva ≤ 9223372036854775807) (kga : nga ≤ 9223372036854775807) (q0 : Lwa = Lwb) (q1 : Lma = Lmb) (q2 : Lva = Lvb) (q3 : Lga = Lgb) :
    Calls Try.prog 14 #[.agg #[.slice Awa nwa cwa, .slice Ama nma cma, .slice Ava nva cva, .slice Aga nga cga], .agg #[.slice Awb nwb cwb, .slice Amb nmb cmb, .slice Avb nvb cvb, .slice Agb ngb cgb]] w (GotV w (.bool true)) := by
  have Cw := fun {W : World} (a : IR W Awa nwa cwa Lwa) (b : IR W Awb nwb cwb Lwb) => rsameI_N a b kwa
  rw [decide_eq_true q0] at Cw
  have Cm := fun {W : World} (a : IR W Ama nma cma Lma) (b : IR W Amb nmb cmb Lmb) => rsameI_N a b kma
  rw [decide_eq_true q1] at Cm
  have Cv := fun {W : World} (a : IR W Ava nva cva Lva) (b : IR W Avb nvb cvb Lvb) => rsameI_N a b kva
  rw [decide_eq_true q2] at Cv
  have Cg := fun {W : World} (a : IR W Aga nga cga Lga) (b : IR W Agb ngb cgb Lgb) => rsameI_N a b kga
  rw [decide_eq_true q3] at Cg
  clear q0 q1 q2 q3 kwa kma kva kga
  have cc := Below.refl w.heap.size w
  go_enter Try.func14, Try.ntmps14
  go_upto_region 1 with fail
  generalize hv_ : (w.alloc (.cells #[.slice Awa nwa cwa, .slice Ama nma cma, .slice Ava nva cva, .slice Aga nga cga] 26)).alloc (.cells #[.slice Awb nwb cwb, .slice Amb nmb cmb, .slice Avb nvb cvb, .slice Agb ngb cgb] 26) = v1
  have bA : Below w.heap.size w v1 := by rw [← hv_]; exact (((Below.refl _ w).alloc (by simp) _).alloc (by simp) _)
  replace hwa := hwa.on bA
  replace hwb := hwb.on bA
  replace hma := hma.on bA
  replace hmb := hmb.on bA
  replace hva := hva.on bA
  replace hvb := hvb.on bA
  replace hga := hga.on bA
  replace hgb := hgb.on bA
  replace cc := bK cc bA
  clear bA
  have xa0 : v1.cell? ⟨w.heap.size, 0, none⟩ = some (.slice Awa nwa cwa) := by simp [← hv_, go_sem]
  have xa1 : v1.cell? ⟨w.heap.size, 1, none⟩ = some (.slice Ama nma cma) := by simp [← hv_, go_sem]
  have xa2 : v1.cell? ⟨w.heap.size, 2, none⟩ = some (.slice Ava nva cva) := by simp [← hv_, go_sem]
  have xa3 : v1.cell? ⟨w.heap.size, 3, none⟩ = some (.slice Aga nga cga) := by simp [← hv_, go_sem]
  have xal : w.heap.size < v1.heap.size := by simp [← hv_] <;> omega
  have xb0 : v1.cell? ⟨w.heap.size + 1, 0, none⟩ = some (.slice Awb nwb cwb) := by simp [← hv_, go_sem]
  have xb1 : v1.cell? ⟨w.heap.size + 1, 1, none⟩ = some (.slice Amb nmb cmb) := by simp [← hv_, go_sem]
  have xb2 : v1.cell? ⟨w.heap.size + 1, 2, none⟩ = some (.slice Avb nvb cvb) := by simp [← hv_, go_sem]
  have xb3 : v1.cell? ⟨w.heap.size + 1, 3, none⟩ = some (.slice Agb ngb cgb) := by simp [← hv_, go_sem]
  have xbl : w.heap.size + 1 < v1.heap.size := by simp [← hv_] <;> omega
  clear hv_
  go_wp2_with fail
  refine (Cw hwa hwb).mono ?_
  rintro e w2 ⟨rfl, b⟩
  replace hwa := hwa.on b
  replace hwb := hwb.on b
  replace hma := hma.on b
  replace hmb := hmb.on b
  replace hva := hva.on b
  replace hvb := hvb.on b
  replace hga := hga.on b
  replace hgb := hgb.on b
  rewrite [cR b xal] at xa0 xa1 xa2 xa3
  replace xal := lK b xal
  rewrite [cR b xbl] at xb0 xb1 xb2 xb3
  replace xbl := lK b xbl
  replace cc := bK cc b
  clear b
  go_wp2_with fail
  refine (Cm hma hmb).mono ?_
  rintro e w3 ⟨rfl, b⟩
  replace hwa := hwa.on b
  replace hwb := hwb.on b
  replace hma := hma.on b
  replace hmb := hmb.on b
  replace hva := hva.on b
  replace hvb := hvb.on b
  replace hga := hga.on b
  replace hgb := hgb.on b
  rewrite [cR b xal] at xa0 xa1 xa2 xa3
  replace xal := lK b xal
  rewrite [cR b xbl] at xb0 xb1 xb2 xb3
  replace xbl := lK b xbl
  replace cc := bK cc b
  clear b
  go_wp2_with fail
  refine (Cv hva hvb).mono ?_
  rintro e w4 ⟨rfl, b⟩
  replace hwa := hwa.on b
  replace hwb := hwb.on b
  replace hma := hma.on b
  replace hmb := hmb.on b
  replace hva := hva.on b
  replace hvb := hvb.on b
  replace hga := hga.on b
  replace hgb := hgb.on b
  rewrite [cR b xal] at xa0 xa1 xa2 xa3
  replace xal := lK b xal
  rewrite [cR b xbl] at xb0 xb1 xb2 xb3
  replace xbl := lK b xbl
  replace cc := bK cc b
  clear b
  go_wp2_with fail
  refine (Cg hga hgb).mono ?_
  rintro e w5 ⟨rfl, b⟩
  replace hwa := hwa.on b
  replace hwb := hwb.on b
  replace hma := hma.on b
  replace hmb := hmb.on b
  replace hva := hva.on b
  replace hvb := hvb.on b
  replace hga := hga.on b
  replace hgb := hgb.on b
  rewrite [cR b xal] at xa0 xa1 xa2 xa3
  replace xal := lK b xal
  rewrite [cR b xbl] at xb0 xb1 xb2 xb3
  replace xbl := lK b xbl
  replace cc := bK cc b
  clear b
  go_wp2_with fail
  go_ret
  exact ⟨rfl, cc⟩

theorem nSame17_N {w : World} {Awa : Option Addr} {nwa cwa : Nat} {Lwa : List Int} {Ama : Option Addr} {nma cma : Nat} {Lma : List Int} {Ava : Option Addr} {nva cva : Nat} {Lva : List Int} {Aga : Option Addr} {nga cga : Nat} {Lga : List Int} {Awb : Option Addr} {nwb cwb : Nat} {Lwb : List Int} {Amb : Option Addr} {nmb cmb : Nat} {Lmb : List Int} {Avb : Option Addr} {nvb cvb : Nat} {Lvb : List Int} {Agb : Option Addr} {ngb cgb : Nat} {Lgb : List Int} (hwa : IR w Awa nwa cwa Lwa) (hma : IR w Ama nma cma Lma) (hva : IR w Ava nva cva Lva) (hga : IR w Aga nga cga Lga) (hwb : IR w Awb nwb cwb Lwb) (hmb : IR w Amb nmb cmb Lmb) (hvb : IR w Avb nvb cvb Lvb) (hgb : IR w Agb ngb cgb Lgb) (kwa : nwa ≤ 9223372036854775807) (kma : nma ≤ 9223372036854775807) (kva : nva ≤ 9223372036854775807) (kga : nga ≤ 9223372036854775807) : Calls Try.prog 14 #[.agg #[.slice Awa nwa cwa, .slice Ama nma cma, .slice Ava nva cva, .slice Aga nga cga], .agg #[.slice Awb nwb cwb, .slice Amb nmb cmb, .slice Avb nvb cvb, .slice Agb ngb cgb]] w (GotV w (.bool (decide (Lwa = Lwb ∧ Lma = Lmb ∧ Lva = Lvb ∧ Lga = Lgb)))) := by
  by_cases q0 : Lwa = Lwb
  rotate_left
  · rw [decide_eq_false (fun h => q0 h.1)]; exact nSame17_0 hwa hma hva hga hwb hmb hvb hgb kwa kma kva kga q0
  by_cases q1 : Lma = Lmb
  rotate_left
  · rw [decide_eq_false (fun h => q1 h.2.1)]; exact nSame17_1 hwa hma hva hga hwb hmb hvb hgb kwa kma kva kga q0 q1
  by_cases q2 : Lva = Lvb
  rotate_left
  · rw [decide_eq_false (fun h => q2 h.2.2.1)]; exact nSame17_2 hwa hma hva hga hwb hmb hvb hgb kwa kma kva kga q0 q1 q2
  by_cases q3 : Lga = Lgb
  rotate_left
  · rw [decide_eq_false (fun h => q3 h.2.2.2)]; exact nSame17_3 hwa hma hva hga hwb hmb hvb hgb kwa kma kva kga q0 q1 q2 q3
  rw [decide_eq_true ⟨q0, q1, q2, q3⟩]
  exact nSame17_4 hwa hma hva hga hwb hmb hvb hgb kwa kma kva kga q0 q1 q2 q3

theorem nFew17_N {w : World} {Aw : Option Addr} {nw cw : Nat} {Am : Option Addr} {nm cm : Nat} {Av : Option Addr} {nv cv : Nat} {Ag : Option Addr} {ng cg : Nat} {most : Int} (kw : nw ≤ 2305843009213693951) (km : nm ≤ 2305843009213693951) (kv : nv ≤ 2305843009213693951) (kg : ng ≤ 2305843009213693951) :
    Calls Try.prog 8 #[.agg #[.slice Aw nw cw, .slice Am nm cm, .slice Av nv cv, .slice Ag ng cg], .int .i64 most] w (GotV w (.bool (decide (((nw + nm + nv + ng : Nat) : Int) ≤ most)))) := by
  have t1 : IntKind.i64.wrap ((nw : Int) + (nm : Int)) = ((nw + nm : Nat) : Int) := by rw [IntWalk.i64_in _ (by omega)]; omega
  have t2 : IntKind.i64.wrap (((nw + nm : Nat) : Int) + (nv : Int)) = ((nw + nm + nv : Nat) : Int) := by rw [IntWalk.i64_in _ (by omega)]; omega
  have t3 : IntKind.i64.wrap (((nw + nm + nv : Nat) : Int) + (ng : Int)) = ((nw + nm + nv + ng : Nat) : Int) := by rw [IntWalk.i64_in _ (by omega)]; omega
  obtain ⟨a, ea⟩ : ∃ a, nw + nm = a := ⟨_, rfl⟩
  obtain ⟨b, eb⟩ : ∃ b, a + nv = b := ⟨_, rfl⟩
  obtain ⟨d, ed⟩ : ∃ d, b + ng = d := ⟨_, rfl⟩
  simp only [ea, eb, ed] at t1 t2 t3 ⊢
  clear kw km kv kg ea eb ed
  have cc := Below.refl w.heap.size w
  go_enter Try.func8, Try.ntmps8
  go_upto_region 1 with fail
  generalize hv_ : w.alloc (.cells #[.slice Aw nw cw, .slice Am nm cm, .slice Av nv cv, .slice Ag ng cg] 26) = v1
  have bA : Below w.heap.size w v1 := by rw [← hv_]; exact ((Below.refl _ w).alloc (by simp) _)
  replace cc := bK cc bA
  clear bA
  have xa0 : v1.cell? ⟨w.heap.size, 0, none⟩ = some (.slice Aw nw cw) := by simp [← hv_, go_sem]
  have xa1 : v1.cell? ⟨w.heap.size, 1, none⟩ = some (.slice Am nm cm) := by simp [← hv_, go_sem]
  have xa2 : v1.cell? ⟨w.heap.size, 2, none⟩ = some (.slice Av nv cv) := by simp [← hv_, go_sem]
  have xa3 : v1.cell? ⟨w.heap.size, 3, none⟩ = some (.slice Ag ng cg) := by simp [← hv_, go_sem]
  have xal : w.heap.size < v1.heap.size := by simp [← hv_] <;> omega
  clear hv_
  go_wp2_with fail
  go_ret
  exact ⟨rfl, cc⟩

end Go.Proofs.Ytckdbcngnghhiaa

/-
  The seventeenth reference: the region of a round of Step that draws its order.
-/
namespace Go.Proofs.Ytckdbcngnghhiaa
set_option maxRecDepth 100000
open Go.RowKit
set_option linter.unusedVariables false
set_option linter.unusedSimpArgs false

def rg_StepR9 : { o : Array Oper // regOf 9 Try.f11 = o } := ⟨_, by
  simp only [regOf, regIn, Try.f11, reduceIte, Nat.reduceEqDiff, Option.or, Option.getD, Nat.one_ne_zero, Nat.zero_ne_one]
  rfl⟩
set_option maxHeartbeats 8000000 in
theorem StepR9 {V : World} {C : Nat} {Q : Exit → Act → World → Prop} {u0 u2 u4 u6 u7 u8 u10 u11 u12 u13 u14 u15 u16 u17 u18 u19 u20 u21 u22 u23 u24 u25 u26 u27 u28 u29 u30 u31 u32 u33 u34 u35 u36 u37 u38 u39 u40 u41 u42 u43 u44 u45 u46 u47 u48 u49 u50 u51 u52 u53 u54 u55 u56 u57 u58 u59 u60 u61 u62 u63 u64 u65 u66 u67 u68 u69 u70 u71 u72 u73 u74 u75 u76 u77 u78 u79 u80 u81 u82 u83 u84 u85 u86 u87 : Value} {bm br : Nat} {lr mu wd j x0 x1 x2 v y : Int} {ne vb yb : Bool} {i bw ow nw cw bm_ om nm cm nv cv bg og ng cg : Nat} {Av : Option Addr} (iw : i < nw) (im : i < nm) (ig : i < ng) (jw : (i : Int) < (nw : Int)) (jm : (i : Int) < (nm : Int)) (jg : (i : Int) < (ng : Int)) (CS : ∀ W : World, Calls Try.prog 25 #[.agg #[.int .i64 lr, .int .i64 mu, .int .i64 wd, .bool ne], .int .i64 j, .agg #[.int .i64 x0, .int .i64 x1, .int .i64 x2]] W (GotV W (.tuple #[.agg #[.int .i64 v, .bool vb], .agg #[.int .i64 y, .bool yb]]))) (hP : ∀ c (a : Act) (d : Option Tmp) (v : Value) (w : World), Q (.panic c) (a.put d v) w → Q (.panic c) a w) (hC : C ≤ V.heap.size) (ew : V.cell? ⟨bw, ow + i, none⟩ = some (.int .i64 x0)) (lw : bw < C) (em : V.cell? ⟨bm_, om + i, none⟩ = some (.int .i64 x1)) (lm : bm_ < C) (eg : V.cell? ⟨bg, og + i, none⟩ = some (.int .i64 x2)) (lg : bg < C) (zbm : V.heap[bm]? = some (.cells #[.int .i64 lr, .int .i64 mu, .int .i64 wd, .bool ne] 23)) (zbr : V.heap[br]? = some (.cells #[.slice (some ⟨bw, ow, none⟩) nw cw, .slice (some ⟨bm_, om, none⟩) nm cm, .slice Av nv cv, .slice (some ⟨bg, og, none⟩) ng cg] 26)) (hQ : ∀ (W : World) (gv gw : Nat), Below C V W → W.heap[bm]? = some (.cells #[.int .i64 lr, .int .i64 mu, .int .i64 wd, .bool ne] 23) → W.heap[br]? = some (.cells #[.slice (some ⟨bw, ow, none⟩) nw cw, .slice (some ⟨bm_, om, none⟩) nm cm, .slice Av nv cv, .slice (some ⟨bg, og, none⟩) ng cg] 26) → W.heap[gv]? = some (.cells #[.int .i64 v, .bool vb] 58) → W.heap[gw]? = some (.cells #[.int .i64 y, .bool yb] 58) → C ≤ gv → C ≤ gw → Q .normal { tmps := #[u0, .int .i64 j, u2, .pointer (some ⟨bm, 0, none⟩), u4, .pointer (some ⟨br, 0, none⟩), u6, u7, u8, .int .i64 (i : Int), .pointer (some ⟨gv, 0, none⟩), .pointer (some ⟨gw, 0, none⟩), u12, u13, u14, u15, u16, u17, u18, u19, u20, u21, u22, u23, u24, u25, u26, u27, u28, u29, u30, u31, u32, u33, u34, u35, u36, u37, u38, u39, u40, u41, .tuple #[.agg #[.int .i64 v, .bool vb], .agg #[.int .i64 y, .bool yb]], .agg #[.int .i64 lr, .int .i64 mu, .int .i64 wd, .bool ne], .int .i64 j, .pointer (some ⟨br, 0, none⟩), .slice (some ⟨bw, ow, none⟩) nw cw, .int .i64 (i : Int), .pointer (some ⟨bw, ow + i, none⟩), .int .i64 x0, .pointer (some ⟨br, 1, none⟩), .slice (some ⟨bm_, om, none⟩) nm cm, .int .i64 (i : Int), .pointer (some ⟨bm_, om + i, none⟩), .int .i64 x1, .pointer (some ⟨br, 3, none⟩), .slice (some ⟨bg, og, none⟩) ng cg, .int .i64 (i : Int), .pointer (some ⟨bg, og + i, none⟩), .int .i64 x2, .agg #[.int .i64 x0, .int .i64 x1, .int .i64 x2], .tuple #[.agg #[.int .i64 v, .bool vb], .agg #[.int .i64 y, .bool yb]], .agg #[.int .i64 v, .bool vb], .agg #[.int .i64 y, .bool yb], u64, u65, u66, u67, u68, u69, u70, u71, u72, u73, u74, u75, u76, u77, u78, u79, u80, u81, u82, u83, u84, u85, u86, u87], defers := [] } W) :
    (Code.region 9 rg_StepR9.1 true).wp Try.prog Q { tmps := #[u0, .int .i64 j, u2, .pointer (some ⟨bm, 0, none⟩), u4, .pointer (some ⟨br, 0, none⟩), u6, u7, u8, .int .i64 (i : Int), u10, u11, u12, u13, u14, u15, u16, u17, u18, u19, u20, u21, u22, u23, u24, u25, u26, u27, u28, u29, u30, u31, u32, u33, u34, u35, u36, u37, u38, u39, u40, u41, u42, u43, u44, u45, u46, u47, u48, u49, u50, u51, u52, u53, u54, u55, u56, u57, u58, u59, u60, u61, u62, u63, u64, u65, u66, u67, u68, u69, u70, u71, u72, u73, u74, u75, u76, u77, u78, u79, u80, u81, u82, u83, u84, u85, u86, u87], defers := [] } V := by
  have HS : ∀ W : World, Below C V W → W.heap[bm]? = some (.cells #[.int .i64 lr, .int .i64 mu, .int .i64 wd, .bool ne] 23) → W.heap[br]? = some (.cells #[.slice (some ⟨bw, ow, none⟩) nw cw, .slice (some ⟨bm_, om, none⟩) nm cm, .slice Av nv cv, .slice (some ⟨bg, og, none⟩) ng cg] 26) → (fun w' : World => w'.cell? ⟨bm, 0, none⟩ = some (.int .i64 lr) ∧ w'.cell? ⟨bm, 1, none⟩ = some (.int .i64 mu) ∧ w'.cell? ⟨bm, 2, none⟩ = some (.int .i64 wd) ∧ w'.cell? ⟨bm, 3, none⟩ = some (.bool ne) ∧ w'.cell? ⟨br, 0, none⟩ = some (.slice (some ⟨bw, ow, none⟩) nw cw) ∧ w'.cell? ⟨br, 1, none⟩ = some (.slice (some ⟨bm_, om, none⟩) nm cm) ∧ w'.cell? ⟨br, 3, none⟩ = some (.slice (some ⟨bg, og, none⟩) ng cg) ∧ w'.cell? ⟨bw, ow + i, none⟩ = some (.int .i64 x0) ∧ w'.cell? ⟨bm_, om + i, none⟩ = some (.int .i64 x1) ∧ w'.cell? ⟨bg, og + i, none⟩ = some (.int .i64 x2)) W := fun W yb ybm ybr => ⟨cell_of_row W bm 0 #[.int .i64 lr, .int .i64 mu, .int .i64 wd, .bool ne] 23 _ ybm, cell_of_row W bm 1 #[.int .i64 lr, .int .i64 mu, .int .i64 wd, .bool ne] 23 _ ybm, cell_of_row W bm 2 #[.int .i64 lr, .int .i64 mu, .int .i64 wd, .bool ne] 23 _ ybm, cell_of_row W bm 3 #[.int .i64 lr, .int .i64 mu, .int .i64 wd, .bool ne] 23 _ ybm, cell_of_row W br 0 #[.slice (some ⟨bw, ow, none⟩) nw cw, .slice (some ⟨bm_, om, none⟩) nm cm, .slice Av nv cv, .slice (some ⟨bg, og, none⟩) ng cg] 26 _ ybr, cell_of_row W br 1 #[.slice (some ⟨bw, ow, none⟩) nw cw, .slice (some ⟨bm_, om, none⟩) nm cm, .slice Av nv cv, .slice (some ⟨bg, og, none⟩) ng cg] 26 _ ybr, cell_of_row W br 3 #[.slice (some ⟨bw, ow, none⟩) nw cw, .slice (some ⟨bm_, om, none⟩) nm cm, .slice Av nv cv, .slice (some ⟨bg, og, none⟩) ng cg] 26 _ ybr, cK yb ew lw, cK yb em lm, cK yb eg lg⟩
  have s_11111 : ∀ (W : World) (gv gw : Nat), Below C V W → W.heap[bm]? = some (.cells #[.int .i64 lr, .int .i64 mu, .int .i64 wd, .bool ne] 23) → W.heap[br]? = some (.cells #[.slice (some ⟨bw, ow, none⟩) nw cw, .slice (some ⟨bm_, om, none⟩) nm cm, .slice Av nv cv, .slice (some ⟨bg, og, none⟩) ng cg] 26) → W.heap[gv]? = some (.cells #[.int .i64 v, .bool vb] 58) → W.heap[gw]? = some (.cells #[.int .i64 y, .bool yb] 58) → C ≤ gv → C ≤ gw → bm ≠ gv → br ≠ gv → bm ≠ gw → br ≠ gw → gv ≠ gw → wpAnyH Try.prog .any rg_StepR9.1 Q (fun w' => w'.cell? ⟨bm, 0, none⟩ = some (.int .i64 lr) ∧ w'.cell? ⟨bm, 1, none⟩ = some (.int .i64 mu) ∧ w'.cell? ⟨bm, 2, none⟩ = some (.int .i64 wd) ∧ w'.cell? ⟨bm, 3, none⟩ = some (.bool ne) ∧ w'.cell? ⟨br, 0, none⟩ = some (.slice (some ⟨bw, ow, none⟩) nw cw) ∧ w'.cell? ⟨br, 1, none⟩ = some (.slice (some ⟨bm_, om, none⟩) nm cm) ∧ w'.cell? ⟨br, 3, none⟩ = some (.slice (some ⟨bg, og, none⟩) ng cg) ∧ w'.cell? ⟨bw, ow + i, none⟩ = some (.int .i64 x0) ∧ w'.cell? ⟨bm_, om + i, none⟩ = some (.int .i64 x1) ∧ w'.cell? ⟨bg, og + i, none⟩ = some (.int .i64 x2)) 0 #[true, true, true, true, true, true, true, true, true, true, true, true, true, true, true, true, true, true, true, true, true, true, true, true, true, true] { tmps := #[u0, .int .i64 j, u2, .pointer (some ⟨bm, 0, none⟩), u4, .pointer (some ⟨br, 0, none⟩), u6, u7, u8, .int .i64 (i : Int), .pointer (some ⟨gv, 0, none⟩), .pointer (some ⟨gw, 0, none⟩), u12, u13, u14, u15, u16, u17, u18, u19, u20, u21, u22, u23, u24, u25, u26, u27, u28, u29, u30, u31, u32, u33, u34, u35, u36, u37, u38, u39, u40, u41, .tuple #[.agg #[.int .i64 v, .bool vb], .agg #[.int .i64 y, .bool yb]], .agg #[.int .i64 lr, .int .i64 mu, .int .i64 wd, .bool ne], .int .i64 j, .pointer (some ⟨br, 0, none⟩), .slice (some ⟨bw, ow, none⟩) nw cw, .int .i64 (i : Int), .pointer (some ⟨bw, ow + i, none⟩), .int .i64 x0, .pointer (some ⟨br, 1, none⟩), .slice (some ⟨bm_, om, none⟩) nm cm, .int .i64 (i : Int), .pointer (some ⟨bm_, om + i, none⟩), .int .i64 x1, .pointer (some ⟨br, 3, none⟩), .slice (some ⟨bg, og, none⟩) ng cg, .int .i64 (i : Int), .pointer (some ⟨bg, og + i, none⟩), .int .i64 x2, .agg #[.int .i64 x0, .int .i64 x1, .int .i64 x2], .tuple #[.agg #[.int .i64 v, .bool vb], .agg #[.int .i64 y, .bool yb]], .agg #[.int .i64 v, .bool vb], .agg #[.int .i64 y, .bool yb], u64, u65, u66, u67, u68, u69, u70, u71, u72, u73, u74, u75, u76, u77, u78, u79, u80, u81, u82, u83, u84, u85, u86, u87], defers := [] } W := by
    intro W gv gw hb zbm zbr zgv zgw mgv mgw dbm_gv dbr_gv dbm_gw dbr_gw dgv_gw
    dsimp only [rg_StepR9]
    exact wpAnyH_done (by kernel_rfl) (hQ W gv gw hb zbm zbr zgv zgw mgv mgw) _
  have s_11110 : ∀ (W : World) (gv gw : Nat), Below C V W → W.heap[bm]? = some (.cells #[.int .i64 lr, .int .i64 mu, .int .i64 wd, .bool ne] 23) → W.heap[br]? = some (.cells #[.slice (some ⟨bw, ow, none⟩) nw cw, .slice (some ⟨bm_, om, none⟩) nm cm, .slice Av nv cv, .slice (some ⟨bg, og, none⟩) ng cg] 26) → W.heap[gv]? = some (.cells #[.int .i64 v, .bool vb] 58) → W.heap[gw]? = some (.cells #[.int .i64 0, .bool false] 58) → C ≤ gv → C ≤ gw → bm ≠ gv → br ≠ gv → bm ≠ gw → br ≠ gw → gv ≠ gw → wpAnyH Try.prog .any rg_StepR9.1 Q (fun w' => w'.cell? ⟨bm, 0, none⟩ = some (.int .i64 lr) ∧ w'.cell? ⟨bm, 1, none⟩ = some (.int .i64 mu) ∧ w'.cell? ⟨bm, 2, none⟩ = some (.int .i64 wd) ∧ w'.cell? ⟨bm, 3, none⟩ = some (.bool ne) ∧ w'.cell? ⟨br, 0, none⟩ = some (.slice (some ⟨bw, ow, none⟩) nw cw) ∧ w'.cell? ⟨br, 1, none⟩ = some (.slice (some ⟨bm_, om, none⟩) nm cm) ∧ w'.cell? ⟨br, 3, none⟩ = some (.slice (some ⟨bg, og, none⟩) ng cg) ∧ w'.cell? ⟨bw, ow + i, none⟩ = some (.int .i64 x0) ∧ w'.cell? ⟨bm_, om + i, none⟩ = some (.int .i64 x1) ∧ w'.cell? ⟨bg, og + i, none⟩ = some (.int .i64 x2)) 1 #[true, true, true, true, true, true, true, true, true, true, true, true, true, true, true, true, true, true, true, true, true, true, true, true, true, false] { tmps := #[u0, .int .i64 j, u2, .pointer (some ⟨bm, 0, none⟩), u4, .pointer (some ⟨br, 0, none⟩), u6, u7, u8, .int .i64 (i : Int), .pointer (some ⟨gv, 0, none⟩), .pointer (some ⟨gw, 0, none⟩), u12, u13, u14, u15, u16, u17, u18, u19, u20, u21, u22, u23, u24, u25, u26, u27, u28, u29, u30, u31, u32, u33, u34, u35, u36, u37, u38, u39, u40, u41, .tuple #[.agg #[.int .i64 v, .bool vb], .agg #[.int .i64 y, .bool yb]], .agg #[.int .i64 lr, .int .i64 mu, .int .i64 wd, .bool ne], .int .i64 j, .pointer (some ⟨br, 0, none⟩), .slice (some ⟨bw, ow, none⟩) nw cw, .int .i64 (i : Int), .pointer (some ⟨bw, ow + i, none⟩), .int .i64 x0, .pointer (some ⟨br, 1, none⟩), .slice (some ⟨bm_, om, none⟩) nm cm, .int .i64 (i : Int), .pointer (some ⟨bm_, om + i, none⟩), .int .i64 x1, .pointer (some ⟨br, 3, none⟩), .slice (some ⟨bg, og, none⟩) ng cg, .int .i64 (i : Int), .pointer (some ⟨bg, og + i, none⟩), .int .i64 x2, .agg #[.int .i64 x0, .int .i64 x1, .int .i64 x2], .tuple #[.agg #[.int .i64 v, .bool vb], .agg #[.int .i64 y, .bool yb]], .agg #[.int .i64 v, .bool vb], .agg #[.int .i64 y, .bool yb], u64, u65, u66, u67, u68, u69, u70, u71, u72, u73, u74, u75, u76, u77, u78, u79, u80, u81, u82, u83, u84, u85, u86, u87], defers := [] } W := by
    intro W gv gw hb zbm zbr zgv zgw mgv mgw dbm_gv dbr_gv dbm_gw dbr_gw dgv_gw
    dsimp only [rg_StepR9]
    refine wpAnyH_ready (rs := [25]) (by kernel_rfl) (by simp) ?_
    refine AllReadyH.cons rfl (fun K hK => ?_) (AllReadyH.nil)
    · (try simp only [pT])
      rw [if_pos (by rfl)]
      have c0 : W.cell? ⟨gw, 0, none⟩ = some (.int .i64 0) := cell_of_row W gw 0 #[.int .i64 0, .bool false] 58 _ zgw
      have f0 : W.frozen? ⟨gw, 0, none⟩ = false := by simp [World.frozen?, zgw]
      have c1 : W.cell? ⟨gw, 1, none⟩ = some (.bool false) := cell_of_row W gw 1 #[.int .i64 0, .bool false] 58 _ zgw
      have f1 : W.frozen? ⟨gw, 1, none⟩ = false := by simp [World.frozen?, zgw]
      go_simp
      refine hK.out _ _ (HS _ ((hb.setCell (p := ⟨gw, 0, none⟩) mgw _).setCell (p := ⟨gw, 1, none⟩) mgw _) (put_far2 zbm dbm_gw) (put_far2 zbr dbr_gw)) (fun hHeld => ?_)
      exact s_11111 ((W.setCell ⟨gw, 0, none⟩ (.int .i64 y)).setCell ⟨gw, 1, none⟩ (.bool yb)) gv gw ((hb.setCell (p := ⟨gw, 0, none⟩) mgw _).setCell (p := ⟨gw, 1, none⟩) mgw _) (put_far2 zbm dbm_gw) (put_far2 zbr dbr_gw) (put_far2 zgv dgv_gw) (put_cells2 zgw) mgv mgw dbm_gv dbr_gv dbm_gw dbr_gw dgv_gw
  have s_11100 : ∀ (W : World) (gv gw : Nat), Below C V W → W.heap[bm]? = some (.cells #[.int .i64 lr, .int .i64 mu, .int .i64 wd, .bool ne] 23) → W.heap[br]? = some (.cells #[.slice (some ⟨bw, ow, none⟩) nw cw, .slice (some ⟨bm_, om, none⟩) nm cm, .slice Av nv cv, .slice (some ⟨bg, og, none⟩) ng cg] 26) → W.heap[gv]? = some (.cells #[.int .i64 0, .bool false] 58) → W.heap[gw]? = some (.cells #[.int .i64 0, .bool false] 58) → C ≤ gv → C ≤ gw → bm ≠ gv → br ≠ gv → bm ≠ gw → br ≠ gw → gv ≠ gw → wpAnyH Try.prog .any rg_StepR9.1 Q (fun w' => w'.cell? ⟨bm, 0, none⟩ = some (.int .i64 lr) ∧ w'.cell? ⟨bm, 1, none⟩ = some (.int .i64 mu) ∧ w'.cell? ⟨bm, 2, none⟩ = some (.int .i64 wd) ∧ w'.cell? ⟨bm, 3, none⟩ = some (.bool ne) ∧ w'.cell? ⟨br, 0, none⟩ = some (.slice (some ⟨bw, ow, none⟩) nw cw) ∧ w'.cell? ⟨br, 1, none⟩ = some (.slice (some ⟨bm_, om, none⟩) nm cm) ∧ w'.cell? ⟨br, 3, none⟩ = some (.slice (some ⟨bg, og, none⟩) ng cg) ∧ w'.cell? ⟨bw, ow + i, none⟩ = some (.int .i64 x0) ∧ w'.cell? ⟨bm_, om + i, none⟩ = some (.int .i64 x1) ∧ w'.cell? ⟨bg, og + i, none⟩ = some (.int .i64 x2)) 2 #[true, true, true, true, true, true, true, true, true, true, true, true, true, true, true, true, true, true, true, true, true, true, true, true, false, false] { tmps := #[u0, .int .i64 j, u2, .pointer (some ⟨bm, 0, none⟩), u4, .pointer (some ⟨br, 0, none⟩), u6, u7, u8, .int .i64 (i : Int), .pointer (some ⟨gv, 0, none⟩), .pointer (some ⟨gw, 0, none⟩), u12, u13, u14, u15, u16, u17, u18, u19, u20, u21, u22, u23, u24, u25, u26, u27, u28, u29, u30, u31, u32, u33, u34, u35, u36, u37, u38, u39, u40, u41, .tuple #[.agg #[.int .i64 v, .bool vb], .agg #[.int .i64 y, .bool yb]], .agg #[.int .i64 lr, .int .i64 mu, .int .i64 wd, .bool ne], .int .i64 j, .pointer (some ⟨br, 0, none⟩), .slice (some ⟨bw, ow, none⟩) nw cw, .int .i64 (i : Int), .pointer (some ⟨bw, ow + i, none⟩), .int .i64 x0, .pointer (some ⟨br, 1, none⟩), .slice (some ⟨bm_, om, none⟩) nm cm, .int .i64 (i : Int), .pointer (some ⟨bm_, om + i, none⟩), .int .i64 x1, .pointer (some ⟨br, 3, none⟩), .slice (some ⟨bg, og, none⟩) ng cg, .int .i64 (i : Int), .pointer (some ⟨bg, og + i, none⟩), .int .i64 x2, .agg #[.int .i64 x0, .int .i64 x1, .int .i64 x2], .tuple #[.agg #[.int .i64 v, .bool vb], .agg #[.int .i64 y, .bool yb]], .agg #[.int .i64 v, .bool vb], .agg #[.int .i64 y, .bool yb], u64, u65, u66, u67, u68, u69, u70, u71, u72, u73, u74, u75, u76, u77, u78, u79, u80, u81, u82, u83, u84, u85, u86, u87], defers := [] } W := by
    intro W gv gw hb zbm zbr zgv zgw mgv mgw dbm_gv dbr_gv dbm_gw dbr_gw dgv_gw
    dsimp only [rg_StepR9]
    refine wpAnyH_ready (rs := [24]) (by kernel_rfl) (by simp) ?_
    refine AllReadyH.cons rfl (fun K hK => ?_) (AllReadyH.nil)
    · (try simp only [pT])
      rw [if_pos (by rfl)]
      have c0 : W.cell? ⟨gv, 0, none⟩ = some (.int .i64 0) := cell_of_row W gv 0 #[.int .i64 0, .bool false] 58 _ zgv
      have f0 : W.frozen? ⟨gv, 0, none⟩ = false := by simp [World.frozen?, zgv]
      have c1 : W.cell? ⟨gv, 1, none⟩ = some (.bool false) := cell_of_row W gv 1 #[.int .i64 0, .bool false] 58 _ zgv
      have f1 : W.frozen? ⟨gv, 1, none⟩ = false := by simp [World.frozen?, zgv]
      go_simp
      refine hK.out _ _ (HS _ ((hb.setCell (p := ⟨gv, 0, none⟩) mgv _).setCell (p := ⟨gv, 1, none⟩) mgv _) (put_far2 zbm dbm_gv) (put_far2 zbr dbr_gv)) (fun hHeld => ?_)
      exact s_11110 ((W.setCell ⟨gv, 0, none⟩ (.int .i64 v)).setCell ⟨gv, 1, none⟩ (.bool vb)) gv gw ((hb.setCell (p := ⟨gv, 0, none⟩) mgv _).setCell (p := ⟨gv, 1, none⟩) mgv _) (put_far2 zbm dbm_gv) (put_far2 zbr dbr_gv) (put_cells2 zgv) (put_far2 zgw (Ne.symm dgv_gw)) mgv mgw dbm_gv dbr_gv dbm_gw dbr_gw dgv_gw
  have s_10100 : ∀ (W : World) (gw : Nat), Below C V W → W.heap[bm]? = some (.cells #[.int .i64 lr, .int .i64 mu, .int .i64 wd, .bool ne] 23) → W.heap[br]? = some (.cells #[.slice (some ⟨bw, ow, none⟩) nw cw, .slice (some ⟨bm_, om, none⟩) nm cm, .slice Av nv cv, .slice (some ⟨bg, og, none⟩) ng cg] 26) → W.heap[gw]? = some (.cells #[.int .i64 0, .bool false] 58) → C ≤ gw → bm ≠ gw → br ≠ gw → wpAnyH Try.prog .any rg_StepR9.1 Q (fun w' => w'.cell? ⟨bm, 0, none⟩ = some (.int .i64 lr) ∧ w'.cell? ⟨bm, 1, none⟩ = some (.int .i64 mu) ∧ w'.cell? ⟨bm, 2, none⟩ = some (.int .i64 wd) ∧ w'.cell? ⟨bm, 3, none⟩ = some (.bool ne) ∧ w'.cell? ⟨br, 0, none⟩ = some (.slice (some ⟨bw, ow, none⟩) nw cw) ∧ w'.cell? ⟨br, 1, none⟩ = some (.slice (some ⟨bm_, om, none⟩) nm cm) ∧ w'.cell? ⟨br, 3, none⟩ = some (.slice (some ⟨bg, og, none⟩) ng cg) ∧ w'.cell? ⟨bw, ow + i, none⟩ = some (.int .i64 x0) ∧ w'.cell? ⟨bm_, om + i, none⟩ = some (.int .i64 x1) ∧ w'.cell? ⟨bg, og + i, none⟩ = some (.int .i64 x2)) 3 #[true, true, true, true, true, true, true, true, true, true, true, true, true, true, true, true, true, true, true, true, true, true, false, true, false, false] { tmps := #[u0, .int .i64 j, u2, .pointer (some ⟨bm, 0, none⟩), u4, .pointer (some ⟨br, 0, none⟩), u6, u7, u8, .int .i64 (i : Int), u10, .pointer (some ⟨gw, 0, none⟩), u12, u13, u14, u15, u16, u17, u18, u19, u20, u21, u22, u23, u24, u25, u26, u27, u28, u29, u30, u31, u32, u33, u34, u35, u36, u37, u38, u39, u40, u41, .tuple #[.agg #[.int .i64 v, .bool vb], .agg #[.int .i64 y, .bool yb]], .agg #[.int .i64 lr, .int .i64 mu, .int .i64 wd, .bool ne], .int .i64 j, .pointer (some ⟨br, 0, none⟩), .slice (some ⟨bw, ow, none⟩) nw cw, .int .i64 (i : Int), .pointer (some ⟨bw, ow + i, none⟩), .int .i64 x0, .pointer (some ⟨br, 1, none⟩), .slice (some ⟨bm_, om, none⟩) nm cm, .int .i64 (i : Int), .pointer (some ⟨bm_, om + i, none⟩), .int .i64 x1, .pointer (some ⟨br, 3, none⟩), .slice (some ⟨bg, og, none⟩) ng cg, .int .i64 (i : Int), .pointer (some ⟨bg, og + i, none⟩), .int .i64 x2, .agg #[.int .i64 x0, .int .i64 x1, .int .i64 x2], .tuple #[.agg #[.int .i64 v, .bool vb], .agg #[.int .i64 y, .bool yb]], .agg #[.int .i64 v, .bool vb], .agg #[.int .i64 y, .bool yb], u64, u65, u66, u67, u68, u69, u70, u71, u72, u73, u74, u75, u76, u77, u78, u79, u80, u81, u82, u83, u84, u85, u86, u87], defers := [] } W := by
    intro W gw hb zbm zbr zgw mgw dbm_gw dbr_gw
    dsimp only [rg_StepR9]
    refine wpAnyH_ready (rs := [22]) (by kernel_rfl) (by simp) ?_
    refine AllReadyH.cons rfl (fun K hK => ?_) (AllReadyH.nil)
    · (try simp only [pT])
      rw [if_pos (by rfl)]
      go_simp
      refine hK.out _ _ (HS _ (hb.alloc (Nat.le_trans hC hb.size) _) (((one_upD W _).block bm (Array.getElem?_eq_some_iff.1 zbm).1).trans zbm) (((one_upD W _).block br (Array.getElem?_eq_some_iff.1 zbr).1).trans zbr)) (fun hHeld => ?_)
      exact s_11100 (W.alloc (.cells #[.int .i64 0, .bool false] 58)) W.heap.size gw (hb.alloc (Nat.le_trans hC hb.size) _) (((one_upD W _).block bm (Array.getElem?_eq_some_iff.1 zbm).1).trans zbm) (((one_upD W _).block br (Array.getElem?_eq_some_iff.1 zbr).1).trans zbr) (World.alloc_heap_new W _) (((one_upD W _).block gw (Array.getElem?_eq_some_iff.1 zgw).1).trans zgw) (Nat.le_trans hC hb.size) mgw (Nat.ne_of_lt (Array.getElem?_eq_some_iff.1 zbm).1) (Nat.ne_of_lt (Array.getElem?_eq_some_iff.1 zbr).1) dbm_gw dbr_gw (Nat.ne_of_gt (Array.getElem?_eq_some_iff.1 zgw).1)
  have s_11000 : ∀ (W : World) (gv : Nat), Below C V W → W.heap[bm]? = some (.cells #[.int .i64 lr, .int .i64 mu, .int .i64 wd, .bool ne] 23) → W.heap[br]? = some (.cells #[.slice (some ⟨bw, ow, none⟩) nw cw, .slice (some ⟨bm_, om, none⟩) nm cm, .slice Av nv cv, .slice (some ⟨bg, og, none⟩) ng cg] 26) → W.heap[gv]? = some (.cells #[.int .i64 0, .bool false] 58) → C ≤ gv → bm ≠ gv → br ≠ gv → wpAnyH Try.prog .any rg_StepR9.1 Q (fun w' => w'.cell? ⟨bm, 0, none⟩ = some (.int .i64 lr) ∧ w'.cell? ⟨bm, 1, none⟩ = some (.int .i64 mu) ∧ w'.cell? ⟨bm, 2, none⟩ = some (.int .i64 wd) ∧ w'.cell? ⟨bm, 3, none⟩ = some (.bool ne) ∧ w'.cell? ⟨br, 0, none⟩ = some (.slice (some ⟨bw, ow, none⟩) nw cw) ∧ w'.cell? ⟨br, 1, none⟩ = some (.slice (some ⟨bm_, om, none⟩) nm cm) ∧ w'.cell? ⟨br, 3, none⟩ = some (.slice (some ⟨bg, og, none⟩) ng cg) ∧ w'.cell? ⟨bw, ow + i, none⟩ = some (.int .i64 x0) ∧ w'.cell? ⟨bm_, om + i, none⟩ = some (.int .i64 x1) ∧ w'.cell? ⟨bg, og + i, none⟩ = some (.int .i64 x2)) 3 #[true, true, true, true, true, true, true, true, true, true, true, true, true, true, true, true, true, true, true, true, true, true, true, false, false, false] { tmps := #[u0, .int .i64 j, u2, .pointer (some ⟨bm, 0, none⟩), u4, .pointer (some ⟨br, 0, none⟩), u6, u7, u8, .int .i64 (i : Int), .pointer (some ⟨gv, 0, none⟩), u11, u12, u13, u14, u15, u16, u17, u18, u19, u20, u21, u22, u23, u24, u25, u26, u27, u28, u29, u30, u31, u32, u33, u34, u35, u36, u37, u38, u39, u40, u41, .tuple #[.agg #[.int .i64 v, .bool vb], .agg #[.int .i64 y, .bool yb]], .agg #[.int .i64 lr, .int .i64 mu, .int .i64 wd, .bool ne], .int .i64 j, .pointer (some ⟨br, 0, none⟩), .slice (some ⟨bw, ow, none⟩) nw cw, .int .i64 (i : Int), .pointer (some ⟨bw, ow + i, none⟩), .int .i64 x0, .pointer (some ⟨br, 1, none⟩), .slice (some ⟨bm_, om, none⟩) nm cm, .int .i64 (i : Int), .pointer (some ⟨bm_, om + i, none⟩), .int .i64 x1, .pointer (some ⟨br, 3, none⟩), .slice (some ⟨bg, og, none⟩) ng cg, .int .i64 (i : Int), .pointer (some ⟨bg, og + i, none⟩), .int .i64 x2, .agg #[.int .i64 x0, .int .i64 x1, .int .i64 x2], .tuple #[.agg #[.int .i64 v, .bool vb], .agg #[.int .i64 y, .bool yb]], .agg #[.int .i64 v, .bool vb], .agg #[.int .i64 y, .bool yb], u64, u65, u66, u67, u68, u69, u70, u71, u72, u73, u74, u75, u76, u77, u78, u79, u80, u81, u82, u83, u84, u85, u86, u87], defers := [] } W := by
    intro W gv hb zbm zbr zgv mgv dbm_gv dbr_gv
    dsimp only [rg_StepR9]
    refine wpAnyH_ready (rs := [23]) (by kernel_rfl) (by simp) ?_
    refine AllReadyH.cons rfl (fun K hK => ?_) (AllReadyH.nil)
    · (try simp only [pT])
      rw [if_pos (by rfl)]
      go_simp
      refine hK.out _ _ (HS _ (hb.alloc (Nat.le_trans hC hb.size) _) (((one_upD W _).block bm (Array.getElem?_eq_some_iff.1 zbm).1).trans zbm) (((one_upD W _).block br (Array.getElem?_eq_some_iff.1 zbr).1).trans zbr)) (fun hHeld => ?_)
      exact s_11100 (W.alloc (.cells #[.int .i64 0, .bool false] 58)) gv W.heap.size (hb.alloc (Nat.le_trans hC hb.size) _) (((one_upD W _).block bm (Array.getElem?_eq_some_iff.1 zbm).1).trans zbm) (((one_upD W _).block br (Array.getElem?_eq_some_iff.1 zbr).1).trans zbr) (((one_upD W _).block gv (Array.getElem?_eq_some_iff.1 zgv).1).trans zgv) (World.alloc_heap_new W _) mgv (Nat.le_trans hC hb.size) dbm_gv dbr_gv (Nat.ne_of_lt (Array.getElem?_eq_some_iff.1 zbm).1) (Nat.ne_of_lt (Array.getElem?_eq_some_iff.1 zbr).1) (Nat.ne_of_lt (Array.getElem?_eq_some_iff.1 zgv).1)
  have s_10000 : ∀ (W : World), Below C V W → W.heap[bm]? = some (.cells #[.int .i64 lr, .int .i64 mu, .int .i64 wd, .bool ne] 23) → W.heap[br]? = some (.cells #[.slice (some ⟨bw, ow, none⟩) nw cw, .slice (some ⟨bm_, om, none⟩) nm cm, .slice Av nv cv, .slice (some ⟨bg, og, none⟩) ng cg] 26) → wpAnyH Try.prog .any rg_StepR9.1 Q (fun w' => w'.cell? ⟨bm, 0, none⟩ = some (.int .i64 lr) ∧ w'.cell? ⟨bm, 1, none⟩ = some (.int .i64 mu) ∧ w'.cell? ⟨bm, 2, none⟩ = some (.int .i64 wd) ∧ w'.cell? ⟨bm, 3, none⟩ = some (.bool ne) ∧ w'.cell? ⟨br, 0, none⟩ = some (.slice (some ⟨bw, ow, none⟩) nw cw) ∧ w'.cell? ⟨br, 1, none⟩ = some (.slice (some ⟨bm_, om, none⟩) nm cm) ∧ w'.cell? ⟨br, 3, none⟩ = some (.slice (some ⟨bg, og, none⟩) ng cg) ∧ w'.cell? ⟨bw, ow + i, none⟩ = some (.int .i64 x0) ∧ w'.cell? ⟨bm_, om + i, none⟩ = some (.int .i64 x1) ∧ w'.cell? ⟨bg, og + i, none⟩ = some (.int .i64 x2)) 4 #[true, true, true, true, true, true, true, true, true, true, true, true, true, true, true, true, true, true, true, true, true, true, false, false, false, false] { tmps := #[u0, .int .i64 j, u2, .pointer (some ⟨bm, 0, none⟩), u4, .pointer (some ⟨br, 0, none⟩), u6, u7, u8, .int .i64 (i : Int), u10, u11, u12, u13, u14, u15, u16, u17, u18, u19, u20, u21, u22, u23, u24, u25, u26, u27, u28, u29, u30, u31, u32, u33, u34, u35, u36, u37, u38, u39, u40, u41, .tuple #[.agg #[.int .i64 v, .bool vb], .agg #[.int .i64 y, .bool yb]], .agg #[.int .i64 lr, .int .i64 mu, .int .i64 wd, .bool ne], .int .i64 j, .pointer (some ⟨br, 0, none⟩), .slice (some ⟨bw, ow, none⟩) nw cw, .int .i64 (i : Int), .pointer (some ⟨bw, ow + i, none⟩), .int .i64 x0, .pointer (some ⟨br, 1, none⟩), .slice (some ⟨bm_, om, none⟩) nm cm, .int .i64 (i : Int), .pointer (some ⟨bm_, om + i, none⟩), .int .i64 x1, .pointer (some ⟨br, 3, none⟩), .slice (some ⟨bg, og, none⟩) ng cg, .int .i64 (i : Int), .pointer (some ⟨bg, og + i, none⟩), .int .i64 x2, .agg #[.int .i64 x0, .int .i64 x1, .int .i64 x2], .tuple #[.agg #[.int .i64 v, .bool vb], .agg #[.int .i64 y, .bool yb]], .agg #[.int .i64 v, .bool vb], .agg #[.int .i64 y, .bool yb], u64, u65, u66, u67, u68, u69, u70, u71, u72, u73, u74, u75, u76, u77, u78, u79, u80, u81, u82, u83, u84, u85, u86, u87], defers := [] } W := by
    intro W hb zbm zbr
    dsimp only [rg_StepR9]
    refine wpAnyH_ready (rs := [22, 23]) (by kernel_rfl) (by simp) ?_
    refine AllReadyH.cons rfl (fun K hK => ?_) (AllReadyH.cons rfl (fun K hK => ?_) (AllReadyH.nil))
    · (try simp only [pT])
      rw [if_pos (by rfl)]
      go_simp
      refine hK.out _ _ (HS _ (hb.alloc (Nat.le_trans hC hb.size) _) (((one_upD W _).block bm (Array.getElem?_eq_some_iff.1 zbm).1).trans zbm) (((one_upD W _).block br (Array.getElem?_eq_some_iff.1 zbr).1).trans zbr)) (fun hHeld => ?_)
      exact s_11000 (W.alloc (.cells #[.int .i64 0, .bool false] 58)) W.heap.size (hb.alloc (Nat.le_trans hC hb.size) _) (((one_upD W _).block bm (Array.getElem?_eq_some_iff.1 zbm).1).trans zbm) (((one_upD W _).block br (Array.getElem?_eq_some_iff.1 zbr).1).trans zbr) (World.alloc_heap_new W _) (Nat.le_trans hC hb.size) (Nat.ne_of_lt (Array.getElem?_eq_some_iff.1 zbm).1) (Nat.ne_of_lt (Array.getElem?_eq_some_iff.1 zbr).1)
    · (try simp only [pT])
      rw [if_pos (by rfl)]
      go_simp
      refine hK.out _ _ (HS _ (hb.alloc (Nat.le_trans hC hb.size) _) (((one_upD W _).block bm (Array.getElem?_eq_some_iff.1 zbm).1).trans zbm) (((one_upD W _).block br (Array.getElem?_eq_some_iff.1 zbr).1).trans zbr)) (fun hHeld => ?_)
      exact s_10100 (W.alloc (.cells #[.int .i64 0, .bool false] 58)) W.heap.size (hb.alloc (Nat.le_trans hC hb.size) _) (((one_upD W _).block bm (Array.getElem?_eq_some_iff.1 zbm).1).trans zbm) (((one_upD W _).block br (Array.getElem?_eq_some_iff.1 zbr).1).trans zbr) (World.alloc_heap_new W _) (Nat.le_trans hC hb.size) (Nat.ne_of_lt (Array.getElem?_eq_some_iff.1 zbm).1) (Nat.ne_of_lt (Array.getElem?_eq_some_iff.1 zbr).1)
  have s_01100 : ∀ (W : World) (gv gw : Nat), Below C V W → W.heap[bm]? = some (.cells #[.int .i64 lr, .int .i64 mu, .int .i64 wd, .bool ne] 23) → W.heap[br]? = some (.cells #[.slice (some ⟨bw, ow, none⟩) nw cw, .slice (some ⟨bm_, om, none⟩) nm cm, .slice Av nv cv, .slice (some ⟨bg, og, none⟩) ng cg] 26) → W.heap[gv]? = some (.cells #[.int .i64 0, .bool false] 58) → W.heap[gw]? = some (.cells #[.int .i64 0, .bool false] 58) → C ≤ gv → C ≤ gw → bm ≠ gv → br ≠ gv → bm ≠ gw → br ≠ gw → gv ≠ gw → wpAnyH Try.prog .any rg_StepR9.1 Q (fun w' => w'.cell? ⟨bm, 0, none⟩ = some (.int .i64 lr) ∧ w'.cell? ⟨bm, 1, none⟩ = some (.int .i64 mu) ∧ w'.cell? ⟨bm, 2, none⟩ = some (.int .i64 wd) ∧ w'.cell? ⟨bm, 3, none⟩ = some (.bool ne) ∧ w'.cell? ⟨br, 0, none⟩ = some (.slice (some ⟨bw, ow, none⟩) nw cw) ∧ w'.cell? ⟨br, 1, none⟩ = some (.slice (some ⟨bm_, om, none⟩) nm cm) ∧ w'.cell? ⟨br, 3, none⟩ = some (.slice (some ⟨bg, og, none⟩) ng cg) ∧ w'.cell? ⟨bw, ow + i, none⟩ = some (.int .i64 x0) ∧ w'.cell? ⟨bm_, om + i, none⟩ = some (.int .i64 x1) ∧ w'.cell? ⟨bg, og + i, none⟩ = some (.int .i64 x2)) 6 #[true, true, true, true, true, true, true, true, true, true, true, true, true, true, true, true, true, true, false, false, false, false, true, true, false, false] { tmps := #[u0, .int .i64 j, u2, .pointer (some ⟨bm, 0, none⟩), u4, .pointer (some ⟨br, 0, none⟩), u6, u7, u8, .int .i64 (i : Int), .pointer (some ⟨gv, 0, none⟩), .pointer (some ⟨gw, 0, none⟩), u12, u13, u14, u15, u16, u17, u18, u19, u20, u21, u22, u23, u24, u25, u26, u27, u28, u29, u30, u31, u32, u33, u34, u35, u36, u37, u38, u39, u40, u41, u42, .agg #[.int .i64 lr, .int .i64 mu, .int .i64 wd, .bool ne], .int .i64 j, .pointer (some ⟨br, 0, none⟩), .slice (some ⟨bw, ow, none⟩) nw cw, .int .i64 (i : Int), .pointer (some ⟨bw, ow + i, none⟩), .int .i64 x0, .pointer (some ⟨br, 1, none⟩), .slice (some ⟨bm_, om, none⟩) nm cm, .int .i64 (i : Int), .pointer (some ⟨bm_, om + i, none⟩), .int .i64 x1, .pointer (some ⟨br, 3, none⟩), .slice (some ⟨bg, og, none⟩) ng cg, .int .i64 (i : Int), .pointer (some ⟨bg, og + i, none⟩), .int .i64 x2, .agg #[.int .i64 x0, .int .i64 x1, .int .i64 x2], u61, u62, u63, u64, u65, u66, u67, u68, u69, u70, u71, u72, u73, u74, u75, u76, u77, u78, u79, u80, u81, u82, u83, u84, u85, u86, u87], defers := [] } W := by
    intro W gv gw hb zbm zbr zgv zgw mgv mgw dbm_gv dbr_gv dbm_gw dbr_gw dgv_gw
    dsimp only [rg_StepR9]
    refine wpAnyH_ready (rs := [18]) (by kernel_rfl) (by simp) ?_
    refine AllReadyH.cons rfl (fun K hK => ?_) (AllReadyH.nil)
    · (try simp only [pT])
      rw [if_pos (by rfl)]
      go_simp
      go_at_call 25
      refine (CS _).mono ?_
      rintro e W2 ⟨rfl, b_⟩
      refine hK.out _ _ (HS _ (hb.trans (b_.mono (Nat.le_trans hC hb.size))) ((b_.block bm (Array.getElem?_eq_some_iff.1 zbm).1).trans zbm) ((b_.block br (Array.getElem?_eq_some_iff.1 zbr).1).trans zbr)) (fun hHeld => ?_)
      clear hK K
      try simp only [Act.put, pT]
      refine wpAnyH_take (i := 19) (v := ?_) rfl (by kernel_rfl) (by kernel_rfl) (by kernel_rfl) (fun _ _ _ h => hP _ _ _ _ _ h) (Or.inl ⟨by rfl, ?_⟩) hHeld ?_
      rotate_left
      · (intro w hSw; (try dsimp only at hSw); go_simp; (try with_reducible rfl))
      try simp only [Act.put, pT]
      refine wpAnyH_take (i := 20) (v := ?_) rfl (by kernel_rfl) (by kernel_rfl) (by kernel_rfl) (fun _ _ _ h => hP _ _ _ _ _ h) (Or.inl ⟨by rfl, ?_⟩) hHeld ?_
      rotate_left
      · (intro w hSw; (try dsimp only at hSw); go_simp; (try with_reducible rfl))
      try simp only [Act.put, pT]
      refine wpAnyH_take (i := 21) (v := ?_) rfl (by kernel_rfl) (by kernel_rfl) (by kernel_rfl) (fun _ _ _ h => hP _ _ _ _ _ h) (Or.inl ⟨by rfl, ?_⟩) hHeld ?_
      rotate_left
      · (intro w hSw; (try dsimp only at hSw); go_simp; (try with_reducible rfl))
      try simp only [Act.put, pT]
      exact s_11100 W2 gv gw (hb.trans (b_.mono (Nat.le_trans hC hb.size))) ((b_.block bm (Array.getElem?_eq_some_iff.1 zbm).1).trans zbm) ((b_.block br (Array.getElem?_eq_some_iff.1 zbr).1).trans zbr) ((b_.block gv (Array.getElem?_eq_some_iff.1 zgv).1).trans zgv) ((b_.block gw (Array.getElem?_eq_some_iff.1 zgw).1).trans zgw) mgv mgw dbm_gv dbr_gv dbm_gw dbr_gw dgv_gw
  have s_00100 : ∀ (W : World) (gw : Nat), Below C V W → W.heap[bm]? = some (.cells #[.int .i64 lr, .int .i64 mu, .int .i64 wd, .bool ne] 23) → W.heap[br]? = some (.cells #[.slice (some ⟨bw, ow, none⟩) nw cw, .slice (some ⟨bm_, om, none⟩) nm cm, .slice Av nv cv, .slice (some ⟨bg, og, none⟩) ng cg] 26) → W.heap[gw]? = some (.cells #[.int .i64 0, .bool false] 58) → C ≤ gw → bm ≠ gw → br ≠ gw → wpAnyH Try.prog .any rg_StepR9.1 Q (fun w' => w'.cell? ⟨bm, 0, none⟩ = some (.int .i64 lr) ∧ w'.cell? ⟨bm, 1, none⟩ = some (.int .i64 mu) ∧ w'.cell? ⟨bm, 2, none⟩ = some (.int .i64 wd) ∧ w'.cell? ⟨bm, 3, none⟩ = some (.bool ne) ∧ w'.cell? ⟨br, 0, none⟩ = some (.slice (some ⟨bw, ow, none⟩) nw cw) ∧ w'.cell? ⟨br, 1, none⟩ = some (.slice (some ⟨bm_, om, none⟩) nm cm) ∧ w'.cell? ⟨br, 3, none⟩ = some (.slice (some ⟨bg, og, none⟩) ng cg) ∧ w'.cell? ⟨bw, ow + i, none⟩ = some (.int .i64 x0) ∧ w'.cell? ⟨bm_, om + i, none⟩ = some (.int .i64 x1) ∧ w'.cell? ⟨bg, og + i, none⟩ = some (.int .i64 x2)) 7 #[true, true, true, true, true, true, true, true, true, true, true, true, true, true, true, true, true, true, false, false, false, false, false, true, false, false] { tmps := #[u0, .int .i64 j, u2, .pointer (some ⟨bm, 0, none⟩), u4, .pointer (some ⟨br, 0, none⟩), u6, u7, u8, .int .i64 (i : Int), u10, .pointer (some ⟨gw, 0, none⟩), u12, u13, u14, u15, u16, u17, u18, u19, u20, u21, u22, u23, u24, u25, u26, u27, u28, u29, u30, u31, u32, u33, u34, u35, u36, u37, u38, u39, u40, u41, u42, .agg #[.int .i64 lr, .int .i64 mu, .int .i64 wd, .bool ne], .int .i64 j, .pointer (some ⟨br, 0, none⟩), .slice (some ⟨bw, ow, none⟩) nw cw, .int .i64 (i : Int), .pointer (some ⟨bw, ow + i, none⟩), .int .i64 x0, .pointer (some ⟨br, 1, none⟩), .slice (some ⟨bm_, om, none⟩) nm cm, .int .i64 (i : Int), .pointer (some ⟨bm_, om + i, none⟩), .int .i64 x1, .pointer (some ⟨br, 3, none⟩), .slice (some ⟨bg, og, none⟩) ng cg, .int .i64 (i : Int), .pointer (some ⟨bg, og + i, none⟩), .int .i64 x2, .agg #[.int .i64 x0, .int .i64 x1, .int .i64 x2], u61, u62, u63, u64, u65, u66, u67, u68, u69, u70, u71, u72, u73, u74, u75, u76, u77, u78, u79, u80, u81, u82, u83, u84, u85, u86, u87], defers := [] } W := by
    intro W gw hb zbm zbr zgw mgw dbm_gw dbr_gw
    dsimp only [rg_StepR9]
    refine wpAnyH_ready (rs := [18, 22]) (by kernel_rfl) (by simp) ?_
    refine AllReadyH.cons rfl (fun K hK => ?_) (AllReadyH.cons rfl (fun K hK => ?_) (AllReadyH.nil))
    · (try simp only [pT])
      rw [if_pos (by rfl)]
      go_simp
      go_at_call 25
      refine (CS _).mono ?_
      rintro e W2 ⟨rfl, b_⟩
      refine hK.out _ _ (HS _ (hb.trans (b_.mono (Nat.le_trans hC hb.size))) ((b_.block bm (Array.getElem?_eq_some_iff.1 zbm).1).trans zbm) ((b_.block br (Array.getElem?_eq_some_iff.1 zbr).1).trans zbr)) (fun hHeld => ?_)
      clear hK K
      try simp only [Act.put, pT]
      refine wpAnyH_take (i := 19) (v := ?_) rfl (by kernel_rfl) (by kernel_rfl) (by kernel_rfl) (fun _ _ _ h => hP _ _ _ _ _ h) (Or.inl ⟨by rfl, ?_⟩) hHeld ?_
      rotate_left
      · (intro w hSw; (try dsimp only at hSw); go_simp; (try with_reducible rfl))
      try simp only [Act.put, pT]
      refine wpAnyH_take (i := 20) (v := ?_) rfl (by kernel_rfl) (by kernel_rfl) (by kernel_rfl) (fun _ _ _ h => hP _ _ _ _ _ h) (Or.inl ⟨by rfl, ?_⟩) hHeld ?_
      rotate_left
      · (intro w hSw; (try dsimp only at hSw); go_simp; (try with_reducible rfl))
      try simp only [Act.put, pT]
      refine wpAnyH_take (i := 21) (v := ?_) rfl (by kernel_rfl) (by kernel_rfl) (by kernel_rfl) (fun _ _ _ h => hP _ _ _ _ _ h) (Or.inl ⟨by rfl, ?_⟩) hHeld ?_
      rotate_left
      · (intro w hSw; (try dsimp only at hSw); go_simp; (try with_reducible rfl))
      try simp only [Act.put, pT]
      exact s_10100 W2 gw (hb.trans (b_.mono (Nat.le_trans hC hb.size))) ((b_.block bm (Array.getElem?_eq_some_iff.1 zbm).1).trans zbm) ((b_.block br (Array.getElem?_eq_some_iff.1 zbr).1).trans zbr) ((b_.block gw (Array.getElem?_eq_some_iff.1 zgw).1).trans zgw) mgw dbm_gw dbr_gw
    · (try simp only [pT])
      rw [if_pos (by rfl)]
      go_simp
      refine hK.out _ _ (HS _ (hb.alloc (Nat.le_trans hC hb.size) _) (((one_upD W _).block bm (Array.getElem?_eq_some_iff.1 zbm).1).trans zbm) (((one_upD W _).block br (Array.getElem?_eq_some_iff.1 zbr).1).trans zbr)) (fun hHeld => ?_)
      exact s_01100 (W.alloc (.cells #[.int .i64 0, .bool false] 58)) W.heap.size gw (hb.alloc (Nat.le_trans hC hb.size) _) (((one_upD W _).block bm (Array.getElem?_eq_some_iff.1 zbm).1).trans zbm) (((one_upD W _).block br (Array.getElem?_eq_some_iff.1 zbr).1).trans zbr) (World.alloc_heap_new W _) (((one_upD W _).block gw (Array.getElem?_eq_some_iff.1 zgw).1).trans zgw) (Nat.le_trans hC hb.size) mgw (Nat.ne_of_lt (Array.getElem?_eq_some_iff.1 zbm).1) (Nat.ne_of_lt (Array.getElem?_eq_some_iff.1 zbr).1) dbm_gw dbr_gw (Nat.ne_of_gt (Array.getElem?_eq_some_iff.1 zgw).1)
  have s_01000 : ∀ (W : World) (gv : Nat), Below C V W → W.heap[bm]? = some (.cells #[.int .i64 lr, .int .i64 mu, .int .i64 wd, .bool ne] 23) → W.heap[br]? = some (.cells #[.slice (some ⟨bw, ow, none⟩) nw cw, .slice (some ⟨bm_, om, none⟩) nm cm, .slice Av nv cv, .slice (some ⟨bg, og, none⟩) ng cg] 26) → W.heap[gv]? = some (.cells #[.int .i64 0, .bool false] 58) → C ≤ gv → bm ≠ gv → br ≠ gv → wpAnyH Try.prog .any rg_StepR9.1 Q (fun w' => w'.cell? ⟨bm, 0, none⟩ = some (.int .i64 lr) ∧ w'.cell? ⟨bm, 1, none⟩ = some (.int .i64 mu) ∧ w'.cell? ⟨bm, 2, none⟩ = some (.int .i64 wd) ∧ w'.cell? ⟨bm, 3, none⟩ = some (.bool ne) ∧ w'.cell? ⟨br, 0, none⟩ = some (.slice (some ⟨bw, ow, none⟩) nw cw) ∧ w'.cell? ⟨br, 1, none⟩ = some (.slice (some ⟨bm_, om, none⟩) nm cm) ∧ w'.cell? ⟨br, 3, none⟩ = some (.slice (some ⟨bg, og, none⟩) ng cg) ∧ w'.cell? ⟨bw, ow + i, none⟩ = some (.int .i64 x0) ∧ w'.cell? ⟨bm_, om + i, none⟩ = some (.int .i64 x1) ∧ w'.cell? ⟨bg, og + i, none⟩ = some (.int .i64 x2)) 7 #[true, true, true, true, true, true, true, true, true, true, true, true, true, true, true, true, true, true, false, false, false, false, true, false, false, false] { tmps := #[u0, .int .i64 j, u2, .pointer (some ⟨bm, 0, none⟩), u4, .pointer (some ⟨br, 0, none⟩), u6, u7, u8, .int .i64 (i : Int), .pointer (some ⟨gv, 0, none⟩), u11, u12, u13, u14, u15, u16, u17, u18, u19, u20, u21, u22, u23, u24, u25, u26, u27, u28, u29, u30, u31, u32, u33, u34, u35, u36, u37, u38, u39, u40, u41, u42, .agg #[.int .i64 lr, .int .i64 mu, .int .i64 wd, .bool ne], .int .i64 j, .pointer (some ⟨br, 0, none⟩), .slice (some ⟨bw, ow, none⟩) nw cw, .int .i64 (i : Int), .pointer (some ⟨bw, ow + i, none⟩), .int .i64 x0, .pointer (some ⟨br, 1, none⟩), .slice (some ⟨bm_, om, none⟩) nm cm, .int .i64 (i : Int), .pointer (some ⟨bm_, om + i, none⟩), .int .i64 x1, .pointer (some ⟨br, 3, none⟩), .slice (some ⟨bg, og, none⟩) ng cg, .int .i64 (i : Int), .pointer (some ⟨bg, og + i, none⟩), .int .i64 x2, .agg #[.int .i64 x0, .int .i64 x1, .int .i64 x2], u61, u62, u63, u64, u65, u66, u67, u68, u69, u70, u71, u72, u73, u74, u75, u76, u77, u78, u79, u80, u81, u82, u83, u84, u85, u86, u87], defers := [] } W := by
    intro W gv hb zbm zbr zgv mgv dbm_gv dbr_gv
    dsimp only [rg_StepR9]
    refine wpAnyH_ready (rs := [18, 23]) (by kernel_rfl) (by simp) ?_
    refine AllReadyH.cons rfl (fun K hK => ?_) (AllReadyH.cons rfl (fun K hK => ?_) (AllReadyH.nil))
    · (try simp only [pT])
      rw [if_pos (by rfl)]
      go_simp
      go_at_call 25
      refine (CS _).mono ?_
      rintro e W2 ⟨rfl, b_⟩
      refine hK.out _ _ (HS _ (hb.trans (b_.mono (Nat.le_trans hC hb.size))) ((b_.block bm (Array.getElem?_eq_some_iff.1 zbm).1).trans zbm) ((b_.block br (Array.getElem?_eq_some_iff.1 zbr).1).trans zbr)) (fun hHeld => ?_)
      clear hK K
      try simp only [Act.put, pT]
      refine wpAnyH_take (i := 19) (v := ?_) rfl (by kernel_rfl) (by kernel_rfl) (by kernel_rfl) (fun _ _ _ h => hP _ _ _ _ _ h) (Or.inl ⟨by rfl, ?_⟩) hHeld ?_
      rotate_left
      · (intro w hSw; (try dsimp only at hSw); go_simp; (try with_reducible rfl))
      try simp only [Act.put, pT]
      refine wpAnyH_take (i := 20) (v := ?_) rfl (by kernel_rfl) (by kernel_rfl) (by kernel_rfl) (fun _ _ _ h => hP _ _ _ _ _ h) (Or.inl ⟨by rfl, ?_⟩) hHeld ?_
      rotate_left
      · (intro w hSw; (try dsimp only at hSw); go_simp; (try with_reducible rfl))
      try simp only [Act.put, pT]
      refine wpAnyH_take (i := 21) (v := ?_) rfl (by kernel_rfl) (by kernel_rfl) (by kernel_rfl) (fun _ _ _ h => hP _ _ _ _ _ h) (Or.inl ⟨by rfl, ?_⟩) hHeld ?_
      rotate_left
      · (intro w hSw; (try dsimp only at hSw); go_simp; (try with_reducible rfl))
      try simp only [Act.put, pT]
      exact s_11000 W2 gv (hb.trans (b_.mono (Nat.le_trans hC hb.size))) ((b_.block bm (Array.getElem?_eq_some_iff.1 zbm).1).trans zbm) ((b_.block br (Array.getElem?_eq_some_iff.1 zbr).1).trans zbr) ((b_.block gv (Array.getElem?_eq_some_iff.1 zgv).1).trans zgv) mgv dbm_gv dbr_gv
    · (try simp only [pT])
      rw [if_pos (by rfl)]
      go_simp
      refine hK.out _ _ (HS _ (hb.alloc (Nat.le_trans hC hb.size) _) (((one_upD W _).block bm (Array.getElem?_eq_some_iff.1 zbm).1).trans zbm) (((one_upD W _).block br (Array.getElem?_eq_some_iff.1 zbr).1).trans zbr)) (fun hHeld => ?_)
      exact s_01100 (W.alloc (.cells #[.int .i64 0, .bool false] 58)) gv W.heap.size (hb.alloc (Nat.le_trans hC hb.size) _) (((one_upD W _).block bm (Array.getElem?_eq_some_iff.1 zbm).1).trans zbm) (((one_upD W _).block br (Array.getElem?_eq_some_iff.1 zbr).1).trans zbr) (((one_upD W _).block gv (Array.getElem?_eq_some_iff.1 zgv).1).trans zgv) (World.alloc_heap_new W _) mgv (Nat.le_trans hC hb.size) dbm_gv dbr_gv (Nat.ne_of_lt (Array.getElem?_eq_some_iff.1 zbm).1) (Nat.ne_of_lt (Array.getElem?_eq_some_iff.1 zbr).1) (Nat.ne_of_lt (Array.getElem?_eq_some_iff.1 zgv).1)
  have s_00000 : ∀ (W : World), Below C V W → W.heap[bm]? = some (.cells #[.int .i64 lr, .int .i64 mu, .int .i64 wd, .bool ne] 23) → W.heap[br]? = some (.cells #[.slice (some ⟨bw, ow, none⟩) nw cw, .slice (some ⟨bm_, om, none⟩) nm cm, .slice Av nv cv, .slice (some ⟨bg, og, none⟩) ng cg] 26) → wpAnyH Try.prog .any rg_StepR9.1 Q (fun w' => w'.cell? ⟨bm, 0, none⟩ = some (.int .i64 lr) ∧ w'.cell? ⟨bm, 1, none⟩ = some (.int .i64 mu) ∧ w'.cell? ⟨bm, 2, none⟩ = some (.int .i64 wd) ∧ w'.cell? ⟨bm, 3, none⟩ = some (.bool ne) ∧ w'.cell? ⟨br, 0, none⟩ = some (.slice (some ⟨bw, ow, none⟩) nw cw) ∧ w'.cell? ⟨br, 1, none⟩ = some (.slice (some ⟨bm_, om, none⟩) nm cm) ∧ w'.cell? ⟨br, 3, none⟩ = some (.slice (some ⟨bg, og, none⟩) ng cg) ∧ w'.cell? ⟨bw, ow + i, none⟩ = some (.int .i64 x0) ∧ w'.cell? ⟨bm_, om + i, none⟩ = some (.int .i64 x1) ∧ w'.cell? ⟨bg, og + i, none⟩ = some (.int .i64 x2)) 8 #[true, true, true, true, true, true, true, true, true, true, true, true, true, true, true, true, true, true, false, false, false, false, false, false, false, false] { tmps := #[u0, .int .i64 j, u2, .pointer (some ⟨bm, 0, none⟩), u4, .pointer (some ⟨br, 0, none⟩), u6, u7, u8, .int .i64 (i : Int), u10, u11, u12, u13, u14, u15, u16, u17, u18, u19, u20, u21, u22, u23, u24, u25, u26, u27, u28, u29, u30, u31, u32, u33, u34, u35, u36, u37, u38, u39, u40, u41, u42, .agg #[.int .i64 lr, .int .i64 mu, .int .i64 wd, .bool ne], .int .i64 j, .pointer (some ⟨br, 0, none⟩), .slice (some ⟨bw, ow, none⟩) nw cw, .int .i64 (i : Int), .pointer (some ⟨bw, ow + i, none⟩), .int .i64 x0, .pointer (some ⟨br, 1, none⟩), .slice (some ⟨bm_, om, none⟩) nm cm, .int .i64 (i : Int), .pointer (some ⟨bm_, om + i, none⟩), .int .i64 x1, .pointer (some ⟨br, 3, none⟩), .slice (some ⟨bg, og, none⟩) ng cg, .int .i64 (i : Int), .pointer (some ⟨bg, og + i, none⟩), .int .i64 x2, .agg #[.int .i64 x0, .int .i64 x1, .int .i64 x2], u61, u62, u63, u64, u65, u66, u67, u68, u69, u70, u71, u72, u73, u74, u75, u76, u77, u78, u79, u80, u81, u82, u83, u84, u85, u86, u87], defers := [] } W := by
    intro W hb zbm zbr
    dsimp only [rg_StepR9]
    refine wpAnyH_ready (rs := [18, 22, 23]) (by kernel_rfl) (by simp) ?_
    refine AllReadyH.cons rfl (fun K hK => ?_) (AllReadyH.cons rfl (fun K hK => ?_) (AllReadyH.cons rfl (fun K hK => ?_) (AllReadyH.nil)))
    · (try simp only [pT])
      rw [if_pos (by rfl)]
      go_simp
      go_at_call 25
      refine (CS _).mono ?_
      rintro e W2 ⟨rfl, b_⟩
      refine hK.out _ _ (HS _ (hb.trans (b_.mono (Nat.le_trans hC hb.size))) ((b_.block bm (Array.getElem?_eq_some_iff.1 zbm).1).trans zbm) ((b_.block br (Array.getElem?_eq_some_iff.1 zbr).1).trans zbr)) (fun hHeld => ?_)
      clear hK K
      try simp only [Act.put, pT]
      refine wpAnyH_take (i := 19) (v := ?_) rfl (by kernel_rfl) (by kernel_rfl) (by kernel_rfl) (fun _ _ _ h => hP _ _ _ _ _ h) (Or.inl ⟨by rfl, ?_⟩) hHeld ?_
      rotate_left
      · (intro w hSw; (try dsimp only at hSw); go_simp; (try with_reducible rfl))
      try simp only [Act.put, pT]
      refine wpAnyH_take (i := 20) (v := ?_) rfl (by kernel_rfl) (by kernel_rfl) (by kernel_rfl) (fun _ _ _ h => hP _ _ _ _ _ h) (Or.inl ⟨by rfl, ?_⟩) hHeld ?_
      rotate_left
      · (intro w hSw; (try dsimp only at hSw); go_simp; (try with_reducible rfl))
      try simp only [Act.put, pT]
      refine wpAnyH_take (i := 21) (v := ?_) rfl (by kernel_rfl) (by kernel_rfl) (by kernel_rfl) (fun _ _ _ h => hP _ _ _ _ _ h) (Or.inl ⟨by rfl, ?_⟩) hHeld ?_
      rotate_left
      · (intro w hSw; (try dsimp only at hSw); go_simp; (try with_reducible rfl))
      try simp only [Act.put, pT]
      exact s_10000 W2 (hb.trans (b_.mono (Nat.le_trans hC hb.size))) ((b_.block bm (Array.getElem?_eq_some_iff.1 zbm).1).trans zbm) ((b_.block br (Array.getElem?_eq_some_iff.1 zbr).1).trans zbr)
    · (try simp only [pT])
      rw [if_pos (by rfl)]
      go_simp
      refine hK.out _ _ (HS _ (hb.alloc (Nat.le_trans hC hb.size) _) (((one_upD W _).block bm (Array.getElem?_eq_some_iff.1 zbm).1).trans zbm) (((one_upD W _).block br (Array.getElem?_eq_some_iff.1 zbr).1).trans zbr)) (fun hHeld => ?_)
      exact s_01000 (W.alloc (.cells #[.int .i64 0, .bool false] 58)) W.heap.size (hb.alloc (Nat.le_trans hC hb.size) _) (((one_upD W _).block bm (Array.getElem?_eq_some_iff.1 zbm).1).trans zbm) (((one_upD W _).block br (Array.getElem?_eq_some_iff.1 zbr).1).trans zbr) (World.alloc_heap_new W _) (Nat.le_trans hC hb.size) (Nat.ne_of_lt (Array.getElem?_eq_some_iff.1 zbm).1) (Nat.ne_of_lt (Array.getElem?_eq_some_iff.1 zbr).1)
    · (try simp only [pT])
      rw [if_pos (by rfl)]
      go_simp
      refine hK.out _ _ (HS _ (hb.alloc (Nat.le_trans hC hb.size) _) (((one_upD W _).block bm (Array.getElem?_eq_some_iff.1 zbm).1).trans zbm) (((one_upD W _).block br (Array.getElem?_eq_some_iff.1 zbr).1).trans zbr)) (fun hHeld => ?_)
      exact s_00100 (W.alloc (.cells #[.int .i64 0, .bool false] 58)) W.heap.size (hb.alloc (Nat.le_trans hC hb.size) _) (((one_upD W _).block bm (Array.getElem?_eq_some_iff.1 zbm).1).trans zbm) (((one_upD W _).block br (Array.getElem?_eq_some_iff.1 zbr).1).trans zbr) (World.alloc_heap_new W _) (Nat.le_trans hC hb.size) (Nat.ne_of_lt (Array.getElem?_eq_some_iff.1 zbm).1) (Nat.ne_of_lt (Array.getElem?_eq_some_iff.1 zbr).1)
  refine wp_region_n (S := fun w' => w'.cell? ⟨bm, 0, none⟩ = some (.int .i64 lr) ∧ w'.cell? ⟨bm, 1, none⟩ = some (.int .i64 mu) ∧ w'.cell? ⟨bm, 2, none⟩ = some (.int .i64 wd) ∧ w'.cell? ⟨bm, 3, none⟩ = some (.bool ne) ∧ w'.cell? ⟨br, 0, none⟩ = some (.slice (some ⟨bw, ow, none⟩) nw cw) ∧ w'.cell? ⟨br, 1, none⟩ = some (.slice (some ⟨bm_, om, none⟩) nm cm) ∧ w'.cell? ⟨br, 3, none⟩ = some (.slice (some ⟨bg, og, none⟩) ng cg) ∧ w'.cell? ⟨bw, ow + i, none⟩ = some (.int .i64 x0) ∧ w'.cell? ⟨bm_, om + i, none⟩ = some (.int .i64 x1) ∧ w'.cell? ⟨bg, og + i, none⟩ = some (.int .i64 x2)) (n := 26) (by kernel_rfl) (by kernel_rfl) (HS _ (below_drewN (Below.refl C V) 1) zbm zbr) (fun hHeld => ?_)
  dsimp only [rg_StepR9]
  refine wpAnyH_take (i := 0) (v := ?_) rfl (by kernel_rfl) (by kernel_rfl) (by kernel_rfl) (fun _ _ _ h => hP _ _ _ _ _ h) (Or.inl ⟨by rfl, ?_⟩) hHeld ?_
  rotate_left
  · (intro w hSw; (try dsimp only at hSw); go_simp; (try with_reducible rfl))
  try simp only [Act.put, pT]
  refine wpAnyH_take (i := 1) (v := ?_) rfl (by kernel_rfl) (by kernel_rfl) (by kernel_rfl) (fun _ _ _ h => hP _ _ _ _ _ h) (Or.inl ⟨by rfl, ?_⟩) hHeld ?_
  rotate_left
  · (intro w hSw; (try dsimp only at hSw); go_simp; (try with_reducible rfl))
  try simp only [Act.put, pT]
  refine wpAnyH_take (i := 2) (v := ?_) rfl (by kernel_rfl) (by kernel_rfl) (by kernel_rfl) (fun _ _ _ h => hP _ _ _ _ _ h) (Or.inl ⟨by rfl, ?_⟩) hHeld ?_
  rotate_left
  · (intro w hSw; (try dsimp only at hSw); go_simp; (try with_reducible rfl))
  try simp only [Act.put, pT]
  refine wpAnyH_take (i := 3) (v := ?_) rfl (by kernel_rfl) (by kernel_rfl) (by kernel_rfl) (fun _ _ _ h => hP _ _ _ _ _ h) (Or.inl ⟨by rfl, ?_⟩) hHeld ?_
  rotate_left
  · (intro w hSw; (try dsimp only at hSw); go_simp; (try with_reducible rfl))
  try simp only [Act.put, pT]
  refine wpAnyH_take (i := 4) (v := ?_) rfl (by kernel_rfl) (by kernel_rfl) (by kernel_rfl) (fun _ _ _ h => hP _ _ _ _ _ h) (Or.inl ⟨by rfl, ?_⟩) hHeld ?_
  rotate_left
  · (intro w hSw; (try dsimp only at hSw); go_simp; (try with_reducible rfl))
  try simp only [Act.put, pT]
  refine wpAnyH_take (i := 5) (v := ?_) rfl (by kernel_rfl) (by kernel_rfl) (by kernel_rfl) (fun _ _ _ h => hP _ _ _ _ _ h) (Or.inl ⟨by rfl, ?_⟩) hHeld ?_
  rotate_left
  · (intro w hSw; (try dsimp only at hSw); go_simp; (try with_reducible rfl))
  try simp only [Act.put, pT]
  refine wpAnyH_take (i := 6) (v := ?_) rfl (by kernel_rfl) (by kernel_rfl) (by kernel_rfl) (fun _ _ _ h => hP _ _ _ _ _ h) (Or.inl ⟨by rfl, ?_⟩) hHeld ?_
  rotate_left
  · (intro w hSw; (try dsimp only at hSw); go_simp; (try with_reducible rfl))
  try simp only [Act.put, pT]
  refine wpAnyH_take (i := 7) (v := ?_) rfl (by kernel_rfl) (by kernel_rfl) (by kernel_rfl) (fun _ _ _ h => hP _ _ _ _ _ h) (Or.inl ⟨by rfl, ?_⟩) hHeld ?_
  rotate_left
  · (intro w hSw; (try dsimp only at hSw); go_simp; (try with_reducible rfl))
  try simp only [Act.put, pT]
  refine wpAnyH_take (i := 8) (v := ?_) rfl (by kernel_rfl) (by kernel_rfl) (by kernel_rfl) (fun _ _ _ h => hP _ _ _ _ _ h) (Or.inl ⟨by rfl, ?_⟩) hHeld ?_
  rotate_left
  · (intro w hSw; (try dsimp only at hSw); go_simp; (try with_reducible rfl))
  try simp only [Act.put, pT]
  refine wpAnyH_take (i := 9) (v := ?_) rfl (by kernel_rfl) (by kernel_rfl) (by kernel_rfl) (fun _ _ _ h => hP _ _ _ _ _ h) (Or.inl ⟨by rfl, ?_⟩) hHeld ?_
  rotate_left
  · (intro w hSw; (try dsimp only at hSw); go_simp; (try with_reducible rfl))
  try simp only [Act.put, pT]
  refine wpAnyH_take (i := 10) (v := ?_) rfl (by kernel_rfl) (by kernel_rfl) (by kernel_rfl) (fun _ _ _ h => hP _ _ _ _ _ h) (Or.inl ⟨by rfl, ?_⟩) hHeld ?_
  rotate_left
  · (intro w hSw; (try dsimp only at hSw); go_simp; (try with_reducible rfl))
  try simp only [Act.put, pT]
  refine wpAnyH_take (i := 11) (v := ?_) rfl (by kernel_rfl) (by kernel_rfl) (by kernel_rfl) (fun _ _ _ h => hP _ _ _ _ _ h) (Or.inl ⟨by rfl, ?_⟩) hHeld ?_
  rotate_left
  · (intro w hSw; (try dsimp only at hSw); go_simp; (try with_reducible rfl))
  try simp only [Act.put, pT]
  refine wpAnyH_take (i := 12) (v := ?_) rfl (by kernel_rfl) (by kernel_rfl) (by kernel_rfl) (fun _ _ _ h => hP _ _ _ _ _ h) (Or.inl ⟨by rfl, ?_⟩) hHeld ?_
  rotate_left
  · (intro w hSw; (try dsimp only at hSw); go_simp; (try with_reducible rfl))
  try simp only [Act.put, pT]
  refine wpAnyH_take (i := 13) (v := ?_) rfl (by kernel_rfl) (by kernel_rfl) (by kernel_rfl) (fun _ _ _ h => hP _ _ _ _ _ h) (Or.inl ⟨by rfl, ?_⟩) hHeld ?_
  rotate_left
  · (intro w hSw; (try dsimp only at hSw); go_simp; (try with_reducible rfl))
  try simp only [Act.put, pT]
  refine wpAnyH_take (i := 14) (v := ?_) rfl (by kernel_rfl) (by kernel_rfl) (by kernel_rfl) (fun _ _ _ h => hP _ _ _ _ _ h) (Or.inl ⟨by rfl, ?_⟩) hHeld ?_
  rotate_left
  · (intro w hSw; (try dsimp only at hSw); go_simp; (try with_reducible rfl))
  try simp only [Act.put, pT]
  refine wpAnyH_take (i := 15) (v := ?_) rfl (by kernel_rfl) (by kernel_rfl) (by kernel_rfl) (fun _ _ _ h => hP _ _ _ _ _ h) (Or.inl ⟨by rfl, ?_⟩) hHeld ?_
  rotate_left
  · (intro w hSw; (try dsimp only at hSw); go_simp; (try with_reducible rfl))
  try simp only [Act.put, pT]
  refine wpAnyH_take (i := 16) (v := ?_) rfl (by kernel_rfl) (by kernel_rfl) (by kernel_rfl) (fun _ _ _ h => hP _ _ _ _ _ h) (Or.inl ⟨by rfl, ?_⟩) hHeld ?_
  rotate_left
  · (intro w hSw; (try dsimp only at hSw); go_simp; (try with_reducible rfl))
  try simp only [Act.put, pT]
  refine wpAnyH_take (i := 17) (v := ?_) rfl (by kernel_rfl) (by kernel_rfl) (by kernel_rfl) (fun _ _ _ h => hP _ _ _ _ _ h) (Or.inl ⟨by rfl, ?_⟩) hHeld ?_
  rotate_left
  · (intro w hSw; (try dsimp only at hSw); go_simp; (try with_reducible rfl))
  try simp only [Act.put, pT]
  exact s_00000 _ (below_drewN (Below.refl C V) 1) zbm zbr

end Go.Proofs.Ytckdbcngnghhiaa
