/-
  The region of MomApart that builds all rows.
-/
import Derived.Test.YtckdbcngnghhiaaAP17
import Derived.Test.YtckdbcngnghhiaaA5
namespace Go.Proofs.Ytckdbcngnghhiaa
set_option maxRecDepth 100000
open Go.RowKit
set_option linter.unusedVariables false
set_option linter.unusedSimpArgs false

def rg_ApR3 : { o : Array Oper // regOf 3 Try.f5 = o } := ⟨_, by
  simp only [regOf, regIn, Try.f5, reduceIte, Nat.reduceEqDiff, Option.or, Option.getD, Nat.one_ne_zero, Nat.zero_ne_one]
  rfl⟩
set_option maxHeartbeats 8000000 in
theorem ApR3 {V : World} {Q : Exit → Act → World → Prop} {u0 u1 u2 u3 u5 u6 u7 u8 u9 u10 u11 u12 u13 u14 u15 u16 u17 u18 u19 u20 u21 u22 u23 u24 u25 u26 u27 u28 u29 u30 u31 u32 u33 u34 u35 u36 u37 u38 u39 u40 u41 u42 u43 u44 u45 u46 u47 u48 u49 u50 u51 u52 u53 u54 u55 u56 u57 u58 u59 u60 u61 u62 u63 u64 u65 u66 u67 u68 u69 u70 u71 u72 u73 u74 u75 u76 u77 u78 u79 u80 u81 u82 u83 u84 u85 u86 u87 u88 u89 u90 u91 u92 u93 u94 u95 u96 u97 u98 u99 u100 u101 u102 u103 u104 u105 u106 u107 u108 u109 u110 u111 u112 u113 u114 u115 u116 u117 u118 u119 u120 u121 u122 : Value} {bl : Nat} {Aw0 : Option Addr} {nw0 cw0 : Nat} {Lw0 : List Int} {Am0 : Option Addr} {nm0 cm0 : Nat} {Lm0 : List Int} {Av0 : Option Addr} {nv0 cv0 : Nat} {Lv0 : List Int} {Ag0 : Option Addr} {ng0 cg0 : Nat} {Lg0 : List Int} {Aw1 : Option Addr} {nw1 cw1 : Nat} {Lw1 : List Int} {Am1 : Option Addr} {nm1 cm1 : Nat} {Lm1 : List Int} {Av1 : Option Addr} {nv1 cv1 : Nat} {Lv1 : List Int} {Ag1 : Option Addr} {ng1 cg1 : Nat} {Lg1 : List Int} (hP : ∀ c (a : Act) (d : Option Tmp) (v : Value) (w : World), Q (.panic c) (a.put d v) w → Q (.panic c) a w) (zl : V.heap[bl]? = some (.cells #[.slice Aw0 nw0 cw0, .slice Am0 nm0 cm0, .slice Av0 nv0 cv0, .slice Ag0 ng0 cg0, .slice Aw1 nw1 cw1, .slice Am1 nm1 cm1, .slice Av1 nv1 cv1, .slice Ag1 ng1 cg1] 46)) (hw0 : IR V Aw0 nw0 cw0 Lw0) (kw0 : nw0 ≤ 18) (hm0 : IR V Am0 nm0 cm0 Lm0) (km0 : nm0 ≤ 18) (hg0 : IR V Ag0 ng0 cg0 Lg0) (kg0 : ng0 ≤ 18) (hw1 : IR V Aw1 nw1 cw1 Lw1) (kw1 : nw1 ≤ 18) (hm1 : IR V Am1 nm1 cm1 Lm1) (km1 : nm1 ≤ 18) (hg1 : IR V Ag1 ng1 cg1 Lg1) (kg1 : ng1 ≤ 18) (hQ : ∀ (W : World) (g0 g4 k4 g8 k8 g9 g13 k13 g17 k17 g18 g22 k22 g26 k26 gx : Nat), W.heap[gx]? = some (.cells #[.slice (some ⟨g8, 0, none⟩) (nw0 + nw1) k8, .slice (some ⟨g17, 0, none⟩) (nm0 + nm1) k17, .slice none 0 0, .slice (some ⟨g26, 0, none⟩) (ng0 + ng1) k26] 26) → IR W (some ⟨g8, 0, none⟩) (nw0 + nw1) k8 (Lw0 ++ Lw1) → IR W (some ⟨g17, 0, none⟩) (nm0 + nm1) k17 (Lm0 ++ Lm1) → IR W (some ⟨g26, 0, none⟩) (ng0 + ng1) k26 (Lg0 ++ Lg1) → Below V.heap.size V W → Q .normal { tmps := #[u0, u1, u2, u3, .pointer (some ⟨bl, 0, none⟩), u5, u6, .pointer (some ⟨gx, 0, none⟩), u8, u9, u10, u11, u12, u13, u14, u15, u16, u17, u18, u19, u20, u21, u22, u23, u24, .slice (some ⟨g0, 0, none⟩) 0 0, .pointer (some ⟨bl, 0, none⟩), .pointer (some ⟨bl, 0, none⟩), .slice Aw0 nw0 cw0, .slice (some ⟨g4, 0, none⟩) nw0 k4, .pointer (some ⟨bl, 4, none⟩), .pointer (some ⟨bl, 4, none⟩), .slice Aw1 nw1 cw1, .slice (some ⟨g8, 0, none⟩) (nw0 + nw1) k8, .slice (some ⟨g9, 0, none⟩) 0 0, .pointer (some ⟨bl, 0, none⟩), .pointer (some ⟨bl, 1, none⟩), .slice Am0 nm0 cm0, .slice (some ⟨g13, 0, none⟩) nm0 k13, .pointer (some ⟨bl, 4, none⟩), .pointer (some ⟨bl, 5, none⟩), .slice Am1 nm1 cm1, .slice (some ⟨g17, 0, none⟩) (nm0 + nm1) k17, .slice (some ⟨g18, 0, none⟩) 0 0, .pointer (some ⟨bl, 0, none⟩), .pointer (some ⟨bl, 3, none⟩), .slice Ag0 ng0 cg0, .slice (some ⟨g22, 0, none⟩) ng0 k22, .pointer (some ⟨bl, 4, none⟩), .pointer (some ⟨bl, 7, none⟩), .slice Ag1 ng1 cg1, .slice (some ⟨g26, 0, none⟩) (ng0 + ng1) k26, .agg #[.slice (some ⟨g8, 0, none⟩) (nw0 + nw1) k8, .slice (some ⟨g17, 0, none⟩) (nm0 + nm1) k17, .slice none 0 0, .slice (some ⟨g26, 0, none⟩) (ng0 + ng1) k26], u53, u54, u55, u56, u57, u58, u59, u60, u61, u62, u63, u64, u65, u66, u67, u68, u69, u70, u71, u72, u73, u74, u75, u76, u77, u78, u79, u80, u81, u82, u83, u84, u85, u86, u87, u88, u89, u90, u91, u92, u93, u94, u95, u96, u97, u98, u99, u100, u101, u102, u103, u104, u105, u106, u107, u108, u109, u110, u111, u112, u113, u114, u115, u116, u117, u118, u119, u120, u121, u122], defers := [] } W) :
    (Code.region 3 rg_ApR3.1 true).wp Try.prog Q { tmps := #[u0, u1, u2, u3, .pointer (some ⟨bl, 0, none⟩), u5, u6, u7, u8, u9, u10, u11, u12, u13, u14, u15, u16, u17, u18, u19, u20, u21, u22, u23, u24, u25, u26, u27, u28, u29, u30, u31, u32, u33, u34, u35, u36, u37, u38, u39, u40, u41, u42, u43, u44, u45, u46, u47, u48, u49, u50, u51, u52, u53, u54, u55, u56, u57, u58, u59, u60, u61, u62, u63, u64, u65, u66, u67, u68, u69, u70, u71, u72, u73, u74, u75, u76, u77, u78, u79, u80, u81, u82, u83, u84, u85, u86, u87, u88, u89, u90, u91, u92, u93, u94, u95, u96, u97, u98, u99, u100, u101, u102, u103, u104, u105, u106, u107, u108, u109, u110, u111, u112, u113, u114, u115, u116, u117, u118, u119, u120, u121, u122], defers := [] } V := by
  obtain ⟨i0, hi, hz0, hz1, hz2⟩ := info_parts infoI
  have kc0 : ∀ W : World, Below V.heap.size V W → W.cell? ⟨bl, 0, none⟩ = some (.slice Aw0 nw0 cw0) := fun W b => (b.cell (p := ⟨bl, 0, none⟩) (Array.getElem?_eq_some_iff.1 zl).1).trans (cell_of_row V bl 0 #[.slice Aw0 nw0 cw0, .slice Am0 nm0 cm0, .slice Av0 nv0 cv0, .slice Ag0 ng0 cg0, .slice Aw1 nw1 cw1, .slice Am1 nm1 cm1, .slice Av1 nv1 cv1, .slice Ag1 ng1 cg1] 46 _ zl)
  have kc1 : ∀ W : World, Below V.heap.size V W → W.cell? ⟨bl, 1, none⟩ = some (.slice Am0 nm0 cm0) := fun W b => (b.cell (p := ⟨bl, 1, none⟩) (Array.getElem?_eq_some_iff.1 zl).1).trans (cell_of_row V bl 1 #[.slice Aw0 nw0 cw0, .slice Am0 nm0 cm0, .slice Av0 nv0 cv0, .slice Ag0 ng0 cg0, .slice Aw1 nw1 cw1, .slice Am1 nm1 cm1, .slice Av1 nv1 cv1, .slice Ag1 ng1 cg1] 46 _ zl)
  have kc3 : ∀ W : World, Below V.heap.size V W → W.cell? ⟨bl, 3, none⟩ = some (.slice Ag0 ng0 cg0) := fun W b => (b.cell (p := ⟨bl, 3, none⟩) (Array.getElem?_eq_some_iff.1 zl).1).trans (cell_of_row V bl 3 #[.slice Aw0 nw0 cw0, .slice Am0 nm0 cm0, .slice Av0 nv0 cv0, .slice Ag0 ng0 cg0, .slice Aw1 nw1 cw1, .slice Am1 nm1 cm1, .slice Av1 nv1 cv1, .slice Ag1 ng1 cg1] 46 _ zl)
  have kc4 : ∀ W : World, Below V.heap.size V W → W.cell? ⟨bl, 4, none⟩ = some (.slice Aw1 nw1 cw1) := fun W b => (b.cell (p := ⟨bl, 4, none⟩) (Array.getElem?_eq_some_iff.1 zl).1).trans (cell_of_row V bl 4 #[.slice Aw0 nw0 cw0, .slice Am0 nm0 cm0, .slice Av0 nv0 cv0, .slice Ag0 ng0 cg0, .slice Aw1 nw1 cw1, .slice Am1 nm1 cm1, .slice Av1 nv1 cv1, .slice Ag1 ng1 cg1] 46 _ zl)
  have kc5 : ∀ W : World, Below V.heap.size V W → W.cell? ⟨bl, 5, none⟩ = some (.slice Am1 nm1 cm1) := fun W b => (b.cell (p := ⟨bl, 5, none⟩) (Array.getElem?_eq_some_iff.1 zl).1).trans (cell_of_row V bl 5 #[.slice Aw0 nw0 cw0, .slice Am0 nm0 cm0, .slice Av0 nv0 cv0, .slice Ag0 ng0 cg0, .slice Aw1 nw1 cw1, .slice Am1 nm1 cm1, .slice Av1 nv1 cv1, .slice Ag1 ng1 cg1] 46 _ zl)
  have kc7 : ∀ W : World, Below V.heap.size V W → W.cell? ⟨bl, 7, none⟩ = some (.slice Ag1 ng1 cg1) := fun W b => (b.cell (p := ⟨bl, 7, none⟩) (Array.getElem?_eq_some_iff.1 zl).1).trans (cell_of_row V bl 7 #[.slice Aw0 nw0 cw0, .slice Am0 nm0 cm0, .slice Av0 nv0 cv0, .slice Ag0 ng0 cg0, .slice Aw1 nw1 cw1, .slice Am1 nm1 cm1, .slice Av1 nv1 cv1, .slice Ag1 ng1 cg1] 46 _ zl)
  have s_11111111110 : ∀ (W : World) (g0 g4 k4 g8 k8 g9 g13 k13 g17 k17 g18 g22 k22 g26 k26 gx : Nat), Ap17 V W (some (g8, (nw0 + nw1), k8, (Lw0 ++ Lw1))) (some (g17, (nm0 + nm1), k17, (Lm0 ++ Lm1))) (some (g26, (ng0 + ng1), k26, (Lg0 ++ Lg1))) (some gx) → wpAnyH Try.prog .any rg_ApR3.1 Q (fun w' => Below V.heap.size V w') 1 #[true, true, true, true, true, true, true, true, true, true, true, true, true, true, true, true, true, true, true, true, true, true, true, true, true, true, true, true, true, false] { tmps := #[u0, u1, u2, u3, .pointer (some ⟨bl, 0, none⟩), u5, u6, .pointer (some ⟨gx, 0, none⟩), u8, u9, u10, u11, u12, u13, u14, u15, u16, u17, u18, u19, u20, u21, u22, u23, u24, .slice (some ⟨g0, 0, none⟩) 0 0, .pointer (some ⟨bl, 0, none⟩), .pointer (some ⟨bl, 0, none⟩), .slice Aw0 nw0 cw0, .slice (some ⟨g4, 0, none⟩) nw0 k4, .pointer (some ⟨bl, 4, none⟩), .pointer (some ⟨bl, 4, none⟩), .slice Aw1 nw1 cw1, .slice (some ⟨g8, 0, none⟩) (nw0 + nw1) k8, .slice (some ⟨g9, 0, none⟩) 0 0, .pointer (some ⟨bl, 0, none⟩), .pointer (some ⟨bl, 1, none⟩), .slice Am0 nm0 cm0, .slice (some ⟨g13, 0, none⟩) nm0 k13, .pointer (some ⟨bl, 4, none⟩), .pointer (some ⟨bl, 5, none⟩), .slice Am1 nm1 cm1, .slice (some ⟨g17, 0, none⟩) (nm0 + nm1) k17, .slice (some ⟨g18, 0, none⟩) 0 0, .pointer (some ⟨bl, 0, none⟩), .pointer (some ⟨bl, 3, none⟩), .slice Ag0 ng0 cg0, .slice (some ⟨g22, 0, none⟩) ng0 k22, .pointer (some ⟨bl, 4, none⟩), .pointer (some ⟨bl, 7, none⟩), .slice Ag1 ng1 cg1, .slice (some ⟨g26, 0, none⟩) (ng0 + ng1) k26, .agg #[.slice (some ⟨g8, 0, none⟩) (nw0 + nw1) k8, .slice (some ⟨g17, 0, none⟩) (nm0 + nm1) k17, .slice none 0 0, .slice (some ⟨g26, 0, none⟩) (ng0 + ng1) k26], u53, u54, u55, u56, u57, u58, u59, u60, u61, u62, u63, u64, u65, u66, u67, u68, u69, u70, u71, u72, u73, u74, u75, u76, u77, u78, u79, u80, u81, u82, u83, u84, u85, u86, u87, u88, u89, u90, u91, u92, u93, u94, u95, u96, u97, u98, u99, u100, u101, u102, u103, u104, u105, u106, u107, u108, u109, u110, u111, u112, u113, u114, u115, u116, u117, u118, u119, u120, u121, u122], defers := [] } W := by
    intro W g0 g4 k4 g8 k8 g9 g13 k13 g17 k17 g18 g22 k22 g26 k26 gx hap
    dsimp only [rg_ApR3]
    refine wpAnyH_ready (rs := [29]) (by kernel_rfl) (by simp) ?_
    refine AllReadyH.cons rfl (fun K hK => ?_) (AllReadyH.nil)
    · skip
      (try simp only [pT])
      rw [if_pos (by rfl)]
      have zx_ := hap.2.2.2.2.1 gx rfl
      obtain ⟨x0, x1, x2, x3⟩ := cells4 zx_
      have f0 := fro_of 0 zx_
      have f1 := fro_of 1 zx_
      have f2 := fro_of 2 zx_
      have f3 := fro_of 3 zx_
      have hd := hap.done (.slice (some ⟨g8, 0, none⟩) (nw0 + nw1) k8) (.slice (some ⟨g17, 0, none⟩) (nm0 + nm1) k17) (.slice none 0 0) (.slice (some ⟨g26, 0, none⟩) (ng0 + ng1) k26)
      clear zx_
      go_simp
      refine hK.out _ _ hd.2.2.2.2 (fun hHeld => ?_)
      exact wpAnyH_done (by kernel_rfl) (hQ _ g0 g4 k4 g8 k8 g9 g13 k13 g17 k17 g18 g22 k22 g26 k26 gx hd.1 hd.2.1 hd.2.2.1 hd.2.2.2.1 hd.2.2.2.2) _
  have s_11111111100 : ∀ (W : World) (g0 g4 k4 g8 k8 g9 g13 k13 g17 k17 g18 g22 k22 g26 k26 : Nat), Ap17 V W (some (g8, (nw0 + nw1), k8, (Lw0 ++ Lw1))) (some (g17, (nm0 + nm1), k17, (Lm0 ++ Lm1))) (some (g26, (ng0 + ng1), k26, (Lg0 ++ Lg1))) none → wpAnyH Try.prog .any rg_ApR3.1 Q (fun w' => Below V.heap.size V w') 2 #[true, true, true, true, true, true, true, true, true, true, true, true, true, true, true, true, true, true, true, true, true, true, true, true, true, true, true, true, false, false] { tmps := #[u0, u1, u2, u3, .pointer (some ⟨bl, 0, none⟩), u5, u6, u7, u8, u9, u10, u11, u12, u13, u14, u15, u16, u17, u18, u19, u20, u21, u22, u23, u24, .slice (some ⟨g0, 0, none⟩) 0 0, .pointer (some ⟨bl, 0, none⟩), .pointer (some ⟨bl, 0, none⟩), .slice Aw0 nw0 cw0, .slice (some ⟨g4, 0, none⟩) nw0 k4, .pointer (some ⟨bl, 4, none⟩), .pointer (some ⟨bl, 4, none⟩), .slice Aw1 nw1 cw1, .slice (some ⟨g8, 0, none⟩) (nw0 + nw1) k8, .slice (some ⟨g9, 0, none⟩) 0 0, .pointer (some ⟨bl, 0, none⟩), .pointer (some ⟨bl, 1, none⟩), .slice Am0 nm0 cm0, .slice (some ⟨g13, 0, none⟩) nm0 k13, .pointer (some ⟨bl, 4, none⟩), .pointer (some ⟨bl, 5, none⟩), .slice Am1 nm1 cm1, .slice (some ⟨g17, 0, none⟩) (nm0 + nm1) k17, .slice (some ⟨g18, 0, none⟩) 0 0, .pointer (some ⟨bl, 0, none⟩), .pointer (some ⟨bl, 3, none⟩), .slice Ag0 ng0 cg0, .slice (some ⟨g22, 0, none⟩) ng0 k22, .pointer (some ⟨bl, 4, none⟩), .pointer (some ⟨bl, 7, none⟩), .slice Ag1 ng1 cg1, .slice (some ⟨g26, 0, none⟩) (ng0 + ng1) k26, .agg #[.slice (some ⟨g8, 0, none⟩) (nw0 + nw1) k8, .slice (some ⟨g17, 0, none⟩) (nm0 + nm1) k17, .slice none 0 0, .slice (some ⟨g26, 0, none⟩) (ng0 + ng1) k26], u53, u54, u55, u56, u57, u58, u59, u60, u61, u62, u63, u64, u65, u66, u67, u68, u69, u70, u71, u72, u73, u74, u75, u76, u77, u78, u79, u80, u81, u82, u83, u84, u85, u86, u87, u88, u89, u90, u91, u92, u93, u94, u95, u96, u97, u98, u99, u100, u101, u102, u103, u104, u105, u106, u107, u108, u109, u110, u111, u112, u113, u114, u115, u116, u117, u118, u119, u120, u121, u122], defers := [] } W := by
    intro W g0 g4 k4 g8 k8 g9 g13 k13 g17 k17 g18 g22 k22 g26 k26 hap
    dsimp only [rg_ApR3]
    refine wpAnyH_ready (rs := [28]) (by kernel_rfl) (by simp) ?_
    refine AllReadyH.cons rfl (fun K hK => ?_) (AllReadyH.nil)
    · skip
      (try simp only [pT])
      rw [if_pos (by rfl)]
      go_simp
      have hap2 := hap.newX
      refine hK.out _ _ hap2.1 (fun hHeld => ?_)
      exact s_11111111110 _ g0 g4 k4 g8 k8 g9 g13 k13 g17 k17 g18 g22 k22 g26 k26 W.heap.size hap2
  have s_11111111010 : ∀ (W : World) (g0 g4 k4 g8 k8 g9 g13 k13 g17 k17 g18 g22 k22 gx : Nat), Ap17 V W (some (g8, (nw0 + nw1), k8, (Lw0 ++ Lw1))) (some (g17, (nm0 + nm1), k17, (Lm0 ++ Lm1))) (some (g22, ng0, k22, Lg0)) (some gx) → wpAnyH Try.prog .any rg_ApR3.1 Q (fun w' => Below V.heap.size V w') 3 #[true, true, true, true, true, true, true, true, true, true, true, true, true, true, true, true, true, true, true, true, true, true, true, true, true, true, false, false, true, false] { tmps := #[u0, u1, u2, u3, .pointer (some ⟨bl, 0, none⟩), u5, u6, .pointer (some ⟨gx, 0, none⟩), u8, u9, u10, u11, u12, u13, u14, u15, u16, u17, u18, u19, u20, u21, u22, u23, u24, .slice (some ⟨g0, 0, none⟩) 0 0, .pointer (some ⟨bl, 0, none⟩), .pointer (some ⟨bl, 0, none⟩), .slice Aw0 nw0 cw0, .slice (some ⟨g4, 0, none⟩) nw0 k4, .pointer (some ⟨bl, 4, none⟩), .pointer (some ⟨bl, 4, none⟩), .slice Aw1 nw1 cw1, .slice (some ⟨g8, 0, none⟩) (nw0 + nw1) k8, .slice (some ⟨g9, 0, none⟩) 0 0, .pointer (some ⟨bl, 0, none⟩), .pointer (some ⟨bl, 1, none⟩), .slice Am0 nm0 cm0, .slice (some ⟨g13, 0, none⟩) nm0 k13, .pointer (some ⟨bl, 4, none⟩), .pointer (some ⟨bl, 5, none⟩), .slice Am1 nm1 cm1, .slice (some ⟨g17, 0, none⟩) (nm0 + nm1) k17, .slice (some ⟨g18, 0, none⟩) 0 0, .pointer (some ⟨bl, 0, none⟩), .pointer (some ⟨bl, 3, none⟩), .slice Ag0 ng0 cg0, .slice (some ⟨g22, 0, none⟩) ng0 k22, .pointer (some ⟨bl, 4, none⟩), .pointer (some ⟨bl, 7, none⟩), .slice Ag1 ng1 cg1, u51, u52, u53, u54, u55, u56, u57, u58, u59, u60, u61, u62, u63, u64, u65, u66, u67, u68, u69, u70, u71, u72, u73, u74, u75, u76, u77, u78, u79, u80, u81, u82, u83, u84, u85, u86, u87, u88, u89, u90, u91, u92, u93, u94, u95, u96, u97, u98, u99, u100, u101, u102, u103, u104, u105, u106, u107, u108, u109, u110, u111, u112, u113, u114, u115, u116, u117, u118, u119, u120, u121, u122], defers := [] } W := by
    intro W g0 g4 k4 g8 k8 g9 g13 k13 g17 k17 g18 g22 k22 gx hap
    dsimp only [rg_ApR3]
    refine wpAnyH_ready (rs := [26]) (by kernel_rfl) (by simp) ?_
    refine AllReadyH.cons rfl (fun K hK => ?_) (AllReadyH.nil)
    · skip
      have hap_ := hap.sw2.sw1
      refine step_app17 rfl _ _ 24 rfl V.heap.size 2 i0 (.int .i64 0) 1 8 Try.underlying24 hi hz0 hz1 hz2 rfl (by decide) g22 ng0 k22 _ rfl hap_.own Ag1 ng1 cg1 (Lg1.map encI) rfl (by rw [List.length_map, Nat.mul_one]; exact hg1.1.symm) (ir_news17 hg1 hap.1) (one_encI17 _) (by unfold maxLen; omega) (by omega) hap.1.size (ng0 + ng1) (by omega) ?_
      intro g26 k26 w1 hown1 hgrow1 hat1 hlt1
      have hap2 := (hap_.app hown1 hgrow1 hat1).sw1.sw2
      refine hK.out _ _ hap2.1 (fun hHeld => ?_)
      clear hK K
      try simp only [Act.put, pT]
      refine wpAnyH_take (i := 27) (v := ?_) rfl (by kernel_rfl) (by kernel_rfl) (by kernel_rfl) (fun _ _ _ h => hP _ _ _ _ _ h) (Or.inl ⟨by rfl, ?_⟩) hHeld ?_
      rotate_left
      · (intro w hSw; (try dsimp only at hSw); go_simp; (try with_reducible rfl))
      try simp only [Act.put, pT]
      exact s_11111111110 w1 g0 g4 k4 g8 k8 g9 g13 k13 g17 k17 g18 g22 k22 g26 k26 gx hap2
  have s_11111110010 : ∀ (W : World) (g0 g4 k4 g8 k8 g9 g13 k13 g17 k17 g18 gx : Nat), Ap17 V W (some (g8, (nw0 + nw1), k8, (Lw0 ++ Lw1))) (some (g17, (nm0 + nm1), k17, (Lm0 ++ Lm1))) (some (g18, 0, 0, [])) (some gx) → wpAnyH Try.prog .any rg_ApR3.1 Q (fun w' => Below V.heap.size V w') 4 #[true, true, true, true, true, true, true, true, true, true, true, true, true, true, true, true, true, true, true, true, true, true, false, true, true, true, false, false, true, false] { tmps := #[u0, u1, u2, u3, .pointer (some ⟨bl, 0, none⟩), u5, u6, .pointer (some ⟨gx, 0, none⟩), u8, u9, u10, u11, u12, u13, u14, u15, u16, u17, u18, u19, u20, u21, u22, u23, u24, .slice (some ⟨g0, 0, none⟩) 0 0, .pointer (some ⟨bl, 0, none⟩), .pointer (some ⟨bl, 0, none⟩), .slice Aw0 nw0 cw0, .slice (some ⟨g4, 0, none⟩) nw0 k4, .pointer (some ⟨bl, 4, none⟩), .pointer (some ⟨bl, 4, none⟩), .slice Aw1 nw1 cw1, .slice (some ⟨g8, 0, none⟩) (nw0 + nw1) k8, .slice (some ⟨g9, 0, none⟩) 0 0, .pointer (some ⟨bl, 0, none⟩), .pointer (some ⟨bl, 1, none⟩), .slice Am0 nm0 cm0, .slice (some ⟨g13, 0, none⟩) nm0 k13, .pointer (some ⟨bl, 4, none⟩), .pointer (some ⟨bl, 5, none⟩), .slice Am1 nm1 cm1, .slice (some ⟨g17, 0, none⟩) (nm0 + nm1) k17, .slice (some ⟨g18, 0, none⟩) 0 0, .pointer (some ⟨bl, 0, none⟩), .pointer (some ⟨bl, 3, none⟩), .slice Ag0 ng0 cg0, u47, .pointer (some ⟨bl, 4, none⟩), .pointer (some ⟨bl, 7, none⟩), .slice Ag1 ng1 cg1, u51, u52, u53, u54, u55, u56, u57, u58, u59, u60, u61, u62, u63, u64, u65, u66, u67, u68, u69, u70, u71, u72, u73, u74, u75, u76, u77, u78, u79, u80, u81, u82, u83, u84, u85, u86, u87, u88, u89, u90, u91, u92, u93, u94, u95, u96, u97, u98, u99, u100, u101, u102, u103, u104, u105, u106, u107, u108, u109, u110, u111, u112, u113, u114, u115, u116, u117, u118, u119, u120, u121, u122], defers := [] } W := by
    intro W g0 g4 k4 g8 k8 g9 g13 k13 g17 k17 g18 gx hap
    dsimp only [rg_ApR3]
    refine wpAnyH_ready (rs := [22]) (by kernel_rfl) (by simp) ?_
    refine AllReadyH.cons rfl (fun K hK => ?_) (AllReadyH.nil)
    · skip
      have hap_ := hap.sw2.sw1
      refine step_app17 rfl _ _ 24 rfl V.heap.size 2 i0 (.int .i64 0) 1 8 Try.underlying24 hi hz0 hz1 hz2 rfl (by decide) g18 0 0 _ rfl hap_.own Ag0 ng0 cg0 (Lg0.map encI) rfl (by rw [List.length_map, Nat.mul_one]; exact hg0.1.symm) (ir_news17 hg0 hap.1) (one_encI17 _) (by unfold maxLen; omega) (by omega) hap.1.size ng0 (by omega) ?_
      intro g22 k22 w1 hown1 hgrow1 hat1 hlt1
      have hap2 := (hap_.app hown1 hgrow1 hat1).sw1.sw2
      refine hK.out _ _ hap2.1 (fun hHeld => ?_)
      exact s_11111111010 w1 g0 g4 k4 g8 k8 g9 g13 k13 g17 k17 g18 g22 k22 gx hap2
  have s_11111111000 : ∀ (W : World) (g0 g4 k4 g8 k8 g9 g13 k13 g17 k17 g18 g22 k22 : Nat), Ap17 V W (some (g8, (nw0 + nw1), k8, (Lw0 ++ Lw1))) (some (g17, (nm0 + nm1), k17, (Lm0 ++ Lm1))) (some (g22, ng0, k22, Lg0)) none → wpAnyH Try.prog .any rg_ApR3.1 Q (fun w' => Below V.heap.size V w') 4 #[true, true, true, true, true, true, true, true, true, true, true, true, true, true, true, true, true, true, true, true, true, true, true, true, true, true, false, false, false, false] { tmps := #[u0, u1, u2, u3, .pointer (some ⟨bl, 0, none⟩), u5, u6, u7, u8, u9, u10, u11, u12, u13, u14, u15, u16, u17, u18, u19, u20, u21, u22, u23, u24, .slice (some ⟨g0, 0, none⟩) 0 0, .pointer (some ⟨bl, 0, none⟩), .pointer (some ⟨bl, 0, none⟩), .slice Aw0 nw0 cw0, .slice (some ⟨g4, 0, none⟩) nw0 k4, .pointer (some ⟨bl, 4, none⟩), .pointer (some ⟨bl, 4, none⟩), .slice Aw1 nw1 cw1, .slice (some ⟨g8, 0, none⟩) (nw0 + nw1) k8, .slice (some ⟨g9, 0, none⟩) 0 0, .pointer (some ⟨bl, 0, none⟩), .pointer (some ⟨bl, 1, none⟩), .slice Am0 nm0 cm0, .slice (some ⟨g13, 0, none⟩) nm0 k13, .pointer (some ⟨bl, 4, none⟩), .pointer (some ⟨bl, 5, none⟩), .slice Am1 nm1 cm1, .slice (some ⟨g17, 0, none⟩) (nm0 + nm1) k17, .slice (some ⟨g18, 0, none⟩) 0 0, .pointer (some ⟨bl, 0, none⟩), .pointer (some ⟨bl, 3, none⟩), .slice Ag0 ng0 cg0, .slice (some ⟨g22, 0, none⟩) ng0 k22, .pointer (some ⟨bl, 4, none⟩), .pointer (some ⟨bl, 7, none⟩), .slice Ag1 ng1 cg1, u51, u52, u53, u54, u55, u56, u57, u58, u59, u60, u61, u62, u63, u64, u65, u66, u67, u68, u69, u70, u71, u72, u73, u74, u75, u76, u77, u78, u79, u80, u81, u82, u83, u84, u85, u86, u87, u88, u89, u90, u91, u92, u93, u94, u95, u96, u97, u98, u99, u100, u101, u102, u103, u104, u105, u106, u107, u108, u109, u110, u111, u112, u113, u114, u115, u116, u117, u118, u119, u120, u121, u122], defers := [] } W := by
    intro W g0 g4 k4 g8 k8 g9 g13 k13 g17 k17 g18 g22 k22 hap
    dsimp only [rg_ApR3]
    refine wpAnyH_ready (rs := [26, 28]) (by kernel_rfl) (by simp) ?_
    refine AllReadyH.cons rfl (fun K hK => ?_) (AllReadyH.cons rfl (fun K hK => ?_) (AllReadyH.nil))
    · skip
      have hap_ := hap.sw2.sw1
      refine step_app17 rfl _ _ 24 rfl V.heap.size 2 i0 (.int .i64 0) 1 8 Try.underlying24 hi hz0 hz1 hz2 rfl (by decide) g22 ng0 k22 _ rfl hap_.own Ag1 ng1 cg1 (Lg1.map encI) rfl (by rw [List.length_map, Nat.mul_one]; exact hg1.1.symm) (ir_news17 hg1 hap.1) (one_encI17 _) (by unfold maxLen; omega) (by omega) hap.1.size (ng0 + ng1) (by omega) ?_
      intro g26 k26 w1 hown1 hgrow1 hat1 hlt1
      have hap2 := (hap_.app hown1 hgrow1 hat1).sw1.sw2
      refine hK.out _ _ hap2.1 (fun hHeld => ?_)
      clear hK K
      try simp only [Act.put, pT]
      refine wpAnyH_take (i := 27) (v := ?_) rfl (by kernel_rfl) (by kernel_rfl) (by kernel_rfl) (fun _ _ _ h => hP _ _ _ _ _ h) (Or.inl ⟨by rfl, ?_⟩) hHeld ?_
      rotate_left
      · (intro w hSw; (try dsimp only at hSw); go_simp; (try with_reducible rfl))
      try simp only [Act.put, pT]
      exact s_11111111100 w1 g0 g4 k4 g8 k8 g9 g13 k13 g17 k17 g18 g22 k22 g26 k26 hap2
    · skip
      (try simp only [pT])
      rw [if_pos (by rfl)]
      go_simp
      have hap2 := hap.newX
      refine hK.out _ _ hap2.1 (fun hHeld => ?_)
      exact s_11111111010 _ g0 g4 k4 g8 k8 g9 g13 k13 g17 k17 g18 g22 k22 W.heap.size hap2
  have s_11111010010 : ∀ (W : World) (g0 g4 k4 g8 k8 g9 g13 k13 g18 gx : Nat), Ap17 V W (some (g8, (nw0 + nw1), k8, (Lw0 ++ Lw1))) (some (g13, nm0, k13, Lm0)) (some (g18, 0, 0, [])) (some gx) → wpAnyH Try.prog .any rg_ApR3.1 Q (fun w' => Below V.heap.size V w') 5 #[true, true, true, true, true, true, true, true, true, true, true, true, true, true, true, true, true, false, true, true, true, true, false, true, true, true, false, false, true, false] { tmps := #[u0, u1, u2, u3, .pointer (some ⟨bl, 0, none⟩), u5, u6, .pointer (some ⟨gx, 0, none⟩), u8, u9, u10, u11, u12, u13, u14, u15, u16, u17, u18, u19, u20, u21, u22, u23, u24, .slice (some ⟨g0, 0, none⟩) 0 0, .pointer (some ⟨bl, 0, none⟩), .pointer (some ⟨bl, 0, none⟩), .slice Aw0 nw0 cw0, .slice (some ⟨g4, 0, none⟩) nw0 k4, .pointer (some ⟨bl, 4, none⟩), .pointer (some ⟨bl, 4, none⟩), .slice Aw1 nw1 cw1, .slice (some ⟨g8, 0, none⟩) (nw0 + nw1) k8, .slice (some ⟨g9, 0, none⟩) 0 0, .pointer (some ⟨bl, 0, none⟩), .pointer (some ⟨bl, 1, none⟩), .slice Am0 nm0 cm0, .slice (some ⟨g13, 0, none⟩) nm0 k13, .pointer (some ⟨bl, 4, none⟩), .pointer (some ⟨bl, 5, none⟩), .slice Am1 nm1 cm1, u42, .slice (some ⟨g18, 0, none⟩) 0 0, .pointer (some ⟨bl, 0, none⟩), .pointer (some ⟨bl, 3, none⟩), .slice Ag0 ng0 cg0, u47, .pointer (some ⟨bl, 4, none⟩), .pointer (some ⟨bl, 7, none⟩), .slice Ag1 ng1 cg1, u51, u52, u53, u54, u55, u56, u57, u58, u59, u60, u61, u62, u63, u64, u65, u66, u67, u68, u69, u70, u71, u72, u73, u74, u75, u76, u77, u78, u79, u80, u81, u82, u83, u84, u85, u86, u87, u88, u89, u90, u91, u92, u93, u94, u95, u96, u97, u98, u99, u100, u101, u102, u103, u104, u105, u106, u107, u108, u109, u110, u111, u112, u113, u114, u115, u116, u117, u118, u119, u120, u121, u122], defers := [] } W := by
    intro W g0 g4 k4 g8 k8 g9 g13 k13 g18 gx hap
    dsimp only [rg_ApR3]
    refine wpAnyH_ready (rs := [17]) (by kernel_rfl) (by simp) ?_
    refine AllReadyH.cons rfl (fun K hK => ?_) (AllReadyH.nil)
    · skip
      have hap_ := hap.sw1
      refine step_app17 rfl _ _ 24 rfl V.heap.size 2 i0 (.int .i64 0) 1 8 Try.underlying24 hi hz0 hz1 hz2 rfl (by decide) g13 nm0 k13 _ rfl hap_.own Am1 nm1 cm1 (Lm1.map encI) rfl (by rw [List.length_map, Nat.mul_one]; exact hm1.1.symm) (ir_news17 hm1 hap.1) (one_encI17 _) (by unfold maxLen; omega) (by omega) hap.1.size (nm0 + nm1) (by omega) ?_
      intro g17 k17 w1 hown1 hgrow1 hat1 hlt1
      have hap2 := (hap_.app hown1 hgrow1 hat1).sw1
      refine hK.out _ _ hap2.1 (fun hHeld => ?_)
      exact s_11111110010 w1 g0 g4 k4 g8 k8 g9 g13 k13 g17 k17 g18 gx hap2
  have s_11111100010 : ∀ (W : World) (g0 g4 k4 g8 k8 g9 g13 k13 g17 k17 gx : Nat), Ap17 V W (some (g8, (nw0 + nw1), k8, (Lw0 ++ Lw1))) (some (g17, (nm0 + nm1), k17, (Lm0 ++ Lm1))) none (some gx) → wpAnyH Try.prog .any rg_ApR3.1 Q (fun w' => Below V.heap.size V w') 5 #[true, true, true, true, true, true, true, true, true, true, true, true, true, true, true, true, true, true, false, true, true, true, false, true, true, true, false, false, true, false] { tmps := #[u0, u1, u2, u3, .pointer (some ⟨bl, 0, none⟩), u5, u6, .pointer (some ⟨gx, 0, none⟩), u8, u9, u10, u11, u12, u13, u14, u15, u16, u17, u18, u19, u20, u21, u22, u23, u24, .slice (some ⟨g0, 0, none⟩) 0 0, .pointer (some ⟨bl, 0, none⟩), .pointer (some ⟨bl, 0, none⟩), .slice Aw0 nw0 cw0, .slice (some ⟨g4, 0, none⟩) nw0 k4, .pointer (some ⟨bl, 4, none⟩), .pointer (some ⟨bl, 4, none⟩), .slice Aw1 nw1 cw1, .slice (some ⟨g8, 0, none⟩) (nw0 + nw1) k8, .slice (some ⟨g9, 0, none⟩) 0 0, .pointer (some ⟨bl, 0, none⟩), .pointer (some ⟨bl, 1, none⟩), .slice Am0 nm0 cm0, .slice (some ⟨g13, 0, none⟩) nm0 k13, .pointer (some ⟨bl, 4, none⟩), .pointer (some ⟨bl, 5, none⟩), .slice Am1 nm1 cm1, .slice (some ⟨g17, 0, none⟩) (nm0 + nm1) k17, u43, .pointer (some ⟨bl, 0, none⟩), .pointer (some ⟨bl, 3, none⟩), .slice Ag0 ng0 cg0, u47, .pointer (some ⟨bl, 4, none⟩), .pointer (some ⟨bl, 7, none⟩), .slice Ag1 ng1 cg1, u51, u52, u53, u54, u55, u56, u57, u58, u59, u60, u61, u62, u63, u64, u65, u66, u67, u68, u69, u70, u71, u72, u73, u74, u75, u76, u77, u78, u79, u80, u81, u82, u83, u84, u85, u86, u87, u88, u89, u90, u91, u92, u93, u94, u95, u96, u97, u98, u99, u100, u101, u102, u103, u104, u105, u106, u107, u108, u109, u110, u111, u112, u113, u114, u115, u116, u117, u118, u119, u120, u121, u122], defers := [] } W := by
    intro W g0 g4 k4 g8 k8 g9 g13 k13 g17 k17 gx hap
    dsimp only [rg_ApR3]
    refine wpAnyH_ready (rs := [18]) (by kernel_rfl) (by simp) ?_
    refine AllReadyH.cons rfl (fun K hK => ?_) (AllReadyH.nil)
    · skip
      (try simp only [pT])
      rw [if_pos (by rfl)]
      go_simp
      have hap2 := (hap.sw2.sw1.newA).sw1.sw2
      refine hK.out _ _ hap2.1 (fun hHeld => ?_)
      exact s_11111110010 _ g0 g4 k4 g8 k8 g9 g13 k13 g17 k17 W.heap.size gx hap2
  have s_11111110000 : ∀ (W : World) (g0 g4 k4 g8 k8 g9 g13 k13 g17 k17 g18 : Nat), Ap17 V W (some (g8, (nw0 + nw1), k8, (Lw0 ++ Lw1))) (some (g17, (nm0 + nm1), k17, (Lm0 ++ Lm1))) (some (g18, 0, 0, [])) none → wpAnyH Try.prog .any rg_ApR3.1 Q (fun w' => Below V.heap.size V w') 5 #[true, true, true, true, true, true, true, true, true, true, true, true, true, true, true, true, true, true, true, true, true, true, false, true, true, true, false, false, false, false] { tmps := #[u0, u1, u2, u3, .pointer (some ⟨bl, 0, none⟩), u5, u6, u7, u8, u9, u10, u11, u12, u13, u14, u15, u16, u17, u18, u19, u20, u21, u22, u23, u24, .slice (some ⟨g0, 0, none⟩) 0 0, .pointer (some ⟨bl, 0, none⟩), .pointer (some ⟨bl, 0, none⟩), .slice Aw0 nw0 cw0, .slice (some ⟨g4, 0, none⟩) nw0 k4, .pointer (some ⟨bl, 4, none⟩), .pointer (some ⟨bl, 4, none⟩), .slice Aw1 nw1 cw1, .slice (some ⟨g8, 0, none⟩) (nw0 + nw1) k8, .slice (some ⟨g9, 0, none⟩) 0 0, .pointer (some ⟨bl, 0, none⟩), .pointer (some ⟨bl, 1, none⟩), .slice Am0 nm0 cm0, .slice (some ⟨g13, 0, none⟩) nm0 k13, .pointer (some ⟨bl, 4, none⟩), .pointer (some ⟨bl, 5, none⟩), .slice Am1 nm1 cm1, .slice (some ⟨g17, 0, none⟩) (nm0 + nm1) k17, .slice (some ⟨g18, 0, none⟩) 0 0, .pointer (some ⟨bl, 0, none⟩), .pointer (some ⟨bl, 3, none⟩), .slice Ag0 ng0 cg0, u47, .pointer (some ⟨bl, 4, none⟩), .pointer (some ⟨bl, 7, none⟩), .slice Ag1 ng1 cg1, u51, u52, u53, u54, u55, u56, u57, u58, u59, u60, u61, u62, u63, u64, u65, u66, u67, u68, u69, u70, u71, u72, u73, u74, u75, u76, u77, u78, u79, u80, u81, u82, u83, u84, u85, u86, u87, u88, u89, u90, u91, u92, u93, u94, u95, u96, u97, u98, u99, u100, u101, u102, u103, u104, u105, u106, u107, u108, u109, u110, u111, u112, u113, u114, u115, u116, u117, u118, u119, u120, u121, u122], defers := [] } W := by
    intro W g0 g4 k4 g8 k8 g9 g13 k13 g17 k17 g18 hap
    dsimp only [rg_ApR3]
    refine wpAnyH_ready (rs := [22, 28]) (by kernel_rfl) (by simp) ?_
    refine AllReadyH.cons rfl (fun K hK => ?_) (AllReadyH.cons rfl (fun K hK => ?_) (AllReadyH.nil))
    · skip
      have hap_ := hap.sw2.sw1
      refine step_app17 rfl _ _ 24 rfl V.heap.size 2 i0 (.int .i64 0) 1 8 Try.underlying24 hi hz0 hz1 hz2 rfl (by decide) g18 0 0 _ rfl hap_.own Ag0 ng0 cg0 (Lg0.map encI) rfl (by rw [List.length_map, Nat.mul_one]; exact hg0.1.symm) (ir_news17 hg0 hap.1) (one_encI17 _) (by unfold maxLen; omega) (by omega) hap.1.size ng0 (by omega) ?_
      intro g22 k22 w1 hown1 hgrow1 hat1 hlt1
      have hap2 := (hap_.app hown1 hgrow1 hat1).sw1.sw2
      refine hK.out _ _ hap2.1 (fun hHeld => ?_)
      exact s_11111111000 w1 g0 g4 k4 g8 k8 g9 g13 k13 g17 k17 g18 g22 k22 hap2
    · skip
      (try simp only [pT])
      rw [if_pos (by rfl)]
      go_simp
      have hap2 := hap.newX
      refine hK.out _ _ hap2.1 (fun hHeld => ?_)
      exact s_11111110010 _ g0 g4 k4 g8 k8 g9 g13 k13 g17 k17 g18 W.heap.size hap2
  have s_11110010010 : ∀ (W : World) (g0 g4 k4 g8 k8 g9 g18 gx : Nat), Ap17 V W (some (g8, (nw0 + nw1), k8, (Lw0 ++ Lw1))) (some (g9, 0, 0, [])) (some (g18, 0, 0, [])) (some gx) → wpAnyH Try.prog .any rg_ApR3.1 Q (fun w' => Below V.heap.size V w') 6 #[true, true, true, true, true, true, true, true, true, true, true, true, true, false, true, true, true, false, true, true, true, true, false, true, true, true, false, false, true, false] { tmps := #[u0, u1, u2, u3, .pointer (some ⟨bl, 0, none⟩), u5, u6, .pointer (some ⟨gx, 0, none⟩), u8, u9, u10, u11, u12, u13, u14, u15, u16, u17, u18, u19, u20, u21, u22, u23, u24, .slice (some ⟨g0, 0, none⟩) 0 0, .pointer (some ⟨bl, 0, none⟩), .pointer (some ⟨bl, 0, none⟩), .slice Aw0 nw0 cw0, .slice (some ⟨g4, 0, none⟩) nw0 k4, .pointer (some ⟨bl, 4, none⟩), .pointer (some ⟨bl, 4, none⟩), .slice Aw1 nw1 cw1, .slice (some ⟨g8, 0, none⟩) (nw0 + nw1) k8, .slice (some ⟨g9, 0, none⟩) 0 0, .pointer (some ⟨bl, 0, none⟩), .pointer (some ⟨bl, 1, none⟩), .slice Am0 nm0 cm0, u38, .pointer (some ⟨bl, 4, none⟩), .pointer (some ⟨bl, 5, none⟩), .slice Am1 nm1 cm1, u42, .slice (some ⟨g18, 0, none⟩) 0 0, .pointer (some ⟨bl, 0, none⟩), .pointer (some ⟨bl, 3, none⟩), .slice Ag0 ng0 cg0, u47, .pointer (some ⟨bl, 4, none⟩), .pointer (some ⟨bl, 7, none⟩), .slice Ag1 ng1 cg1, u51, u52, u53, u54, u55, u56, u57, u58, u59, u60, u61, u62, u63, u64, u65, u66, u67, u68, u69, u70, u71, u72, u73, u74, u75, u76, u77, u78, u79, u80, u81, u82, u83, u84, u85, u86, u87, u88, u89, u90, u91, u92, u93, u94, u95, u96, u97, u98, u99, u100, u101, u102, u103, u104, u105, u106, u107, u108, u109, u110, u111, u112, u113, u114, u115, u116, u117, u118, u119, u120, u121, u122], defers := [] } W := by
    intro W g0 g4 k4 g8 k8 g9 g18 gx hap
    dsimp only [rg_ApR3]
    refine wpAnyH_ready (rs := [13]) (by kernel_rfl) (by simp) ?_
    refine AllReadyH.cons rfl (fun K hK => ?_) (AllReadyH.nil)
    · skip
      have hap_ := hap.sw1
      refine step_app17 rfl _ _ 24 rfl V.heap.size 2 i0 (.int .i64 0) 1 8 Try.underlying24 hi hz0 hz1 hz2 rfl (by decide) g9 0 0 _ rfl hap_.own Am0 nm0 cm0 (Lm0.map encI) rfl (by rw [List.length_map, Nat.mul_one]; exact hm0.1.symm) (ir_news17 hm0 hap.1) (one_encI17 _) (by unfold maxLen; omega) (by omega) hap.1.size nm0 (by omega) ?_
      intro g13 k13 w1 hown1 hgrow1 hat1 hlt1
      have hap2 := (hap_.app hown1 hgrow1 hat1).sw1
      refine hK.out _ _ hap2.1 (fun hHeld => ?_)
      exact s_11111010010 w1 g0 g4 k4 g8 k8 g9 g13 k13 g18 gx hap2
  have s_11111000010 : ∀ (W : World) (g0 g4 k4 g8 k8 g9 g13 k13 gx : Nat), Ap17 V W (some (g8, (nw0 + nw1), k8, (Lw0 ++ Lw1))) (some (g13, nm0, k13, Lm0)) none (some gx) → wpAnyH Try.prog .any rg_ApR3.1 Q (fun w' => Below V.heap.size V w') 6 #[true, true, true, true, true, true, true, true, true, true, true, true, true, true, true, true, true, false, false, true, true, true, false, true, true, true, false, false, true, false] { tmps := #[u0, u1, u2, u3, .pointer (some ⟨bl, 0, none⟩), u5, u6, .pointer (some ⟨gx, 0, none⟩), u8, u9, u10, u11, u12, u13, u14, u15, u16, u17, u18, u19, u20, u21, u22, u23, u24, .slice (some ⟨g0, 0, none⟩) 0 0, .pointer (some ⟨bl, 0, none⟩), .pointer (some ⟨bl, 0, none⟩), .slice Aw0 nw0 cw0, .slice (some ⟨g4, 0, none⟩) nw0 k4, .pointer (some ⟨bl, 4, none⟩), .pointer (some ⟨bl, 4, none⟩), .slice Aw1 nw1 cw1, .slice (some ⟨g8, 0, none⟩) (nw0 + nw1) k8, .slice (some ⟨g9, 0, none⟩) 0 0, .pointer (some ⟨bl, 0, none⟩), .pointer (some ⟨bl, 1, none⟩), .slice Am0 nm0 cm0, .slice (some ⟨g13, 0, none⟩) nm0 k13, .pointer (some ⟨bl, 4, none⟩), .pointer (some ⟨bl, 5, none⟩), .slice Am1 nm1 cm1, u42, u43, .pointer (some ⟨bl, 0, none⟩), .pointer (some ⟨bl, 3, none⟩), .slice Ag0 ng0 cg0, u47, .pointer (some ⟨bl, 4, none⟩), .pointer (some ⟨bl, 7, none⟩), .slice Ag1 ng1 cg1, u51, u52, u53, u54, u55, u56, u57, u58, u59, u60, u61, u62, u63, u64, u65, u66, u67, u68, u69, u70, u71, u72, u73, u74, u75, u76, u77, u78, u79, u80, u81, u82, u83, u84, u85, u86, u87, u88, u89, u90, u91, u92, u93, u94, u95, u96, u97, u98, u99, u100, u101, u102, u103, u104, u105, u106, u107, u108, u109, u110, u111, u112, u113, u114, u115, u116, u117, u118, u119, u120, u121, u122], defers := [] } W := by
    intro W g0 g4 k4 g8 k8 g9 g13 k13 gx hap
    dsimp only [rg_ApR3]
    refine wpAnyH_ready (rs := [17, 18]) (by kernel_rfl) (by simp) ?_
    refine AllReadyH.cons rfl (fun K hK => ?_) (AllReadyH.cons rfl (fun K hK => ?_) (AllReadyH.nil))
    · skip
      have hap_ := hap.sw1
      refine step_app17 rfl _ _ 24 rfl V.heap.size 2 i0 (.int .i64 0) 1 8 Try.underlying24 hi hz0 hz1 hz2 rfl (by decide) g13 nm0 k13 _ rfl hap_.own Am1 nm1 cm1 (Lm1.map encI) rfl (by rw [List.length_map, Nat.mul_one]; exact hm1.1.symm) (ir_news17 hm1 hap.1) (one_encI17 _) (by unfold maxLen; omega) (by omega) hap.1.size (nm0 + nm1) (by omega) ?_
      intro g17 k17 w1 hown1 hgrow1 hat1 hlt1
      have hap2 := (hap_.app hown1 hgrow1 hat1).sw1
      refine hK.out _ _ hap2.1 (fun hHeld => ?_)
      exact s_11111100010 w1 g0 g4 k4 g8 k8 g9 g13 k13 g17 k17 gx hap2
    · skip
      (try simp only [pT])
      rw [if_pos (by rfl)]
      go_simp
      have hap2 := (hap.sw2.sw1.newA).sw1.sw2
      refine hK.out _ _ hap2.1 (fun hHeld => ?_)
      exact s_11111010010 _ g0 g4 k4 g8 k8 g9 g13 k13 W.heap.size gx hap2
  have s_11111010000 : ∀ (W : World) (g0 g4 k4 g8 k8 g9 g13 k13 g18 : Nat), Ap17 V W (some (g8, (nw0 + nw1), k8, (Lw0 ++ Lw1))) (some (g13, nm0, k13, Lm0)) (some (g18, 0, 0, [])) none → wpAnyH Try.prog .any rg_ApR3.1 Q (fun w' => Below V.heap.size V w') 6 #[true, true, true, true, true, true, true, true, true, true, true, true, true, true, true, true, true, false, true, true, true, true, false, true, true, true, false, false, false, false] { tmps := #[u0, u1, u2, u3, .pointer (some ⟨bl, 0, none⟩), u5, u6, u7, u8, u9, u10, u11, u12, u13, u14, u15, u16, u17, u18, u19, u20, u21, u22, u23, u24, .slice (some ⟨g0, 0, none⟩) 0 0, .pointer (some ⟨bl, 0, none⟩), .pointer (some ⟨bl, 0, none⟩), .slice Aw0 nw0 cw0, .slice (some ⟨g4, 0, none⟩) nw0 k4, .pointer (some ⟨bl, 4, none⟩), .pointer (some ⟨bl, 4, none⟩), .slice Aw1 nw1 cw1, .slice (some ⟨g8, 0, none⟩) (nw0 + nw1) k8, .slice (some ⟨g9, 0, none⟩) 0 0, .pointer (some ⟨bl, 0, none⟩), .pointer (some ⟨bl, 1, none⟩), .slice Am0 nm0 cm0, .slice (some ⟨g13, 0, none⟩) nm0 k13, .pointer (some ⟨bl, 4, none⟩), .pointer (some ⟨bl, 5, none⟩), .slice Am1 nm1 cm1, u42, .slice (some ⟨g18, 0, none⟩) 0 0, .pointer (some ⟨bl, 0, none⟩), .pointer (some ⟨bl, 3, none⟩), .slice Ag0 ng0 cg0, u47, .pointer (some ⟨bl, 4, none⟩), .pointer (some ⟨bl, 7, none⟩), .slice Ag1 ng1 cg1, u51, u52, u53, u54, u55, u56, u57, u58, u59, u60, u61, u62, u63, u64, u65, u66, u67, u68, u69, u70, u71, u72, u73, u74, u75, u76, u77, u78, u79, u80, u81, u82, u83, u84, u85, u86, u87, u88, u89, u90, u91, u92, u93, u94, u95, u96, u97, u98, u99, u100, u101, u102, u103, u104, u105, u106, u107, u108, u109, u110, u111, u112, u113, u114, u115, u116, u117, u118, u119, u120, u121, u122], defers := [] } W := by
    intro W g0 g4 k4 g8 k8 g9 g13 k13 g18 hap
    dsimp only [rg_ApR3]
    refine wpAnyH_ready (rs := [17, 28]) (by kernel_rfl) (by simp) ?_
    refine AllReadyH.cons rfl (fun K hK => ?_) (AllReadyH.cons rfl (fun K hK => ?_) (AllReadyH.nil))
    · skip
      have hap_ := hap.sw1
      refine step_app17 rfl _ _ 24 rfl V.heap.size 2 i0 (.int .i64 0) 1 8 Try.underlying24 hi hz0 hz1 hz2 rfl (by decide) g13 nm0 k13 _ rfl hap_.own Am1 nm1 cm1 (Lm1.map encI) rfl (by rw [List.length_map, Nat.mul_one]; exact hm1.1.symm) (ir_news17 hm1 hap.1) (one_encI17 _) (by unfold maxLen; omega) (by omega) hap.1.size (nm0 + nm1) (by omega) ?_
      intro g17 k17 w1 hown1 hgrow1 hat1 hlt1
      have hap2 := (hap_.app hown1 hgrow1 hat1).sw1
      refine hK.out _ _ hap2.1 (fun hHeld => ?_)
      exact s_11111110000 w1 g0 g4 k4 g8 k8 g9 g13 k13 g17 k17 g18 hap2
    · skip
      (try simp only [pT])
      rw [if_pos (by rfl)]
      go_simp
      have hap2 := hap.newX
      refine hK.out _ _ hap2.1 (fun hHeld => ?_)
      exact s_11111010010 _ g0 g4 k4 g8 k8 g9 g13 k13 g18 W.heap.size hap2
  have s_11111100000 : ∀ (W : World) (g0 g4 k4 g8 k8 g9 g13 k13 g17 k17 : Nat), Ap17 V W (some (g8, (nw0 + nw1), k8, (Lw0 ++ Lw1))) (some (g17, (nm0 + nm1), k17, (Lm0 ++ Lm1))) none none → wpAnyH Try.prog .any rg_ApR3.1 Q (fun w' => Below V.heap.size V w') 6 #[true, true, true, true, true, true, true, true, true, true, true, true, true, true, true, true, true, true, false, true, true, true, false, true, true, true, false, false, false, false] { tmps := #[u0, u1, u2, u3, .pointer (some ⟨bl, 0, none⟩), u5, u6, u7, u8, u9, u10, u11, u12, u13, u14, u15, u16, u17, u18, u19, u20, u21, u22, u23, u24, .slice (some ⟨g0, 0, none⟩) 0 0, .pointer (some ⟨bl, 0, none⟩), .pointer (some ⟨bl, 0, none⟩), .slice Aw0 nw0 cw0, .slice (some ⟨g4, 0, none⟩) nw0 k4, .pointer (some ⟨bl, 4, none⟩), .pointer (some ⟨bl, 4, none⟩), .slice Aw1 nw1 cw1, .slice (some ⟨g8, 0, none⟩) (nw0 + nw1) k8, .slice (some ⟨g9, 0, none⟩) 0 0, .pointer (some ⟨bl, 0, none⟩), .pointer (some ⟨bl, 1, none⟩), .slice Am0 nm0 cm0, .slice (some ⟨g13, 0, none⟩) nm0 k13, .pointer (some ⟨bl, 4, none⟩), .pointer (some ⟨bl, 5, none⟩), .slice Am1 nm1 cm1, .slice (some ⟨g17, 0, none⟩) (nm0 + nm1) k17, u43, .pointer (some ⟨bl, 0, none⟩), .pointer (some ⟨bl, 3, none⟩), .slice Ag0 ng0 cg0, u47, .pointer (some ⟨bl, 4, none⟩), .pointer (some ⟨bl, 7, none⟩), .slice Ag1 ng1 cg1, u51, u52, u53, u54, u55, u56, u57, u58, u59, u60, u61, u62, u63, u64, u65, u66, u67, u68, u69, u70, u71, u72, u73, u74, u75, u76, u77, u78, u79, u80, u81, u82, u83, u84, u85, u86, u87, u88, u89, u90, u91, u92, u93, u94, u95, u96, u97, u98, u99, u100, u101, u102, u103, u104, u105, u106, u107, u108, u109, u110, u111, u112, u113, u114, u115, u116, u117, u118, u119, u120, u121, u122], defers := [] } W := by
    intro W g0 g4 k4 g8 k8 g9 g13 k13 g17 k17 hap
    dsimp only [rg_ApR3]
    refine wpAnyH_ready (rs := [18, 28]) (by kernel_rfl) (by simp) ?_
    refine AllReadyH.cons rfl (fun K hK => ?_) (AllReadyH.cons rfl (fun K hK => ?_) (AllReadyH.nil))
    · skip
      (try simp only [pT])
      rw [if_pos (by rfl)]
      go_simp
      have hap2 := (hap.sw2.sw1.newA).sw1.sw2
      refine hK.out _ _ hap2.1 (fun hHeld => ?_)
      exact s_11111110000 _ g0 g4 k4 g8 k8 g9 g13 k13 g17 k17 W.heap.size hap2
    · skip
      (try simp only [pT])
      rw [if_pos (by rfl)]
      go_simp
      have hap2 := hap.newX
      refine hK.out _ _ hap2.1 (fun hHeld => ?_)
      exact s_11111100010 _ g0 g4 k4 g8 k8 g9 g13 k13 g17 k17 W.heap.size hap2
  have s_11010010010 : ∀ (W : World) (g0 g4 k4 g9 g18 gx : Nat), Ap17 V W (some (g4, nw0, k4, Lw0)) (some (g9, 0, 0, [])) (some (g18, 0, 0, [])) (some gx) → wpAnyH Try.prog .any rg_ApR3.1 Q (fun w' => Below V.heap.size V w') 7 #[true, true, true, true, true, true, true, true, false, true, true, true, true, false, true, true, true, false, true, true, true, true, false, true, true, true, false, false, true, false] { tmps := #[u0, u1, u2, u3, .pointer (some ⟨bl, 0, none⟩), u5, u6, .pointer (some ⟨gx, 0, none⟩), u8, u9, u10, u11, u12, u13, u14, u15, u16, u17, u18, u19, u20, u21, u22, u23, u24, .slice (some ⟨g0, 0, none⟩) 0 0, .pointer (some ⟨bl, 0, none⟩), .pointer (some ⟨bl, 0, none⟩), .slice Aw0 nw0 cw0, .slice (some ⟨g4, 0, none⟩) nw0 k4, .pointer (some ⟨bl, 4, none⟩), .pointer (some ⟨bl, 4, none⟩), .slice Aw1 nw1 cw1, u33, .slice (some ⟨g9, 0, none⟩) 0 0, .pointer (some ⟨bl, 0, none⟩), .pointer (some ⟨bl, 1, none⟩), .slice Am0 nm0 cm0, u38, .pointer (some ⟨bl, 4, none⟩), .pointer (some ⟨bl, 5, none⟩), .slice Am1 nm1 cm1, u42, .slice (some ⟨g18, 0, none⟩) 0 0, .pointer (some ⟨bl, 0, none⟩), .pointer (some ⟨bl, 3, none⟩), .slice Ag0 ng0 cg0, u47, .pointer (some ⟨bl, 4, none⟩), .pointer (some ⟨bl, 7, none⟩), .slice Ag1 ng1 cg1, u51, u52, u53, u54, u55, u56, u57, u58, u59, u60, u61, u62, u63, u64, u65, u66, u67, u68, u69, u70, u71, u72, u73, u74, u75, u76, u77, u78, u79, u80, u81, u82, u83, u84, u85, u86, u87, u88, u89, u90, u91, u92, u93, u94, u95, u96, u97, u98, u99, u100, u101, u102, u103, u104, u105, u106, u107, u108, u109, u110, u111, u112, u113, u114, u115, u116, u117, u118, u119, u120, u121, u122], defers := [] } W := by
    intro W g0 g4 k4 g9 g18 gx hap
    dsimp only [rg_ApR3]
    refine wpAnyH_ready (rs := [8]) (by kernel_rfl) (by simp) ?_
    refine AllReadyH.cons rfl (fun K hK => ?_) (AllReadyH.nil)
    · skip
      have hap_ := hap
      refine step_app17 rfl _ _ 24 rfl V.heap.size 2 i0 (.int .i64 0) 1 8 Try.underlying24 hi hz0 hz1 hz2 rfl (by decide) g4 nw0 k4 _ rfl hap_.own Aw1 nw1 cw1 (Lw1.map encI) rfl (by rw [List.length_map, Nat.mul_one]; exact hw1.1.symm) (ir_news17 hw1 hap.1) (one_encI17 _) (by unfold maxLen; omega) (by omega) hap.1.size (nw0 + nw1) (by omega) ?_
      intro g8 k8 w1 hown1 hgrow1 hat1 hlt1
      have hap2 := (hap_.app hown1 hgrow1 hat1)
      refine hK.out _ _ hap2.1 (fun hHeld => ?_)
      exact s_11110010010 w1 g0 g4 k4 g8 k8 g9 g18 gx hap2
  have s_11100010010 : ∀ (W : World) (g0 g4 k4 g8 k8 g18 gx : Nat), Ap17 V W (some (g8, (nw0 + nw1), k8, (Lw0 ++ Lw1))) none (some (g18, 0, 0, [])) (some gx) → wpAnyH Try.prog .any rg_ApR3.1 Q (fun w' => Below V.heap.size V w') 7 #[true, true, true, true, true, true, true, true, true, false, true, true, true, false, true, true, true, false, true, true, true, true, false, true, true, true, false, false, true, false] { tmps := #[u0, u1, u2, u3, .pointer (some ⟨bl, 0, none⟩), u5, u6, .pointer (some ⟨gx, 0, none⟩), u8, u9, u10, u11, u12, u13, u14, u15, u16, u17, u18, u19, u20, u21, u22, u23, u24, .slice (some ⟨g0, 0, none⟩) 0 0, .pointer (some ⟨bl, 0, none⟩), .pointer (some ⟨bl, 0, none⟩), .slice Aw0 nw0 cw0, .slice (some ⟨g4, 0, none⟩) nw0 k4, .pointer (some ⟨bl, 4, none⟩), .pointer (some ⟨bl, 4, none⟩), .slice Aw1 nw1 cw1, .slice (some ⟨g8, 0, none⟩) (nw0 + nw1) k8, u34, .pointer (some ⟨bl, 0, none⟩), .pointer (some ⟨bl, 1, none⟩), .slice Am0 nm0 cm0, u38, .pointer (some ⟨bl, 4, none⟩), .pointer (some ⟨bl, 5, none⟩), .slice Am1 nm1 cm1, u42, .slice (some ⟨g18, 0, none⟩) 0 0, .pointer (some ⟨bl, 0, none⟩), .pointer (some ⟨bl, 3, none⟩), .slice Ag0 ng0 cg0, u47, .pointer (some ⟨bl, 4, none⟩), .pointer (some ⟨bl, 7, none⟩), .slice Ag1 ng1 cg1, u51, u52, u53, u54, u55, u56, u57, u58, u59, u60, u61, u62, u63, u64, u65, u66, u67, u68, u69, u70, u71, u72, u73, u74, u75, u76, u77, u78, u79, u80, u81, u82, u83, u84, u85, u86, u87, u88, u89, u90, u91, u92, u93, u94, u95, u96, u97, u98, u99, u100, u101, u102, u103, u104, u105, u106, u107, u108, u109, u110, u111, u112, u113, u114, u115, u116, u117, u118, u119, u120, u121, u122], defers := [] } W := by
    intro W g0 g4 k4 g8 k8 g18 gx hap
    dsimp only [rg_ApR3]
    refine wpAnyH_ready (rs := [9]) (by kernel_rfl) (by simp) ?_
    refine AllReadyH.cons rfl (fun K hK => ?_) (AllReadyH.nil)
    · skip
      (try simp only [pT])
      rw [if_pos (by rfl)]
      go_simp
      have hap2 := (hap.sw1.newA).sw1
      refine hK.out _ _ hap2.1 (fun hHeld => ?_)
      exact s_11110010010 _ g0 g4 k4 g8 k8 W.heap.size g18 gx hap2
  have s_11110000010 : ∀ (W : World) (g0 g4 k4 g8 k8 g9 gx : Nat), Ap17 V W (some (g8, (nw0 + nw1), k8, (Lw0 ++ Lw1))) (some (g9, 0, 0, [])) none (some gx) → wpAnyH Try.prog .any rg_ApR3.1 Q (fun w' => Below V.heap.size V w') 7 #[true, true, true, true, true, true, true, true, true, true, true, true, true, false, true, true, true, false, false, true, true, true, false, true, true, true, false, false, true, false] { tmps := #[u0, u1, u2, u3, .pointer (some ⟨bl, 0, none⟩), u5, u6, .pointer (some ⟨gx, 0, none⟩), u8, u9, u10, u11, u12, u13, u14, u15, u16, u17, u18, u19, u20, u21, u22, u23, u24, .slice (some ⟨g0, 0, none⟩) 0 0, .pointer (some ⟨bl, 0, none⟩), .pointer (some ⟨bl, 0, none⟩), .slice Aw0 nw0 cw0, .slice (some ⟨g4, 0, none⟩) nw0 k4, .pointer (some ⟨bl, 4, none⟩), .pointer (some ⟨bl, 4, none⟩), .slice Aw1 nw1 cw1, .slice (some ⟨g8, 0, none⟩) (nw0 + nw1) k8, .slice (some ⟨g9, 0, none⟩) 0 0, .pointer (some ⟨bl, 0, none⟩), .pointer (some ⟨bl, 1, none⟩), .slice Am0 nm0 cm0, u38, .pointer (some ⟨bl, 4, none⟩), .pointer (some ⟨bl, 5, none⟩), .slice Am1 nm1 cm1, u42, u43, .pointer (some ⟨bl, 0, none⟩), .pointer (some ⟨bl, 3, none⟩), .slice Ag0 ng0 cg0, u47, .pointer (some ⟨bl, 4, none⟩), .pointer (some ⟨bl, 7, none⟩), .slice Ag1 ng1 cg1, u51, u52, u53, u54, u55, u56, u57, u58, u59, u60, u61, u62, u63, u64, u65, u66, u67, u68, u69, u70, u71, u72, u73, u74, u75, u76, u77, u78, u79, u80, u81, u82, u83, u84, u85, u86, u87, u88, u89, u90, u91, u92, u93, u94, u95, u96, u97, u98, u99, u100, u101, u102, u103, u104, u105, u106, u107, u108, u109, u110, u111, u112, u113, u114, u115, u116, u117, u118, u119, u120, u121, u122], defers := [] } W := by
    intro W g0 g4 k4 g8 k8 g9 gx hap
    dsimp only [rg_ApR3]
    refine wpAnyH_ready (rs := [13, 18]) (by kernel_rfl) (by simp) ?_
    refine AllReadyH.cons rfl (fun K hK => ?_) (AllReadyH.cons rfl (fun K hK => ?_) (AllReadyH.nil))
    · skip
      have hap_ := hap.sw1
      refine step_app17 rfl _ _ 24 rfl V.heap.size 2 i0 (.int .i64 0) 1 8 Try.underlying24 hi hz0 hz1 hz2 rfl (by decide) g9 0 0 _ rfl hap_.own Am0 nm0 cm0 (Lm0.map encI) rfl (by rw [List.length_map, Nat.mul_one]; exact hm0.1.symm) (ir_news17 hm0 hap.1) (one_encI17 _) (by unfold maxLen; omega) (by omega) hap.1.size nm0 (by omega) ?_
      intro g13 k13 w1 hown1 hgrow1 hat1 hlt1
      have hap2 := (hap_.app hown1 hgrow1 hat1).sw1
      refine hK.out _ _ hap2.1 (fun hHeld => ?_)
      exact s_11111000010 w1 g0 g4 k4 g8 k8 g9 g13 k13 gx hap2
    · skip
      (try simp only [pT])
      rw [if_pos (by rfl)]
      go_simp
      have hap2 := (hap.sw2.sw1.newA).sw1.sw2
      refine hK.out _ _ hap2.1 (fun hHeld => ?_)
      exact s_11110010010 _ g0 g4 k4 g8 k8 g9 W.heap.size gx hap2
  have s_11110010000 : ∀ (W : World) (g0 g4 k4 g8 k8 g9 g18 : Nat), Ap17 V W (some (g8, (nw0 + nw1), k8, (Lw0 ++ Lw1))) (some (g9, 0, 0, [])) (some (g18, 0, 0, [])) none → wpAnyH Try.prog .any rg_ApR3.1 Q (fun w' => Below V.heap.size V w') 7 #[true, true, true, true, true, true, true, true, true, true, true, true, true, false, true, true, true, false, true, true, true, true, false, true, true, true, false, false, false, false] { tmps := #[u0, u1, u2, u3, .pointer (some ⟨bl, 0, none⟩), u5, u6, u7, u8, u9, u10, u11, u12, u13, u14, u15, u16, u17, u18, u19, u20, u21, u22, u23, u24, .slice (some ⟨g0, 0, none⟩) 0 0, .pointer (some ⟨bl, 0, none⟩), .pointer (some ⟨bl, 0, none⟩), .slice Aw0 nw0 cw0, .slice (some ⟨g4, 0, none⟩) nw0 k4, .pointer (some ⟨bl, 4, none⟩), .pointer (some ⟨bl, 4, none⟩), .slice Aw1 nw1 cw1, .slice (some ⟨g8, 0, none⟩) (nw0 + nw1) k8, .slice (some ⟨g9, 0, none⟩) 0 0, .pointer (some ⟨bl, 0, none⟩), .pointer (some ⟨bl, 1, none⟩), .slice Am0 nm0 cm0, u38, .pointer (some ⟨bl, 4, none⟩), .pointer (some ⟨bl, 5, none⟩), .slice Am1 nm1 cm1, u42, .slice (some ⟨g18, 0, none⟩) 0 0, .pointer (some ⟨bl, 0, none⟩), .pointer (some ⟨bl, 3, none⟩), .slice Ag0 ng0 cg0, u47, .pointer (some ⟨bl, 4, none⟩), .pointer (some ⟨bl, 7, none⟩), .slice Ag1 ng1 cg1, u51, u52, u53, u54, u55, u56, u57, u58, u59, u60, u61, u62, u63, u64, u65, u66, u67, u68, u69, u70, u71, u72, u73, u74, u75, u76, u77, u78, u79, u80, u81, u82, u83, u84, u85, u86, u87, u88, u89, u90, u91, u92, u93, u94, u95, u96, u97, u98, u99, u100, u101, u102, u103, u104, u105, u106, u107, u108, u109, u110, u111, u112, u113, u114, u115, u116, u117, u118, u119, u120, u121, u122], defers := [] } W := by
    intro W g0 g4 k4 g8 k8 g9 g18 hap
    dsimp only [rg_ApR3]
    refine wpAnyH_ready (rs := [13, 28]) (by kernel_rfl) (by simp) ?_
    refine AllReadyH.cons rfl (fun K hK => ?_) (AllReadyH.cons rfl (fun K hK => ?_) (AllReadyH.nil))
    · skip
      have hap_ := hap.sw1
      refine step_app17 rfl _ _ 24 rfl V.heap.size 2 i0 (.int .i64 0) 1 8 Try.underlying24 hi hz0 hz1 hz2 rfl (by decide) g9 0 0 _ rfl hap_.own Am0 nm0 cm0 (Lm0.map encI) rfl (by rw [List.length_map, Nat.mul_one]; exact hm0.1.symm) (ir_news17 hm0 hap.1) (one_encI17 _) (by unfold maxLen; omega) (by omega) hap.1.size nm0 (by omega) ?_
      intro g13 k13 w1 hown1 hgrow1 hat1 hlt1
      have hap2 := (hap_.app hown1 hgrow1 hat1).sw1
      refine hK.out _ _ hap2.1 (fun hHeld => ?_)
      exact s_11111010000 w1 g0 g4 k4 g8 k8 g9 g13 k13 g18 hap2
    · skip
      (try simp only [pT])
      rw [if_pos (by rfl)]
      go_simp
      have hap2 := hap.newX
      refine hK.out _ _ hap2.1 (fun hHeld => ?_)
      exact s_11110010010 _ g0 g4 k4 g8 k8 g9 g18 W.heap.size hap2
  have s_11111000000 : ∀ (W : World) (g0 g4 k4 g8 k8 g9 g13 k13 : Nat), Ap17 V W (some (g8, (nw0 + nw1), k8, (Lw0 ++ Lw1))) (some (g13, nm0, k13, Lm0)) none none → wpAnyH Try.prog .any rg_ApR3.1 Q (fun w' => Below V.heap.size V w') 7 #[true, true, true, true, true, true, true, true, true, true, true, true, true, true, true, true, true, false, false, true, true, true, false, true, true, true, false, false, false, false] { tmps := #[u0, u1, u2, u3, .pointer (some ⟨bl, 0, none⟩), u5, u6, u7, u8, u9, u10, u11, u12, u13, u14, u15, u16, u17, u18, u19, u20, u21, u22, u23, u24, .slice (some ⟨g0, 0, none⟩) 0 0, .pointer (some ⟨bl, 0, none⟩), .pointer (some ⟨bl, 0, none⟩), .slice Aw0 nw0 cw0, .slice (some ⟨g4, 0, none⟩) nw0 k4, .pointer (some ⟨bl, 4, none⟩), .pointer (some ⟨bl, 4, none⟩), .slice Aw1 nw1 cw1, .slice (some ⟨g8, 0, none⟩) (nw0 + nw1) k8, .slice (some ⟨g9, 0, none⟩) 0 0, .pointer (some ⟨bl, 0, none⟩), .pointer (some ⟨bl, 1, none⟩), .slice Am0 nm0 cm0, .slice (some ⟨g13, 0, none⟩) nm0 k13, .pointer (some ⟨bl, 4, none⟩), .pointer (some ⟨bl, 5, none⟩), .slice Am1 nm1 cm1, u42, u43, .pointer (some ⟨bl, 0, none⟩), .pointer (some ⟨bl, 3, none⟩), .slice Ag0 ng0 cg0, u47, .pointer (some ⟨bl, 4, none⟩), .pointer (some ⟨bl, 7, none⟩), .slice Ag1 ng1 cg1, u51, u52, u53, u54, u55, u56, u57, u58, u59, u60, u61, u62, u63, u64, u65, u66, u67, u68, u69, u70, u71, u72, u73, u74, u75, u76, u77, u78, u79, u80, u81, u82, u83, u84, u85, u86, u87, u88, u89, u90, u91, u92, u93, u94, u95, u96, u97, u98, u99, u100, u101, u102, u103, u104, u105, u106, u107, u108, u109, u110, u111, u112, u113, u114, u115, u116, u117, u118, u119, u120, u121, u122], defers := [] } W := by
    intro W g0 g4 k4 g8 k8 g9 g13 k13 hap
    dsimp only [rg_ApR3]
    refine wpAnyH_ready (rs := [17, 18, 28]) (by kernel_rfl) (by simp) ?_
    refine AllReadyH.cons rfl (fun K hK => ?_) (AllReadyH.cons rfl (fun K hK => ?_) (AllReadyH.cons rfl (fun K hK => ?_) (AllReadyH.nil)))
    · skip
      have hap_ := hap.sw1
      refine step_app17 rfl _ _ 24 rfl V.heap.size 2 i0 (.int .i64 0) 1 8 Try.underlying24 hi hz0 hz1 hz2 rfl (by decide) g13 nm0 k13 _ rfl hap_.own Am1 nm1 cm1 (Lm1.map encI) rfl (by rw [List.length_map, Nat.mul_one]; exact hm1.1.symm) (ir_news17 hm1 hap.1) (one_encI17 _) (by unfold maxLen; omega) (by omega) hap.1.size (nm0 + nm1) (by omega) ?_
      intro g17 k17 w1 hown1 hgrow1 hat1 hlt1
      have hap2 := (hap_.app hown1 hgrow1 hat1).sw1
      refine hK.out _ _ hap2.1 (fun hHeld => ?_)
      exact s_11111100000 w1 g0 g4 k4 g8 k8 g9 g13 k13 g17 k17 hap2
    · skip
      (try simp only [pT])
      rw [if_pos (by rfl)]
      go_simp
      have hap2 := (hap.sw2.sw1.newA).sw1.sw2
      refine hK.out _ _ hap2.1 (fun hHeld => ?_)
      exact s_11111010000 _ g0 g4 k4 g8 k8 g9 g13 k13 W.heap.size hap2
    · skip
      (try simp only [pT])
      rw [if_pos (by rfl)]
      go_simp
      have hap2 := hap.newX
      refine hK.out _ _ hap2.1 (fun hHeld => ?_)
      exact s_11111000010 _ g0 g4 k4 g8 k8 g9 g13 k13 W.heap.size hap2
  have s_10010010010 : ∀ (W : World) (g0 g9 g18 gx : Nat), Ap17 V W (some (g0, 0, 0, [])) (some (g9, 0, 0, [])) (some (g18, 0, 0, [])) (some gx) → wpAnyH Try.prog .any rg_ApR3.1 Q (fun w' => Below V.heap.size V w') 8 #[true, true, true, true, false, true, true, true, false, true, true, true, true, false, true, true, true, false, true, true, true, true, false, true, true, true, false, false, true, false] { tmps := #[u0, u1, u2, u3, .pointer (some ⟨bl, 0, none⟩), u5, u6, .pointer (some ⟨gx, 0, none⟩), u8, u9, u10, u11, u12, u13, u14, u15, u16, u17, u18, u19, u20, u21, u22, u23, u24, .slice (some ⟨g0, 0, none⟩) 0 0, .pointer (some ⟨bl, 0, none⟩), .pointer (some ⟨bl, 0, none⟩), .slice Aw0 nw0 cw0, u29, .pointer (some ⟨bl, 4, none⟩), .pointer (some ⟨bl, 4, none⟩), .slice Aw1 nw1 cw1, u33, .slice (some ⟨g9, 0, none⟩) 0 0, .pointer (some ⟨bl, 0, none⟩), .pointer (some ⟨bl, 1, none⟩), .slice Am0 nm0 cm0, u38, .pointer (some ⟨bl, 4, none⟩), .pointer (some ⟨bl, 5, none⟩), .slice Am1 nm1 cm1, u42, .slice (some ⟨g18, 0, none⟩) 0 0, .pointer (some ⟨bl, 0, none⟩), .pointer (some ⟨bl, 3, none⟩), .slice Ag0 ng0 cg0, u47, .pointer (some ⟨bl, 4, none⟩), .pointer (some ⟨bl, 7, none⟩), .slice Ag1 ng1 cg1, u51, u52, u53, u54, u55, u56, u57, u58, u59, u60, u61, u62, u63, u64, u65, u66, u67, u68, u69, u70, u71, u72, u73, u74, u75, u76, u77, u78, u79, u80, u81, u82, u83, u84, u85, u86, u87, u88, u89, u90, u91, u92, u93, u94, u95, u96, u97, u98, u99, u100, u101, u102, u103, u104, u105, u106, u107, u108, u109, u110, u111, u112, u113, u114, u115, u116, u117, u118, u119, u120, u121, u122], defers := [] } W := by
    intro W g0 g9 g18 gx hap
    dsimp only [rg_ApR3]
    refine wpAnyH_ready (rs := [4]) (by kernel_rfl) (by simp) ?_
    refine AllReadyH.cons rfl (fun K hK => ?_) (AllReadyH.nil)
    · skip
      have hap_ := hap
      refine step_app17 rfl _ _ 24 rfl V.heap.size 2 i0 (.int .i64 0) 1 8 Try.underlying24 hi hz0 hz1 hz2 rfl (by decide) g0 0 0 _ rfl hap_.own Aw0 nw0 cw0 (Lw0.map encI) rfl (by rw [List.length_map, Nat.mul_one]; exact hw0.1.symm) (ir_news17 hw0 hap.1) (one_encI17 _) (by unfold maxLen; omega) (by omega) hap.1.size nw0 (by omega) ?_
      intro g4 k4 w1 hown1 hgrow1 hat1 hlt1
      have hap2 := (hap_.app hown1 hgrow1 hat1)
      refine hK.out _ _ hap2.1 (fun hHeld => ?_)
      exact s_11010010010 w1 g0 g4 k4 g9 g18 gx hap2
  have s_11000010010 : ∀ (W : World) (g0 g4 k4 g18 gx : Nat), Ap17 V W (some (g4, nw0, k4, Lw0)) none (some (g18, 0, 0, [])) (some gx) → wpAnyH Try.prog .any rg_ApR3.1 Q (fun w' => Below V.heap.size V w') 8 #[true, true, true, true, true, true, true, true, false, false, true, true, true, false, true, true, true, false, true, true, true, true, false, true, true, true, false, false, true, false] { tmps := #[u0, u1, u2, u3, .pointer (some ⟨bl, 0, none⟩), u5, u6, .pointer (some ⟨gx, 0, none⟩), u8, u9, u10, u11, u12, u13, u14, u15, u16, u17, u18, u19, u20, u21, u22, u23, u24, .slice (some ⟨g0, 0, none⟩) 0 0, .pointer (some ⟨bl, 0, none⟩), .pointer (some ⟨bl, 0, none⟩), .slice Aw0 nw0 cw0, .slice (some ⟨g4, 0, none⟩) nw0 k4, .pointer (some ⟨bl, 4, none⟩), .pointer (some ⟨bl, 4, none⟩), .slice Aw1 nw1 cw1, u33, u34, .pointer (some ⟨bl, 0, none⟩), .pointer (some ⟨bl, 1, none⟩), .slice Am0 nm0 cm0, u38, .pointer (some ⟨bl, 4, none⟩), .pointer (some ⟨bl, 5, none⟩), .slice Am1 nm1 cm1, u42, .slice (some ⟨g18, 0, none⟩) 0 0, .pointer (some ⟨bl, 0, none⟩), .pointer (some ⟨bl, 3, none⟩), .slice Ag0 ng0 cg0, u47, .pointer (some ⟨bl, 4, none⟩), .pointer (some ⟨bl, 7, none⟩), .slice Ag1 ng1 cg1, u51, u52, u53, u54, u55, u56, u57, u58, u59, u60, u61, u62, u63, u64, u65, u66, u67, u68, u69, u70, u71, u72, u73, u74, u75, u76, u77, u78, u79, u80, u81, u82, u83, u84, u85, u86, u87, u88, u89, u90, u91, u92, u93, u94, u95, u96, u97, u98, u99, u100, u101, u102, u103, u104, u105, u106, u107, u108, u109, u110, u111, u112, u113, u114, u115, u116, u117, u118, u119, u120, u121, u122], defers := [] } W := by
    intro W g0 g4 k4 g18 gx hap
    dsimp only [rg_ApR3]
    refine wpAnyH_ready (rs := [8, 9]) (by kernel_rfl) (by simp) ?_
    refine AllReadyH.cons rfl (fun K hK => ?_) (AllReadyH.cons rfl (fun K hK => ?_) (AllReadyH.nil))
    · skip
      have hap_ := hap
      refine step_app17 rfl _ _ 24 rfl V.heap.size 2 i0 (.int .i64 0) 1 8 Try.underlying24 hi hz0 hz1 hz2 rfl (by decide) g4 nw0 k4 _ rfl hap_.own Aw1 nw1 cw1 (Lw1.map encI) rfl (by rw [List.length_map, Nat.mul_one]; exact hw1.1.symm) (ir_news17 hw1 hap.1) (one_encI17 _) (by unfold maxLen; omega) (by omega) hap.1.size (nw0 + nw1) (by omega) ?_
      intro g8 k8 w1 hown1 hgrow1 hat1 hlt1
      have hap2 := (hap_.app hown1 hgrow1 hat1)
      refine hK.out _ _ hap2.1 (fun hHeld => ?_)
      exact s_11100010010 w1 g0 g4 k4 g8 k8 g18 gx hap2
    · skip
      (try simp only [pT])
      rw [if_pos (by rfl)]
      go_simp
      have hap2 := (hap.sw1.newA).sw1
      refine hK.out _ _ hap2.1 (fun hHeld => ?_)
      exact s_11010010010 _ g0 g4 k4 W.heap.size g18 gx hap2
  have s_11010000010 : ∀ (W : World) (g0 g4 k4 g9 gx : Nat), Ap17 V W (some (g4, nw0, k4, Lw0)) (some (g9, 0, 0, [])) none (some gx) → wpAnyH Try.prog .any rg_ApR3.1 Q (fun w' => Below V.heap.size V w') 8 #[true, true, true, true, true, true, true, true, false, true, true, true, true, false, true, true, true, false, false, true, true, true, false, true, true, true, false, false, true, false] { tmps := #[u0, u1, u2, u3, .pointer (some ⟨bl, 0, none⟩), u5, u6, .pointer (some ⟨gx, 0, none⟩), u8, u9, u10, u11, u12, u13, u14, u15, u16, u17, u18, u19, u20, u21, u22, u23, u24, .slice (some ⟨g0, 0, none⟩) 0 0, .pointer (some ⟨bl, 0, none⟩), .pointer (some ⟨bl, 0, none⟩), .slice Aw0 nw0 cw0, .slice (some ⟨g4, 0, none⟩) nw0 k4, .pointer (some ⟨bl, 4, none⟩), .pointer (some ⟨bl, 4, none⟩), .slice Aw1 nw1 cw1, u33, .slice (some ⟨g9, 0, none⟩) 0 0, .pointer (some ⟨bl, 0, none⟩), .pointer (some ⟨bl, 1, none⟩), .slice Am0 nm0 cm0, u38, .pointer (some ⟨bl, 4, none⟩), .pointer (some ⟨bl, 5, none⟩), .slice Am1 nm1 cm1, u42, u43, .pointer (some ⟨bl, 0, none⟩), .pointer (some ⟨bl, 3, none⟩), .slice Ag0 ng0 cg0, u47, .pointer (some ⟨bl, 4, none⟩), .pointer (some ⟨bl, 7, none⟩), .slice Ag1 ng1 cg1, u51, u52, u53, u54, u55, u56, u57, u58, u59, u60, u61, u62, u63, u64, u65, u66, u67, u68, u69, u70, u71, u72, u73, u74, u75, u76, u77, u78, u79, u80, u81, u82, u83, u84, u85, u86, u87, u88, u89, u90, u91, u92, u93, u94, u95, u96, u97, u98, u99, u100, u101, u102, u103, u104, u105, u106, u107, u108, u109, u110, u111, u112, u113, u114, u115, u116, u117, u118, u119, u120, u121, u122], defers := [] } W := by
    intro W g0 g4 k4 g9 gx hap
    dsimp only [rg_ApR3]
    refine wpAnyH_ready (rs := [8, 18]) (by kernel_rfl) (by simp) ?_
    refine AllReadyH.cons rfl (fun K hK => ?_) (AllReadyH.cons rfl (fun K hK => ?_) (AllReadyH.nil))
    · skip
      have hap_ := hap
      refine step_app17 rfl _ _ 24 rfl V.heap.size 2 i0 (.int .i64 0) 1 8 Try.underlying24 hi hz0 hz1 hz2 rfl (by decide) g4 nw0 k4 _ rfl hap_.own Aw1 nw1 cw1 (Lw1.map encI) rfl (by rw [List.length_map, Nat.mul_one]; exact hw1.1.symm) (ir_news17 hw1 hap.1) (one_encI17 _) (by unfold maxLen; omega) (by omega) hap.1.size (nw0 + nw1) (by omega) ?_
      intro g8 k8 w1 hown1 hgrow1 hat1 hlt1
      have hap2 := (hap_.app hown1 hgrow1 hat1)
      refine hK.out _ _ hap2.1 (fun hHeld => ?_)
      exact s_11110000010 w1 g0 g4 k4 g8 k8 g9 gx hap2
    · skip
      (try simp only [pT])
      rw [if_pos (by rfl)]
      go_simp
      have hap2 := (hap.sw2.sw1.newA).sw1.sw2
      refine hK.out _ _ hap2.1 (fun hHeld => ?_)
      exact s_11010010010 _ g0 g4 k4 g9 W.heap.size gx hap2
  have s_11100000010 : ∀ (W : World) (g0 g4 k4 g8 k8 gx : Nat), Ap17 V W (some (g8, (nw0 + nw1), k8, (Lw0 ++ Lw1))) none none (some gx) → wpAnyH Try.prog .any rg_ApR3.1 Q (fun w' => Below V.heap.size V w') 8 #[true, true, true, true, true, true, true, true, true, false, true, true, true, false, true, true, true, false, false, true, true, true, false, true, true, true, false, false, true, false] { tmps := #[u0, u1, u2, u3, .pointer (some ⟨bl, 0, none⟩), u5, u6, .pointer (some ⟨gx, 0, none⟩), u8, u9, u10, u11, u12, u13, u14, u15, u16, u17, u18, u19, u20, u21, u22, u23, u24, .slice (some ⟨g0, 0, none⟩) 0 0, .pointer (some ⟨bl, 0, none⟩), .pointer (some ⟨bl, 0, none⟩), .slice Aw0 nw0 cw0, .slice (some ⟨g4, 0, none⟩) nw0 k4, .pointer (some ⟨bl, 4, none⟩), .pointer (some ⟨bl, 4, none⟩), .slice Aw1 nw1 cw1, .slice (some ⟨g8, 0, none⟩) (nw0 + nw1) k8, u34, .pointer (some ⟨bl, 0, none⟩), .pointer (some ⟨bl, 1, none⟩), .slice Am0 nm0 cm0, u38, .pointer (some ⟨bl, 4, none⟩), .pointer (some ⟨bl, 5, none⟩), .slice Am1 nm1 cm1, u42, u43, .pointer (some ⟨bl, 0, none⟩), .pointer (some ⟨bl, 3, none⟩), .slice Ag0 ng0 cg0, u47, .pointer (some ⟨bl, 4, none⟩), .pointer (some ⟨bl, 7, none⟩), .slice Ag1 ng1 cg1, u51, u52, u53, u54, u55, u56, u57, u58, u59, u60, u61, u62, u63, u64, u65, u66, u67, u68, u69, u70, u71, u72, u73, u74, u75, u76, u77, u78, u79, u80, u81, u82, u83, u84, u85, u86, u87, u88, u89, u90, u91, u92, u93, u94, u95, u96, u97, u98, u99, u100, u101, u102, u103, u104, u105, u106, u107, u108, u109, u110, u111, u112, u113, u114, u115, u116, u117, u118, u119, u120, u121, u122], defers := [] } W := by
    intro W g0 g4 k4 g8 k8 gx hap
    dsimp only [rg_ApR3]
    refine wpAnyH_ready (rs := [9, 18]) (by kernel_rfl) (by simp) ?_
    refine AllReadyH.cons rfl (fun K hK => ?_) (AllReadyH.cons rfl (fun K hK => ?_) (AllReadyH.nil))
    · skip
      (try simp only [pT])
      rw [if_pos (by rfl)]
      go_simp
      have hap2 := (hap.sw1.newA).sw1
      refine hK.out _ _ hap2.1 (fun hHeld => ?_)
      exact s_11110000010 _ g0 g4 k4 g8 k8 W.heap.size gx hap2
    · skip
      (try simp only [pT])
      rw [if_pos (by rfl)]
      go_simp
      have hap2 := (hap.sw2.sw1.newA).sw1.sw2
      refine hK.out _ _ hap2.1 (fun hHeld => ?_)
      exact s_11100010010 _ g0 g4 k4 g8 k8 W.heap.size gx hap2
  have s_11010010000 : ∀ (W : World) (g0 g4 k4 g9 g18 : Nat), Ap17 V W (some (g4, nw0, k4, Lw0)) (some (g9, 0, 0, [])) (some (g18, 0, 0, [])) none → wpAnyH Try.prog .any rg_ApR3.1 Q (fun w' => Below V.heap.size V w') 8 #[true, true, true, true, true, true, true, true, false, true, true, true, true, false, true, true, true, false, true, true, true, true, false, true, true, true, false, false, false, false] { tmps := #[u0, u1, u2, u3, .pointer (some ⟨bl, 0, none⟩), u5, u6, u7, u8, u9, u10, u11, u12, u13, u14, u15, u16, u17, u18, u19, u20, u21, u22, u23, u24, .slice (some ⟨g0, 0, none⟩) 0 0, .pointer (some ⟨bl, 0, none⟩), .pointer (some ⟨bl, 0, none⟩), .slice Aw0 nw0 cw0, .slice (some ⟨g4, 0, none⟩) nw0 k4, .pointer (some ⟨bl, 4, none⟩), .pointer (some ⟨bl, 4, none⟩), .slice Aw1 nw1 cw1, u33, .slice (some ⟨g9, 0, none⟩) 0 0, .pointer (some ⟨bl, 0, none⟩), .pointer (some ⟨bl, 1, none⟩), .slice Am0 nm0 cm0, u38, .pointer (some ⟨bl, 4, none⟩), .pointer (some ⟨bl, 5, none⟩), .slice Am1 nm1 cm1, u42, .slice (some ⟨g18, 0, none⟩) 0 0, .pointer (some ⟨bl, 0, none⟩), .pointer (some ⟨bl, 3, none⟩), .slice Ag0 ng0 cg0, u47, .pointer (some ⟨bl, 4, none⟩), .pointer (some ⟨bl, 7, none⟩), .slice Ag1 ng1 cg1, u51, u52, u53, u54, u55, u56, u57, u58, u59, u60, u61, u62, u63, u64, u65, u66, u67, u68, u69, u70, u71, u72, u73, u74, u75, u76, u77, u78, u79, u80, u81, u82, u83, u84, u85, u86, u87, u88, u89, u90, u91, u92, u93, u94, u95, u96, u97, u98, u99, u100, u101, u102, u103, u104, u105, u106, u107, u108, u109, u110, u111, u112, u113, u114, u115, u116, u117, u118, u119, u120, u121, u122], defers := [] } W := by
    intro W g0 g4 k4 g9 g18 hap
    dsimp only [rg_ApR3]
    refine wpAnyH_ready (rs := [8, 28]) (by kernel_rfl) (by simp) ?_
    refine AllReadyH.cons rfl (fun K hK => ?_) (AllReadyH.cons rfl (fun K hK => ?_) (AllReadyH.nil))
    · skip
      have hap_ := hap
      refine step_app17 rfl _ _ 24 rfl V.heap.size 2 i0 (.int .i64 0) 1 8 Try.underlying24 hi hz0 hz1 hz2 rfl (by decide) g4 nw0 k4 _ rfl hap_.own Aw1 nw1 cw1 (Lw1.map encI) rfl (by rw [List.length_map, Nat.mul_one]; exact hw1.1.symm) (ir_news17 hw1 hap.1) (one_encI17 _) (by unfold maxLen; omega) (by omega) hap.1.size (nw0 + nw1) (by omega) ?_
      intro g8 k8 w1 hown1 hgrow1 hat1 hlt1
      have hap2 := (hap_.app hown1 hgrow1 hat1)
      refine hK.out _ _ hap2.1 (fun hHeld => ?_)
      exact s_11110010000 w1 g0 g4 k4 g8 k8 g9 g18 hap2
    · skip
      (try simp only [pT])
      rw [if_pos (by rfl)]
      go_simp
      have hap2 := hap.newX
      refine hK.out _ _ hap2.1 (fun hHeld => ?_)
      exact s_11010010010 _ g0 g4 k4 g9 g18 W.heap.size hap2
  have s_11100010000 : ∀ (W : World) (g0 g4 k4 g8 k8 g18 : Nat), Ap17 V W (some (g8, (nw0 + nw1), k8, (Lw0 ++ Lw1))) none (some (g18, 0, 0, [])) none → wpAnyH Try.prog .any rg_ApR3.1 Q (fun w' => Below V.heap.size V w') 8 #[true, true, true, true, true, true, true, true, true, false, true, true, true, false, true, true, true, false, true, true, true, true, false, true, true, true, false, false, false, false] { tmps := #[u0, u1, u2, u3, .pointer (some ⟨bl, 0, none⟩), u5, u6, u7, u8, u9, u10, u11, u12, u13, u14, u15, u16, u17, u18, u19, u20, u21, u22, u23, u24, .slice (some ⟨g0, 0, none⟩) 0 0, .pointer (some ⟨bl, 0, none⟩), .pointer (some ⟨bl, 0, none⟩), .slice Aw0 nw0 cw0, .slice (some ⟨g4, 0, none⟩) nw0 k4, .pointer (some ⟨bl, 4, none⟩), .pointer (some ⟨bl, 4, none⟩), .slice Aw1 nw1 cw1, .slice (some ⟨g8, 0, none⟩) (nw0 + nw1) k8, u34, .pointer (some ⟨bl, 0, none⟩), .pointer (some ⟨bl, 1, none⟩), .slice Am0 nm0 cm0, u38, .pointer (some ⟨bl, 4, none⟩), .pointer (some ⟨bl, 5, none⟩), .slice Am1 nm1 cm1, u42, .slice (some ⟨g18, 0, none⟩) 0 0, .pointer (some ⟨bl, 0, none⟩), .pointer (some ⟨bl, 3, none⟩), .slice Ag0 ng0 cg0, u47, .pointer (some ⟨bl, 4, none⟩), .pointer (some ⟨bl, 7, none⟩), .slice Ag1 ng1 cg1, u51, u52, u53, u54, u55, u56, u57, u58, u59, u60, u61, u62, u63, u64, u65, u66, u67, u68, u69, u70, u71, u72, u73, u74, u75, u76, u77, u78, u79, u80, u81, u82, u83, u84, u85, u86, u87, u88, u89, u90, u91, u92, u93, u94, u95, u96, u97, u98, u99, u100, u101, u102, u103, u104, u105, u106, u107, u108, u109, u110, u111, u112, u113, u114, u115, u116, u117, u118, u119, u120, u121, u122], defers := [] } W := by
    intro W g0 g4 k4 g8 k8 g18 hap
    dsimp only [rg_ApR3]
    refine wpAnyH_ready (rs := [9, 28]) (by kernel_rfl) (by simp) ?_
    refine AllReadyH.cons rfl (fun K hK => ?_) (AllReadyH.cons rfl (fun K hK => ?_) (AllReadyH.nil))
    · skip
      (try simp only [pT])
      rw [if_pos (by rfl)]
      go_simp
      have hap2 := (hap.sw1.newA).sw1
      refine hK.out _ _ hap2.1 (fun hHeld => ?_)
      exact s_11110010000 _ g0 g4 k4 g8 k8 W.heap.size g18 hap2
    · skip
      (try simp only [pT])
      rw [if_pos (by rfl)]
      go_simp
      have hap2 := hap.newX
      refine hK.out _ _ hap2.1 (fun hHeld => ?_)
      exact s_11100010010 _ g0 g4 k4 g8 k8 g18 W.heap.size hap2
  have s_11110000000 : ∀ (W : World) (g0 g4 k4 g8 k8 g9 : Nat), Ap17 V W (some (g8, (nw0 + nw1), k8, (Lw0 ++ Lw1))) (some (g9, 0, 0, [])) none none → wpAnyH Try.prog .any rg_ApR3.1 Q (fun w' => Below V.heap.size V w') 8 #[true, true, true, true, true, true, true, true, true, true, true, true, true, false, true, true, true, false, false, true, true, true, false, true, true, true, false, false, false, false] { tmps := #[u0, u1, u2, u3, .pointer (some ⟨bl, 0, none⟩), u5, u6, u7, u8, u9, u10, u11, u12, u13, u14, u15, u16, u17, u18, u19, u20, u21, u22, u23, u24, .slice (some ⟨g0, 0, none⟩) 0 0, .pointer (some ⟨bl, 0, none⟩), .pointer (some ⟨bl, 0, none⟩), .slice Aw0 nw0 cw0, .slice (some ⟨g4, 0, none⟩) nw0 k4, .pointer (some ⟨bl, 4, none⟩), .pointer (some ⟨bl, 4, none⟩), .slice Aw1 nw1 cw1, .slice (some ⟨g8, 0, none⟩) (nw0 + nw1) k8, .slice (some ⟨g9, 0, none⟩) 0 0, .pointer (some ⟨bl, 0, none⟩), .pointer (some ⟨bl, 1, none⟩), .slice Am0 nm0 cm0, u38, .pointer (some ⟨bl, 4, none⟩), .pointer (some ⟨bl, 5, none⟩), .slice Am1 nm1 cm1, u42, u43, .pointer (some ⟨bl, 0, none⟩), .pointer (some ⟨bl, 3, none⟩), .slice Ag0 ng0 cg0, u47, .pointer (some ⟨bl, 4, none⟩), .pointer (some ⟨bl, 7, none⟩), .slice Ag1 ng1 cg1, u51, u52, u53, u54, u55, u56, u57, u58, u59, u60, u61, u62, u63, u64, u65, u66, u67, u68, u69, u70, u71, u72, u73, u74, u75, u76, u77, u78, u79, u80, u81, u82, u83, u84, u85, u86, u87, u88, u89, u90, u91, u92, u93, u94, u95, u96, u97, u98, u99, u100, u101, u102, u103, u104, u105, u106, u107, u108, u109, u110, u111, u112, u113, u114, u115, u116, u117, u118, u119, u120, u121, u122], defers := [] } W := by
    intro W g0 g4 k4 g8 k8 g9 hap
    dsimp only [rg_ApR3]
    refine wpAnyH_ready (rs := [13, 18, 28]) (by kernel_rfl) (by simp) ?_
    refine AllReadyH.cons rfl (fun K hK => ?_) (AllReadyH.cons rfl (fun K hK => ?_) (AllReadyH.cons rfl (fun K hK => ?_) (AllReadyH.nil)))
    · skip
      have hap_ := hap.sw1
      refine step_app17 rfl _ _ 24 rfl V.heap.size 2 i0 (.int .i64 0) 1 8 Try.underlying24 hi hz0 hz1 hz2 rfl (by decide) g9 0 0 _ rfl hap_.own Am0 nm0 cm0 (Lm0.map encI) rfl (by rw [List.length_map, Nat.mul_one]; exact hm0.1.symm) (ir_news17 hm0 hap.1) (one_encI17 _) (by unfold maxLen; omega) (by omega) hap.1.size nm0 (by omega) ?_
      intro g13 k13 w1 hown1 hgrow1 hat1 hlt1
      have hap2 := (hap_.app hown1 hgrow1 hat1).sw1
      refine hK.out _ _ hap2.1 (fun hHeld => ?_)
      exact s_11111000000 w1 g0 g4 k4 g8 k8 g9 g13 k13 hap2
    · skip
      (try simp only [pT])
      rw [if_pos (by rfl)]
      go_simp
      have hap2 := (hap.sw2.sw1.newA).sw1.sw2
      refine hK.out _ _ hap2.1 (fun hHeld => ?_)
      exact s_11110010000 _ g0 g4 k4 g8 k8 g9 W.heap.size hap2
    · skip
      (try simp only [pT])
      rw [if_pos (by rfl)]
      go_simp
      have hap2 := hap.newX
      refine hK.out _ _ hap2.1 (fun hHeld => ?_)
      exact s_11110000010 _ g0 g4 k4 g8 k8 g9 W.heap.size hap2
  have s_00010010010 : ∀ (W : World) (g9 g18 gx : Nat), Ap17 V W none (some (g9, 0, 0, [])) (some (g18, 0, 0, [])) (some gx) → wpAnyH Try.prog .any rg_ApR3.1 Q (fun w' => Below V.heap.size V w') 9 #[false, true, true, true, false, true, true, true, false, true, true, true, true, false, true, true, true, false, true, true, true, true, false, true, true, true, false, false, true, false] { tmps := #[u0, u1, u2, u3, .pointer (some ⟨bl, 0, none⟩), u5, u6, .pointer (some ⟨gx, 0, none⟩), u8, u9, u10, u11, u12, u13, u14, u15, u16, u17, u18, u19, u20, u21, u22, u23, u24, u25, .pointer (some ⟨bl, 0, none⟩), .pointer (some ⟨bl, 0, none⟩), .slice Aw0 nw0 cw0, u29, .pointer (some ⟨bl, 4, none⟩), .pointer (some ⟨bl, 4, none⟩), .slice Aw1 nw1 cw1, u33, .slice (some ⟨g9, 0, none⟩) 0 0, .pointer (some ⟨bl, 0, none⟩), .pointer (some ⟨bl, 1, none⟩), .slice Am0 nm0 cm0, u38, .pointer (some ⟨bl, 4, none⟩), .pointer (some ⟨bl, 5, none⟩), .slice Am1 nm1 cm1, u42, .slice (some ⟨g18, 0, none⟩) 0 0, .pointer (some ⟨bl, 0, none⟩), .pointer (some ⟨bl, 3, none⟩), .slice Ag0 ng0 cg0, u47, .pointer (some ⟨bl, 4, none⟩), .pointer (some ⟨bl, 7, none⟩), .slice Ag1 ng1 cg1, u51, u52, u53, u54, u55, u56, u57, u58, u59, u60, u61, u62, u63, u64, u65, u66, u67, u68, u69, u70, u71, u72, u73, u74, u75, u76, u77, u78, u79, u80, u81, u82, u83, u84, u85, u86, u87, u88, u89, u90, u91, u92, u93, u94, u95, u96, u97, u98, u99, u100, u101, u102, u103, u104, u105, u106, u107, u108, u109, u110, u111, u112, u113, u114, u115, u116, u117, u118, u119, u120, u121, u122], defers := [] } W := by
    intro W g9 g18 gx hap
    dsimp only [rg_ApR3]
    refine wpAnyH_ready (rs := [0]) (by kernel_rfl) (by simp) ?_
    refine AllReadyH.cons rfl (fun K hK => ?_) (AllReadyH.nil)
    · skip
      (try simp only [pT])
      rw [if_pos (by rfl)]
      go_simp
      have hap2 := (hap.newA)
      refine hK.out _ _ hap2.1 (fun hHeld => ?_)
      exact s_10010010010 _ W.heap.size g9 g18 gx hap2
  have s_10000010010 : ∀ (W : World) (g0 g18 gx : Nat), Ap17 V W (some (g0, 0, 0, [])) none (some (g18, 0, 0, [])) (some gx) → wpAnyH Try.prog .any rg_ApR3.1 Q (fun w' => Below V.heap.size V w') 9 #[true, true, true, true, false, true, true, true, false, false, true, true, true, false, true, true, true, false, true, true, true, true, false, true, true, true, false, false, true, false] { tmps := #[u0, u1, u2, u3, .pointer (some ⟨bl, 0, none⟩), u5, u6, .pointer (some ⟨gx, 0, none⟩), u8, u9, u10, u11, u12, u13, u14, u15, u16, u17, u18, u19, u20, u21, u22, u23, u24, .slice (some ⟨g0, 0, none⟩) 0 0, .pointer (some ⟨bl, 0, none⟩), .pointer (some ⟨bl, 0, none⟩), .slice Aw0 nw0 cw0, u29, .pointer (some ⟨bl, 4, none⟩), .pointer (some ⟨bl, 4, none⟩), .slice Aw1 nw1 cw1, u33, u34, .pointer (some ⟨bl, 0, none⟩), .pointer (some ⟨bl, 1, none⟩), .slice Am0 nm0 cm0, u38, .pointer (some ⟨bl, 4, none⟩), .pointer (some ⟨bl, 5, none⟩), .slice Am1 nm1 cm1, u42, .slice (some ⟨g18, 0, none⟩) 0 0, .pointer (some ⟨bl, 0, none⟩), .pointer (some ⟨bl, 3, none⟩), .slice Ag0 ng0 cg0, u47, .pointer (some ⟨bl, 4, none⟩), .pointer (some ⟨bl, 7, none⟩), .slice Ag1 ng1 cg1, u51, u52, u53, u54, u55, u56, u57, u58, u59, u60, u61, u62, u63, u64, u65, u66, u67, u68, u69, u70, u71, u72, u73, u74, u75, u76, u77, u78, u79, u80, u81, u82, u83, u84, u85, u86, u87, u88, u89, u90, u91, u92, u93, u94, u95, u96, u97, u98, u99, u100, u101, u102, u103, u104, u105, u106, u107, u108, u109, u110, u111, u112, u113, u114, u115, u116, u117, u118, u119, u120, u121, u122], defers := [] } W := by
    intro W g0 g18 gx hap
    dsimp only [rg_ApR3]
    refine wpAnyH_ready (rs := [4, 9]) (by kernel_rfl) (by simp) ?_
    refine AllReadyH.cons rfl (fun K hK => ?_) (AllReadyH.cons rfl (fun K hK => ?_) (AllReadyH.nil))
    · skip
      have hap_ := hap
      refine step_app17 rfl _ _ 24 rfl V.heap.size 2 i0 (.int .i64 0) 1 8 Try.underlying24 hi hz0 hz1 hz2 rfl (by decide) g0 0 0 _ rfl hap_.own Aw0 nw0 cw0 (Lw0.map encI) rfl (by rw [List.length_map, Nat.mul_one]; exact hw0.1.symm) (ir_news17 hw0 hap.1) (one_encI17 _) (by unfold maxLen; omega) (by omega) hap.1.size nw0 (by omega) ?_
      intro g4 k4 w1 hown1 hgrow1 hat1 hlt1
      have hap2 := (hap_.app hown1 hgrow1 hat1)
      refine hK.out _ _ hap2.1 (fun hHeld => ?_)
      exact s_11000010010 w1 g0 g4 k4 g18 gx hap2
    · skip
      (try simp only [pT])
      rw [if_pos (by rfl)]
      go_simp
      have hap2 := (hap.sw1.newA).sw1
      refine hK.out _ _ hap2.1 (fun hHeld => ?_)
      exact s_10010010010 _ g0 W.heap.size g18 gx hap2
  have s_10010000010 : ∀ (W : World) (g0 g9 gx : Nat), Ap17 V W (some (g0, 0, 0, [])) (some (g9, 0, 0, [])) none (some gx) → wpAnyH Try.prog .any rg_ApR3.1 Q (fun w' => Below V.heap.size V w') 9 #[true, true, true, true, false, true, true, true, false, true, true, true, true, false, true, true, true, false, false, true, true, true, false, true, true, true, false, false, true, false] { tmps := #[u0, u1, u2, u3, .pointer (some ⟨bl, 0, none⟩), u5, u6, .pointer (some ⟨gx, 0, none⟩), u8, u9, u10, u11, u12, u13, u14, u15, u16, u17, u18, u19, u20, u21, u22, u23, u24, .slice (some ⟨g0, 0, none⟩) 0 0, .pointer (some ⟨bl, 0, none⟩), .pointer (some ⟨bl, 0, none⟩), .slice Aw0 nw0 cw0, u29, .pointer (some ⟨bl, 4, none⟩), .pointer (some ⟨bl, 4, none⟩), .slice Aw1 nw1 cw1, u33, .slice (some ⟨g9, 0, none⟩) 0 0, .pointer (some ⟨bl, 0, none⟩), .pointer (some ⟨bl, 1, none⟩), .slice Am0 nm0 cm0, u38, .pointer (some ⟨bl, 4, none⟩), .pointer (some ⟨bl, 5, none⟩), .slice Am1 nm1 cm1, u42, u43, .pointer (some ⟨bl, 0, none⟩), .pointer (some ⟨bl, 3, none⟩), .slice Ag0 ng0 cg0, u47, .pointer (some ⟨bl, 4, none⟩), .pointer (some ⟨bl, 7, none⟩), .slice Ag1 ng1 cg1, u51, u52, u53, u54, u55, u56, u57, u58, u59, u60, u61, u62, u63, u64, u65, u66, u67, u68, u69, u70, u71, u72, u73, u74, u75, u76, u77, u78, u79, u80, u81, u82, u83, u84, u85, u86, u87, u88, u89, u90, u91, u92, u93, u94, u95, u96, u97, u98, u99, u100, u101, u102, u103, u104, u105, u106, u107, u108, u109, u110, u111, u112, u113, u114, u115, u116, u117, u118, u119, u120, u121, u122], defers := [] } W := by
    intro W g0 g9 gx hap
    dsimp only [rg_ApR3]
    refine wpAnyH_ready (rs := [4, 18]) (by kernel_rfl) (by simp) ?_
    refine AllReadyH.cons rfl (fun K hK => ?_) (AllReadyH.cons rfl (fun K hK => ?_) (AllReadyH.nil))
    · skip
      have hap_ := hap
      refine step_app17 rfl _ _ 24 rfl V.heap.size 2 i0 (.int .i64 0) 1 8 Try.underlying24 hi hz0 hz1 hz2 rfl (by decide) g0 0 0 _ rfl hap_.own Aw0 nw0 cw0 (Lw0.map encI) rfl (by rw [List.length_map, Nat.mul_one]; exact hw0.1.symm) (ir_news17 hw0 hap.1) (one_encI17 _) (by unfold maxLen; omega) (by omega) hap.1.size nw0 (by omega) ?_
      intro g4 k4 w1 hown1 hgrow1 hat1 hlt1
      have hap2 := (hap_.app hown1 hgrow1 hat1)
      refine hK.out _ _ hap2.1 (fun hHeld => ?_)
      exact s_11010000010 w1 g0 g4 k4 g9 gx hap2
    · skip
      (try simp only [pT])
      rw [if_pos (by rfl)]
      go_simp
      have hap2 := (hap.sw2.sw1.newA).sw1.sw2
      refine hK.out _ _ hap2.1 (fun hHeld => ?_)
      exact s_10010010010 _ g0 g9 W.heap.size gx hap2
  have s_11000000010 : ∀ (W : World) (g0 g4 k4 gx : Nat), Ap17 V W (some (g4, nw0, k4, Lw0)) none none (some gx) → wpAnyH Try.prog .any rg_ApR3.1 Q (fun w' => Below V.heap.size V w') 9 #[true, true, true, true, true, true, true, true, false, false, true, true, true, false, true, true, true, false, false, true, true, true, false, true, true, true, false, false, true, false] { tmps := #[u0, u1, u2, u3, .pointer (some ⟨bl, 0, none⟩), u5, u6, .pointer (some ⟨gx, 0, none⟩), u8, u9, u10, u11, u12, u13, u14, u15, u16, u17, u18, u19, u20, u21, u22, u23, u24, .slice (some ⟨g0, 0, none⟩) 0 0, .pointer (some ⟨bl, 0, none⟩), .pointer (some ⟨bl, 0, none⟩), .slice Aw0 nw0 cw0, .slice (some ⟨g4, 0, none⟩) nw0 k4, .pointer (some ⟨bl, 4, none⟩), .pointer (some ⟨bl, 4, none⟩), .slice Aw1 nw1 cw1, u33, u34, .pointer (some ⟨bl, 0, none⟩), .pointer (some ⟨bl, 1, none⟩), .slice Am0 nm0 cm0, u38, .pointer (some ⟨bl, 4, none⟩), .pointer (some ⟨bl, 5, none⟩), .slice Am1 nm1 cm1, u42, u43, .pointer (some ⟨bl, 0, none⟩), .pointer (some ⟨bl, 3, none⟩), .slice Ag0 ng0 cg0, u47, .pointer (some ⟨bl, 4, none⟩), .pointer (some ⟨bl, 7, none⟩), .slice Ag1 ng1 cg1, u51, u52, u53, u54, u55, u56, u57, u58, u59, u60, u61, u62, u63, u64, u65, u66, u67, u68, u69, u70, u71, u72, u73, u74, u75, u76, u77, u78, u79, u80, u81, u82, u83, u84, u85, u86, u87, u88, u89, u90, u91, u92, u93, u94, u95, u96, u97, u98, u99, u100, u101, u102, u103, u104, u105, u106, u107, u108, u109, u110, u111, u112, u113, u114, u115, u116, u117, u118, u119, u120, u121, u122], defers := [] } W := by
    intro W g0 g4 k4 gx hap
    dsimp only [rg_ApR3]
    refine wpAnyH_ready (rs := [8, 9, 18]) (by kernel_rfl) (by simp) ?_
    refine AllReadyH.cons rfl (fun K hK => ?_) (AllReadyH.cons rfl (fun K hK => ?_) (AllReadyH.cons rfl (fun K hK => ?_) (AllReadyH.nil)))
    · skip
      have hap_ := hap
      refine step_app17 rfl _ _ 24 rfl V.heap.size 2 i0 (.int .i64 0) 1 8 Try.underlying24 hi hz0 hz1 hz2 rfl (by decide) g4 nw0 k4 _ rfl hap_.own Aw1 nw1 cw1 (Lw1.map encI) rfl (by rw [List.length_map, Nat.mul_one]; exact hw1.1.symm) (ir_news17 hw1 hap.1) (one_encI17 _) (by unfold maxLen; omega) (by omega) hap.1.size (nw0 + nw1) (by omega) ?_
      intro g8 k8 w1 hown1 hgrow1 hat1 hlt1
      have hap2 := (hap_.app hown1 hgrow1 hat1)
      refine hK.out _ _ hap2.1 (fun hHeld => ?_)
      exact s_11100000010 w1 g0 g4 k4 g8 k8 gx hap2
    · skip
      (try simp only [pT])
      rw [if_pos (by rfl)]
      go_simp
      have hap2 := (hap.sw1.newA).sw1
      refine hK.out _ _ hap2.1 (fun hHeld => ?_)
      exact s_11010000010 _ g0 g4 k4 W.heap.size gx hap2
    · skip
      (try simp only [pT])
      rw [if_pos (by rfl)]
      go_simp
      have hap2 := (hap.sw2.sw1.newA).sw1.sw2
      refine hK.out _ _ hap2.1 (fun hHeld => ?_)
      exact s_11000010010 _ g0 g4 k4 W.heap.size gx hap2
  have s_10010010000 : ∀ (W : World) (g0 g9 g18 : Nat), Ap17 V W (some (g0, 0, 0, [])) (some (g9, 0, 0, [])) (some (g18, 0, 0, [])) none → wpAnyH Try.prog .any rg_ApR3.1 Q (fun w' => Below V.heap.size V w') 9 #[true, true, true, true, false, true, true, true, false, true, true, true, true, false, true, true, true, false, true, true, true, true, false, true, true, true, false, false, false, false] { tmps := #[u0, u1, u2, u3, .pointer (some ⟨bl, 0, none⟩), u5, u6, u7, u8, u9, u10, u11, u12, u13, u14, u15, u16, u17, u18, u19, u20, u21, u22, u23, u24, .slice (some ⟨g0, 0, none⟩) 0 0, .pointer (some ⟨bl, 0, none⟩), .pointer (some ⟨bl, 0, none⟩), .slice Aw0 nw0 cw0, u29, .pointer (some ⟨bl, 4, none⟩), .pointer (some ⟨bl, 4, none⟩), .slice Aw1 nw1 cw1, u33, .slice (some ⟨g9, 0, none⟩) 0 0, .pointer (some ⟨bl, 0, none⟩), .pointer (some ⟨bl, 1, none⟩), .slice Am0 nm0 cm0, u38, .pointer (some ⟨bl, 4, none⟩), .pointer (some ⟨bl, 5, none⟩), .slice Am1 nm1 cm1, u42, .slice (some ⟨g18, 0, none⟩) 0 0, .pointer (some ⟨bl, 0, none⟩), .pointer (some ⟨bl, 3, none⟩), .slice Ag0 ng0 cg0, u47, .pointer (some ⟨bl, 4, none⟩), .pointer (some ⟨bl, 7, none⟩), .slice Ag1 ng1 cg1, u51, u52, u53, u54, u55, u56, u57, u58, u59, u60, u61, u62, u63, u64, u65, u66, u67, u68, u69, u70, u71, u72, u73, u74, u75, u76, u77, u78, u79, u80, u81, u82, u83, u84, u85, u86, u87, u88, u89, u90, u91, u92, u93, u94, u95, u96, u97, u98, u99, u100, u101, u102, u103, u104, u105, u106, u107, u108, u109, u110, u111, u112, u113, u114, u115, u116, u117, u118, u119, u120, u121, u122], defers := [] } W := by
    intro W g0 g9 g18 hap
    dsimp only [rg_ApR3]
    refine wpAnyH_ready (rs := [4, 28]) (by kernel_rfl) (by simp) ?_
    refine AllReadyH.cons rfl (fun K hK => ?_) (AllReadyH.cons rfl (fun K hK => ?_) (AllReadyH.nil))
    · skip
      have hap_ := hap
      refine step_app17 rfl _ _ 24 rfl V.heap.size 2 i0 (.int .i64 0) 1 8 Try.underlying24 hi hz0 hz1 hz2 rfl (by decide) g0 0 0 _ rfl hap_.own Aw0 nw0 cw0 (Lw0.map encI) rfl (by rw [List.length_map, Nat.mul_one]; exact hw0.1.symm) (ir_news17 hw0 hap.1) (one_encI17 _) (by unfold maxLen; omega) (by omega) hap.1.size nw0 (by omega) ?_
      intro g4 k4 w1 hown1 hgrow1 hat1 hlt1
      have hap2 := (hap_.app hown1 hgrow1 hat1)
      refine hK.out _ _ hap2.1 (fun hHeld => ?_)
      exact s_11010010000 w1 g0 g4 k4 g9 g18 hap2
    · skip
      (try simp only [pT])
      rw [if_pos (by rfl)]
      go_simp
      have hap2 := hap.newX
      refine hK.out _ _ hap2.1 (fun hHeld => ?_)
      exact s_10010010010 _ g0 g9 g18 W.heap.size hap2
  have s_11000010000 : ∀ (W : World) (g0 g4 k4 g18 : Nat), Ap17 V W (some (g4, nw0, k4, Lw0)) none (some (g18, 0, 0, [])) none → wpAnyH Try.prog .any rg_ApR3.1 Q (fun w' => Below V.heap.size V w') 9 #[true, true, true, true, true, true, true, true, false, false, true, true, true, false, true, true, true, false, true, true, true, true, false, true, true, true, false, false, false, false] { tmps := #[u0, u1, u2, u3, .pointer (some ⟨bl, 0, none⟩), u5, u6, u7, u8, u9, u10, u11, u12, u13, u14, u15, u16, u17, u18, u19, u20, u21, u22, u23, u24, .slice (some ⟨g0, 0, none⟩) 0 0, .pointer (some ⟨bl, 0, none⟩), .pointer (some ⟨bl, 0, none⟩), .slice Aw0 nw0 cw0, .slice (some ⟨g4, 0, none⟩) nw0 k4, .pointer (some ⟨bl, 4, none⟩), .pointer (some ⟨bl, 4, none⟩), .slice Aw1 nw1 cw1, u33, u34, .pointer (some ⟨bl, 0, none⟩), .pointer (some ⟨bl, 1, none⟩), .slice Am0 nm0 cm0, u38, .pointer (some ⟨bl, 4, none⟩), .pointer (some ⟨bl, 5, none⟩), .slice Am1 nm1 cm1, u42, .slice (some ⟨g18, 0, none⟩) 0 0, .pointer (some ⟨bl, 0, none⟩), .pointer (some ⟨bl, 3, none⟩), .slice Ag0 ng0 cg0, u47, .pointer (some ⟨bl, 4, none⟩), .pointer (some ⟨bl, 7, none⟩), .slice Ag1 ng1 cg1, u51, u52, u53, u54, u55, u56, u57, u58, u59, u60, u61, u62, u63, u64, u65, u66, u67, u68, u69, u70, u71, u72, u73, u74, u75, u76, u77, u78, u79, u80, u81, u82, u83, u84, u85, u86, u87, u88, u89, u90, u91, u92, u93, u94, u95, u96, u97, u98, u99, u100, u101, u102, u103, u104, u105, u106, u107, u108, u109, u110, u111, u112, u113, u114, u115, u116, u117, u118, u119, u120, u121, u122], defers := [] } W := by
    intro W g0 g4 k4 g18 hap
    dsimp only [rg_ApR3]
    refine wpAnyH_ready (rs := [8, 9, 28]) (by kernel_rfl) (by simp) ?_
    refine AllReadyH.cons rfl (fun K hK => ?_) (AllReadyH.cons rfl (fun K hK => ?_) (AllReadyH.cons rfl (fun K hK => ?_) (AllReadyH.nil)))
    · skip
      have hap_ := hap
      refine step_app17 rfl _ _ 24 rfl V.heap.size 2 i0 (.int .i64 0) 1 8 Try.underlying24 hi hz0 hz1 hz2 rfl (by decide) g4 nw0 k4 _ rfl hap_.own Aw1 nw1 cw1 (Lw1.map encI) rfl (by rw [List.length_map, Nat.mul_one]; exact hw1.1.symm) (ir_news17 hw1 hap.1) (one_encI17 _) (by unfold maxLen; omega) (by omega) hap.1.size (nw0 + nw1) (by omega) ?_
      intro g8 k8 w1 hown1 hgrow1 hat1 hlt1
      have hap2 := (hap_.app hown1 hgrow1 hat1)
      refine hK.out _ _ hap2.1 (fun hHeld => ?_)
      exact s_11100010000 w1 g0 g4 k4 g8 k8 g18 hap2
    · skip
      (try simp only [pT])
      rw [if_pos (by rfl)]
      go_simp
      have hap2 := (hap.sw1.newA).sw1
      refine hK.out _ _ hap2.1 (fun hHeld => ?_)
      exact s_11010010000 _ g0 g4 k4 W.heap.size g18 hap2
    · skip
      (try simp only [pT])
      rw [if_pos (by rfl)]
      go_simp
      have hap2 := hap.newX
      refine hK.out _ _ hap2.1 (fun hHeld => ?_)
      exact s_11000010010 _ g0 g4 k4 g18 W.heap.size hap2
  have s_11010000000 : ∀ (W : World) (g0 g4 k4 g9 : Nat), Ap17 V W (some (g4, nw0, k4, Lw0)) (some (g9, 0, 0, [])) none none → wpAnyH Try.prog .any rg_ApR3.1 Q (fun w' => Below V.heap.size V w') 9 #[true, true, true, true, true, true, true, true, false, true, true, true, true, false, true, true, true, false, false, true, true, true, false, true, true, true, false, false, false, false] { tmps := #[u0, u1, u2, u3, .pointer (some ⟨bl, 0, none⟩), u5, u6, u7, u8, u9, u10, u11, u12, u13, u14, u15, u16, u17, u18, u19, u20, u21, u22, u23, u24, .slice (some ⟨g0, 0, none⟩) 0 0, .pointer (some ⟨bl, 0, none⟩), .pointer (some ⟨bl, 0, none⟩), .slice Aw0 nw0 cw0, .slice (some ⟨g4, 0, none⟩) nw0 k4, .pointer (some ⟨bl, 4, none⟩), .pointer (some ⟨bl, 4, none⟩), .slice Aw1 nw1 cw1, u33, .slice (some ⟨g9, 0, none⟩) 0 0, .pointer (some ⟨bl, 0, none⟩), .pointer (some ⟨bl, 1, none⟩), .slice Am0 nm0 cm0, u38, .pointer (some ⟨bl, 4, none⟩), .pointer (some ⟨bl, 5, none⟩), .slice Am1 nm1 cm1, u42, u43, .pointer (some ⟨bl, 0, none⟩), .pointer (some ⟨bl, 3, none⟩), .slice Ag0 ng0 cg0, u47, .pointer (some ⟨bl, 4, none⟩), .pointer (some ⟨bl, 7, none⟩), .slice Ag1 ng1 cg1, u51, u52, u53, u54, u55, u56, u57, u58, u59, u60, u61, u62, u63, u64, u65, u66, u67, u68, u69, u70, u71, u72, u73, u74, u75, u76, u77, u78, u79, u80, u81, u82, u83, u84, u85, u86, u87, u88, u89, u90, u91, u92, u93, u94, u95, u96, u97, u98, u99, u100, u101, u102, u103, u104, u105, u106, u107, u108, u109, u110, u111, u112, u113, u114, u115, u116, u117, u118, u119, u120, u121, u122], defers := [] } W := by
    intro W g0 g4 k4 g9 hap
    dsimp only [rg_ApR3]
    refine wpAnyH_ready (rs := [8, 18, 28]) (by kernel_rfl) (by simp) ?_
    refine AllReadyH.cons rfl (fun K hK => ?_) (AllReadyH.cons rfl (fun K hK => ?_) (AllReadyH.cons rfl (fun K hK => ?_) (AllReadyH.nil)))
    · skip
      have hap_ := hap
      refine step_app17 rfl _ _ 24 rfl V.heap.size 2 i0 (.int .i64 0) 1 8 Try.underlying24 hi hz0 hz1 hz2 rfl (by decide) g4 nw0 k4 _ rfl hap_.own Aw1 nw1 cw1 (Lw1.map encI) rfl (by rw [List.length_map, Nat.mul_one]; exact hw1.1.symm) (ir_news17 hw1 hap.1) (one_encI17 _) (by unfold maxLen; omega) (by omega) hap.1.size (nw0 + nw1) (by omega) ?_
      intro g8 k8 w1 hown1 hgrow1 hat1 hlt1
      have hap2 := (hap_.app hown1 hgrow1 hat1)
      refine hK.out _ _ hap2.1 (fun hHeld => ?_)
      exact s_11110000000 w1 g0 g4 k4 g8 k8 g9 hap2
    · skip
      (try simp only [pT])
      rw [if_pos (by rfl)]
      go_simp
      have hap2 := (hap.sw2.sw1.newA).sw1.sw2
      refine hK.out _ _ hap2.1 (fun hHeld => ?_)
      exact s_11010010000 _ g0 g4 k4 g9 W.heap.size hap2
    · skip
      (try simp only [pT])
      rw [if_pos (by rfl)]
      go_simp
      have hap2 := hap.newX
      refine hK.out _ _ hap2.1 (fun hHeld => ?_)
      exact s_11010000010 _ g0 g4 k4 g9 W.heap.size hap2
  have s_11100000000 : ∀ (W : World) (g0 g4 k4 g8 k8 : Nat), Ap17 V W (some (g8, (nw0 + nw1), k8, (Lw0 ++ Lw1))) none none none → wpAnyH Try.prog .any rg_ApR3.1 Q (fun w' => Below V.heap.size V w') 9 #[true, true, true, true, true, true, true, true, true, false, true, true, true, false, true, true, true, false, false, true, true, true, false, true, true, true, false, false, false, false] { tmps := #[u0, u1, u2, u3, .pointer (some ⟨bl, 0, none⟩), u5, u6, u7, u8, u9, u10, u11, u12, u13, u14, u15, u16, u17, u18, u19, u20, u21, u22, u23, u24, .slice (some ⟨g0, 0, none⟩) 0 0, .pointer (some ⟨bl, 0, none⟩), .pointer (some ⟨bl, 0, none⟩), .slice Aw0 nw0 cw0, .slice (some ⟨g4, 0, none⟩) nw0 k4, .pointer (some ⟨bl, 4, none⟩), .pointer (some ⟨bl, 4, none⟩), .slice Aw1 nw1 cw1, .slice (some ⟨g8, 0, none⟩) (nw0 + nw1) k8, u34, .pointer (some ⟨bl, 0, none⟩), .pointer (some ⟨bl, 1, none⟩), .slice Am0 nm0 cm0, u38, .pointer (some ⟨bl, 4, none⟩), .pointer (some ⟨bl, 5, none⟩), .slice Am1 nm1 cm1, u42, u43, .pointer (some ⟨bl, 0, none⟩), .pointer (some ⟨bl, 3, none⟩), .slice Ag0 ng0 cg0, u47, .pointer (some ⟨bl, 4, none⟩), .pointer (some ⟨bl, 7, none⟩), .slice Ag1 ng1 cg1, u51, u52, u53, u54, u55, u56, u57, u58, u59, u60, u61, u62, u63, u64, u65, u66, u67, u68, u69, u70, u71, u72, u73, u74, u75, u76, u77, u78, u79, u80, u81, u82, u83, u84, u85, u86, u87, u88, u89, u90, u91, u92, u93, u94, u95, u96, u97, u98, u99, u100, u101, u102, u103, u104, u105, u106, u107, u108, u109, u110, u111, u112, u113, u114, u115, u116, u117, u118, u119, u120, u121, u122], defers := [] } W := by
    intro W g0 g4 k4 g8 k8 hap
    dsimp only [rg_ApR3]
    refine wpAnyH_ready (rs := [9, 18, 28]) (by kernel_rfl) (by simp) ?_
    refine AllReadyH.cons rfl (fun K hK => ?_) (AllReadyH.cons rfl (fun K hK => ?_) (AllReadyH.cons rfl (fun K hK => ?_) (AllReadyH.nil)))
    · skip
      (try simp only [pT])
      rw [if_pos (by rfl)]
      go_simp
      have hap2 := (hap.sw1.newA).sw1
      refine hK.out _ _ hap2.1 (fun hHeld => ?_)
      exact s_11110000000 _ g0 g4 k4 g8 k8 W.heap.size hap2
    · skip
      (try simp only [pT])
      rw [if_pos (by rfl)]
      go_simp
      have hap2 := (hap.sw2.sw1.newA).sw1.sw2
      refine hK.out _ _ hap2.1 (fun hHeld => ?_)
      exact s_11100010000 _ g0 g4 k4 g8 k8 W.heap.size hap2
    · skip
      (try simp only [pT])
      rw [if_pos (by rfl)]
      go_simp
      have hap2 := hap.newX
      refine hK.out _ _ hap2.1 (fun hHeld => ?_)
      exact s_11100000010 _ g0 g4 k4 g8 k8 W.heap.size hap2
  have s_00000010010 : ∀ (W : World) (g18 gx : Nat), Ap17 V W none none (some (g18, 0, 0, [])) (some gx) → wpAnyH Try.prog .any rg_ApR3.1 Q (fun w' => Below V.heap.size V w') 10 #[false, true, true, true, false, true, true, true, false, false, true, true, true, false, true, true, true, false, true, true, true, true, false, true, true, true, false, false, true, false] { tmps := #[u0, u1, u2, u3, .pointer (some ⟨bl, 0, none⟩), u5, u6, .pointer (some ⟨gx, 0, none⟩), u8, u9, u10, u11, u12, u13, u14, u15, u16, u17, u18, u19, u20, u21, u22, u23, u24, u25, .pointer (some ⟨bl, 0, none⟩), .pointer (some ⟨bl, 0, none⟩), .slice Aw0 nw0 cw0, u29, .pointer (some ⟨bl, 4, none⟩), .pointer (some ⟨bl, 4, none⟩), .slice Aw1 nw1 cw1, u33, u34, .pointer (some ⟨bl, 0, none⟩), .pointer (some ⟨bl, 1, none⟩), .slice Am0 nm0 cm0, u38, .pointer (some ⟨bl, 4, none⟩), .pointer (some ⟨bl, 5, none⟩), .slice Am1 nm1 cm1, u42, .slice (some ⟨g18, 0, none⟩) 0 0, .pointer (some ⟨bl, 0, none⟩), .pointer (some ⟨bl, 3, none⟩), .slice Ag0 ng0 cg0, u47, .pointer (some ⟨bl, 4, none⟩), .pointer (some ⟨bl, 7, none⟩), .slice Ag1 ng1 cg1, u51, u52, u53, u54, u55, u56, u57, u58, u59, u60, u61, u62, u63, u64, u65, u66, u67, u68, u69, u70, u71, u72, u73, u74, u75, u76, u77, u78, u79, u80, u81, u82, u83, u84, u85, u86, u87, u88, u89, u90, u91, u92, u93, u94, u95, u96, u97, u98, u99, u100, u101, u102, u103, u104, u105, u106, u107, u108, u109, u110, u111, u112, u113, u114, u115, u116, u117, u118, u119, u120, u121, u122], defers := [] } W := by
    intro W g18 gx hap
    dsimp only [rg_ApR3]
    refine wpAnyH_ready (rs := [0, 9]) (by kernel_rfl) (by simp) ?_
    refine AllReadyH.cons rfl (fun K hK => ?_) (AllReadyH.cons rfl (fun K hK => ?_) (AllReadyH.nil))
    · skip
      (try simp only [pT])
      rw [if_pos (by rfl)]
      go_simp
      have hap2 := (hap.newA)
      refine hK.out _ _ hap2.1 (fun hHeld => ?_)
      exact s_10000010010 _ W.heap.size g18 gx hap2
    · skip
      (try simp only [pT])
      rw [if_pos (by rfl)]
      go_simp
      have hap2 := (hap.sw1.newA).sw1
      refine hK.out _ _ hap2.1 (fun hHeld => ?_)
      exact s_00010010010 _ W.heap.size g18 gx hap2
  have s_00010000010 : ∀ (W : World) (g9 gx : Nat), Ap17 V W none (some (g9, 0, 0, [])) none (some gx) → wpAnyH Try.prog .any rg_ApR3.1 Q (fun w' => Below V.heap.size V w') 10 #[false, true, true, true, false, true, true, true, false, true, true, true, true, false, true, true, true, false, false, true, true, true, false, true, true, true, false, false, true, false] { tmps := #[u0, u1, u2, u3, .pointer (some ⟨bl, 0, none⟩), u5, u6, .pointer (some ⟨gx, 0, none⟩), u8, u9, u10, u11, u12, u13, u14, u15, u16, u17, u18, u19, u20, u21, u22, u23, u24, u25, .pointer (some ⟨bl, 0, none⟩), .pointer (some ⟨bl, 0, none⟩), .slice Aw0 nw0 cw0, u29, .pointer (some ⟨bl, 4, none⟩), .pointer (some ⟨bl, 4, none⟩), .slice Aw1 nw1 cw1, u33, .slice (some ⟨g9, 0, none⟩) 0 0, .pointer (some ⟨bl, 0, none⟩), .pointer (some ⟨bl, 1, none⟩), .slice Am0 nm0 cm0, u38, .pointer (some ⟨bl, 4, none⟩), .pointer (some ⟨bl, 5, none⟩), .slice Am1 nm1 cm1, u42, u43, .pointer (some ⟨bl, 0, none⟩), .pointer (some ⟨bl, 3, none⟩), .slice Ag0 ng0 cg0, u47, .pointer (some ⟨bl, 4, none⟩), .pointer (some ⟨bl, 7, none⟩), .slice Ag1 ng1 cg1, u51, u52, u53, u54, u55, u56, u57, u58, u59, u60, u61, u62, u63, u64, u65, u66, u67, u68, u69, u70, u71, u72, u73, u74, u75, u76, u77, u78, u79, u80, u81, u82, u83, u84, u85, u86, u87, u88, u89, u90, u91, u92, u93, u94, u95, u96, u97, u98, u99, u100, u101, u102, u103, u104, u105, u106, u107, u108, u109, u110, u111, u112, u113, u114, u115, u116, u117, u118, u119, u120, u121, u122], defers := [] } W := by
    intro W g9 gx hap
    dsimp only [rg_ApR3]
    refine wpAnyH_ready (rs := [0, 18]) (by kernel_rfl) (by simp) ?_
    refine AllReadyH.cons rfl (fun K hK => ?_) (AllReadyH.cons rfl (fun K hK => ?_) (AllReadyH.nil))
    · skip
      (try simp only [pT])
      rw [if_pos (by rfl)]
      go_simp
      have hap2 := (hap.newA)
      refine hK.out _ _ hap2.1 (fun hHeld => ?_)
      exact s_10010000010 _ W.heap.size g9 gx hap2
    · skip
      (try simp only [pT])
      rw [if_pos (by rfl)]
      go_simp
      have hap2 := (hap.sw2.sw1.newA).sw1.sw2
      refine hK.out _ _ hap2.1 (fun hHeld => ?_)
      exact s_00010010010 _ g9 W.heap.size gx hap2
  have s_10000000010 : ∀ (W : World) (g0 gx : Nat), Ap17 V W (some (g0, 0, 0, [])) none none (some gx) → wpAnyH Try.prog .any rg_ApR3.1 Q (fun w' => Below V.heap.size V w') 10 #[true, true, true, true, false, true, true, true, false, false, true, true, true, false, true, true, true, false, false, true, true, true, false, true, true, true, false, false, true, false] { tmps := #[u0, u1, u2, u3, .pointer (some ⟨bl, 0, none⟩), u5, u6, .pointer (some ⟨gx, 0, none⟩), u8, u9, u10, u11, u12, u13, u14, u15, u16, u17, u18, u19, u20, u21, u22, u23, u24, .slice (some ⟨g0, 0, none⟩) 0 0, .pointer (some ⟨bl, 0, none⟩), .pointer (some ⟨bl, 0, none⟩), .slice Aw0 nw0 cw0, u29, .pointer (some ⟨bl, 4, none⟩), .pointer (some ⟨bl, 4, none⟩), .slice Aw1 nw1 cw1, u33, u34, .pointer (some ⟨bl, 0, none⟩), .pointer (some ⟨bl, 1, none⟩), .slice Am0 nm0 cm0, u38, .pointer (some ⟨bl, 4, none⟩), .pointer (some ⟨bl, 5, none⟩), .slice Am1 nm1 cm1, u42, u43, .pointer (some ⟨bl, 0, none⟩), .pointer (some ⟨bl, 3, none⟩), .slice Ag0 ng0 cg0, u47, .pointer (some ⟨bl, 4, none⟩), .pointer (some ⟨bl, 7, none⟩), .slice Ag1 ng1 cg1, u51, u52, u53, u54, u55, u56, u57, u58, u59, u60, u61, u62, u63, u64, u65, u66, u67, u68, u69, u70, u71, u72, u73, u74, u75, u76, u77, u78, u79, u80, u81, u82, u83, u84, u85, u86, u87, u88, u89, u90, u91, u92, u93, u94, u95, u96, u97, u98, u99, u100, u101, u102, u103, u104, u105, u106, u107, u108, u109, u110, u111, u112, u113, u114, u115, u116, u117, u118, u119, u120, u121, u122], defers := [] } W := by
    intro W g0 gx hap
    dsimp only [rg_ApR3]
    refine wpAnyH_ready (rs := [4, 9, 18]) (by kernel_rfl) (by simp) ?_
    refine AllReadyH.cons rfl (fun K hK => ?_) (AllReadyH.cons rfl (fun K hK => ?_) (AllReadyH.cons rfl (fun K hK => ?_) (AllReadyH.nil)))
    · skip
      have hap_ := hap
      refine step_app17 rfl _ _ 24 rfl V.heap.size 2 i0 (.int .i64 0) 1 8 Try.underlying24 hi hz0 hz1 hz2 rfl (by decide) g0 0 0 _ rfl hap_.own Aw0 nw0 cw0 (Lw0.map encI) rfl (by rw [List.length_map, Nat.mul_one]; exact hw0.1.symm) (ir_news17 hw0 hap.1) (one_encI17 _) (by unfold maxLen; omega) (by omega) hap.1.size nw0 (by omega) ?_
      intro g4 k4 w1 hown1 hgrow1 hat1 hlt1
      have hap2 := (hap_.app hown1 hgrow1 hat1)
      refine hK.out _ _ hap2.1 (fun hHeld => ?_)
      exact s_11000000010 w1 g0 g4 k4 gx hap2
    · skip
      (try simp only [pT])
      rw [if_pos (by rfl)]
      go_simp
      have hap2 := (hap.sw1.newA).sw1
      refine hK.out _ _ hap2.1 (fun hHeld => ?_)
      exact s_10010000010 _ g0 W.heap.size gx hap2
    · skip
      (try simp only [pT])
      rw [if_pos (by rfl)]
      go_simp
      have hap2 := (hap.sw2.sw1.newA).sw1.sw2
      refine hK.out _ _ hap2.1 (fun hHeld => ?_)
      exact s_10000010010 _ g0 W.heap.size gx hap2
  have s_00010010000 : ∀ (W : World) (g9 g18 : Nat), Ap17 V W none (some (g9, 0, 0, [])) (some (g18, 0, 0, [])) none → wpAnyH Try.prog .any rg_ApR3.1 Q (fun w' => Below V.heap.size V w') 10 #[false, true, true, true, false, true, true, true, false, true, true, true, true, false, true, true, true, false, true, true, true, true, false, true, true, true, false, false, false, false] { tmps := #[u0, u1, u2, u3, .pointer (some ⟨bl, 0, none⟩), u5, u6, u7, u8, u9, u10, u11, u12, u13, u14, u15, u16, u17, u18, u19, u20, u21, u22, u23, u24, u25, .pointer (some ⟨bl, 0, none⟩), .pointer (some ⟨bl, 0, none⟩), .slice Aw0 nw0 cw0, u29, .pointer (some ⟨bl, 4, none⟩), .pointer (some ⟨bl, 4, none⟩), .slice Aw1 nw1 cw1, u33, .slice (some ⟨g9, 0, none⟩) 0 0, .pointer (some ⟨bl, 0, none⟩), .pointer (some ⟨bl, 1, none⟩), .slice Am0 nm0 cm0, u38, .pointer (some ⟨bl, 4, none⟩), .pointer (some ⟨bl, 5, none⟩), .slice Am1 nm1 cm1, u42, .slice (some ⟨g18, 0, none⟩) 0 0, .pointer (some ⟨bl, 0, none⟩), .pointer (some ⟨bl, 3, none⟩), .slice Ag0 ng0 cg0, u47, .pointer (some ⟨bl, 4, none⟩), .pointer (some ⟨bl, 7, none⟩), .slice Ag1 ng1 cg1, u51, u52, u53, u54, u55, u56, u57, u58, u59, u60, u61, u62, u63, u64, u65, u66, u67, u68, u69, u70, u71, u72, u73, u74, u75, u76, u77, u78, u79, u80, u81, u82, u83, u84, u85, u86, u87, u88, u89, u90, u91, u92, u93, u94, u95, u96, u97, u98, u99, u100, u101, u102, u103, u104, u105, u106, u107, u108, u109, u110, u111, u112, u113, u114, u115, u116, u117, u118, u119, u120, u121, u122], defers := [] } W := by
    intro W g9 g18 hap
    dsimp only [rg_ApR3]
    refine wpAnyH_ready (rs := [0, 28]) (by kernel_rfl) (by simp) ?_
    refine AllReadyH.cons rfl (fun K hK => ?_) (AllReadyH.cons rfl (fun K hK => ?_) (AllReadyH.nil))
    · skip
      (try simp only [pT])
      rw [if_pos (by rfl)]
      go_simp
      have hap2 := (hap.newA)
      refine hK.out _ _ hap2.1 (fun hHeld => ?_)
      exact s_10010010000 _ W.heap.size g9 g18 hap2
    · skip
      (try simp only [pT])
      rw [if_pos (by rfl)]
      go_simp
      have hap2 := hap.newX
      refine hK.out _ _ hap2.1 (fun hHeld => ?_)
      exact s_00010010010 _ g9 g18 W.heap.size hap2
  have s_10000010000 : ∀ (W : World) (g0 g18 : Nat), Ap17 V W (some (g0, 0, 0, [])) none (some (g18, 0, 0, [])) none → wpAnyH Try.prog .any rg_ApR3.1 Q (fun w' => Below V.heap.size V w') 10 #[true, true, true, true, false, true, true, true, false, false, true, true, true, false, true, true, true, false, true, true, true, true, false, true, true, true, false, false, false, false] { tmps := #[u0, u1, u2, u3, .pointer (some ⟨bl, 0, none⟩), u5, u6, u7, u8, u9, u10, u11, u12, u13, u14, u15, u16, u17, u18, u19, u20, u21, u22, u23, u24, .slice (some ⟨g0, 0, none⟩) 0 0, .pointer (some ⟨bl, 0, none⟩), .pointer (some ⟨bl, 0, none⟩), .slice Aw0 nw0 cw0, u29, .pointer (some ⟨bl, 4, none⟩), .pointer (some ⟨bl, 4, none⟩), .slice Aw1 nw1 cw1, u33, u34, .pointer (some ⟨bl, 0, none⟩), .pointer (some ⟨bl, 1, none⟩), .slice Am0 nm0 cm0, u38, .pointer (some ⟨bl, 4, none⟩), .pointer (some ⟨bl, 5, none⟩), .slice Am1 nm1 cm1, u42, .slice (some ⟨g18, 0, none⟩) 0 0, .pointer (some ⟨bl, 0, none⟩), .pointer (some ⟨bl, 3, none⟩), .slice Ag0 ng0 cg0, u47, .pointer (some ⟨bl, 4, none⟩), .pointer (some ⟨bl, 7, none⟩), .slice Ag1 ng1 cg1, u51, u52, u53, u54, u55, u56, u57, u58, u59, u60, u61, u62, u63, u64, u65, u66, u67, u68, u69, u70, u71, u72, u73, u74, u75, u76, u77, u78, u79, u80, u81, u82, u83, u84, u85, u86, u87, u88, u89, u90, u91, u92, u93, u94, u95, u96, u97, u98, u99, u100, u101, u102, u103, u104, u105, u106, u107, u108, u109, u110, u111, u112, u113, u114, u115, u116, u117, u118, u119, u120, u121, u122], defers := [] } W := by
    intro W g0 g18 hap
    dsimp only [rg_ApR3]
    refine wpAnyH_ready (rs := [4, 9, 28]) (by kernel_rfl) (by simp) ?_
    refine AllReadyH.cons rfl (fun K hK => ?_) (AllReadyH.cons rfl (fun K hK => ?_) (AllReadyH.cons rfl (fun K hK => ?_) (AllReadyH.nil)))
    · skip
      have hap_ := hap
      refine step_app17 rfl _ _ 24 rfl V.heap.size 2 i0 (.int .i64 0) 1 8 Try.underlying24 hi hz0 hz1 hz2 rfl (by decide) g0 0 0 _ rfl hap_.own Aw0 nw0 cw0 (Lw0.map encI) rfl (by rw [List.length_map, Nat.mul_one]; exact hw0.1.symm) (ir_news17 hw0 hap.1) (one_encI17 _) (by unfold maxLen; omega) (by omega) hap.1.size nw0 (by omega) ?_
      intro g4 k4 w1 hown1 hgrow1 hat1 hlt1
      have hap2 := (hap_.app hown1 hgrow1 hat1)
      refine hK.out _ _ hap2.1 (fun hHeld => ?_)
      exact s_11000010000 w1 g0 g4 k4 g18 hap2
    · skip
      (try simp only [pT])
      rw [if_pos (by rfl)]
      go_simp
      have hap2 := (hap.sw1.newA).sw1
      refine hK.out _ _ hap2.1 (fun hHeld => ?_)
      exact s_10010010000 _ g0 W.heap.size g18 hap2
    · skip
      (try simp only [pT])
      rw [if_pos (by rfl)]
      go_simp
      have hap2 := hap.newX
      refine hK.out _ _ hap2.1 (fun hHeld => ?_)
      exact s_10000010010 _ g0 g18 W.heap.size hap2
  have s_10010000000 : ∀ (W : World) (g0 g9 : Nat), Ap17 V W (some (g0, 0, 0, [])) (some (g9, 0, 0, [])) none none → wpAnyH Try.prog .any rg_ApR3.1 Q (fun w' => Below V.heap.size V w') 10 #[true, true, true, true, false, true, true, true, false, true, true, true, true, false, true, true, true, false, false, true, true, true, false, true, true, true, false, false, false, false] { tmps := #[u0, u1, u2, u3, .pointer (some ⟨bl, 0, none⟩), u5, u6, u7, u8, u9, u10, u11, u12, u13, u14, u15, u16, u17, u18, u19, u20, u21, u22, u23, u24, .slice (some ⟨g0, 0, none⟩) 0 0, .pointer (some ⟨bl, 0, none⟩), .pointer (some ⟨bl, 0, none⟩), .slice Aw0 nw0 cw0, u29, .pointer (some ⟨bl, 4, none⟩), .pointer (some ⟨bl, 4, none⟩), .slice Aw1 nw1 cw1, u33, .slice (some ⟨g9, 0, none⟩) 0 0, .pointer (some ⟨bl, 0, none⟩), .pointer (some ⟨bl, 1, none⟩), .slice Am0 nm0 cm0, u38, .pointer (some ⟨bl, 4, none⟩), .pointer (some ⟨bl, 5, none⟩), .slice Am1 nm1 cm1, u42, u43, .pointer (some ⟨bl, 0, none⟩), .pointer (some ⟨bl, 3, none⟩), .slice Ag0 ng0 cg0, u47, .pointer (some ⟨bl, 4, none⟩), .pointer (some ⟨bl, 7, none⟩), .slice Ag1 ng1 cg1, u51, u52, u53, u54, u55, u56, u57, u58, u59, u60, u61, u62, u63, u64, u65, u66, u67, u68, u69, u70, u71, u72, u73, u74, u75, u76, u77, u78, u79, u80, u81, u82, u83, u84, u85, u86, u87, u88, u89, u90, u91, u92, u93, u94, u95, u96, u97, u98, u99, u100, u101, u102, u103, u104, u105, u106, u107, u108, u109, u110, u111, u112, u113, u114, u115, u116, u117, u118, u119, u120, u121, u122], defers := [] } W := by
    intro W g0 g9 hap
    dsimp only [rg_ApR3]
    refine wpAnyH_ready (rs := [4, 18, 28]) (by kernel_rfl) (by simp) ?_
    refine AllReadyH.cons rfl (fun K hK => ?_) (AllReadyH.cons rfl (fun K hK => ?_) (AllReadyH.cons rfl (fun K hK => ?_) (AllReadyH.nil)))
    · skip
      have hap_ := hap
      refine step_app17 rfl _ _ 24 rfl V.heap.size 2 i0 (.int .i64 0) 1 8 Try.underlying24 hi hz0 hz1 hz2 rfl (by decide) g0 0 0 _ rfl hap_.own Aw0 nw0 cw0 (Lw0.map encI) rfl (by rw [List.length_map, Nat.mul_one]; exact hw0.1.symm) (ir_news17 hw0 hap.1) (one_encI17 _) (by unfold maxLen; omega) (by omega) hap.1.size nw0 (by omega) ?_
      intro g4 k4 w1 hown1 hgrow1 hat1 hlt1
      have hap2 := (hap_.app hown1 hgrow1 hat1)
      refine hK.out _ _ hap2.1 (fun hHeld => ?_)
      exact s_11010000000 w1 g0 g4 k4 g9 hap2
    · skip
      (try simp only [pT])
      rw [if_pos (by rfl)]
      go_simp
      have hap2 := (hap.sw2.sw1.newA).sw1.sw2
      refine hK.out _ _ hap2.1 (fun hHeld => ?_)
      exact s_10010010000 _ g0 g9 W.heap.size hap2
    · skip
      (try simp only [pT])
      rw [if_pos (by rfl)]
      go_simp
      have hap2 := hap.newX
      refine hK.out _ _ hap2.1 (fun hHeld => ?_)
      exact s_10010000010 _ g0 g9 W.heap.size hap2
  have s_11000000000 : ∀ (W : World) (g0 g4 k4 : Nat), Ap17 V W (some (g4, nw0, k4, Lw0)) none none none → wpAnyH Try.prog .any rg_ApR3.1 Q (fun w' => Below V.heap.size V w') 10 #[true, true, true, true, true, true, true, true, false, false, true, true, true, false, true, true, true, false, false, true, true, true, false, true, true, true, false, false, false, false] { tmps := #[u0, u1, u2, u3, .pointer (some ⟨bl, 0, none⟩), u5, u6, u7, u8, u9, u10, u11, u12, u13, u14, u15, u16, u17, u18, u19, u20, u21, u22, u23, u24, .slice (some ⟨g0, 0, none⟩) 0 0, .pointer (some ⟨bl, 0, none⟩), .pointer (some ⟨bl, 0, none⟩), .slice Aw0 nw0 cw0, .slice (some ⟨g4, 0, none⟩) nw0 k4, .pointer (some ⟨bl, 4, none⟩), .pointer (some ⟨bl, 4, none⟩), .slice Aw1 nw1 cw1, u33, u34, .pointer (some ⟨bl, 0, none⟩), .pointer (some ⟨bl, 1, none⟩), .slice Am0 nm0 cm0, u38, .pointer (some ⟨bl, 4, none⟩), .pointer (some ⟨bl, 5, none⟩), .slice Am1 nm1 cm1, u42, u43, .pointer (some ⟨bl, 0, none⟩), .pointer (some ⟨bl, 3, none⟩), .slice Ag0 ng0 cg0, u47, .pointer (some ⟨bl, 4, none⟩), .pointer (some ⟨bl, 7, none⟩), .slice Ag1 ng1 cg1, u51, u52, u53, u54, u55, u56, u57, u58, u59, u60, u61, u62, u63, u64, u65, u66, u67, u68, u69, u70, u71, u72, u73, u74, u75, u76, u77, u78, u79, u80, u81, u82, u83, u84, u85, u86, u87, u88, u89, u90, u91, u92, u93, u94, u95, u96, u97, u98, u99, u100, u101, u102, u103, u104, u105, u106, u107, u108, u109, u110, u111, u112, u113, u114, u115, u116, u117, u118, u119, u120, u121, u122], defers := [] } W := by
    intro W g0 g4 k4 hap
    dsimp only [rg_ApR3]
    refine wpAnyH_ready (rs := [8, 9, 18, 28]) (by kernel_rfl) (by simp) ?_
    refine AllReadyH.cons rfl (fun K hK => ?_) (AllReadyH.cons rfl (fun K hK => ?_) (AllReadyH.cons rfl (fun K hK => ?_) (AllReadyH.cons rfl (fun K hK => ?_) (AllReadyH.nil))))
    · skip
      have hap_ := hap
      refine step_app17 rfl _ _ 24 rfl V.heap.size 2 i0 (.int .i64 0) 1 8 Try.underlying24 hi hz0 hz1 hz2 rfl (by decide) g4 nw0 k4 _ rfl hap_.own Aw1 nw1 cw1 (Lw1.map encI) rfl (by rw [List.length_map, Nat.mul_one]; exact hw1.1.symm) (ir_news17 hw1 hap.1) (one_encI17 _) (by unfold maxLen; omega) (by omega) hap.1.size (nw0 + nw1) (by omega) ?_
      intro g8 k8 w1 hown1 hgrow1 hat1 hlt1
      have hap2 := (hap_.app hown1 hgrow1 hat1)
      refine hK.out _ _ hap2.1 (fun hHeld => ?_)
      exact s_11100000000 w1 g0 g4 k4 g8 k8 hap2
    · skip
      (try simp only [pT])
      rw [if_pos (by rfl)]
      go_simp
      have hap2 := (hap.sw1.newA).sw1
      refine hK.out _ _ hap2.1 (fun hHeld => ?_)
      exact s_11010000000 _ g0 g4 k4 W.heap.size hap2
    · skip
      (try simp only [pT])
      rw [if_pos (by rfl)]
      go_simp
      have hap2 := (hap.sw2.sw1.newA).sw1.sw2
      refine hK.out _ _ hap2.1 (fun hHeld => ?_)
      exact s_11000010000 _ g0 g4 k4 W.heap.size hap2
    · skip
      (try simp only [pT])
      rw [if_pos (by rfl)]
      go_simp
      have hap2 := hap.newX
      refine hK.out _ _ hap2.1 (fun hHeld => ?_)
      exact s_11000000010 _ g0 g4 k4 W.heap.size hap2
  have s_00000000010 : ∀ (W : World) (gx : Nat), Ap17 V W none none none (some gx) → wpAnyH Try.prog .any rg_ApR3.1 Q (fun w' => Below V.heap.size V w') 11 #[false, true, true, true, false, true, true, true, false, false, true, true, true, false, true, true, true, false, false, true, true, true, false, true, true, true, false, false, true, false] { tmps := #[u0, u1, u2, u3, .pointer (some ⟨bl, 0, none⟩), u5, u6, .pointer (some ⟨gx, 0, none⟩), u8, u9, u10, u11, u12, u13, u14, u15, u16, u17, u18, u19, u20, u21, u22, u23, u24, u25, .pointer (some ⟨bl, 0, none⟩), .pointer (some ⟨bl, 0, none⟩), .slice Aw0 nw0 cw0, u29, .pointer (some ⟨bl, 4, none⟩), .pointer (some ⟨bl, 4, none⟩), .slice Aw1 nw1 cw1, u33, u34, .pointer (some ⟨bl, 0, none⟩), .pointer (some ⟨bl, 1, none⟩), .slice Am0 nm0 cm0, u38, .pointer (some ⟨bl, 4, none⟩), .pointer (some ⟨bl, 5, none⟩), .slice Am1 nm1 cm1, u42, u43, .pointer (some ⟨bl, 0, none⟩), .pointer (some ⟨bl, 3, none⟩), .slice Ag0 ng0 cg0, u47, .pointer (some ⟨bl, 4, none⟩), .pointer (some ⟨bl, 7, none⟩), .slice Ag1 ng1 cg1, u51, u52, u53, u54, u55, u56, u57, u58, u59, u60, u61, u62, u63, u64, u65, u66, u67, u68, u69, u70, u71, u72, u73, u74, u75, u76, u77, u78, u79, u80, u81, u82, u83, u84, u85, u86, u87, u88, u89, u90, u91, u92, u93, u94, u95, u96, u97, u98, u99, u100, u101, u102, u103, u104, u105, u106, u107, u108, u109, u110, u111, u112, u113, u114, u115, u116, u117, u118, u119, u120, u121, u122], defers := [] } W := by
    intro W gx hap
    dsimp only [rg_ApR3]
    refine wpAnyH_ready (rs := [0, 9, 18]) (by kernel_rfl) (by simp) ?_
    refine AllReadyH.cons rfl (fun K hK => ?_) (AllReadyH.cons rfl (fun K hK => ?_) (AllReadyH.cons rfl (fun K hK => ?_) (AllReadyH.nil)))
    · skip
      (try simp only [pT])
      rw [if_pos (by rfl)]
      go_simp
      have hap2 := (hap.newA)
      refine hK.out _ _ hap2.1 (fun hHeld => ?_)
      exact s_10000000010 _ W.heap.size gx hap2
    · skip
      (try simp only [pT])
      rw [if_pos (by rfl)]
      go_simp
      have hap2 := (hap.sw1.newA).sw1
      refine hK.out _ _ hap2.1 (fun hHeld => ?_)
      exact s_00010000010 _ W.heap.size gx hap2
    · skip
      (try simp only [pT])
      rw [if_pos (by rfl)]
      go_simp
      have hap2 := (hap.sw2.sw1.newA).sw1.sw2
      refine hK.out _ _ hap2.1 (fun hHeld => ?_)
      exact s_00000010010 _ W.heap.size gx hap2
  have s_00000010000 : ∀ (W : World) (g18 : Nat), Ap17 V W none none (some (g18, 0, 0, [])) none → wpAnyH Try.prog .any rg_ApR3.1 Q (fun w' => Below V.heap.size V w') 11 #[false, true, true, true, false, true, true, true, false, false, true, true, true, false, true, true, true, false, true, true, true, true, false, true, true, true, false, false, false, false] { tmps := #[u0, u1, u2, u3, .pointer (some ⟨bl, 0, none⟩), u5, u6, u7, u8, u9, u10, u11, u12, u13, u14, u15, u16, u17, u18, u19, u20, u21, u22, u23, u24, u25, .pointer (some ⟨bl, 0, none⟩), .pointer (some ⟨bl, 0, none⟩), .slice Aw0 nw0 cw0, u29, .pointer (some ⟨bl, 4, none⟩), .pointer (some ⟨bl, 4, none⟩), .slice Aw1 nw1 cw1, u33, u34, .pointer (some ⟨bl, 0, none⟩), .pointer (some ⟨bl, 1, none⟩), .slice Am0 nm0 cm0, u38, .pointer (some ⟨bl, 4, none⟩), .pointer (some ⟨bl, 5, none⟩), .slice Am1 nm1 cm1, u42, .slice (some ⟨g18, 0, none⟩) 0 0, .pointer (some ⟨bl, 0, none⟩), .pointer (some ⟨bl, 3, none⟩), .slice Ag0 ng0 cg0, u47, .pointer (some ⟨bl, 4, none⟩), .pointer (some ⟨bl, 7, none⟩), .slice Ag1 ng1 cg1, u51, u52, u53, u54, u55, u56, u57, u58, u59, u60, u61, u62, u63, u64, u65, u66, u67, u68, u69, u70, u71, u72, u73, u74, u75, u76, u77, u78, u79, u80, u81, u82, u83, u84, u85, u86, u87, u88, u89, u90, u91, u92, u93, u94, u95, u96, u97, u98, u99, u100, u101, u102, u103, u104, u105, u106, u107, u108, u109, u110, u111, u112, u113, u114, u115, u116, u117, u118, u119, u120, u121, u122], defers := [] } W := by
    intro W g18 hap
    dsimp only [rg_ApR3]
    refine wpAnyH_ready (rs := [0, 9, 28]) (by kernel_rfl) (by simp) ?_
    refine AllReadyH.cons rfl (fun K hK => ?_) (AllReadyH.cons rfl (fun K hK => ?_) (AllReadyH.cons rfl (fun K hK => ?_) (AllReadyH.nil)))
    · skip
      (try simp only [pT])
      rw [if_pos (by rfl)]
      go_simp
      have hap2 := (hap.newA)
      refine hK.out _ _ hap2.1 (fun hHeld => ?_)
      exact s_10000010000 _ W.heap.size g18 hap2
    · skip
      (try simp only [pT])
      rw [if_pos (by rfl)]
      go_simp
      have hap2 := (hap.sw1.newA).sw1
      refine hK.out _ _ hap2.1 (fun hHeld => ?_)
      exact s_00010010000 _ W.heap.size g18 hap2
    · skip
      (try simp only [pT])
      rw [if_pos (by rfl)]
      go_simp
      have hap2 := hap.newX
      refine hK.out _ _ hap2.1 (fun hHeld => ?_)
      exact s_00000010010 _ g18 W.heap.size hap2
  have s_00010000000 : ∀ (W : World) (g9 : Nat), Ap17 V W none (some (g9, 0, 0, [])) none none → wpAnyH Try.prog .any rg_ApR3.1 Q (fun w' => Below V.heap.size V w') 11 #[false, true, true, true, false, true, true, true, false, true, true, true, true, false, true, true, true, false, false, true, true, true, false, true, true, true, false, false, false, false] { tmps := #[u0, u1, u2, u3, .pointer (some ⟨bl, 0, none⟩), u5, u6, u7, u8, u9, u10, u11, u12, u13, u14, u15, u16, u17, u18, u19, u20, u21, u22, u23, u24, u25, .pointer (some ⟨bl, 0, none⟩), .pointer (some ⟨bl, 0, none⟩), .slice Aw0 nw0 cw0, u29, .pointer (some ⟨bl, 4, none⟩), .pointer (some ⟨bl, 4, none⟩), .slice Aw1 nw1 cw1, u33, .slice (some ⟨g9, 0, none⟩) 0 0, .pointer (some ⟨bl, 0, none⟩), .pointer (some ⟨bl, 1, none⟩), .slice Am0 nm0 cm0, u38, .pointer (some ⟨bl, 4, none⟩), .pointer (some ⟨bl, 5, none⟩), .slice Am1 nm1 cm1, u42, u43, .pointer (some ⟨bl, 0, none⟩), .pointer (some ⟨bl, 3, none⟩), .slice Ag0 ng0 cg0, u47, .pointer (some ⟨bl, 4, none⟩), .pointer (some ⟨bl, 7, none⟩), .slice Ag1 ng1 cg1, u51, u52, u53, u54, u55, u56, u57, u58, u59, u60, u61, u62, u63, u64, u65, u66, u67, u68, u69, u70, u71, u72, u73, u74, u75, u76, u77, u78, u79, u80, u81, u82, u83, u84, u85, u86, u87, u88, u89, u90, u91, u92, u93, u94, u95, u96, u97, u98, u99, u100, u101, u102, u103, u104, u105, u106, u107, u108, u109, u110, u111, u112, u113, u114, u115, u116, u117, u118, u119, u120, u121, u122], defers := [] } W := by
    intro W g9 hap
    dsimp only [rg_ApR3]
    refine wpAnyH_ready (rs := [0, 18, 28]) (by kernel_rfl) (by simp) ?_
    refine AllReadyH.cons rfl (fun K hK => ?_) (AllReadyH.cons rfl (fun K hK => ?_) (AllReadyH.cons rfl (fun K hK => ?_) (AllReadyH.nil)))
    · skip
      (try simp only [pT])
      rw [if_pos (by rfl)]
      go_simp
      have hap2 := (hap.newA)
      refine hK.out _ _ hap2.1 (fun hHeld => ?_)
      exact s_10010000000 _ W.heap.size g9 hap2
    · skip
      (try simp only [pT])
      rw [if_pos (by rfl)]
      go_simp
      have hap2 := (hap.sw2.sw1.newA).sw1.sw2
      refine hK.out _ _ hap2.1 (fun hHeld => ?_)
      exact s_00010010000 _ g9 W.heap.size hap2
    · skip
      (try simp only [pT])
      rw [if_pos (by rfl)]
      go_simp
      have hap2 := hap.newX
      refine hK.out _ _ hap2.1 (fun hHeld => ?_)
      exact s_00010000010 _ g9 W.heap.size hap2
  have s_10000000000 : ∀ (W : World) (g0 : Nat), Ap17 V W (some (g0, 0, 0, [])) none none none → wpAnyH Try.prog .any rg_ApR3.1 Q (fun w' => Below V.heap.size V w') 11 #[true, true, true, true, false, true, true, true, false, false, true, true, true, false, true, true, true, false, false, true, true, true, false, true, true, true, false, false, false, false] { tmps := #[u0, u1, u2, u3, .pointer (some ⟨bl, 0, none⟩), u5, u6, u7, u8, u9, u10, u11, u12, u13, u14, u15, u16, u17, u18, u19, u20, u21, u22, u23, u24, .slice (some ⟨g0, 0, none⟩) 0 0, .pointer (some ⟨bl, 0, none⟩), .pointer (some ⟨bl, 0, none⟩), .slice Aw0 nw0 cw0, u29, .pointer (some ⟨bl, 4, none⟩), .pointer (some ⟨bl, 4, none⟩), .slice Aw1 nw1 cw1, u33, u34, .pointer (some ⟨bl, 0, none⟩), .pointer (some ⟨bl, 1, none⟩), .slice Am0 nm0 cm0, u38, .pointer (some ⟨bl, 4, none⟩), .pointer (some ⟨bl, 5, none⟩), .slice Am1 nm1 cm1, u42, u43, .pointer (some ⟨bl, 0, none⟩), .pointer (some ⟨bl, 3, none⟩), .slice Ag0 ng0 cg0, u47, .pointer (some ⟨bl, 4, none⟩), .pointer (some ⟨bl, 7, none⟩), .slice Ag1 ng1 cg1, u51, u52, u53, u54, u55, u56, u57, u58, u59, u60, u61, u62, u63, u64, u65, u66, u67, u68, u69, u70, u71, u72, u73, u74, u75, u76, u77, u78, u79, u80, u81, u82, u83, u84, u85, u86, u87, u88, u89, u90, u91, u92, u93, u94, u95, u96, u97, u98, u99, u100, u101, u102, u103, u104, u105, u106, u107, u108, u109, u110, u111, u112, u113, u114, u115, u116, u117, u118, u119, u120, u121, u122], defers := [] } W := by
    intro W g0 hap
    dsimp only [rg_ApR3]
    refine wpAnyH_ready (rs := [4, 9, 18, 28]) (by kernel_rfl) (by simp) ?_
    refine AllReadyH.cons rfl (fun K hK => ?_) (AllReadyH.cons rfl (fun K hK => ?_) (AllReadyH.cons rfl (fun K hK => ?_) (AllReadyH.cons rfl (fun K hK => ?_) (AllReadyH.nil))))
    · skip
      have hap_ := hap
      refine step_app17 rfl _ _ 24 rfl V.heap.size 2 i0 (.int .i64 0) 1 8 Try.underlying24 hi hz0 hz1 hz2 rfl (by decide) g0 0 0 _ rfl hap_.own Aw0 nw0 cw0 (Lw0.map encI) rfl (by rw [List.length_map, Nat.mul_one]; exact hw0.1.symm) (ir_news17 hw0 hap.1) (one_encI17 _) (by unfold maxLen; omega) (by omega) hap.1.size nw0 (by omega) ?_
      intro g4 k4 w1 hown1 hgrow1 hat1 hlt1
      have hap2 := (hap_.app hown1 hgrow1 hat1)
      refine hK.out _ _ hap2.1 (fun hHeld => ?_)
      exact s_11000000000 w1 g0 g4 k4 hap2
    · skip
      (try simp only [pT])
      rw [if_pos (by rfl)]
      go_simp
      have hap2 := (hap.sw1.newA).sw1
      refine hK.out _ _ hap2.1 (fun hHeld => ?_)
      exact s_10010000000 _ g0 W.heap.size hap2
    · skip
      (try simp only [pT])
      rw [if_pos (by rfl)]
      go_simp
      have hap2 := (hap.sw2.sw1.newA).sw1.sw2
      refine hK.out _ _ hap2.1 (fun hHeld => ?_)
      exact s_10000010000 _ g0 W.heap.size hap2
    · skip
      (try simp only [pT])
      rw [if_pos (by rfl)]
      go_simp
      have hap2 := hap.newX
      refine hK.out _ _ hap2.1 (fun hHeld => ?_)
      exact s_10000000010 _ g0 W.heap.size hap2
  have s_00000000000 : ∀ (W : World), Ap17 V W none none none none → wpAnyH Try.prog .any rg_ApR3.1 Q (fun w' => Below V.heap.size V w') 12 #[false, true, true, true, false, true, true, true, false, false, true, true, true, false, true, true, true, false, false, true, true, true, false, true, true, true, false, false, false, false] { tmps := #[u0, u1, u2, u3, .pointer (some ⟨bl, 0, none⟩), u5, u6, u7, u8, u9, u10, u11, u12, u13, u14, u15, u16, u17, u18, u19, u20, u21, u22, u23, u24, u25, .pointer (some ⟨bl, 0, none⟩), .pointer (some ⟨bl, 0, none⟩), .slice Aw0 nw0 cw0, u29, .pointer (some ⟨bl, 4, none⟩), .pointer (some ⟨bl, 4, none⟩), .slice Aw1 nw1 cw1, u33, u34, .pointer (some ⟨bl, 0, none⟩), .pointer (some ⟨bl, 1, none⟩), .slice Am0 nm0 cm0, u38, .pointer (some ⟨bl, 4, none⟩), .pointer (some ⟨bl, 5, none⟩), .slice Am1 nm1 cm1, u42, u43, .pointer (some ⟨bl, 0, none⟩), .pointer (some ⟨bl, 3, none⟩), .slice Ag0 ng0 cg0, u47, .pointer (some ⟨bl, 4, none⟩), .pointer (some ⟨bl, 7, none⟩), .slice Ag1 ng1 cg1, u51, u52, u53, u54, u55, u56, u57, u58, u59, u60, u61, u62, u63, u64, u65, u66, u67, u68, u69, u70, u71, u72, u73, u74, u75, u76, u77, u78, u79, u80, u81, u82, u83, u84, u85, u86, u87, u88, u89, u90, u91, u92, u93, u94, u95, u96, u97, u98, u99, u100, u101, u102, u103, u104, u105, u106, u107, u108, u109, u110, u111, u112, u113, u114, u115, u116, u117, u118, u119, u120, u121, u122], defers := [] } W := by
    intro W  hap
    dsimp only [rg_ApR3]
    refine wpAnyH_ready (rs := [0, 9, 18, 28]) (by kernel_rfl) (by simp) ?_
    refine AllReadyH.cons rfl (fun K hK => ?_) (AllReadyH.cons rfl (fun K hK => ?_) (AllReadyH.cons rfl (fun K hK => ?_) (AllReadyH.cons rfl (fun K hK => ?_) (AllReadyH.nil))))
    · skip
      (try simp only [pT])
      rw [if_pos (by rfl)]
      go_simp
      have hap2 := (hap.newA)
      refine hK.out _ _ hap2.1 (fun hHeld => ?_)
      exact s_10000000000 _ W.heap.size hap2
    · skip
      (try simp only [pT])
      rw [if_pos (by rfl)]
      go_simp
      have hap2 := (hap.sw1.newA).sw1
      refine hK.out _ _ hap2.1 (fun hHeld => ?_)
      exact s_00010000000 _ W.heap.size hap2
    · skip
      (try simp only [pT])
      rw [if_pos (by rfl)]
      go_simp
      have hap2 := (hap.sw2.sw1.newA).sw1.sw2
      refine hK.out _ _ hap2.1 (fun hHeld => ?_)
      exact s_00000010000 _ W.heap.size hap2
    · skip
      (try simp only [pT])
      rw [if_pos (by rfl)]
      go_simp
      have hap2 := hap.newX
      refine hK.out _ _ hap2.1 (fun hHeld => ?_)
      exact s_00000000010 _ W.heap.size hap2
  refine wp_region_n (S := fun w' => Below V.heap.size V w') (n := 30) (by kernel_rfl) (by kernel_rfl) (below_drewN (Below.refl _ V) 1) (fun hHeld => ?_)
  dsimp only [rg_ApR3]
  refine wpAnyH_take (i := 1) (v := ?_) rfl (by kernel_rfl) (by kernel_rfl) (by kernel_rfl) (fun _ _ _ h => hP _ _ _ _ _ h) (Or.inl ⟨by rfl, ?_⟩) hHeld ?_
  rotate_left
  · (intro w hSw; (try dsimp only at hSw); go_simp; (try with_reducible rfl))
  try simp only [Act.put, pT]
  refine wpAnyH_take (i := 2) (v := ?_) rfl (by kernel_rfl) (by kernel_rfl) (by kernel_rfl) (fun _ _ _ h => hP _ _ _ _ _ h) (Or.inl ⟨by rfl, ?_⟩) hHeld ?_
  rotate_left
  · (intro w hSw; (try dsimp only at hSw); go_simp; (try with_reducible rfl))
  try simp only [Act.put, pT]
  refine wpAnyH_take (i := 3) (v := ?_) rfl (by kernel_rfl) (by kernel_rfl) (by kernel_rfl) (fun _ _ _ h => hP _ _ _ _ _ h) (Or.inl ⟨by rfl, ?_⟩) hHeld ?_
  rotate_left
  · (intro w hSw; (try dsimp only at hSw); go_simp; (try with_reducible rfl))
  try simp only [Act.put, pT]
  refine wpAnyH_take (i := 5) (v := ?_) rfl (by kernel_rfl) (by kernel_rfl) (by kernel_rfl) (fun _ _ _ h => hP _ _ _ _ _ h) (Or.inl ⟨by rfl, ?_⟩) hHeld ?_
  rotate_left
  · (intro w hSw; (try dsimp only at hSw); go_simp; (try with_reducible rfl))
  try simp only [Act.put, pT]
  refine wpAnyH_take (i := 6) (v := ?_) rfl (by kernel_rfl) (by kernel_rfl) (by kernel_rfl) (fun _ _ _ h => hP _ _ _ _ _ h) (Or.inl ⟨by rfl, ?_⟩) hHeld ?_
  rotate_left
  · (intro w hSw; (try dsimp only at hSw); go_simp; (try with_reducible rfl))
  try simp only [Act.put, pT]
  refine wpAnyH_take (i := 7) (v := ?_) rfl (by kernel_rfl) (by kernel_rfl) (by kernel_rfl) (fun _ _ _ h => hP _ _ _ _ _ h) (Or.inl ⟨by rfl, ?_⟩) hHeld ?_
  rotate_left
  · (intro w hSw; (try dsimp only at hSw); go_simp; (try with_reducible rfl))
  try simp only [Act.put, pT]
  refine wpAnyH_take (i := 10) (v := ?_) rfl (by kernel_rfl) (by kernel_rfl) (by kernel_rfl) (fun _ _ _ h => hP _ _ _ _ _ h) (Or.inl ⟨by rfl, ?_⟩) hHeld ?_
  rotate_left
  · (intro w hSw; (try dsimp only at hSw); go_simp; (try with_reducible rfl))
  try simp only [Act.put, pT]
  refine wpAnyH_take (i := 11) (v := ?_) rfl (by kernel_rfl) (by kernel_rfl) (by kernel_rfl) (fun _ _ _ h => hP _ _ _ _ _ h) (Or.inl ⟨by rfl, ?_⟩) hHeld ?_
  rotate_left
  · (intro w hSw; (try dsimp only at hSw); go_simp; (try with_reducible rfl))
  try simp only [Act.put, pT]
  refine wpAnyH_take (i := 12) (v := ?_) rfl (by kernel_rfl) (by kernel_rfl) (by kernel_rfl) (fun _ _ _ h => hP _ _ _ _ _ h) (Or.inl ⟨by rfl, ?_⟩) hHeld ?_
  rotate_left
  · (intro w hSw; (try dsimp only at hSw); go_simp; (try with_reducible rfl))
  try simp only [Act.put, pT]
  refine wpAnyH_take (i := 14) (v := ?_) rfl (by kernel_rfl) (by kernel_rfl) (by kernel_rfl) (fun _ _ _ h => hP _ _ _ _ _ h) (Or.inl ⟨by rfl, ?_⟩) hHeld ?_
  rotate_left
  · (intro w hSw; (try dsimp only at hSw); go_simp; (try with_reducible rfl))
  try simp only [Act.put, pT]
  refine wpAnyH_take (i := 15) (v := ?_) rfl (by kernel_rfl) (by kernel_rfl) (by kernel_rfl) (fun _ _ _ h => hP _ _ _ _ _ h) (Or.inl ⟨by rfl, ?_⟩) hHeld ?_
  rotate_left
  · (intro w hSw; (try dsimp only at hSw); go_simp; (try with_reducible rfl))
  try simp only [Act.put, pT]
  refine wpAnyH_take (i := 16) (v := ?_) rfl (by kernel_rfl) (by kernel_rfl) (by kernel_rfl) (fun _ _ _ h => hP _ _ _ _ _ h) (Or.inl ⟨by rfl, ?_⟩) hHeld ?_
  rotate_left
  · (intro w hSw; (try dsimp only at hSw); go_simp; (try with_reducible rfl))
  try simp only [Act.put, pT]
  refine wpAnyH_take (i := 19) (v := ?_) rfl (by kernel_rfl) (by kernel_rfl) (by kernel_rfl) (fun _ _ _ h => hP _ _ _ _ _ h) (Or.inl ⟨by rfl, ?_⟩) hHeld ?_
  rotate_left
  · (intro w hSw; (try dsimp only at hSw); go_simp; (try with_reducible rfl))
  try simp only [Act.put, pT]
  refine wpAnyH_take (i := 20) (v := ?_) rfl (by kernel_rfl) (by kernel_rfl) (by kernel_rfl) (fun _ _ _ h => hP _ _ _ _ _ h) (Or.inl ⟨by rfl, ?_⟩) hHeld ?_
  rotate_left
  · (intro w hSw; (try dsimp only at hSw); go_simp; (try with_reducible rfl))
  try simp only [Act.put, pT]
  refine wpAnyH_take (i := 21) (v := ?_) rfl (by kernel_rfl) (by kernel_rfl) (by kernel_rfl) (fun _ _ _ h => hP _ _ _ _ _ h) (Or.inl ⟨by rfl, ?_⟩) hHeld ?_
  rotate_left
  · (intro w hSw; (try dsimp only at hSw); go_simp; (try with_reducible rfl))
  try simp only [Act.put, pT]
  refine wpAnyH_take (i := 23) (v := ?_) rfl (by kernel_rfl) (by kernel_rfl) (by kernel_rfl) (fun _ _ _ h => hP _ _ _ _ _ h) (Or.inl ⟨by rfl, ?_⟩) hHeld ?_
  rotate_left
  · (intro w hSw; (try dsimp only at hSw); go_simp; (try with_reducible rfl))
  try simp only [Act.put, pT]
  refine wpAnyH_take (i := 24) (v := ?_) rfl (by kernel_rfl) (by kernel_rfl) (by kernel_rfl) (fun _ _ _ h => hP _ _ _ _ _ h) (Or.inl ⟨by rfl, ?_⟩) hHeld ?_
  rotate_left
  · (intro w hSw; (try dsimp only at hSw); go_simp; (try with_reducible rfl))
  try simp only [Act.put, pT]
  refine wpAnyH_take (i := 25) (v := ?_) rfl (by kernel_rfl) (by kernel_rfl) (by kernel_rfl) (fun _ _ _ h => hP _ _ _ _ _ h) (Or.inl ⟨by rfl, ?_⟩) hHeld ?_
  rotate_left
  · (intro w hSw; (try dsimp only at hSw); go_simp; (try with_reducible rfl))
  try simp only [Act.put, pT]
  exact s_00000000000 _ (Ap17.start V)

end Go.Proofs.Ytckdbcngnghhiaa
