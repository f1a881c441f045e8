/-
  Several texts in one: JM, L17, WTells17.
-/
import Derived.Test.YtckdbcngnghhiaaA10
import Derived.Test.YtckdbcngnghhiaaA2

/-
  The landed mom: Step and Right.
-/
namespace Go.Proofs.Ytckdbcngnghhiaa
set_option maxRecDepth 100000
open Go.RowKit
set_option linter.unusedVariables false
set_option linter.unusedSimpArgs false

theorem stV_of_stW (lr mu wd : Int) (ne : Bool) (f : Nat) (w v g : Int) (h : (stW lr mu wd ne f w v g).2 = true) : (stV mu wd f w v g).2 = true := by
  have hu := stW_stV lr mu wd ne f w v g h
  cases ne
  · exact hu
  · unfold stU at hu
    rw [if_pos rfl] at hu
    unfold nAdd at hu
    simp only [Bool.and_eq_true, decide_eq_true_eq] at hu
    have h2 := hu.1.2
    unfold nMul at h2
    simp only [Bool.and_eq_true, decide_eq_true_eq] at h2
    exact h2.1.2

set_option maxHeartbeats 8000000 in
theorem kStep_loop {w : World} {lr mu wd f : Int} {ne : Bool} {Aw : Option Addr} {n cw : Nat} {Am : Option Addr} {cm : Nat} {Av : Option Addr} {nv cv : Nat} {Ag : Option Addr} {cg : Nat} {LW LM LG : List Int} (hK : OkM17 lr mu wd f) (hl : I64 lr) (hm : I64 mu) (hd : I64 wd) (hW : IR w Aw n cw LW) (hM : IR w Am n cm LM) (hG : IR w Ag n cg LG) (iW : ∀ z ∈ LW, I64 z) (iM : ∀ z ∈ LM, I64 z) (iG : ∀ z ∈ LG, I64 z) (kn : n ≤ 1000000) :
    Calls Try.prog 10 #[.agg #[.int .i64 lr, .int .i64 mu, .int .i64 wd, .bool ne], .int .i64 f, .agg #[.slice Aw n cw, .slice Am n cm, .slice Av nv cv, .slice Ag n cg]] w (GotS17 w (if rowOK lr mu wd ne f.toNat LW LM LG = true then rowW lr mu wd ne f.toNat LW LM LG else []) (if rowOK lr mu wd ne f.toNat LW LM LG = true then rowV mu wd f.toNat LW LM LG else []) (if rowOK lr mu wd ne f.toNat LW LM LG = true then 0 else 2)) := by
  have hn1 := hW.1
  have hn2 := hM.1
  have hn3 := hG.1
  have hRV := rowV_eq mu wd f.toNat (W := LW) (V := LM) (G := LG) (by omega) (by omega)
  have hRW := rowW_eq lr mu wd ne f.toNat (W := LW) (V := LM) (G := LG) (by omega) (by omega)
  have hOK := rowOK_iff lr mu wd ne f.toNat (W := LW) (V := LM) (G := LG) (by omega) (by omega)
  rw [show (List.range LW.length).map (fun j => (sV mu wd f.toNat LW LM LG j).1) = upV mu wd f.toNat LW LM LG n by unfold upV; rw [hn1]] at hRV
  rw [show (List.range LW.length).map (fun j => (sW lr mu wd ne f.toNat LW LM LG j).1) = upW lr mu wd ne f.toNat LW LM LG n by unfold upW; rw [hn1]] at hRW
  rw [← hn1] at hOK
  rw [hRV, hRW]
  have hUV := fun i => upV_succ mu wd f.toNat LW LM LG i
  have hUW := fun i => upW_succ lr mu wd ne f.toNat LW LM LG i
  have lUV : ∀ i, (upV mu wd f.toNat LW LM LG i).length = i := fun i => by unfold upV; simp
  have lUW : ∀ i, (upW lr mu wd ne f.toNat LW LM LG i).length = i := fun i => by unfold upW; simp
  have hWV : ∀ j, (sW lr mu wd ne f.toNat LW LM LG j).2 = true → (sV mu wd f.toNat LW LM LG j).2 = true := fun j h => stV_of_stW _ _ _ _ _ _ _ _ h
  have at_ : ∀ {L : List Int}, n = L.length → (∀ z ∈ L, I64 z) → ∀ j, I64 (L[j]?.getD 0) := fun {L} e h j => by
    rcases Nat.lt_or_ge j L.length with q | q
    · rw [List.getElem?_eq_getElem q]; exact h _ (List.getElem_mem q)
    · rw [List.getElem?_eq_none q]; show I64 0; unfold I64; omega
  have CS : ∀ (j : Nat) {X : World} {g : Nat}, Rk X g f lr mu wd ne true → Calls Try.prog 24 #[.pointer (some ⟨g, 0, none⟩), .int .i64 (LW[j]?.getD 0), .int .i64 (LM[j]?.getD 0), .int .i64 (LG[j]?.getD 0)] X (GotK X g f lr mu wd ne (sW lr mu wd ne f.toNat LW LM LG j).2 (.tuple #[.int .i64 (sW lr mu wd ne f.toNat LW LM LG j).1, .int .i64 (sV mu wd f.toNat LW LM LG j).1])) := fun j {X g} h => kstep_N hK.1 hK.2.1 hl hm hd (at_ hn1 iW j) (at_ hn2 iM j) (at_ hn3 iG j) h
  have CR : ∀ W : World, Calls Try.prog 12 #[.agg #[.int .i64 lr, .int .i64 mu, .int .i64 wd, .bool ne], .int .i64 f] W (GotV W (.bool true)) := fun W => by have h := kRight_N (w := W) (lr := lr) (mu := mu) (wd := wd) (f := f) (ne := ne); rw [decide_eq_true hK] at h; exact h
  obtain ⟨XV, eXV⟩ : ∃ X : Nat → Nm, (fun j => sV mu wd f.toNat LW LM LG j) = X := ⟨_, rfl⟩
  have eXV1 : ∀ j, sV mu wd f.toNat LW LM LG j = XV j := fun j => by rw [← eXV]
  obtain ⟨XW, eXW⟩ : ∃ X : Nat → Nm, (fun j => sW lr mu wd ne f.toNat LW LM LG j) = X := ⟨_, rfl⟩
  have eXW1 : ∀ j, sW lr mu wd ne f.toNat LW LM LG j = XW j := fun j => by rw [← eXW]
  obtain ⟨UV, eUV⟩ : ∃ X : Nat → List Int, (fun j => upV mu wd f.toNat LW LM LG j) = X := ⟨_, rfl⟩
  have eUV1 : ∀ j, upV mu wd f.toNat LW LM LG j = UV j := fun j => by rw [← eUV]
  obtain ⟨UW, eUW⟩ : ∃ X : Nat → List Int, (fun j => upW lr mu wd ne f.toNat LW LM LG j) = X := ⟨_, rfl⟩
  have eUW1 : ∀ j, upW lr mu wd ne f.toNat LW LM LG j = UW j := fun j => by rw [← eUW]
  have u0 : UV 0 = [] ∧ UW 0 = [] := ⟨by rw [← eUV]; rfl, by rw [← eUW]; rfl⟩
  obtain ⟨ok, eok⟩ : ∃ b, rowOK lr mu wd ne f.toNat LW LM LG = b := ⟨_, rfl⟩
  simp only [eXV1, eXW1, eUV1, eUW1, eok] at hUV hUW hOK CS lUV lUW hWV ⊢
  obtain ⟨aW, hAW⟩ : ∃ A, (if ok = true then UW n else []) = A := ⟨_, rfl⟩
  obtain ⟨aV, hAV⟩ : ∃ A, (if ok = true then UV n else []) = A := ⟨_, rfl⟩
  obtain ⟨aC, hAC⟩ : ∃ A, (if ok = true then (0 : Int) else 2) = A := ⟨_, rfl⟩
  rw [hAW, hAV, hAC]
  have HAW := Lib.hid hAW
  have HAV := Lib.hid hAV
  have HAC := Lib.hid hAC
  clear hAW hAV hAC
  have HUV := Lib.hid hUV
  have HUW := Lib.hid hUW
  have HLV := Lib.hid lUV
  have HLU := Lib.hid lUW
  have HOK := Lib.hid hOK
  have HWV := Lib.hid hWV
  have HU0 := Lib.hid u0
  have HKN := Lib.hid kn
  have HCS := Lib.hid @CS
  have hmk := ziM_run n kn
  clear hUV hUW hOK lUV lUW hWV u0 CS eXV eXW eUV eUW eok eXV1 eXW1 eUV1 eUW1 hRV hRW hn1 hn2 hn3 at_ iW iM iG hK hl hm hd kn
  have t0 : ((n : Int) == (n : Int)) = true := beq_self_eq_true _
  have t1 : ((n : Int) != (n : Int)) = false := by simp
  have cc := Below.refl w.heap.size w
  go_enter Try.func10, Try.ntmps10
  go_upto_region 1 with fail
  have NW : ∀ (W : World) (o : Obj), (W.alloc o).heap[W.heap.size]? = some o := fun W o => World.alloc_heap_new W o
  generalize hv_ : ((w.alloc (.cells #[.int .i64 lr, .int .i64 mu, .int .i64 wd, .bool ne] 23)).alloc (.cells #[.slice Aw n cw, .slice Am n cm, .slice Av nv cv, .slice Ag n cg] 26)).alloc (.cells #[.slice none 0 0, .slice none 0 0, .slice none 0 0, .slice none 0 0] 26) = v1
  have zbm : v1.heap[w.heap.size]? = some (.cells #[.int .i64 lr, .int .i64 mu, .int .i64 wd, .bool ne] 23) := by rw [← hv_]; exact heap_up (heap_up (NW _ _))
  have zbr : v1.heap[w.heap.size + 1]? = some (.cells #[.slice Aw n cw, .slice Am n cm, .slice Av nv cv, .slice Ag n cg] 26) := by rw [← hv_]; exact heap_up (by have h := NW (w.alloc (.cells #[.int .i64 lr, .int .i64 mu, .int .i64 wd, .bool ne] 23)) (.cells #[.slice Aw n cw, .slice Am n cm, .slice Av nv cv, .slice Ag n cg] 26); simpa only [World.size_alloc] using h)
  have zg : v1.heap[w.heap.size + 1 + 1]? = some (.cells #[.slice none 0 0, .slice none 0 0, .slice none 0 0, .slice none 0 0] 26) := by rw [← hv_]; exact by have h := NW ((w.alloc (.cells #[.int .i64 lr, .int .i64 mu, .int .i64 wd, .bool ne] 23)).alloc (.cells #[.slice Aw n cw, .slice Am n cm, .slice Av nv cv, .slice Ag n cg] 26)) (.cells #[.slice none 0 0, .slice none 0 0, .slice none 0 0, .slice none 0 0] 26); simpa only [World.size_alloc] using h
  have bA : Below w.heap.size w v1 := by rw [← hv_]; exact ((((Below.refl _ w).alloc (by simp) _).alloc (by simp) _).alloc (by simp <;> omega) _)
  replace cc := bK cc bA
  clear bA
  clear hv_
  have lt := fun {W : World} {b : Nat} {o : Obj} (h : W.heap[b]? = some o) => (Array.getElem?_eq_some_iff.1 h).1
  obtain ⟨pa0, pa1, pa2, pa3⟩ := cells4 zbm
  clear NW
  go_wp2_with fail
  refine (CR _).mono ?_
  rintro e w2 ⟨rfl, b⟩
  replace zbm := (b.block _ (lt zbm)).trans zbm
  replace zbr := (b.block _ (lt zbr)).trans zbr
  replace zg := (b.block _ (lt zg)).trans zg
  replace cc := bK cc b
  clear b CR pa0 pa1 pa2 pa3
  obtain ⟨xa0, xa1, xa2, xa3⟩ := cells4 zbr
  obtain ⟨pa0, pa1, pa2, pa3⟩ := cells4 zbm
  go_upto_region 6 with fail
  have zr : (w2.alloc (.cells #[.int .i64 f, .int .i64 0, .int .i64 lr, .int .i64 mu, .int .i64 wd, .bool ne] 54)).heap[w2.heap.size]? = some (.cells #[.int .i64 f, .int .i64 0, .int .i64 lr, .int .i64 mu, .int .i64 wd, .bool ne] 54) := World.alloc_heap_new w2 _
  have b := one_upD w2 (.cells #[.int .i64 f, .int .i64 0, .int .i64 lr, .int .i64 mu, .int .i64 wd, .bool ne] 54)
  have lgr : w.heap.size + 1 + 1 < w2.heap.size := lt zg
  have hts : (w2.alloc (.cells #[.int .i64 f, .int .i64 0, .int .i64 lr, .int .i64 mu, .int .i64 wd, .bool ne] 54)).heap.size = w2.heap.size + 1 := World.size_alloc _ _
  replace zbm := (b.block _ (lt zbm)).trans zbm
  replace zbr := (b.block _ (lt zbr)).trans zbr
  replace zg := (b.block _ (lt zg)).trans zg
  replace cc := bK cc b
  clear b xa0 xa1 xa2 xa3 pa0 pa1 pa2 pa3
  generalize w2.alloc (.cells #[.int .i64 f, .int .i64 0, .int .i64 lr, .int .i64 mu, .int .i64 wd, .bool ne] 54) = V0 at *
  generalize w2.heap.size = gr at *
  replace zr : Rk V0 gr f lr mu wd ne true := zr
  refine kStepR6 (C := V0.heap.size) hmk (by intro c a d v w h; cases d <;> exact h) (Nat.le_refl _) zbr ?_
  intro V gW gM go b zbr2 zW zM zgo mW mM mgo n1_ n2_ dWM n3_ dWo dMo
  clear zbr2 n1_ n2_ n3_
  replace zbm := (b.block _ (lt zbm)).trans zbm
  replace zbr := (b.block _ (lt zbr)).trans zbr
  replace zg := (b.block _ (lt zg)).trans zg
  replace zr := (b.block _ zr.lt).trans zr
  replace cc := bK cc b
  have oW : V.ownsRow (gr + 1) 2 1 (.slice (some ⟨gW, 0, none⟩) n n) n ((pad n (UW 0)).map encI) := by rw [HU0.out.2, pad_nil]; exact ziM_own HKN.out zW (by omega)
  have oM : V.ownsRow (gr + 1) 2 1 (.slice (some ⟨gM, 0, none⟩) n n) n ((pad n (UV 0)).map encI) := by rw [HU0.out.1, pad_nil]; exact ziM_own HKN.out zM (by omega)
  have dgo : gr < go ∧ gr < gW ∧ gr < gM ∧ gM ≠ gW ∧ go ≠ gW ∧ go ≠ gM := ⟨by omega, by omega, by omega, Ne.symm dWM, Ne.symm dWo, Ne.symm dMo⟩
  have HD := Lib.hid dgo
  have Hts := Lib.hid hts
  have Hlgr := Lib.hid lgr
  have Hbm := Lib.hid zbm
  have Hbr := Lib.hid zbr
  have Hg := Lib.hid zg
  have HZR := Lib.hid zr
  have HC := Lib.hid cc
  have HW := Lib.hid hW
  have HM := Lib.hid hM
  have HG := Lib.hid hG
  have HO1 := Lib.hid oW
  have HO2 := Lib.hid oM
  have Hgo := Lib.hid zgo
  clear b zW zM zgo mW mM mgo dWM dWo dMo oW oM dgo hts lgr zbm zg zr cc hW hM hG hmk
  obtain ⟨xa0, xa1, xa2, xa3⟩ := cells4 zbr
  clear zbr
  go_wp2_with fail
  go_loopw [49] (fun iv wr => ∃ i : Nat, i ≤ n ∧ iv = .int .i64 (i : Int) ∧ Rk wr gr f lr mu wd ne true ∧ wr.heap[go]? = some (.cells #[.slice (some ⟨gW, 0, none⟩) n n, .slice (some ⟨gM, 0, none⟩) n n, .slice none 0 0, .slice none 0 0] 26) ∧ wr.ownsRow (gr + 1) 2 1 (.slice (some ⟨gW, 0, none⟩) n n) n ((pad n (UW i)).map encI) ∧ wr.ownsRow (gr + 1) 2 1 (.slice (some ⟨gM, 0, none⟩) n n) n ((pad n (UV i)).map encI) ∧ Below gr V wr ∧ ∀ j, j < i → (XW j).2 = true) (fun iv _ => n - (intOf iv).toNat)
  case atStart => exact ⟨0, by omega, rfl, HZR.out, Hgo.out, HO1.out, HO2.out, Below.refl _ _, fun j h => absurd h (by omega)⟩
  case round =>
    obtain ⟨i, hi_, rfl, hR, zgo, oW, oM, bl, hj⟩ := hrel
    obtain ⟨d1, d2, d3, d4, d5, d6⟩ := HD.out
    have lgr := Hlgr.out
    have zbr := (bl.block _ (show w.heap.size + 1 < gr by omega)).trans Hbr.out
    have zg := (bl.block _ (show w.heap.size + 1 + 1 < gr by omega)).trans Hg.out
    have cc := HC.out.trans (bl.mono (show w.heap.size ≤ gr by omega))
    clear xa0 xa1 xa2 xa3
    obtain ⟨xa0, xa1, xa2, xa3⟩ := cells4 zbr
    by_cases hlt : i < n
    · have jlt : (i : Int) < (n : Int) := by omega
      obtain ⟨bw, ow, rfl, lbw, cW⟩ := HW.out.2.2 (by omega)
      obtain ⟨bm_, om, rfl, lbm, cM⟩ := HM.out.2.2 (by omega)
      obtain ⟨bg, og, rfl, lbg, cG⟩ := HG.out.2.2 (by omega)
      have ew := (cc.cell (p := ⟨bw, ow + i, none⟩) lbw).trans (cW i hlt)
      have kw : bw < gr := by omega
      have em := (cc.cell (p := ⟨bm_, om + i, none⟩) lbm).trans (cM i hlt)
      have km : bm_ < gr := by omega
      have eg := (cc.cell (p := ⟨bg, og + i, none⟩) lbg).trans (cG i hlt)
      have kg : bg < gr := by omega
      have CSj := fun {X : World} (h : Rk X gr f lr mu wd ne true) => HCS.out i h
      have hUVi := HUV.out i
      have hUWi := HUW.out i
      have hLV := HLV.out i
      have hLU := HLU.out i
      have hOKi : ok = true → (XW i).2 = true := fun h => (HOK.out.1 h i hlt).1
      have hjn : (XW i).2 = true → ∀ j, j < i + 1 → (XW j).2 = true := fun h1 j hj2 => by
        rcases Nat.lt_or_ge j i with e | e
        · exact hj j e
        · have e2 : j = i := by omega
          rw [e2]; exact h1
      obtain ⟨⟨y, p⟩, ey⟩ : ∃ x, XW i = x := ⟨_, rfl⟩
      obtain ⟨⟨v, vb⟩, ev⟩ : ∃ x, XV i = x := ⟨_, rfl⟩
      rw [ey] at hUWi hOKi hjn CSj
      rw [ev] at hUVi CSj
      simp only at hUVi hUWi hOKi hjn CSj
      clear ey ev hj cW cM cG
      generalize LW[i]?.getD 0 = x0 at *
      generalize LM[i]?.getD 0 = x1 at *
      generalize LG[i]?.getD 0 = x2 at *
      have HS : ∀ X : World, Below gr wr X → X.heap[go]? = some (.cells #[.slice (some ⟨gW, 0, none⟩) n n, .slice (some ⟨gM, 0, none⟩) n n, .slice none 0 0, .slice none 0 0] 26) → (fun w' : World => w'.cell? ⟨go, 0, none⟩ = some (.slice (some ⟨gW, 0, none⟩) n n) ∧ w'.cell? ⟨go, 1, none⟩ = some (.slice (some ⟨gM, 0, none⟩) n n) ∧ w'.cell? ⟨w.heap.size + 1, 0, none⟩ = some (.slice (some ⟨bw, ow, none⟩) n cw) ∧ w'.cell? ⟨w.heap.size + 1, 1, none⟩ = some (.slice (some ⟨bm_, om, none⟩) n cm) ∧ w'.cell? ⟨w.heap.size + 1, 3, none⟩ = some (.slice (some ⟨bg, og, none⟩) n cg) ∧ w'.cell? ⟨bw, ow + i, none⟩ = some (.int .i64 x0) ∧ w'.cell? ⟨bm_, om + i, none⟩ = some (.int .i64 x1) ∧ w'.cell? ⟨bg, og + i, none⟩ = some (.int .i64 x2)) X := fun X b z => ⟨(cells4 z).1, (cells4 z).2.1, (b.cell (p := ⟨w.heap.size + 1, 0, none⟩) (show w.heap.size + 1 < gr by omega)).trans xa0, (b.cell (p := ⟨w.heap.size + 1, 1, none⟩) (show w.heap.size + 1 < gr by omega)).trans xa1, (b.cell (p := ⟨w.heap.size + 1, 3, none⟩) (show w.heap.size + 1 < gr by omega)).trans xa3, cK b ew kw, cK b em km, cK b eg kg⟩
      have HGW : gW < wr.heap.size := (oW.lt gW rfl).2
      have HGM : gM < wr.heap.size := (oM.lt gM rfl).2
      have HGO : go < wr.heap.size := lt zgo
      go_upto_region 10 with fail
      have bD := below_drewN (Below.refl wr.heap.size wr) 1
      have hR1 := hR.on bD
      have s1 := Sp.of (Nat.le_of_lt hR.lt) bD
      have z1 := (bD.block go HGO).trans zgo
      have CSd := CSj hR1
      have HZ1 := Lib.hid z1
      refine wp_region_held_drew (S := fun w' => w'.cell? ⟨go, 0, none⟩ = some (.slice (some ⟨gW, 0, none⟩) n n) ∧ w'.cell? ⟨go, 1, none⟩ = some (.slice (some ⟨gM, 0, none⟩) n n) ∧ w'.cell? ⟨w.heap.size + 1, 0, none⟩ = some (.slice (some ⟨bw, ow, none⟩) n cw) ∧ w'.cell? ⟨w.heap.size + 1, 1, none⟩ = some (.slice (some ⟨bm_, om, none⟩) n cm) ∧ w'.cell? ⟨w.heap.size + 1, 3, none⟩ = some (.slice (some ⟨bg, og, none⟩) n cg) ∧ w'.cell? ⟨bw, ow + i, none⟩ = some (.int .i64 x0) ∧ w'.cell? ⟨bm_, om + i, none⟩ = some (.int .i64 x1) ∧ w'.cell? ⟨bg, og + i, none⟩ = some (.int .i64 x2)) (by kernel_rfl) ?_ (fun hHeld => ?_)
      · exact HS _ s1.1 z1
      refine tY (i := 0) (v := ?_) rfl ?_ hHeld ?_
      rotate_left
      · (intro w hSw; (try dsimp only at hSw); go_simp; (try with_reducible rfl))
      try simp only [Act.put, pT]
      refine tY (i := 1) (v := ?_) rfl ?_ hHeld ?_
      rotate_left
      · (intro w hSw; (try dsimp only at hSw); go_simp; (try with_reducible rfl))
      try simp only [Act.put, pT]
      refine tY (i := 2) (v := ?_) rfl ?_ hHeld ?_
      rotate_left
      · (intro w hSw; (try dsimp only at hSw); go_simp; (try with_reducible rfl))
      try simp only [Act.put, pT]
      refine tY (i := 3) (v := ?_) rfl ?_ hHeld ?_
      rotate_left
      · (intro w hSw; (try dsimp only at hSw); go_simp; (try with_reducible rfl))
      try simp only [Act.put, pT]
      refine tY (i := 4) (v := ?_) rfl ?_ hHeld ?_
      rotate_left
      · (intro w hSw; (try dsimp only at hSw); go_simp; (try with_reducible rfl))
      try simp only [Act.put, pT]
      refine tY (i := 5) (v := ?_) rfl ?_ hHeld ?_
      rotate_left
      · (intro w hSw; (try dsimp only at hSw); go_simp; (try with_reducible rfl))
      try simp only [Act.put, pT]
      refine tY (i := 6) (v := ?_) rfl ?_ hHeld ?_
      rotate_left
      · (intro w hSw; (try dsimp only at hSw); go_simp; (try with_reducible rfl))
      try simp only [Act.put, pT]
      refine tY (i := 7) (v := ?_) rfl ?_ hHeld ?_
      rotate_left
      · (intro w hSw; (try dsimp only at hSw); go_simp; (try with_reducible rfl))
      try simp only [Act.put, pT]
      refine tY (i := 8) (v := ?_) rfl ?_ hHeld ?_
      rotate_left
      · (intro w hSw; (try dsimp only at hSw); go_simp; (try with_reducible rfl))
      try simp only [Act.put, pT]
      refine tY (i := 9) (v := ?_) rfl ?_ hHeld ?_
      rotate_left
      · (intro w hSw; (try dsimp only at hSw); go_simp; (try with_reducible rfl))
      try simp only [Act.put, pT]
      refine tY (i := 10) (v := ?_) rfl ?_ hHeld ?_
      rotate_left
      · (intro w hSw; (try dsimp only at hSw); go_simp; (try with_reducible rfl))
      try simp only [Act.put, pT]
      refine tY (i := 11) (v := ?_) rfl ?_ hHeld ?_
      rotate_left
      · (intro w hSw; (try dsimp only at hSw); go_simp; (try with_reducible rfl))
      try simp only [Act.put, pT]
      refine tY (i := 12) (v := ?_) rfl ?_ hHeld ?_
      rotate_left
      · (intro w hSw; (try dsimp only at hSw); go_simp; (try with_reducible rfl))
      try simp only [Act.put, pT]
      refine tY (i := 13) (v := ?_) rfl ?_ hHeld ?_
      rotate_left
      · (intro w hSw; (try dsimp only at hSw); go_simp; (try with_reducible rfl))
      try simp only [Act.put, pT]
      refine tY (i := 14) (v := ?_) rfl ?_ hHeld ?_
      rotate_left
      · (intro w hSw; (try dsimp only at hSw); go_simp; (try with_reducible rfl))
      try simp only [Act.put, pT]
      refine tY (i := 15) (v := ?_) rfl ?_ hHeld ?_
      rotate_left
      · (intro w hSw; (try dsimp only at hSw); go_simp; (try with_reducible rfl))
      try simp only [Act.put, pT]
      refine tY (i := 16) (v := ?_) rfl ?_ hHeld ?_
      rotate_left
      · (intro w hSw; (try dsimp only at hSw); go_simp; (try with_reducible rfl))
      try simp only [Act.put, pT]
      refine tY (i := 17) (v := ?_) rfl ?_ hHeld ?_
      rotate_left
      · (intro w hSw; (try dsimp only at hSw); go_simp; (try with_reducible rfl))
      try simp only [Act.put, pT]
      refine tY (i := 18) (v := ?_) rfl ?_ hHeld ?_
      rotate_left
      · (intro w hSw; (try dsimp only at hSw); go_simp; (try with_reducible rfl))
      try simp only [Act.put, pT]
      refine tY (i := 19) (v := ?_) rfl ?_ hHeld ?_
      rotate_left
      · (intro w hSw; (try dsimp only at hSw); go_simp; (try with_reducible rfl))
      try simp only [Act.put, pT]
      refine tY (i := 20) (v := ?_) rfl ?_ hHeld ?_
      rotate_left
      · (intro w hSw; (try dsimp only at hSw); go_simp; (try with_reducible rfl))
      try simp only [Act.put, pT]
      refine wpAnyH_ready (rs := [21]) (by kernel_rfl) (by simp) ?_
      refine AllReadyH.cons rfl (fun K hK => ?_) AllReadyH.nil
      (try simp only [pT])
      rw [if_pos (by rfl)]
      go_simp
      go_at_call 24
      refine CSd.mono ?_
      rintro e W1 ⟨rfl, hR2, s2⟩
      replace s1 := s1.trans s2
      have z2 := (s1.2 go HGO (by omega)).trans zgo
      have oW1 := own_keep oW (s1.2 gW HGW (by omega))
      have oM1 := own_keep oM (s1.2 gM HGM (by omega))
      clear s2 hR1 z1
      obtain ⟨c0_, c1_⟩ := own_cell oW1 hLU hlt
      have f1_ := oW1.frozenAt i
      refine hK.out _ _ ?_ (fun hHeld => ?_)
      · exact HS _ s1.1 z2
      clear hK K
      try simp only [Act.put, pT]
      refine tY (i := 22) (v := ?_) rfl ?_ hHeld ?_
      rotate_left
      · (intro w hSw; (try dsimp only at hSw); go_simp; (try with_reducible rfl))
      try simp only [Act.put, pT]
      refine tY (i := 23) (v := ?_) rfl ?_ hHeld ?_
      rotate_left
      · (intro w hSw; (try dsimp only at hSw); go_simp; (try with_reducible rfl))
      try simp only [Act.put, pT]
      refine tY (i := 24) (v := ?_) rfl ?_ hHeld ?_
      rotate_left
      · (intro w hSw; (try dsimp only at hSw); go_simp; (try with_reducible rfl))
      try simp only [Act.put, pT]
      refine tY (i := 25) (v := ?_) rfl ?_ hHeld ?_
      rotate_left
      · (intro w hSw; (try dsimp only at hSw); go_simp; (try with_reducible rfl))
      try simp only [Act.put, pT]
      refine wpAnyH_ready (rs := [26]) (by kernel_rfl) (by simp) ?_
      refine AllReadyH.cons rfl (fun K hK => ?_) AllReadyH.nil
      (try simp only [pT])
      rw [if_pos (by rfl)]
      go_simp
      have oW2 := own_put (y := y) oW1 hLU hlt
      have s2 := s1.1.setCell (p := ⟨gW, i, none⟩) (show gr ≤ gW by omega) (.int .i64 y)
      have hR3 : Rk (W1.setCell ⟨gW, i, none⟩ (.int .i64 y)) gr f lr mu wd ne p := (heap_setCell_other W1 ⟨gW, i, none⟩ gr (.int .i64 y) (by show gr ≠ gW; omega)).trans hR2
      have z3 := (heap_setCell_other W1 ⟨gW, i, none⟩ go (.int .i64 y) (by show go ≠ gW; omega)).trans z2
      have oM2 := own_keep oM1 (heap_setCell_other W1 ⟨gW, i, none⟩ gM (.int .i64 y) (by show gM ≠ gW; omega))
      clear f1_ c1_ z2 oW1 oM1 hR2 s1
      generalize W1.setCell ⟨gW, i, none⟩ (.int .i64 y) = W2 at *
      obtain ⟨c0_, c1_⟩ := own_cell oM2 hLV hlt
      have f1_ := oM2.frozenAt i
      refine hK.out _ _ ?_ (fun hHeld => ?_)
      · exact HS _ s2 z3
      clear hK K
      try simp only [Act.put, pT]
      refine tY (i := 27) (v := ?_) rfl ?_ hHeld ?_
      rotate_left
      · (intro w hSw; (try dsimp only at hSw); go_simp; (try with_reducible rfl))
      try simp only [Act.put, pT]
      refine wpAnyH_ready (rs := [28]) (by kernel_rfl) (by simp) ?_
      refine AllReadyH.cons rfl (fun K hK => ?_) AllReadyH.nil
      (try simp only [pT])
      rw [if_pos (by rfl)]
      go_simp
      have oM3 := own_put (y := v) oM2 hLV hlt
      have s3 := s2.setCell (p := ⟨gM, i, none⟩) (show gr ≤ gM by omega) (.int .i64 v)
      have hR4 : Rk (W2.setCell ⟨gM, i, none⟩ (.int .i64 v)) gr f lr mu wd ne p := (heap_setCell_other W2 ⟨gM, i, none⟩ gr (.int .i64 v) (by show gr ≠ gM; omega)).trans hR3
      have z4 := (heap_setCell_other W2 ⟨gM, i, none⟩ go (.int .i64 v) (by show go ≠ gM; omega)).trans z3
      have oW3 := own_keep oW2 (heap_setCell_other W2 ⟨gM, i, none⟩ gW (.int .i64 v) (by show gW ≠ gM; omega))
      clear f1_ c1_ z3 oW2 oM2 hR3 s2
      generalize W2.setCell ⟨gM, i, none⟩ (.int .i64 v) = W3 at *
      refine hK.out _ _ ?_ (fun hHeld => ?_)
      · exact HS _ s3 z4
      clear hK K
      try simp only [Act.put, pT]
      refine wpAnyH_done (by kernel_rfl) ?_ _
      clear hHeld
      obtain ⟨r0, r1, -⟩ := hR4.cells
      clear HS
      have zbr5 := (s3.block _ (show w.heap.size + 1 < gr by omega)).trans zbr
      have zg5 := (s3.block _ (show w.heap.size + 1 + 1 < gr by omega)).trans zg
      have cc5 := cc.trans (s3.mono (show w.heap.size ≤ gr by omega))
      have bl5 := bl.trans s3
      clear ew em eg xa0 xa1 xa2 xa3 cc bl zg zbr hR zgo oW oM CSj CSd s3
      cases p
      · have hok : ok = false := by
          cases ok
          · rfl
          · exact absurd (hOKi rfl) (by simp)
        subst hok
        obtain rfl : [] = aW := by have h := HAW.out; rw [if_neg (by simp)] at h; exact h
        obtain rfl : [] = aV := by have h := HAV.out; rw [if_neg (by simp)] at h; exact h
        obtain rfl : (2 : Int) = aC := by have h := HAC.out; rw [if_neg (by simp)] at h; exact h
        rw [show ec false = 2 from rfl] at r1
        clear zbr5 bl5 z4 oW3 oM3 hjn hOKi
        go_upto_region 12 with fail
        have bD : Below W3.heap.size W3 W3.drew := below_drewN (Below.refl _ W3) 1
        replace r1 := (bD.cell (p := ⟨gr, 1, none⟩) hR4.lt).trans r1
        replace zg5 := (bD.block _ (lt zg5)).trans zg5
        replace cc5 := bK cc5 bD
        clear bD hR4 r0
        obtain ⟨g0, g1, g2, g3⟩ := cells4 zg5
        have f0 := fro_of 0 zg5
        have f1 := fro_of 1 zg5
        have f2 := fro_of 2 zg5
        have f3 := fro_of 3 zg5
        have HBF := Lib.hid (below_put4 cc5 (show w.heap.size ≤ w.heap.size + 1 + 1 by omega) (.slice none 0 0) (.slice none 0 0) (.slice none 0 0) (.slice none 0 0))
        have hq : ∀ a b c d : Value, (((((W3.drew).setCell ⟨w.heap.size + 1 + 1, 0, none⟩ a).setCell ⟨w.heap.size + 1 + 1, 1, none⟩ b).setCell ⟨w.heap.size + 1 + 1, 2, none⟩ c).setCell ⟨w.heap.size + 1 + 1, 3, none⟩ d).cell? ⟨gr, 1, none⟩ = some (.int .i64 2) := fun a b c d => by
          have hne : ∀ k, (⟨w.heap.size + 1 + 1, k, none⟩ : Addr) ≠ ⟨gr, 1, none⟩ := fun k e => by injection e with e1; omega
          rw [World.cell?_setCell_other (h := hne 3), World.cell?_setCell_other (h := hne 2), World.cell?_setCell_other (h := hne 1), World.cell?_setCell_other (h := hne 0)]; exact r1
        clear cc5 zg5
        refine wp_region_held_drew (S := fun w' => w'.cell? ⟨gr, 1, none⟩ = some (.int .i64 2)) (by kernel_rfl) ?_ (fun hHeld => ?_)
        · exact r1
        generalize W3.drew = W4 at *
        refine tY (i := 0) (v := ?_) rfl ?_ hHeld ?_
        rotate_left
        · (intro w hSw; (try dsimp only at hSw); go_simp; (try with_reducible rfl))
        try simp only [Act.put, pT]
        refine tY (i := 1) (v := ?_) rfl ?_ hHeld ?_
        rotate_left
        · (intro w hSw; (try dsimp only at hSw); go_simp; (try with_reducible rfl))
        try simp only [Act.put, pT]
        refine tY (i := 2) (v := ?_) rfl ?_ hHeld ?_
        rotate_left
        · (intro w hSw; (try dsimp only at hSw); go_simp; (try with_reducible rfl))
        try simp only [Act.put, pT]
        refine tY (i := 3) (v := ?_) rfl ?_ hHeld ?_
        rotate_left
        · (intro w hSw; (try dsimp only at hSw); go_simp; (try with_reducible rfl))
        try simp only [Act.put, pT]
        refine wpAnyH_ready (rs := [4]) (by kernel_rfl) (by simp) ?_
        refine AllReadyH.cons rfl (fun K hK => ?_) AllReadyH.nil
        (try simp only [pT])
        rw [if_pos (by rfl)]
        go_simp
        refine hK.out _ _ ?_ (fun hHeld => ?_)
        · exact hq _ _ _ _
        clear hK K
        try simp only [Act.put, pT]
        refine tY (i := 5) (v := ?_) rfl ?_ hHeld ?_
        rotate_left
        · (intro w hSw; (try dsimp only at hSw); go_simp; (try with_reducible rfl))
        try simp only [Act.put, pT]
        refine wpAnyH_done (by kernel_rfl) ?_ _
        clear hHeld
        go_wp2_with fail
        refine bodyPost_ret (v := .tuple #[.agg #[.slice none 0 0, .slice none 0 0, .slice none 0 0, .slice none 0 0], .int .i64 2]) (by simp [results, Try.results10, go_sem, g0, g1, g2, g3]) rfl ⟨none, 0, 0, none, 0, 0, rfl, IR.nil _ _ _, IR.nil _ _ _, HBF.out, fun _ e => (by cases e), fun _ e => (by cases e)⟩
      · have k4_ : IntKind.i64.wrap ((i : Int) + 1) = ((i + 1 : Nat) : Int) := by have := HKN.out; rw [IntWalk.i64_in _ (by omega)]; omega
        rw [show ec true = 0 from rfl] at r1
        rw [← hUWi] at oW3
        rw [← hUVi] at oM3
        have QW := Lib.hid oW3
        have QM := Lib.hid oM3
        have QR := Lib.hid hR4
        have QZ := Lib.hid z4
        have QB := Lib.hid bl5
        have QJ := Lib.hid (hjn rfl)
        clear oW3 oM3 hR4 z4 bl5 hjn hOKi zbr5 zg5 cc5 hUWi hUVi
        go_wp2_with fail
        go_roundw
        case rel => exact ⟨i + 1, by omega, by go_num, QR.out, QZ.out, QW.out, QM.out, QB.out, QJ.out⟩
        case measure => simp [intOf] <;> omega
    · obtain rfl : i = n := by omega
      have hok : ok = true := HOK.out.2 (fun j h => ⟨hj j h, HWV.out j (hj j h)⟩)
      subst hok
      have eW : UW i = aW := by have h := HAW.out; rw [if_pos rfl] at h; exact h
      have eV : UV i = aV := by have h := HAV.out; rw [if_pos rfl] at h; exact h
      obtain rfl : (0 : Int) = aC := by have h := HAC.out; rw [if_pos rfl] at h; exact h
      rw [pad_full (HLU.out i), eW] at oW
      rw [pad_full (HLV.out i), eV] at oM
      obtain ⟨o0, o1, o2, o3⟩ := cells4 zgo
      obtain ⟨g0, g1, g2, g3⟩ := cells4 zg
      have f0 := fro_of 0 zg
      have f1 := fro_of 1 zg
      have f2 := fro_of 2 zg
      have f3 := fro_of 3 zg
      have jl : ¬ ((i : Int) < (i : Int)) := by omega
      have HF := Lib.hid (Own17.got (k := 0) (t := gr + 1) (go := go) ⟨zgo, oW, oM, fun a e1 e2 => by have h1 : gW = a := (by injection e1); have h2 : gM = a := (by injection e2); exact d4 (h2.trans h1.symm)⟩ cc (show w.heap.size ≤ w.heap.size + 1 + 1 by omega) (show w.heap.size + 1 + 1 < gr + 1 by omega) (.slice (some ⟨gW, 0, none⟩) i i) (.slice (some ⟨gM, 0, none⟩) i i) (.slice none 0 0) (.slice none 0 0) rfl)
      clear zgo oW oM hj bl zbr zg cc hR xa0 xa1 xa2 xa3
      go_wp2_with fail
      refine bodyPost_ret (v := .tuple #[.agg #[.slice (some ⟨gW, 0, none⟩) i i, .slice (some ⟨gM, 0, none⟩) i i, .slice none 0 0, .slice none 0 0], .int .i64 0]) (by simp [results, Try.results10, go_sem, g0, g1, g2, g3]) rfl HF.out

theorem mStep_N {w : World} {lr mu wd f : Int} {ne : Bool} {Aw : Option Addr} {nw cw : Nat} {Am : Option Addr} {nm cm : Nat} {Av : Option Addr} {nv cv : Nat} {Ag : Option Addr} {ng cg : Nat} {LW LM LG : List Int} (hl : I64 lr) (hm : I64 mu) (hd : I64 wd) (hf : I64 f) (hW : IR w Aw nw cw LW) (hM : IR w Am nm cm LM) (hG : IR w Ag ng cg LG) (iW : ∀ z ∈ LW, I64 z) (iM : ∀ z ∈ LM, I64 z) (iG : ∀ z ∈ LG, I64 z) (kw : nw ≤ 100) (km : nm ≤ 100) (kg : ng ≤ 100) :
    Calls Try.prog 10 #[.agg #[.int .i64 lr, .int .i64 mu, .int .i64 wd, .bool ne], .int .i64 f, .agg #[.slice Aw nw cw, .slice Am nm cm, .slice Av nv cv, .slice Ag ng cg]] w
      (GotS17 w (stRW17 lr mu wd f ne LW LM LG) (stRV17 lr mu wd f ne LW LM LG) (stC17 lr mu wd f ne LW LM LG)) := by
  have e1 := hW.1
  have e2 := hM.1
  have e3 := hG.1
  have fin : ∀ {k : Int}, stC17 lr mu wd f ne LW LM LG = k → k ≠ 0 → Calls Try.prog 10 #[.agg #[.int .i64 lr, .int .i64 mu, .int .i64 wd, .bool ne], .int .i64 f, .agg #[.slice Aw nw cw, .slice Am nm cm, .slice Av nv cv, .slice Ag ng cg]] w (GotS17 w [] [] k) → Calls Try.prog 10 #[.agg #[.int .i64 lr, .int .i64 mu, .int .i64 wd, .bool ne], .int .i64 f, .agg #[.slice Aw nw cw, .slice Am nm cm, .slice Av nv cv, .slice Ag ng cg]] w (GotS17 w (stRW17 lr mu wd f ne LW LM LG) (stRV17 lr mu wd f ne LW LM LG) (stC17 lr mu wd f ne LW LM LG)) := fun hk hn h => by
    unfold stRW17 stRV17
    rw [hk, if_neg hn, if_neg hn]; exact h
  by_cases hK : OkM17 lr mu wd f
  rotate_left
  · exact fin (k := 1) (by unfold stC17; rw [if_neg hK]) (by omega) ((kStep_k hK).mono fun e w' h => gotS17_nil h)
  by_cases q : nm = nw
  rotate_left
  · exact fin (k := 5) (by unfold stC17; rw [if_pos hK, if_neg (fun h => q (by rw [e1, e2]; exact h.1))]) (by omega) ((kStep_m hK q).mono fun e w' h => gotS17_nil h)
  by_cases q2 : ng = nw
  rotate_left
  · exact fin (k := 5) (by unfold stC17; rw [if_pos hK, if_neg (fun h => q2 (by rw [e1, e3]; exact h.2))]) (by omega) ((kStep_g hK q q2).mono fun e w' h => gotS17_nil h)
  have hs : LM.length = LW.length ∧ LG.length = LW.length := ⟨by omega, by omega⟩
  subst q
  subst q2
  have h := kStep_loop (ne := ne) (Av := Av) (nv := nv) (cv := cv) hK hl hm hd hW hM hG iW iM iG (by omega)
  by_cases ho : rowOK lr mu wd ne f.toNat LW LM LG = true
  · have hk : stC17 lr mu wd f ne LW LM LG = 0 := by unfold stC17; rw [if_pos hK, if_pos hs, if_pos ho]
    simp only [if_pos ho] at h
    unfold stRW17 stRV17
    rw [hk, if_pos rfl, if_pos rfl]; exact h
  · simp only [if_neg ho] at h
    exact fin (k := 2) (by unfold stC17; rw [if_pos hK, if_pos hs, if_neg ho]) (by omega) h

theorem mRight_N (w : World) {lr mu wd f : Int} {ne : Bool} (hl : I64 lr) (hm : I64 mu) (hd : I64 wd) (hf : I64 f) : Calls Try.prog 12 #[.agg #[.int .i64 lr, .int .i64 mu, .int .i64 wd, .bool ne], .int .i64 f] w (GotV w (.bool (decide (OkM17 lr mu wd f)))) := kRight_N

end Go.Proofs.Ytckdbcngnghhiaa

/-
  What the laws of mom lean on: alive.
-/
namespace Go.Proofs.Ytckdbcngnghhiaa
set_option maxRecDepth 100000
open Go.RowKit
set_option linter.unusedVariables false
set_option linter.unusedSimpArgs false

theorem rn_one17 (x : Int) : rn x 1 = x := by
  have h := rn_self x (d := 1) (by omega)
  rwa [show x * ((1 : Nat) : Int) = x from Int.mul_one x] at h
theorem ir_one17 {w : World} {g : Nat} {x : Int} (hx : w.cell? ⟨g, 0, none⟩ = some (.int .i64 x)) : IR w (some ⟨g, 0, none⟩) 1 1 [x] := by
  refine ⟨rfl, Nat.le_refl _, fun _ => ⟨g, 0, rfl, cell_lt hx, fun i hi => ?_⟩⟩
  obtain rfl : i = 0 := by omega
  exact hx
theorem ir_two17 {w : World} {g : Nat} {x y : Int} (hx : w.cell? ⟨g, 0, none⟩ = some (.int .i64 x)) (hy : w.cell? ⟨g, 1, none⟩ = some (.int .i64 y)) : IR w (some ⟨g, 0, none⟩) 2 2 [x, y] := by
  refine ⟨rfl, Nat.le_refl _, fun _ => ⟨g, 0, rfl, cell_lt hx, fun i hi => ?_⟩⟩
  match i, hi with
  | 0, _ => exact hx
  | 1, _ => exact hy
/-- Two rows are answered, with a code. -/
def GotT17 (w : World) (LW LM : List Int) (k : Int) (e : Ending) (w' : World) : Prop :=
  ∃ A n c B m d, e = .returned (.tuple #[.agg #[.slice A n c, .slice B m d, .slice none 0 0, .slice none 0 0], .int .i64 k]) ∧ IR w' A n c LW ∧ IR w' B m d LM ∧ Below w.heap.size w w'
theorem GotS17.weak {w : World} {LW LM : List Int} {k : Int} {e : Ending} {w' : World} (h : GotS17 w LW LM k e w') : GotT17 w LW LM k e w' := by
  obtain ⟨A, n, c, B, m, d, h1, h2, h3, h4, _⟩ := h
  exact ⟨A, n, c, B, m, d, h1, h2, h3, h4⟩
theorem nMul0 (a b : Nm) : nMul 0 a b = (nI (a.1 * b.1), a.2 && b.2 && decide (I64 (a.1 * b.1))) := by
  unfold nMul
  rw [show 2 ^ 0 = 1 from rfl, rn_one17]
theorem first17 : stC17 1 0 0 0 false [5, 0] [7, 7] [2, -1] = 0 ∧ stRW17 1 0 0 0 false [5, 0] [7, 7] [2, -1] = [3, 1] ∧ stRV17 1 0 0 0 false [5, 0] [7, 7] [2, -1] = [2, -1] := by
  have e1 : rowOK 1 0 0 false 0 [5, 0] [7, 7] [2, -1] = true := by simp only [rowOK, stW, stU, stV, stD, nMul0, nOf]; decide
  have e2 : rowW 1 0 0 false 0 [5, 0] [7, 7] [2, -1] = [3, 1] := by simp only [rowW, stW, stU, stV, stD, nMul0, nOf]; decide
  have e3 : rowV 0 0 0 [5, 0] [7, 7] [2, -1] = [2, -1] := by simp only [rowV, stV, stD, nMul0, nOf]; decide
  have e0 : stC17 1 0 0 0 false [5, 0] [7, 7] [2, -1] = 0 := by unfold stC17; rw [if_pos (by decide), if_pos (by decide), show (0 : Int).toNat = 0 from rfl, if_pos e1]
  refine ⟨e0, ?_, ?_⟩
  · unfold stRW17; rw [if_pos e0]; exact e2
  · unfold stRV17; rw [if_pos e0]; exact e3
theorem second17 : stC17 1 0 0 0 false [5] [] [] = 5 ∧ stRW17 1 0 0 0 false [5] [] [] = [] ∧ stRV17 1 0 0 0 false [5] [] [] = [] := by
  have e0 : stC17 1 0 0 0 false [5] [] [] = 5 := by unfold stC17; rw [if_pos (by decide), if_neg (by decide)]
  refine ⟨e0, ?_, ?_⟩
  · unfold stRW17; rw [e0]; rfl
  · unfold stRV17; rw [e0]; rfl
theorem third17 : stC17 0 1 0 0 false [] [] [] = 1 ∧ stRW17 0 1 0 0 false [] [] [] = [] ∧ stRV17 0 1 0 0 false [] [] [] = [] := by
  have e0 : stC17 0 1 0 0 false [] [] [] = 1 := by unfold stC17; rw [if_neg (by decide)]
  refine ⟨e0, ?_, ?_⟩
  · unfold stRW17; rw [e0]; rfl
  · unfold stRV17; rw [e0]; rfl
set_option maxRecDepth 100000 in
set_option maxHeartbeats 8000000 in
theorem alive17_any (w : World) : Calls Try.prog 9 #[] w (GotV w (.bool true)) := by
  have cc := Below.refl w.heap.size w
  go_enter Try.func9, Try.ntmps9
  go_wp2_with fail
  have bA : Below w.heap.size w ((((w.alloc (.cells #[.int .i64 1, .int .i64 0, .int .i64 0, .bool false] 23)).alloc (.cells #[.int .i64 5, .int .i64 0] 2)).alloc (.cells #[.int .i64 7, .int .i64 7] 2)).alloc (.cells #[.int .i64 2, .int .i64 (-1)] 2)) := ((((Below.refl _ w).alloc (by simp) _).alloc (by simp) _).alloc (by simp <;> omega) _).alloc (by simp <;> omega) _
  have hW : IR ((((w.alloc (.cells #[.int .i64 1, .int .i64 0, .int .i64 0, .bool false] 23)).alloc (.cells #[.int .i64 5, .int .i64 0] 2)).alloc (.cells #[.int .i64 7, .int .i64 7] 2)).alloc (.cells #[.int .i64 2, .int .i64 (-1)] 2)) (some ⟨w.heap.size + 1, 0, none⟩) 2 2 [5, 0] := ir_two17 (by simp [go_sem]) (by simp [go_sem])
  have hM : IR ((((w.alloc (.cells #[.int .i64 1, .int .i64 0, .int .i64 0, .bool false] 23)).alloc (.cells #[.int .i64 5, .int .i64 0] 2)).alloc (.cells #[.int .i64 7, .int .i64 7] 2)).alloc (.cells #[.int .i64 2, .int .i64 (-1)] 2)) (some ⟨w.heap.size + 1 + 1, 0, none⟩) 2 2 [7, 7] := ir_two17 (by simp [go_sem]) (by simp [go_sem])
  have hG : IR ((((w.alloc (.cells #[.int .i64 1, .int .i64 0, .int .i64 0, .bool false] 23)).alloc (.cells #[.int .i64 5, .int .i64 0] 2)).alloc (.cells #[.int .i64 7, .int .i64 7] 2)).alloc (.cells #[.int .i64 2, .int .i64 (-1)] 2)) (some ⟨w.heap.size + 1 + 1 + 1, 0, none⟩) 2 2 [2, -1] := ir_two17 (by simp [go_sem]) (by simp [go_sem])
  have ma0 : ((((w.alloc (.cells #[.int .i64 1, .int .i64 0, .int .i64 0, .bool false] 23)).alloc (.cells #[.int .i64 5, .int .i64 0] 2)).alloc (.cells #[.int .i64 7, .int .i64 7] 2)).alloc (.cells #[.int .i64 2, .int .i64 (-1)] 2)).cell? ⟨w.heap.size, 0, none⟩ = some (.int .i64 1) := by simp [go_sem]
  have ma1 : ((((w.alloc (.cells #[.int .i64 1, .int .i64 0, .int .i64 0, .bool false] 23)).alloc (.cells #[.int .i64 5, .int .i64 0] 2)).alloc (.cells #[.int .i64 7, .int .i64 7] 2)).alloc (.cells #[.int .i64 2, .int .i64 (-1)] 2)).cell? ⟨w.heap.size, 1, none⟩ = some (.int .i64 0) := by simp [go_sem]
  have ma2 : ((((w.alloc (.cells #[.int .i64 1, .int .i64 0, .int .i64 0, .bool false] 23)).alloc (.cells #[.int .i64 5, .int .i64 0] 2)).alloc (.cells #[.int .i64 7, .int .i64 7] 2)).alloc (.cells #[.int .i64 2, .int .i64 (-1)] 2)).cell? ⟨w.heap.size, 2, none⟩ = some (.int .i64 0) := by simp [go_sem]
  have ma3 : ((((w.alloc (.cells #[.int .i64 1, .int .i64 0, .int .i64 0, .bool false] 23)).alloc (.cells #[.int .i64 5, .int .i64 0] 2)).alloc (.cells #[.int .i64 7, .int .i64 7] 2)).alloc (.cells #[.int .i64 2, .int .i64 (-1)] 2)).cell? ⟨w.heap.size, 3, none⟩ = some (.bool false) := by simp [go_sem]
  have mal : w.heap.size < ((((w.alloc (.cells #[.int .i64 1, .int .i64 0, .int .i64 0, .bool false] 23)).alloc (.cells #[.int .i64 5, .int .i64 0] 2)).alloc (.cells #[.int .i64 7, .int .i64 7] 2)).alloc (.cells #[.int .i64 2, .int .i64 (-1)] 2)).heap.size := by simp <;> omega
  replace cc := cc.trans bA
  clear bA
  generalize (((w.alloc (.cells #[.int .i64 1, .int .i64 0, .int .i64 0, .bool false] 23)).alloc (.cells #[.int .i64 5, .int .i64 0] 2)).alloc (.cells #[.int .i64 7, .int .i64 7] 2)).alloc (.cells #[.int .i64 2, .int .i64 (-1)] 2) = v1 at *
  refine ((mStep_N (by unfold I64; omega) (by unfold I64; omega) (by unfold I64; omega) (by unfold I64; omega) hW hM hG (by decide) (by decide) (by decide) (by omega) (by omega) (by omega)).mono (fun _ _ h => h.weak)).mono ?_
  rw [first17.1, first17.2.1, first17.2.2]
  rintro e w2 ⟨Ap, np, cp, Bp, mp, dp, rfl, hxp, hyp, b⟩
  replace ma0 := cK b ma0 mal
  replace ma1 := cK b ma1 mal
  replace ma2 := cK b ma2 mal
  replace ma3 := cK b ma3 mal
  replace mal := lK b mal
  replace cc := bK cc b
  clear b hW hM hG
  go_upto_region 3 with fail
  have b := below_one w2 (.cells #[.slice Ap np cp, .slice Bp mp dp, .slice none 0 0, .slice none 0 0] 26)
  replace ma0 := cK b ma0 mal
  replace ma1 := cK b ma1 mal
  replace ma2 := cK b ma2 mal
  replace ma3 := cK b ma3 mal
  replace mal := lK b mal
  replace cc := bK cc b
  replace hxp := hxp.on b
  replace hyp := hyp.on b
  clear b
  have zx : (w2.alloc (.cells #[.slice Ap np cp, .slice Bp mp dp, .slice none 0 0, .slice none 0 0] 26)).heap[w2.heap.size]? = some (.cells #[.slice Ap np cp, .slice Bp mp dp, .slice none 0 0, .slice none 0 0] 26) := World.alloc_heap_new w2 _
  generalize w2.alloc (.cells #[.slice Ap np cp, .slice Bp mp dp, .slice none 0 0, .slice none 0 0] 26) = v3 at *
  have lt := fun {W : World} {b : Nat} {o : Obj} (h : W.heap[b]? = some o) => (Array.getElem?_eq_some_iff.1 h).1
  go_wp2_with fail
  have b := below_one v3 (.cells #[.int .i64 5] 2)
  have hW : IR (v3.alloc (.cells #[.int .i64 5] 2)) (some ⟨v3.heap.size, 0, none⟩) 1 1 [5] := ir_one17 (by simp [go_sem])
  replace ma0 := cK b ma0 mal
  replace ma1 := cK b ma1 mal
  replace ma2 := cK b ma2 mal
  replace ma3 := cK b ma3 mal
  replace mal := lK b mal
  replace cc := bK cc b
  replace hxp := hxp.on b
  replace hyp := hyp.on b
  replace zx := (b.block _ (lt zx)).trans zx
  clear b
  generalize v3.alloc (.cells #[.int .i64 5] 2) = v4 at *
  refine ((mStep_N (by unfold I64; omega) (by unfold I64; omega) (by unfold I64; omega) (by unfold I64; omega) hW (IR.nil _ none 0) (IR.nil _ none 0) (by decide) (by decide) (by decide) (by omega) (by omega) (by omega)).mono (fun _ _ h => h.weak)).mono ?_
  rw [second17.1, second17.2.1, second17.2.2]
  rintro e w5 ⟨Aq, nq, cq, Bq, mq, dq, rfl, hxq, hyq, b⟩
  replace ma0 := cK b ma0 mal
  replace ma1 := cK b ma1 mal
  replace ma2 := cK b ma2 mal
  replace ma3 := cK b ma3 mal
  replace mal := lK b mal
  replace cc := bK cc b
  replace hxp := hxp.on b
  replace hyp := hyp.on b
  replace zx := (b.block _ (lt zx)).trans zx
  clear b hW hxq hyq
  go_upto_region 4 with fail
  have b := below_one w5 (.cells #[.slice Aq nq cq, .slice Bq mq dq, .slice none 0 0, .slice none 0 0] 26)
  replace ma0 := cK b ma0 mal
  replace ma1 := cK b ma1 mal
  replace ma2 := cK b ma2 mal
  replace ma3 := cK b ma3 mal
  replace mal := lK b mal
  replace cc := bK cc b
  replace hxp := hxp.on b
  replace hyp := hyp.on b
  replace zx := (b.block _ (lt zx)).trans zx
  clear b
  generalize w5.alloc (.cells #[.slice Aq nq cq, .slice Bq mq dq, .slice none 0 0, .slice none 0 0] 26) = v6 at *
  go_wp2_with fail
  refine ((mStep_N (by unfold I64; omega) (by unfold I64; omega) (by unfold I64; omega) (by unfold I64; omega) (IR.nil _ none 0) (IR.nil _ none 0) (IR.nil _ none 0) (by decide) (by decide) (by decide) (by omega) (by omega) (by omega)).mono (fun _ _ h => h.weak)).mono ?_
  rw [third17.1, third17.2.1, third17.2.2]
  rintro e w7 ⟨As, ns, cs, Bs, ms, ds, rfl, hxs, hys, b⟩
  replace ma0 := cK b ma0 mal
  replace ma1 := cK b ma1 mal
  replace ma2 := cK b ma2 mal
  replace ma3 := cK b ma3 mal
  replace mal := lK b mal
  replace cc := bK cc b
  replace hxp := hxp.on b
  replace hyp := hyp.on b
  replace zx := (b.block _ (lt zx)).trans zx
  clear b hxs hys
  go_upto_region 5 with fail
  have b := below_one w7 (.cells #[.slice As ns cs, .slice Bs ms ds, .slice none 0 0, .slice none 0 0] 26)
  replace ma0 := cK b ma0 mal
  replace ma1 := cK b ma1 mal
  replace ma2 := cK b ma2 mal
  replace ma3 := cK b ma3 mal
  replace mal := lK b mal
  replace cc := bK cc b
  replace hxp := hxp.on b
  replace hyp := hyp.on b
  replace zx := (b.block _ (lt zx)).trans zx
  clear b
  generalize w7.alloc (.cells #[.slice As ns cs, .slice Bs ms ds, .slice none 0 0, .slice none 0 0] 26) = v8 at *
  obtain ⟨x0, x1, x2, x3⟩ := cells4 zx
  obtain rfl : np = 2 := hxp.1
  obtain rfl : mp = 2 := hyp.1
  obtain ⟨bx, ox, rfl, lx, fx⟩ := hxp.2.2 (by omega)
  obtain ⟨by_, oy, rfl, ly, fy⟩ := hyp.2.2 (by omega)
  have fx0 : v8.cell? ⟨bx, ox, none⟩ = some (.int .i64 3) := fx 0 (by omega)
  have fx1 : v8.cell? ⟨bx, ox + 1, none⟩ = some (.int .i64 1) := fx 1 (by omega)
  have fy0 : v8.cell? ⟨by_, oy, none⟩ = some (.int .i64 2) := fy 0 (by omega)
  have CR : ∀ W : World, Calls Try.prog 12 #[.agg #[.int .i64 1, .int .i64 0, .int .i64 0, .bool false], .int .i64 0] W (GotV W (.bool true)) := fun W => by have h := mRight_N W (lr := 1) (mu := 0) (wd := 0) (f := 0) (ne := false) (by unfold I64; omega) (by unfold I64; omega) (by unfold I64; omega) (by unfold I64; omega); rw [decide_eq_true (by decide)] at h; exact h
  clear fx fy hxp hyp zx
  go_wp2_with fail
  refine (CR _).mono ?_
  rintro e w9 ⟨rfl, b⟩
  replace cc := bK cc b
  clear b
  go_wp2_with fail
  go_ret
  exact ⟨rfl, cc⟩
end Go.Proofs.Ytckdbcngnghhiaa

/-
  The walk of MomTells.
-/
namespace Go.Proofs.Ytckdbcngnghhiaa
set_option maxRecDepth 100000
set_option maxHeartbeats 8000000
open Go.RowKit
set_option linter.unusedVariables false
set_option linter.unusedSimpArgs false

theorem len17 {lr mu wd f : Int} {ne : Bool} {LW LM LG : List Int} : (stRW17 lr mu wd f ne LW LM LG).length ≤ LW.length ∧ (stRV17 lr mu wd f ne LW LM LG).length ≤ LW.length := by
  have h1 : ∀ (W V G : List Int), (rowW lr mu wd ne f.toNat W V G).length ≤ W.length := by
    intro W
    induction W with
    | nil => intro V G; unfold rowW; simp
    | cons x W ih => intro V G; rcases V with _ | ⟨v, V⟩ <;> rcases G with _ | ⟨g, G⟩ <;> unfold rowW <;> simp; exact ih V G
  have h2 : ∀ (W V G : List Int), (rowV mu wd f.toNat W V G).length ≤ W.length := by
    intro W
    induction W with
    | nil => intro V G; unfold rowV; simp
    | cons x W ih => intro V G; rcases V with _ | ⟨v, V⟩ <;> rcases G with _ | ⟨g, G⟩ <;> unfold rowV <;> simp; exact ih V G
  constructor
  · unfold stRW17; split
    · exact h1 _ _ _
    · exact Nat.zero_le _
  · unfold stRV17; split
    · exact h2 _ _ _
    · exact Nat.zero_le _

theorem MomTells_many {w : World} {lr mu wd f : Int} {ne : Bool} {Aw : Option Addr} {nw cw : Nat} {Lw : List Int} {Am : Option Addr} {nm cm : Nat} {Lm : List Int} {Av : Option Addr} {nv cv : Nat} {Lv : List Int} {Ag : Option Addr} {ng cg : Nat} {Lg : List Int} (iL : I64 lr) (iU : I64 mu) (iD : I64 wd) (iF : I64 f) (hw : IR w Aw nw cw Lw) (hm : IR w Am nm cm Lm) (hv : IR w Av nv cv Lv) (hg : IR w Ag ng cg Lg) (ew : ∀ z ∈ Lw, I64 z) (em : ∀ z ∈ Lm, I64 z) (ev : ∀ z ∈ Lv, I64 z) (eg : ∀ z ∈ Lg, I64 z) (kw : nw ≤ 2305843009213693951) (km : nm ≤ 2305843009213693951) (kv : nv ≤ 2305843009213693951) (kg : ng ≤ 2305843009213693951) (hf : ¬ ((nw + nm + nv + ng : Nat) : Int) ≤ 36) :
    Calls Try.prog 3 #[.agg #[.int .i64 lr, .int .i64 mu, .int .i64 wd, .bool ne], .agg #[.slice Aw nw cw, .slice Am nm cm, .slice Av nv cv, .slice Ag ng cg], .int .i64 f] w (GotV w (.bool true)) := by
  have CF := fun W : World => nFew17_N (w := W) (Aw := Aw) (cw := cw) (Am := Am) (cm := cm) (Av := Av) (cv := cv) (Ag := Ag) (cg := cg) (most := 36) kw km kv kg
  rw [decide_eq_false hf] at CF
  clear iL iU iD iF hw ew kw hm em km hv ev kv hg eg kg hf
  have cc := Below.refl w.heap.size w
  go_enter Try.func3, Try.ntmps3
  go_wp2_with fail
  generalize hv_ : (w.alloc (.cells #[.int .i64 lr, .int .i64 mu, .int .i64 wd, .bool ne] 23)).alloc (.cells #[.slice Aw nw cw, .slice Am nm cm, .slice Av nv cv, .slice Ag ng cg] 26) = v1
  have bA : Below w.heap.size w v1 := by rw [← hv_]; exact (((Below.refl _ w).alloc (by simp) _).alloc (by simp) _)
  replace cc := bK cc bA
  clear bA
  have ma0 : v1.cell? ⟨w.heap.size, 0, none⟩ = some (.int .i64 lr) := by simp [← hv_, go_sem]
  have ma1 : v1.cell? ⟨w.heap.size, 1, none⟩ = some (.int .i64 mu) := by simp [← hv_, go_sem]
  have ma2 : v1.cell? ⟨w.heap.size, 2, none⟩ = some (.int .i64 wd) := by simp [← hv_, go_sem]
  have ma3 : v1.cell? ⟨w.heap.size, 3, none⟩ = some (.bool ne) := by simp [← hv_, go_sem]
  have mal : w.heap.size < v1.heap.size := by simp [← hv_] <;> omega
  have la0 : v1.cell? ⟨w.heap.size + 1, 0, none⟩ = some (.slice Aw nw cw) := by simp [← hv_, go_sem]
  have la1 : v1.cell? ⟨w.heap.size + 1, 1, none⟩ = some (.slice Am nm cm) := by simp [← hv_, go_sem]
  have la2 : v1.cell? ⟨w.heap.size + 1, 2, none⟩ = some (.slice Av nv cv) := by simp [← hv_, go_sem]
  have la3 : v1.cell? ⟨w.heap.size + 1, 3, none⟩ = some (.slice Ag ng cg) := by simp [← hv_, go_sem]
  have lal : w.heap.size + 1 < v1.heap.size := by simp [← hv_] <;> omega
  clear hv_
  refine (CF _).mono ?_
  rintro e w2 ⟨rfl, b⟩
  rewrite [cR b mal] at ma0 ma1 ma2 ma3
  replace mal := lK b mal
  rewrite [cR b lal] at la0 la1 la2 la3
  replace lal := lK b lal
  replace cc := bK cc b
  clear b
  go_wp2_with fail
  refine (alive17_any _).mono ?_
  rintro e w3 ⟨rfl, b⟩
  rewrite [cR b mal] at ma0 ma1 ma2 ma3
  replace mal := lK b mal
  rewrite [cR b lal] at la0 la1 la2 la3
  replace lal := lK b lal
  replace cc := bK cc b
  clear b
  go_wp2_with fail
  go_ret
  exact ⟨rfl, cc⟩

theorem MomTells_main {w : World} {lr mu wd f : Int} {ne : Bool} {Aw : Option Addr} {nw cw : Nat} {Lw : List Int} {Am : Option Addr} {nm cm : Nat} {Lm : List Int} {Av : Option Addr} {nv cv : Nat} {Lv : List Int} {Ag : Option Addr} {ng cg : Nat} {Lg : List Int} (iL : I64 lr) (iU : I64 mu) (iD : I64 wd) (iF : I64 f) (hw : IR w Aw nw cw Lw) (hm : IR w Am nm cm Lm) (hv : IR w Av nv cv Lv) (hg : IR w Ag ng cg Lg) (ew : ∀ z ∈ Lw, I64 z) (em : ∀ z ∈ Lm, I64 z) (ev : ∀ z ∈ Lv, I64 z) (eg : ∀ z ∈ Lg, I64 z) (kw : nw ≤ 2305843009213693951) (km : nm ≤ 2305843009213693951) (kv : nv ≤ 2305843009213693951) (kg : ng ≤ 2305843009213693951) (hf : ((nw + nm + nv + ng : Nat) : Int) ≤ 36) :
    Calls Try.prog 3 #[.agg #[.int .i64 lr, .int .i64 mu, .int .i64 wd, .bool ne], .agg #[.slice Aw nw cw, .slice Am nm cm, .slice Av nv cv, .slice Ag ng cg], .int .i64 f] w (GotV w (.bool true)) := by
  have CF := fun W : World => nFew17_N (w := W) (Aw := Aw) (cw := cw) (Am := Am) (cm := cm) (Av := Av) (cv := cv) (Ag := Ag) (cg := cg) (most := 36) kw km kv kg
  rw [decide_eq_true hf] at CF
  have CS := fun {W : World} {Aw : Option Addr} {cw : Nat} {Am : Option Addr} {cm : Nat} {Av : Option Addr} {nv cv : Nat} {Ag : Option Addr} {cg : Nat} (a : IR W Aw nw cw Lw) (b : IR W Am nm cm Lm) (c : IR W Ag ng cg Lg) => (mStep_N (ne := ne) (Av := Av) (nv := nv) (cv := cv) iL iU iD iF a b c ew em eg (by omega) (by omega) (by omega)).mono (fun e w h => h.weak)
  have CT := fun {W : World} {Aw : Option Addr} {cw : Nat} {Am : Option Addr} {cm : Nat} {Av : Option Addr} {nv cv : Nat} {Ag : Option Addr} {cg : Nat} (a : IR W Aw nw cw Lw) (b : IR W Am nm cm Lm) (c : IR W Ag ng cg Lg) => (nStep17_N (ne := ne) (Av := Av) (nv := nv) (cv := cv) (f := f) iL iU iD a b c ew em eg (by omega)).mono (fun e w h => h.weak)
  have CR := fun W : World => mRight_N W (ne := ne) iL iU iD iF
  have CQ := fun W : World => nRight17_N (w := W) (lr := lr) (mu := mu) (wd := wd) (f := f) (ne := ne)
  generalize decide (OkM17 lr mu wd f) = r at *
  have hlw := len17 (lr := lr) (mu := mu) (wd := wd) (f := f) (ne := ne) (LW := Lw) (LM := Lm) (LG := Lg)
  generalize stRW17 lr mu wd f ne Lw Lm Lg = XW at *
  generalize stRV17 lr mu wd f ne Lw Lm Lg = XV at *
  generalize stC17 lr mu wd f ne Lw Lm Lg = XC at *
  have HL : Hid (XW.length ≤ 36 ∧ XV.length ≤ 36) := Lib.hid (by have := hw.1; omega)
  have he : (XC == XC) = true := by simp
  have hr : (r == r) = true := by simp
  have CM : ∀ {W : World} {A B C D : Option Addr} {a b c d e k g h : Nat}, IR W A a b XW → IR W B c d XV → IR W C e k XW → IR W D g h XV → Calls Try.prog 14 #[.agg #[.slice A a b, .slice B c d, .slice none 0 0, .slice none 0 0], .agg #[.slice C e k, .slice D g h, .slice none 0 0, .slice none 0 0]] W (GotV W (.bool true)) := fun p q s t => by have h := nSame17_N p q (IR.nil _ none 0) (IR.nil _ none 0) s t (IR.nil _ none 0) (IR.nil _ none 0) (by rw [p.1]; have := HL.out; omega) (by rw [q.1]; have := HL.out; omega) (by omega) (by omega); rw [decide_eq_true ⟨rfl, rfl, rfl, rfl⟩] at h; exact h
  clear iL iU iD iF ew em ev eg kw km kv kg hf hlw hv
  have cc := Below.refl w.heap.size w
  go_enter Try.func3, Try.ntmps3
  go_wp2_with fail
  generalize hv_ : (w.alloc (.cells #[.int .i64 lr, .int .i64 mu, .int .i64 wd, .bool ne] 23)).alloc (.cells #[.slice Aw nw cw, .slice Am nm cm, .slice Av nv cv, .slice Ag ng cg] 26) = v1
  have bA : Below w.heap.size w v1 := by rw [← hv_]; exact (((Below.refl _ w).alloc (by simp) _).alloc (by simp) _)
  replace hw := hw.on bA
  replace hm := hm.on bA
  replace hg := hg.on bA
  replace cc := bK cc bA
  clear bA
  have ma0 : v1.cell? ⟨w.heap.size, 0, none⟩ = some (.int .i64 lr) := by simp [← hv_, go_sem]
  have ma1 : v1.cell? ⟨w.heap.size, 1, none⟩ = some (.int .i64 mu) := by simp [← hv_, go_sem]
  have ma2 : v1.cell? ⟨w.heap.size, 2, none⟩ = some (.int .i64 wd) := by simp [← hv_, go_sem]
  have ma3 : v1.cell? ⟨w.heap.size, 3, none⟩ = some (.bool ne) := by simp [← hv_, go_sem]
  have mal : w.heap.size < v1.heap.size := by simp [← hv_] <;> omega
  have la0 : v1.cell? ⟨w.heap.size + 1, 0, none⟩ = some (.slice Aw nw cw) := by simp [← hv_, go_sem]
  have la1 : v1.cell? ⟨w.heap.size + 1, 1, none⟩ = some (.slice Am nm cm) := by simp [← hv_, go_sem]
  have la2 : v1.cell? ⟨w.heap.size + 1, 2, none⟩ = some (.slice Av nv cv) := by simp [← hv_, go_sem]
  have la3 : v1.cell? ⟨w.heap.size + 1, 3, none⟩ = some (.slice Ag ng cg) := by simp [← hv_, go_sem]
  have lal : w.heap.size + 1 < v1.heap.size := by simp [← hv_] <;> omega
  clear hv_
  refine (CF _).mono ?_
  rintro e w2 ⟨rfl, b⟩
  replace hw := hw.on b
  replace hm := hm.on b
  replace hg := hg.on b
  rewrite [cR b mal] at ma0 ma1 ma2 ma3
  replace mal := lK b mal
  rewrite [cR b lal] at la0 la1 la2 la3
  replace lal := lK b lal
  replace cc := bK cc b
  clear b
  go_wp2_with fail
  refine (CS hw hm hg).mono ?_
  rintro e w3 ⟨Ap, np, cp, Bp, mp, dp, rfl, hxp, hyp, b⟩
  replace hw := hw.on b
  replace hm := hm.on b
  replace hg := hg.on b
  rewrite [cR b mal] at ma0 ma1 ma2 ma3
  replace mal := lK b mal
  rewrite [cR b lal] at la0 la1 la2 la3
  replace lal := lK b lal
  replace cc := bK cc b
  clear b
  go_upto_region 4 with fail
  have xsqma : w.heap.size < w3.heap.size := mal
  have xsqla : w.heap.size + 1 < w3.heap.size := lal
  generalize hv_ : w3.alloc (.cells #[.slice Ap np cp, .slice Bp mp dp, .slice none 0 0, .slice none 0 0] 26) = v4
  have bA : Below w3.heap.size w3 v4 := by rw [← hv_]; exact below_one _ _
  replace hw := hw.on bA
  replace hm := hm.on bA
  replace hg := hg.on bA
  replace hxp := hxp.on bA
  replace hyp := hyp.on bA
  rewrite [cR bA mal] at ma0 ma1 ma2 ma3
  replace mal := lK bA mal
  rewrite [cR bA lal] at la0 la1 la2 la3
  replace lal := lK bA lal
  replace cc := bK cc bA
  clear bA
  have xs0 : v4.cell? ⟨w3.heap.size, 0, none⟩ = some (.slice Ap np cp) := by simp [← hv_, go_sem]
  have xs1 : v4.cell? ⟨w3.heap.size, 1, none⟩ = some (.slice Bp mp dp) := by simp [← hv_, go_sem]
  have xs2 : v4.cell? ⟨w3.heap.size, 2, none⟩ = some (.slice none 0 0) := by simp [← hv_, go_sem]
  have xs3 : v4.cell? ⟨w3.heap.size, 3, none⟩ = some (.slice none 0 0) := by simp [← hv_, go_sem]
  have xsl : w3.heap.size < v4.heap.size := by simp [← hv_]
  clear hv_
  go_wp2_with fail
  refine (CT hw hm hg).mono ?_
  rintro e w5 ⟨Aq, nq, cq, Bq, mq, dq, rfl, hxq, hyq, b⟩
  replace hw := hw.on b
  replace hm := hm.on b
  replace hg := hg.on b
  replace hxp := hxp.on b
  replace hyp := hyp.on b
  rewrite [cR b mal] at ma0 ma1 ma2 ma3
  replace mal := lK b mal
  rewrite [cR b lal] at la0 la1 la2 la3
  replace lal := lK b lal
  rewrite [cR b xsl] at xs0 xs1 xs2 xs3
  replace xsl := lK b xsl
  replace cc := bK cc b
  clear b
  clear hw hm hg
  go_upto_region 5 with fail
  have ysqma : w.heap.size < w5.heap.size := mal
  have ysqla : w.heap.size + 1 < w5.heap.size := lal
  have ysqxs : w3.heap.size < w5.heap.size := xsl
  generalize hv_ : w5.alloc (.cells #[.slice Aq nq cq, .slice Bq mq dq, .slice none 0 0, .slice none 0 0] 26) = v6
  have bA : Below w5.heap.size w5 v6 := by rw [← hv_]; exact below_one _ _
  replace hxp := hxp.on bA
  replace hyp := hyp.on bA
  replace hxq := hxq.on bA
  replace hyq := hyq.on bA
  rewrite [cR bA mal] at ma0 ma1 ma2 ma3
  replace mal := lK bA mal
  rewrite [cR bA lal] at la0 la1 la2 la3
  replace lal := lK bA lal
  rewrite [cR bA xsl] at xs0 xs1 xs2 xs3
  replace xsl := lK bA xsl
  replace cc := bK cc bA
  clear bA
  have ys0 : v6.cell? ⟨w5.heap.size, 0, none⟩ = some (.slice Aq nq cq) := by simp [← hv_, go_sem]
  have ys1 : v6.cell? ⟨w5.heap.size, 1, none⟩ = some (.slice Bq mq dq) := by simp [← hv_, go_sem]
  have ys2 : v6.cell? ⟨w5.heap.size, 2, none⟩ = some (.slice none 0 0) := by simp [← hv_, go_sem]
  have ys3 : v6.cell? ⟨w5.heap.size, 3, none⟩ = some (.slice none 0 0) := by simp [← hv_, go_sem]
  have ysl : w5.heap.size < v6.heap.size := by simp [← hv_]
  clear hv_
  go_wp2_with fail
  have bD : Below v6.heap.size v6 v6.drew := below_drewN (Below.refl _ v6) 1
  replace hxp := hxp.on bD
  replace hyp := hyp.on bD
  replace hxq := hxq.on bD
  replace hyq := hyq.on bD
  rewrite [cR bD mal] at ma0 ma1 ma2 ma3
  replace mal := lK bD mal
  rewrite [cR bD lal] at la0 la1 la2 la3
  replace lal := lK bD lal
  rewrite [cR bD xsl] at xs0 xs1 xs2 xs3
  replace xsl := lK bD xsl
  rewrite [cR bD ysl] at ys0 ys1 ys2 ys3
  replace ysl := lK bD ysl
  replace cc := bK cc bD
  clear bD
  refine wp_region_held_drew (S := fun w' => w'.cell? ⟨w.heap.size, 0, none⟩ = some (.int .i64 lr) ∧ w'.cell? ⟨w.heap.size, 1, none⟩ = some (.int .i64 mu) ∧ w'.cell? ⟨w.heap.size, 2, none⟩ = some (.int .i64 wd) ∧ w'.cell? ⟨w.heap.size, 3, none⟩ = some (.bool ne) ∧ w'.cell? ⟨w.heap.size + 1, 0, none⟩ = some (.slice Aw nw cw) ∧ w'.cell? ⟨w.heap.size + 1, 1, none⟩ = some (.slice Am nm cm) ∧ w'.cell? ⟨w.heap.size + 1, 2, none⟩ = some (.slice Av nv cv) ∧ w'.cell? ⟨w.heap.size + 1, 3, none⟩ = some (.slice Ag ng cg) ∧ w'.cell? ⟨w3.heap.size, 0, none⟩ = some (.slice Ap np cp) ∧ w'.cell? ⟨w3.heap.size, 1, none⟩ = some (.slice Bp mp dp) ∧ w'.cell? ⟨w3.heap.size, 2, none⟩ = some (.slice none 0 0) ∧ w'.cell? ⟨w3.heap.size, 3, none⟩ = some (.slice none 0 0) ∧ w'.cell? ⟨w5.heap.size, 0, none⟩ = some (.slice Aq nq cq) ∧ w'.cell? ⟨w5.heap.size, 1, none⟩ = some (.slice Bq mq dq) ∧ w'.cell? ⟨w5.heap.size, 2, none⟩ = some (.slice none 0 0) ∧ w'.cell? ⟨w5.heap.size, 3, none⟩ = some (.slice none 0 0)) (by kernel_rfl) ?_ (fun hHeld => ?_)
  · exact ⟨ma0, ma1, ma2, ma3, la0, la1, la2, la3, xs0, xs1, xs2, xs3, ys0, ys1, ys2, ys3⟩
  refine wpAnyH_ready (rs := [0]) (by kernel_rfl) (by simp) ?_
  refine AllReadyH.cons rfl (fun K hK => ?_) AllReadyH.nil
  (try simp only [pT])
  rw [if_pos (by rfl)]
  go_simp
  go_at_call 9
  refine (alive17_any _).mono ?_
  rintro e w7 ⟨rfl, b⟩
  replace hxp := hxp.on b
  replace hyp := hyp.on b
  replace hxq := hxq.on b
  replace hyq := hyq.on b
  rewrite [cR b mal] at ma0 ma1 ma2 ma3
  replace mal := lK b mal
  rewrite [cR b lal] at la0 la1 la2 la3
  replace lal := lK b lal
  rewrite [cR b xsl] at xs0 xs1 xs2 xs3
  replace xsl := lK b xsl
  rewrite [cR b ysl] at ys0 ys1 ys2 ys3
  replace ysl := lK b ysl
  replace cc := bK cc b
  clear b
  refine hK.out _ _ ?_ (fun hHeld => ?_)
  · exact ⟨ma0, ma1, ma2, ma3, la0, la1, la2, la3, xs0, xs1, xs2, xs3, ys0, ys1, ys2, ys3⟩
  clear hK K
  try simp only [Act.put, pT]
  refine tY (i := 1) (v := ?_) rfl ?_ hHeld ?_
  rotate_left
  · (intro w hSw; (try dsimp only at hSw); go_simp; (try with_reducible rfl))
  try simp only [Act.put, pT]
  refine tY (i := 2) (v := ?_) rfl ?_ hHeld ?_
  rotate_left
  · (intro w hSw; (try dsimp only at hSw); go_simp; (try with_reducible rfl))
  try simp only [Act.put, pT]
  refine tY (i := 3) (v := ?_) rfl ?_ hHeld ?_
  rotate_left
  · (intro w hSw; (try dsimp only at hSw); go_simp; (try with_reducible rfl))
  try simp only [Act.put, pT]
  refine tY (i := 5) (v := ?_) rfl ?_ hHeld ?_
  rotate_left
  · (intro w hSw; (try dsimp only at hSw); go_simp; (try with_reducible rfl))
  try simp only [Act.put, pT]
  refine tY (i := 6) (v := ?_) rfl ?_ hHeld ?_
  rotate_left
  · (intro w hSw; (try dsimp only at hSw); go_simp; (try with_reducible rfl))
  try simp only [Act.put, pT]
  refine wpAnyH_ready (rs := [4]) (by kernel_rfl) (by simp) ?_
  refine AllReadyH.cons rfl (fun K hK => ?_) AllReadyH.nil
  (try simp only [pT])
  rw [if_pos (by rfl)]
  go_simp
  go_at_call 12
  refine (CR _).mono ?_
  rintro e w8 ⟨rfl, b⟩
  replace hxp := hxp.on b
  replace hyp := hyp.on b
  replace hxq := hxq.on b
  replace hyq := hyq.on b
  rewrite [cR b mal] at ma0 ma1 ma2 ma3
  replace mal := lK b mal
  rewrite [cR b lal] at la0 la1 la2 la3
  replace lal := lK b lal
  rewrite [cR b xsl] at xs0 xs1 xs2 xs3
  replace xsl := lK b xsl
  rewrite [cR b ysl] at ys0 ys1 ys2 ys3
  replace ysl := lK b ysl
  replace cc := bK cc b
  clear b
  refine hK.out _ _ ?_ (fun hHeld => ?_)
  · exact ⟨ma0, ma1, ma2, ma3, la0, la1, la2, la3, xs0, xs1, xs2, xs3, ys0, ys1, ys2, ys3⟩
  clear hK K
  try simp only [Act.put, pT]
  refine wpAnyH_ready (rs := [7]) (by kernel_rfl) (by simp) ?_
  refine AllReadyH.cons rfl (fun K hK => ?_) AllReadyH.nil
  (try simp only [pT])
  rw [if_pos (by rfl)]
  go_simp
  go_at_call 13
  refine (CQ _).mono ?_
  rintro e w9 ⟨rfl, b⟩
  replace hxp := hxp.on b
  replace hyp := hyp.on b
  replace hxq := hxq.on b
  replace hyq := hyq.on b
  rewrite [cR b mal] at ma0 ma1 ma2 ma3
  replace mal := lK b mal
  rewrite [cR b lal] at la0 la1 la2 la3
  replace lal := lK b lal
  rewrite [cR b xsl] at xs0 xs1 xs2 xs3
  replace xsl := lK b xsl
  rewrite [cR b ysl] at ys0 ys1 ys2 ys3
  replace ysl := lK b ysl
  replace cc := bK cc b
  clear b
  refine hK.out _ _ ?_ (fun hHeld => ?_)
  · exact ⟨ma0, ma1, ma2, ma3, la0, la1, la2, la3, xs0, xs1, xs2, xs3, ys0, ys1, ys2, ys3⟩
  clear hK K
  try simp only [Act.put, pT]
  refine tY (i := 8) (v := ?_) rfl ?_ hHeld ?_
  rotate_left
  · (intro w hSw; (try dsimp only at hSw); go_simp; (try with_reducible rfl))
  try simp only [Act.put, pT]
  refine tY (i := 9) (v := ?_) rfl ?_ hHeld ?_
  rotate_left
  · (intro w hSw; (try dsimp only at hSw); go_simp; (try with_reducible rfl))
  try simp only [Act.put, pT]
  refine tY (i := 10) (v := ?_) rfl ?_ hHeld ?_
  rotate_left
  · (intro w hSw; (try dsimp only at hSw); go_simp; (try with_reducible rfl))
  try simp only [Act.put, pT]
  refine tY (i := 11) (v := ?_) rfl ?_ hHeld ?_
  rotate_left
  · (intro w hSw; (try dsimp only at hSw); go_simp; (try with_reducible rfl))
  try simp only [Act.put, pT]
  refine tY (i := 12) (v := ?_) rfl ?_ hHeld ?_
  rotate_left
  · (intro w hSw; (try dsimp only at hSw); go_simp; (try with_reducible rfl))
  try simp only [Act.put, pT]
  refine wpAnyH_ready (rs := [13]) (by kernel_rfl) (by simp) ?_
  refine AllReadyH.cons rfl (fun K hK => ?_) AllReadyH.nil
  (try simp only [pT])
  rw [if_pos (by rfl)]
  go_simp
  go_at_call 14
  refine (CM hxp hyp hxq hyq).mono ?_
  rintro e w10 ⟨rfl, b⟩
  replace hxp := hxp.on b
  replace hyp := hyp.on b
  replace hxq := hxq.on b
  replace hyq := hyq.on b
  rewrite [cR b mal] at ma0 ma1 ma2 ma3
  replace mal := lK b mal
  rewrite [cR b lal] at la0 la1 la2 la3
  replace lal := lK b lal
  rewrite [cR b xsl] at xs0 xs1 xs2 xs3
  replace xsl := lK b xsl
  rewrite [cR b ysl] at ys0 ys1 ys2 ys3
  replace ysl := lK b ysl
  replace cc := bK cc b
  clear b
  refine hK.out _ _ ?_ (fun hHeld => ?_)
  · exact ⟨ma0, ma1, ma2, ma3, la0, la1, la2, la3, xs0, xs1, xs2, xs3, ys0, ys1, ys2, ys3⟩
  clear hK K
  try simp only [Act.put, pT]
  refine tY (i := 14) (v := ?_) rfl ?_ hHeld ?_
  rotate_left
  · (intro w hSw; (try dsimp only at hSw); go_simp; (try with_reducible rfl))
  try simp only [Act.put, pT]
  refine tY (i := 15) (v := ?_) rfl ?_ hHeld ?_
  rotate_left
  · (intro w hSw; (try dsimp only at hSw); go_simp; (try with_reducible rfl))
  try simp only [Act.put, pT]
  refine tY (i := 16) (v := ?_) rfl ?_ hHeld ?_
  rotate_left
  · (intro w hSw; (try dsimp only at hSw); go_simp; (try with_reducible rfl))
  try simp only [Act.put, pT]
  refine tY (i := 17) (v := ?_) rfl ?_ hHeld ?_
  rotate_left
  · (intro w hSw; (try dsimp only at hSw); go_simp; (try with_reducible rfl))
  try simp only [Act.put, pT]
  refine tY (i := 18) (v := ?_) rfl ?_ hHeld ?_
  rotate_left
  · (intro w hSw; (try dsimp only at hSw); go_simp; (try with_reducible rfl))
  try simp only [Act.put, pT]
  refine tY (i := 19) (v := ?_) rfl ?_ hHeld ?_
  rotate_left
  · (intro w hSw; (try dsimp only at hSw); go_simp; (try with_reducible rfl))
  try simp only [Act.put, pT]
  refine tY (i := 20) (v := ?_) rfl ?_ hHeld ?_
  rotate_left
  · (intro w hSw; (try dsimp only at hSw); go_simp; (try with_reducible rfl))
  try simp only [Act.put, pT]
  refine wpAnyH_done (by kernel_rfl) ?_ _
  clear hHeld
  go_wp2_with fail
  go_ret
  exact ⟨rfl, cc⟩

theorem MomTells_walk {w : World} {lr mu wd f : Int} {ne : Bool} {Aw : Option Addr} {nw cw : Nat} {Lw : List Int} {Am : Option Addr} {nm cm : Nat} {Lm : List Int} {Av : Option Addr} {nv cv : Nat} {Lv : List Int} {Ag : Option Addr} {ng cg : Nat} {Lg : List Int} (iL : I64 lr) (iU : I64 mu) (iD : I64 wd) (iF : I64 f) (hw : IR w Aw nw cw Lw) (hm : IR w Am nm cm Lm) (hv : IR w Av nv cv Lv) (hg : IR w Ag ng cg Lg) (ew : ∀ z ∈ Lw, I64 z) (em : ∀ z ∈ Lm, I64 z) (ev : ∀ z ∈ Lv, I64 z) (eg : ∀ z ∈ Lg, I64 z) (kw : nw ≤ 2305843009213693951) (km : nm ≤ 2305843009213693951) (kv : nv ≤ 2305843009213693951) (kg : ng ≤ 2305843009213693951) : Calls Try.prog 3 #[.agg #[.int .i64 lr, .int .i64 mu, .int .i64 wd, .bool ne], .agg #[.slice Aw nw cw, .slice Am nm cm, .slice Av nv cv, .slice Ag ng cg], .int .i64 f] w (GotV w (.bool true)) := by
  by_cases hf : ((nw + nm + nv + ng : Nat) : Int) ≤ 36
  · exact MomTells_main iL iU iD iF hw hm hv hg ew em ev eg kw km kv kg hf
  · exact MomTells_many iL iU iD iF hw hm hv hg ew em ev eg kw km kv kg hf

end Go.Proofs.Ytckdbcngnghhiaa
