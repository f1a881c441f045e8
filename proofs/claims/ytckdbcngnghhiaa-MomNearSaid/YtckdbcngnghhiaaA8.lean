/-
  Several texts in one: JM, L17, WTells17, N17s, GI, T17, C17t, N17t.
-/
import Derived.Test.YtckdbcngnghhiaaA7
import Derived.Test.YtckdbcngnghhiaaA2
import Derived.Deep.RegionLaw

/-
  The landed mom: Step and Right.
-/
namespace Go.Proofs.Ytckdbcngnghhiaa
set_option maxRecDepth 100000
open Go.RowKit
set_option linter.unusedVariables false
set_option linter.unusedSimpArgs false

theorem stV_of_stW (lr mu wd : Int) (ne : Bool) (f : Nat) (w v g : Int) (h : (stW lr mu wd ne f w v g).2 = true) : (stV mu wd f w v g).2 = true := by
  have hu := stW_stV lr mu wd ne f w v g h
  cases ne
  · exact hu
  · unfold stU at hu
    rw [if_pos rfl] at hu
    unfold nAdd at hu
    simp only [Bool.and_eq_true, decide_eq_true_eq] at hu
    have h2 := hu.1.2
    unfold nMul at h2
    simp only [Bool.and_eq_true, decide_eq_true_eq] at h2
    exact h2.1.2

set_option maxHeartbeats 8000000 in
theorem kStep_loop {w : World} {lr mu wd f : Int} {ne : Bool} {Aw : Option Addr} {n cw : Nat} {Am : Option Addr} {cm : Nat} {Av : Option Addr} {nv cv : Nat} {Ag : Option Addr} {cg : Nat} {LW LM LG : List Int} (hK : OkM17 lr mu wd f) (hl : I64 lr) (hm : I64 mu) (hd : I64 wd) (hW : IR w Aw n cw LW) (hM : IR w Am n cm LM) (hG : IR w Ag n cg LG) (iW : ∀ z ∈ LW, I64 z) (iM : ∀ z ∈ LM, I64 z) (iG : ∀ z ∈ LG, I64 z) (kn : n ≤ 1000000) :
    Calls Try.prog 10 #[.agg #[.int .i64 lr, .int .i64 mu, .int .i64 wd, .bool ne], .int .i64 f, .agg #[.slice Aw n cw, .slice Am n cm, .slice Av nv cv, .slice Ag n cg]] w (GotS17 w (if rowOK lr mu wd ne f.toNat LW LM LG = true then rowW lr mu wd ne f.toNat LW LM LG else []) (if rowOK lr mu wd ne f.toNat LW LM LG = true then rowV mu wd f.toNat LW LM LG else []) (if rowOK lr mu wd ne f.toNat LW LM LG = true then 0 else 2)) := by
  have hn1 := hW.1
  have hn2 := hM.1
  have hn3 := hG.1
  have hRV := rowV_eq mu wd f.toNat (W := LW) (V := LM) (G := LG) (by omega) (by omega)
  have hRW := rowW_eq lr mu wd ne f.toNat (W := LW) (V := LM) (G := LG) (by omega) (by omega)
  have hOK := rowOK_iff lr mu wd ne f.toNat (W := LW) (V := LM) (G := LG) (by omega) (by omega)
  rw [show (List.range LW.length).map (fun j => (sV mu wd f.toNat LW LM LG j).1) = upV mu wd f.toNat LW LM LG n by unfold upV; rw [hn1]] at hRV
  rw [show (List.range LW.length).map (fun j => (sW lr mu wd ne f.toNat LW LM LG j).1) = upW lr mu wd ne f.toNat LW LM LG n by unfold upW; rw [hn1]] at hRW
  rw [← hn1] at hOK
  rw [hRV, hRW]
  have hUV := fun i => upV_succ mu wd f.toNat LW LM LG i
  have hUW := fun i => upW_succ lr mu wd ne f.toNat LW LM LG i
  have lUV : ∀ i, (upV mu wd f.toNat LW LM LG i).length = i := fun i => by unfold upV; simp
  have lUW : ∀ i, (upW lr mu wd ne f.toNat LW LM LG i).length = i := fun i => by unfold upW; simp
  have hWV : ∀ j, (sW lr mu wd ne f.toNat LW LM LG j).2 = true → (sV mu wd f.toNat LW LM LG j).2 = true := fun j h => stV_of_stW _ _ _ _ _ _ _ _ h
  have at_ : ∀ {L : List Int}, n = L.length → (∀ z ∈ L, I64 z) → ∀ j, I64 (L[j]?.getD 0) := fun {L} e h j => by
    rcases Nat.lt_or_ge j L.length with q | q
    · rw [List.getElem?_eq_getElem q]; exact h _ (List.getElem_mem q)
    · rw [List.getElem?_eq_none q]; show I64 0; unfold I64; omega
  have CS : ∀ (j : Nat) {X : World} {g : Nat}, Rk X g f lr mu wd ne true → Calls Try.prog 24 #[.pointer (some ⟨g, 0, none⟩), .int .i64 (LW[j]?.getD 0), .int .i64 (LM[j]?.getD 0), .int .i64 (LG[j]?.getD 0)] X (GotK X g f lr mu wd ne (sW lr mu wd ne f.toNat LW LM LG j).2 (.tuple #[.int .i64 (sW lr mu wd ne f.toNat LW LM LG j).1, .int .i64 (sV mu wd f.toNat LW LM LG j).1])) := fun j {X g} h => kstep_N hK.1 hK.2.1 hl hm hd (at_ hn1 iW j) (at_ hn2 iM j) (at_ hn3 iG j) h
  have CR : ∀ W : World, Calls Try.prog 12 #[.agg #[.int .i64 lr, .int .i64 mu, .int .i64 wd, .bool ne], .int .i64 f] W (GotV W (.bool true)) := fun W => by have h := kRight_N (w := W) (lr := lr) (mu := mu) (wd := wd) (f := f) (ne := ne); rw [decide_eq_true hK] at h; exact h
  obtain ⟨XV, eXV⟩ : ∃ X : Nat → Nm, (fun j => sV mu wd f.toNat LW LM LG j) = X := ⟨_, rfl⟩
  have eXV1 : ∀ j, sV mu wd f.toNat LW LM LG j = XV j := fun j => by rw [← eXV]
  obtain ⟨XW, eXW⟩ : ∃ X : Nat → Nm, (fun j => sW lr mu wd ne f.toNat LW LM LG j) = X := ⟨_, rfl⟩
  have eXW1 : ∀ j, sW lr mu wd ne f.toNat LW LM LG j = XW j := fun j => by rw [← eXW]
  obtain ⟨UV, eUV⟩ : ∃ X : Nat → List Int, (fun j => upV mu wd f.toNat LW LM LG j) = X := ⟨_, rfl⟩
  have eUV1 : ∀ j, upV mu wd f.toNat LW LM LG j = UV j := fun j => by rw [← eUV]
  obtain ⟨UW, eUW⟩ : ∃ X : Nat → List Int, (fun j => upW lr mu wd ne f.toNat LW LM LG j) = X := ⟨_, rfl⟩
  have eUW1 : ∀ j, upW lr mu wd ne f.toNat LW LM LG j = UW j := fun j => by rw [← eUW]
  have u0 : UV 0 = [] ∧ UW 0 = [] := ⟨by rw [← eUV]; rfl, by rw [← eUW]; rfl⟩
  obtain ⟨ok, eok⟩ : ∃ b, rowOK lr mu wd ne f.toNat LW LM LG = b := ⟨_, rfl⟩
  simp only [eXV1, eXW1, eUV1, eUW1, eok] at hUV hUW hOK CS lUV lUW hWV ⊢
  obtain ⟨aW, hAW⟩ : ∃ A, (if ok = true then UW n else []) = A := ⟨_, rfl⟩
  obtain ⟨aV, hAV⟩ : ∃ A, (if ok = true then UV n else []) = A := ⟨_, rfl⟩
  obtain ⟨aC, hAC⟩ : ∃ A, (if ok = true then (0 : Int) else 2) = A := ⟨_, rfl⟩
  rw [hAW, hAV, hAC]
  have HAW := Lib.hid hAW
  have HAV := Lib.hid hAV
  have HAC := Lib.hid hAC
  clear hAW hAV hAC
  have HUV := Lib.hid hUV
  have HUW := Lib.hid hUW
  have HLV := Lib.hid lUV
  have HLU := Lib.hid lUW
  have HOK := Lib.hid hOK
  have HWV := Lib.hid hWV
  have HU0 := Lib.hid u0
  have HKN := Lib.hid kn
  have HCS := Lib.hid @CS
  have hmk := ziM_run n kn
  clear hUV hUW hOK lUV lUW hWV u0 CS eXV eXW eUV eUW eok eXV1 eXW1 eUV1 eUW1 hRV hRW hn1 hn2 hn3 at_ iW iM iG hK hl hm hd kn
  have t0 : ((n : Int) == (n : Int)) = true := beq_self_eq_true _
  have t1 : ((n : Int) != (n : Int)) = false := by simp
  have cc := Below.refl w.heap.size w
  go_enter Try.func10, Try.ntmps10
  go_upto_region 1 with fail
  have NW : ∀ (W : World) (o : Obj), (W.alloc o).heap[W.heap.size]? = some o := fun W o => World.alloc_heap_new W o
  generalize hv_ : ((w.alloc (.cells #[.int .i64 lr, .int .i64 mu, .int .i64 wd, .bool ne] 23)).alloc (.cells #[.slice Aw n cw, .slice Am n cm, .slice Av nv cv, .slice Ag n cg] 26)).alloc (.cells #[.slice none 0 0, .slice none 0 0, .slice none 0 0, .slice none 0 0] 26) = v1
  have zbm : v1.heap[w.heap.size]? = some (.cells #[.int .i64 lr, .int .i64 mu, .int .i64 wd, .bool ne] 23) := by rw [← hv_]; exact heap_up (heap_up (NW _ _))
  have zbr : v1.heap[w.heap.size + 1]? = some (.cells #[.slice Aw n cw, .slice Am n cm, .slice Av nv cv, .slice Ag n cg] 26) := by rw [← hv_]; exact heap_up (by have h := NW (w.alloc (.cells #[.int .i64 lr, .int .i64 mu, .int .i64 wd, .bool ne] 23)) (.cells #[.slice Aw n cw, .slice Am n cm, .slice Av nv cv, .slice Ag n cg] 26); simpa only [World.size_alloc] using h)
  have zg : v1.heap[w.heap.size + 1 + 1]? = some (.cells #[.slice none 0 0, .slice none 0 0, .slice none 0 0, .slice none 0 0] 26) := by rw [← hv_]; exact by have h := NW ((w.alloc (.cells #[.int .i64 lr, .int .i64 mu, .int .i64 wd, .bool ne] 23)).alloc (.cells #[.slice Aw n cw, .slice Am n cm, .slice Av nv cv, .slice Ag n cg] 26)) (.cells #[.slice none 0 0, .slice none 0 0, .slice none 0 0, .slice none 0 0] 26); simpa only [World.size_alloc] using h
  have bA : Below w.heap.size w v1 := by rw [← hv_]; exact ((((Below.refl _ w).alloc (by simp) _).alloc (by simp) _).alloc (by simp <;> omega) _)
  replace cc := bK cc bA
  clear bA
  clear hv_
  have lt := fun {W : World} {b : Nat} {o : Obj} (h : W.heap[b]? = some o) => (Array.getElem?_eq_some_iff.1 h).1
  obtain ⟨pa0, pa1, pa2, pa3⟩ := cells4 zbm
  clear NW
  go_wp2_with fail
  refine (CR _).mono ?_
  rintro e w2 ⟨rfl, b⟩
  replace zbm := (b.block _ (lt zbm)).trans zbm
  replace zbr := (b.block _ (lt zbr)).trans zbr
  replace zg := (b.block _ (lt zg)).trans zg
  replace cc := bK cc b
  clear b CR pa0 pa1 pa2 pa3
  obtain ⟨xa0, xa1, xa2, xa3⟩ := cells4 zbr
  obtain ⟨pa0, pa1, pa2, pa3⟩ := cells4 zbm
  go_upto_region 6 with fail
  have zr : (w2.alloc (.cells #[.int .i64 f, .int .i64 0, .int .i64 lr, .int .i64 mu, .int .i64 wd, .bool ne] 54)).heap[w2.heap.size]? = some (.cells #[.int .i64 f, .int .i64 0, .int .i64 lr, .int .i64 mu, .int .i64 wd, .bool ne] 54) := World.alloc_heap_new w2 _
  have b := one_upD w2 (.cells #[.int .i64 f, .int .i64 0, .int .i64 lr, .int .i64 mu, .int .i64 wd, .bool ne] 54)
  have lgr : w.heap.size + 1 + 1 < w2.heap.size := lt zg
  have hts : (w2.alloc (.cells #[.int .i64 f, .int .i64 0, .int .i64 lr, .int .i64 mu, .int .i64 wd, .bool ne] 54)).heap.size = w2.heap.size + 1 := World.size_alloc _ _
  replace zbm := (b.block _ (lt zbm)).trans zbm
  replace zbr := (b.block _ (lt zbr)).trans zbr
  replace zg := (b.block _ (lt zg)).trans zg
  replace cc := bK cc b
  clear b xa0 xa1 xa2 xa3 pa0 pa1 pa2 pa3
  generalize w2.alloc (.cells #[.int .i64 f, .int .i64 0, .int .i64 lr, .int .i64 mu, .int .i64 wd, .bool ne] 54) = V0 at *
  generalize w2.heap.size = gr at *
  replace zr : Rk V0 gr f lr mu wd ne true := zr
  refine kStepR6 (C := V0.heap.size) hmk (by intro c a d v w h; cases d <;> exact h) (Nat.le_refl _) zbr ?_
  intro V gW gM go b zbr2 zW zM zgo mW mM mgo n1_ n2_ dWM n3_ dWo dMo
  clear zbr2 n1_ n2_ n3_
  replace zbm := (b.block _ (lt zbm)).trans zbm
  replace zbr := (b.block _ (lt zbr)).trans zbr
  replace zg := (b.block _ (lt zg)).trans zg
  replace zr := (b.block _ zr.lt).trans zr
  replace cc := bK cc b
  have oW : V.ownsRow (gr + 1) 2 1 (.slice (some ⟨gW, 0, none⟩) n n) n ((pad n (UW 0)).map encI) := by rw [HU0.out.2, pad_nil]; exact ziM_own HKN.out zW (by omega)
  have oM : V.ownsRow (gr + 1) 2 1 (.slice (some ⟨gM, 0, none⟩) n n) n ((pad n (UV 0)).map encI) := by rw [HU0.out.1, pad_nil]; exact ziM_own HKN.out zM (by omega)
  have dgo : gr < go ∧ gr < gW ∧ gr < gM ∧ gM ≠ gW ∧ go ≠ gW ∧ go ≠ gM := ⟨by omega, by omega, by omega, Ne.symm dWM, Ne.symm dWo, Ne.symm dMo⟩
  have HD := Lib.hid dgo
  have Hts := Lib.hid hts
  have Hlgr := Lib.hid lgr
  have Hbm := Lib.hid zbm
  have Hbr := Lib.hid zbr
  have Hg := Lib.hid zg
  have HZR := Lib.hid zr
  have HC := Lib.hid cc
  have HW := Lib.hid hW
  have HM := Lib.hid hM
  have HG := Lib.hid hG
  have HO1 := Lib.hid oW
  have HO2 := Lib.hid oM
  have Hgo := Lib.hid zgo
  clear b zW zM zgo mW mM mgo dWM dWo dMo oW oM dgo hts lgr zbm zg zr cc hW hM hG hmk
  obtain ⟨xa0, xa1, xa2, xa3⟩ := cells4 zbr
  clear zbr
  go_wp2_with fail
  go_loopw [49] (fun iv wr => ∃ i : Nat, i ≤ n ∧ iv = .int .i64 (i : Int) ∧ Rk wr gr f lr mu wd ne true ∧ wr.heap[go]? = some (.cells #[.slice (some ⟨gW, 0, none⟩) n n, .slice (some ⟨gM, 0, none⟩) n n, .slice none 0 0, .slice none 0 0] 26) ∧ wr.ownsRow (gr + 1) 2 1 (.slice (some ⟨gW, 0, none⟩) n n) n ((pad n (UW i)).map encI) ∧ wr.ownsRow (gr + 1) 2 1 (.slice (some ⟨gM, 0, none⟩) n n) n ((pad n (UV i)).map encI) ∧ Below gr V wr ∧ ∀ j, j < i → (XW j).2 = true) (fun iv _ => n - (intOf iv).toNat)
  case atStart => exact ⟨0, by omega, rfl, HZR.out, Hgo.out, HO1.out, HO2.out, Below.refl _ _, fun j h => absurd h (by omega)⟩
  case round =>
    obtain ⟨i, hi_, rfl, hR, zgo, oW, oM, bl, hj⟩ := hrel
    obtain ⟨d1, d2, d3, d4, d5, d6⟩ := HD.out
    have lgr := Hlgr.out
    have zbr := (bl.block _ (show w.heap.size + 1 < gr by omega)).trans Hbr.out
    have zg := (bl.block _ (show w.heap.size + 1 + 1 < gr by omega)).trans Hg.out
    have cc := HC.out.trans (bl.mono (show w.heap.size ≤ gr by omega))
    clear xa0 xa1 xa2 xa3
    obtain ⟨xa0, xa1, xa2, xa3⟩ := cells4 zbr
    by_cases hlt : i < n
    · have jlt : (i : Int) < (n : Int) := by omega
      obtain ⟨bw, ow, rfl, lbw, cW⟩ := HW.out.2.2 (by omega)
      obtain ⟨bm_, om, rfl, lbm, cM⟩ := HM.out.2.2 (by omega)
      obtain ⟨bg, og, rfl, lbg, cG⟩ := HG.out.2.2 (by omega)
      have ew := (cc.cell (p := ⟨bw, ow + i, none⟩) lbw).trans (cW i hlt)
      have kw : bw < gr := by omega
      have em := (cc.cell (p := ⟨bm_, om + i, none⟩) lbm).trans (cM i hlt)
      have km : bm_ < gr := by omega
      have eg := (cc.cell (p := ⟨bg, og + i, none⟩) lbg).trans (cG i hlt)
      have kg : bg < gr := by omega
      have CSj := fun {X : World} (h : Rk X gr f lr mu wd ne true) => HCS.out i h
      have hUVi := HUV.out i
      have hUWi := HUW.out i
      have hLV := HLV.out i
      have hLU := HLU.out i
      have hOKi : ok = true → (XW i).2 = true := fun h => (HOK.out.1 h i hlt).1
      have hjn : (XW i).2 = true → ∀ j, j < i + 1 → (XW j).2 = true := fun h1 j hj2 => by
        rcases Nat.lt_or_ge j i with e | e
        · exact hj j e
        · have e2 : j = i := by omega
          rw [e2]; exact h1
      obtain ⟨⟨y, p⟩, ey⟩ : ∃ x, XW i = x := ⟨_, rfl⟩
      obtain ⟨⟨v, vb⟩, ev⟩ : ∃ x, XV i = x := ⟨_, rfl⟩
      rw [ey] at hUWi hOKi hjn CSj
      rw [ev] at hUVi CSj
      simp only at hUVi hUWi hOKi hjn CSj
      clear ey ev hj cW cM cG
      generalize LW[i]?.getD 0 = x0 at *
      generalize LM[i]?.getD 0 = x1 at *
      generalize LG[i]?.getD 0 = x2 at *
      have HS : ∀ X : World, Below gr wr X → X.heap[go]? = some (.cells #[.slice (some ⟨gW, 0, none⟩) n n, .slice (some ⟨gM, 0, none⟩) n n, .slice none 0 0, .slice none 0 0] 26) → (fun w' : World => w'.cell? ⟨go, 0, none⟩ = some (.slice (some ⟨gW, 0, none⟩) n n) ∧ w'.cell? ⟨go, 1, none⟩ = some (.slice (some ⟨gM, 0, none⟩) n n) ∧ w'.cell? ⟨w.heap.size + 1, 0, none⟩ = some (.slice (some ⟨bw, ow, none⟩) n cw) ∧ w'.cell? ⟨w.heap.size + 1, 1, none⟩ = some (.slice (some ⟨bm_, om, none⟩) n cm) ∧ w'.cell? ⟨w.heap.size + 1, 3, none⟩ = some (.slice (some ⟨bg, og, none⟩) n cg) ∧ w'.cell? ⟨bw, ow + i, none⟩ = some (.int .i64 x0) ∧ w'.cell? ⟨bm_, om + i, none⟩ = some (.int .i64 x1) ∧ w'.cell? ⟨bg, og + i, none⟩ = some (.int .i64 x2)) X := fun X b z => ⟨(cells4 z).1, (cells4 z).2.1, (b.cell (p := ⟨w.heap.size + 1, 0, none⟩) (show w.heap.size + 1 < gr by omega)).trans xa0, (b.cell (p := ⟨w.heap.size + 1, 1, none⟩) (show w.heap.size + 1 < gr by omega)).trans xa1, (b.cell (p := ⟨w.heap.size + 1, 3, none⟩) (show w.heap.size + 1 < gr by omega)).trans xa3, cK b ew kw, cK b em km, cK b eg kg⟩
      have HGW : gW < wr.heap.size := (oW.lt gW rfl).2
      have HGM : gM < wr.heap.size := (oM.lt gM rfl).2
      have HGO : go < wr.heap.size := lt zgo
      go_upto_region 10 with fail
      have bD := below_drewN (Below.refl wr.heap.size wr) 1
      have hR1 := hR.on bD
      have s1 := Sp.of (Nat.le_of_lt hR.lt) bD
      have z1 := (bD.block go HGO).trans zgo
      have CSd := CSj hR1
      have HZ1 := Lib.hid z1
      refine wp_region_held_drew (S := fun w' => w'.cell? ⟨go, 0, none⟩ = some (.slice (some ⟨gW, 0, none⟩) n n) ∧ w'.cell? ⟨go, 1, none⟩ = some (.slice (some ⟨gM, 0, none⟩) n n) ∧ w'.cell? ⟨w.heap.size + 1, 0, none⟩ = some (.slice (some ⟨bw, ow, none⟩) n cw) ∧ w'.cell? ⟨w.heap.size + 1, 1, none⟩ = some (.slice (some ⟨bm_, om, none⟩) n cm) ∧ w'.cell? ⟨w.heap.size + 1, 3, none⟩ = some (.slice (some ⟨bg, og, none⟩) n cg) ∧ w'.cell? ⟨bw, ow + i, none⟩ = some (.int .i64 x0) ∧ w'.cell? ⟨bm_, om + i, none⟩ = some (.int .i64 x1) ∧ w'.cell? ⟨bg, og + i, none⟩ = some (.int .i64 x2)) (by kernel_rfl) ?_ (fun hHeld => ?_)
      · exact HS _ s1.1 z1
      refine tY (i := 0) (v := ?_) rfl ?_ hHeld ?_
      rotate_left
      · (intro w hSw; (try dsimp only at hSw); go_simp; (try with_reducible rfl))
      try simp only [Act.put, pT]
      refine tY (i := 1) (v := ?_) rfl ?_ hHeld ?_
      rotate_left
      · (intro w hSw; (try dsimp only at hSw); go_simp; (try with_reducible rfl))
      try simp only [Act.put, pT]
      refine tY (i := 2) (v := ?_) rfl ?_ hHeld ?_
      rotate_left
      · (intro w hSw; (try dsimp only at hSw); go_simp; (try with_reducible rfl))
      try simp only [Act.put, pT]
      refine tY (i := 3) (v := ?_) rfl ?_ hHeld ?_
      rotate_left
      · (intro w hSw; (try dsimp only at hSw); go_simp; (try with_reducible rfl))
      try simp only [Act.put, pT]
      refine tY (i := 4) (v := ?_) rfl ?_ hHeld ?_
      rotate_left
      · (intro w hSw; (try dsimp only at hSw); go_simp; (try with_reducible rfl))
      try simp only [Act.put, pT]
      refine tY (i := 5) (v := ?_) rfl ?_ hHeld ?_
      rotate_left
      · (intro w hSw; (try dsimp only at hSw); go_simp; (try with_reducible rfl))
      try simp only [Act.put, pT]
      refine tY (i := 6) (v := ?_) rfl ?_ hHeld ?_
      rotate_left
      · (intro w hSw; (try dsimp only at hSw); go_simp; (try with_reducible rfl))
      try simp only [Act.put, pT]
      refine tY (i := 7) (v := ?_) rfl ?_ hHeld ?_
      rotate_left
      · (intro w hSw; (try dsimp only at hSw); go_simp; (try with_reducible rfl))
      try simp only [Act.put, pT]
      refine tY (i := 8) (v := ?_) rfl ?_ hHeld ?_
      rotate_left
      · (intro w hSw; (try dsimp only at hSw); go_simp; (try with_reducible rfl))
      try simp only [Act.put, pT]
      refine tY (i := 9) (v := ?_) rfl ?_ hHeld ?_
      rotate_left
      · (intro w hSw; (try dsimp only at hSw); go_simp; (try with_reducible rfl))
      try simp only [Act.put, pT]
      refine tY (i := 10) (v := ?_) rfl ?_ hHeld ?_
      rotate_left
      · (intro w hSw; (try dsimp only at hSw); go_simp; (try with_reducible rfl))
      try simp only [Act.put, pT]
      refine tY (i := 11) (v := ?_) rfl ?_ hHeld ?_
      rotate_left
      · (intro w hSw; (try dsimp only at hSw); go_simp; (try with_reducible rfl))
      try simp only [Act.put, pT]
      refine tY (i := 12) (v := ?_) rfl ?_ hHeld ?_
      rotate_left
      · (intro w hSw; (try dsimp only at hSw); go_simp; (try with_reducible rfl))
      try simp only [Act.put, pT]
      refine tY (i := 13) (v := ?_) rfl ?_ hHeld ?_
      rotate_left
      · (intro w hSw; (try dsimp only at hSw); go_simp; (try with_reducible rfl))
      try simp only [Act.put, pT]
      refine tY (i := 14) (v := ?_) rfl ?_ hHeld ?_
      rotate_left
      · (intro w hSw; (try dsimp only at hSw); go_simp; (try with_reducible rfl))
      try simp only [Act.put, pT]
      refine tY (i := 15) (v := ?_) rfl ?_ hHeld ?_
      rotate_left
      · (intro w hSw; (try dsimp only at hSw); go_simp; (try with_reducible rfl))
      try simp only [Act.put, pT]
      refine tY (i := 16) (v := ?_) rfl ?_ hHeld ?_
      rotate_left
      · (intro w hSw; (try dsimp only at hSw); go_simp; (try with_reducible rfl))
      try simp only [Act.put, pT]
      refine tY (i := 17) (v := ?_) rfl ?_ hHeld ?_
      rotate_left
      · (intro w hSw; (try dsimp only at hSw); go_simp; (try with_reducible rfl))
      try simp only [Act.put, pT]
      refine tY (i := 18) (v := ?_) rfl ?_ hHeld ?_
      rotate_left
      · (intro w hSw; (try dsimp only at hSw); go_simp; (try with_reducible rfl))
      try simp only [Act.put, pT]
      refine tY (i := 19) (v := ?_) rfl ?_ hHeld ?_
      rotate_left
      · (intro w hSw; (try dsimp only at hSw); go_simp; (try with_reducible rfl))
      try simp only [Act.put, pT]
      refine tY (i := 20) (v := ?_) rfl ?_ hHeld ?_
      rotate_left
      · (intro w hSw; (try dsimp only at hSw); go_simp; (try with_reducible rfl))
      try simp only [Act.put, pT]
      refine wpAnyH_ready (rs := [21]) (by kernel_rfl) (by simp) ?_
      refine AllReadyH.cons rfl (fun K hK => ?_) AllReadyH.nil
      (try simp only [pT])
      rw [if_pos (by rfl)]
      go_simp
      go_at_call 24
      refine CSd.mono ?_
      rintro e W1 ⟨rfl, hR2, s2⟩
      replace s1 := s1.trans s2
      have z2 := (s1.2 go HGO (by omega)).trans zgo
      have oW1 := own_keep oW (s1.2 gW HGW (by omega))
      have oM1 := own_keep oM (s1.2 gM HGM (by omega))
      clear s2 hR1 z1
      obtain ⟨c0_, c1_⟩ := own_cell oW1 hLU hlt
      have f1_ := oW1.frozenAt i
      refine hK.out _ _ ?_ (fun hHeld => ?_)
      · exact HS _ s1.1 z2
      clear hK K
      try simp only [Act.put, pT]
      refine tY (i := 22) (v := ?_) rfl ?_ hHeld ?_
      rotate_left
      · (intro w hSw; (try dsimp only at hSw); go_simp; (try with_reducible rfl))
      try simp only [Act.put, pT]
      refine tY (i := 23) (v := ?_) rfl ?_ hHeld ?_
      rotate_left
      · (intro w hSw; (try dsimp only at hSw); go_simp; (try with_reducible rfl))
      try simp only [Act.put, pT]
      refine tY (i := 24) (v := ?_) rfl ?_ hHeld ?_
      rotate_left
      · (intro w hSw; (try dsimp only at hSw); go_simp; (try with_reducible rfl))
      try simp only [Act.put, pT]
      refine tY (i := 25) (v := ?_) rfl ?_ hHeld ?_
      rotate_left
      · (intro w hSw; (try dsimp only at hSw); go_simp; (try with_reducible rfl))
      try simp only [Act.put, pT]
      refine wpAnyH_ready (rs := [26]) (by kernel_rfl) (by simp) ?_
      refine AllReadyH.cons rfl (fun K hK => ?_) AllReadyH.nil
      (try simp only [pT])
      rw [if_pos (by rfl)]
      go_simp
      have oW2 := own_put (y := y) oW1 hLU hlt
      have s2 := s1.1.setCell (p := ⟨gW, i, none⟩) (show gr ≤ gW by omega) (.int .i64 y)
      have hR3 : Rk (W1.setCell ⟨gW, i, none⟩ (.int .i64 y)) gr f lr mu wd ne p := (heap_setCell_other W1 ⟨gW, i, none⟩ gr (.int .i64 y) (by show gr ≠ gW; omega)).trans hR2
      have z3 := (heap_setCell_other W1 ⟨gW, i, none⟩ go (.int .i64 y) (by show go ≠ gW; omega)).trans z2
      have oM2 := own_keep oM1 (heap_setCell_other W1 ⟨gW, i, none⟩ gM (.int .i64 y) (by show gM ≠ gW; omega))
      clear f1_ c1_ z2 oW1 oM1 hR2 s1
      generalize W1.setCell ⟨gW, i, none⟩ (.int .i64 y) = W2 at *
      obtain ⟨c0_, c1_⟩ := own_cell oM2 hLV hlt
      have f1_ := oM2.frozenAt i
      refine hK.out _ _ ?_ (fun hHeld => ?_)
      · exact HS _ s2 z3
      clear hK K
      try simp only [Act.put, pT]
      refine tY (i := 27) (v := ?_) rfl ?_ hHeld ?_
      rotate_left
      · (intro w hSw; (try dsimp only at hSw); go_simp; (try with_reducible rfl))
      try simp only [Act.put, pT]
      refine wpAnyH_ready (rs := [28]) (by kernel_rfl) (by simp) ?_
      refine AllReadyH.cons rfl (fun K hK => ?_) AllReadyH.nil
      (try simp only [pT])
      rw [if_pos (by rfl)]
      go_simp
      have oM3 := own_put (y := v) oM2 hLV hlt
      have s3 := s2.setCell (p := ⟨gM, i, none⟩) (show gr ≤ gM by omega) (.int .i64 v)
      have hR4 : Rk (W2.setCell ⟨gM, i, none⟩ (.int .i64 v)) gr f lr mu wd ne p := (heap_setCell_other W2 ⟨gM, i, none⟩ gr (.int .i64 v) (by show gr ≠ gM; omega)).trans hR3
      have z4 := (heap_setCell_other W2 ⟨gM, i, none⟩ go (.int .i64 v) (by show go ≠ gM; omega)).trans z3
      have oW3 := own_keep oW2 (heap_setCell_other W2 ⟨gM, i, none⟩ gW (.int .i64 v) (by show gW ≠ gM; omega))
      clear f1_ c1_ z3 oW2 oM2 hR3 s2
      generalize W2.setCell ⟨gM, i, none⟩ (.int .i64 v) = W3 at *
      refine hK.out _ _ ?_ (fun hHeld => ?_)
      · exact HS _ s3 z4
      clear hK K
      try simp only [Act.put, pT]
      refine wpAnyH_done (by kernel_rfl) ?_ _
      clear hHeld
      obtain ⟨r0, r1, -⟩ := hR4.cells
      clear HS
      have zbr5 := (s3.block _ (show w.heap.size + 1 < gr by omega)).trans zbr
      have zg5 := (s3.block _ (show w.heap.size + 1 + 1 < gr by omega)).trans zg
      have cc5 := cc.trans (s3.mono (show w.heap.size ≤ gr by omega))
      have bl5 := bl.trans s3
      clear ew em eg xa0 xa1 xa2 xa3 cc bl zg zbr hR zgo oW oM CSj CSd s3
      cases p
      · have hok : ok = false := by
          cases ok
          · rfl
          · exact absurd (hOKi rfl) (by simp)
        subst hok
        obtain rfl : [] = aW := by have h := HAW.out; rw [if_neg (by simp)] at h; exact h
        obtain rfl : [] = aV := by have h := HAV.out; rw [if_neg (by simp)] at h; exact h
        obtain rfl : (2 : Int) = aC := by have h := HAC.out; rw [if_neg (by simp)] at h; exact h
        rw [show ec false = 2 from rfl] at r1
        clear zbr5 bl5 z4 oW3 oM3 hjn hOKi
        go_upto_region 12 with fail
        have bD : Below W3.heap.size W3 W3.drew := below_drewN (Below.refl _ W3) 1
        replace r1 := (bD.cell (p := ⟨gr, 1, none⟩) hR4.lt).trans r1
        replace zg5 := (bD.block _ (lt zg5)).trans zg5
        replace cc5 := bK cc5 bD
        clear bD hR4 r0
        obtain ⟨g0, g1, g2, g3⟩ := cells4 zg5
        have f0 := fro_of 0 zg5
        have f1 := fro_of 1 zg5
        have f2 := fro_of 2 zg5
        have f3 := fro_of 3 zg5
        have HBF := Lib.hid (below_put4 cc5 (show w.heap.size ≤ w.heap.size + 1 + 1 by omega) (.slice none 0 0) (.slice none 0 0) (.slice none 0 0) (.slice none 0 0))
        have hq : ∀ a b c d : Value, (((((W3.drew).setCell ⟨w.heap.size + 1 + 1, 0, none⟩ a).setCell ⟨w.heap.size + 1 + 1, 1, none⟩ b).setCell ⟨w.heap.size + 1 + 1, 2, none⟩ c).setCell ⟨w.heap.size + 1 + 1, 3, none⟩ d).cell? ⟨gr, 1, none⟩ = some (.int .i64 2) := fun a b c d => by
          have hne : ∀ k, (⟨w.heap.size + 1 + 1, k, none⟩ : Addr) ≠ ⟨gr, 1, none⟩ := fun k e => by injection e with e1; omega
          rw [World.cell?_setCell_other (h := hne 3), World.cell?_setCell_other (h := hne 2), World.cell?_setCell_other (h := hne 1), World.cell?_setCell_other (h := hne 0)]; exact r1
        clear cc5 zg5
        refine wp_region_held_drew (S := fun w' => w'.cell? ⟨gr, 1, none⟩ = some (.int .i64 2)) (by kernel_rfl) ?_ (fun hHeld => ?_)
        · exact r1
        generalize W3.drew = W4 at *
        refine tY (i := 0) (v := ?_) rfl ?_ hHeld ?_
        rotate_left
        · (intro w hSw; (try dsimp only at hSw); go_simp; (try with_reducible rfl))
        try simp only [Act.put, pT]
        refine tY (i := 1) (v := ?_) rfl ?_ hHeld ?_
        rotate_left
        · (intro w hSw; (try dsimp only at hSw); go_simp; (try with_reducible rfl))
        try simp only [Act.put, pT]
        refine tY (i := 2) (v := ?_) rfl ?_ hHeld ?_
        rotate_left
        · (intro w hSw; (try dsimp only at hSw); go_simp; (try with_reducible rfl))
        try simp only [Act.put, pT]
        refine tY (i := 3) (v := ?_) rfl ?_ hHeld ?_
        rotate_left
        · (intro w hSw; (try dsimp only at hSw); go_simp; (try with_reducible rfl))
        try simp only [Act.put, pT]
        refine wpAnyH_ready (rs := [4]) (by kernel_rfl) (by simp) ?_
        refine AllReadyH.cons rfl (fun K hK => ?_) AllReadyH.nil
        (try simp only [pT])
        rw [if_pos (by rfl)]
        go_simp
        refine hK.out _ _ ?_ (fun hHeld => ?_)
        · exact hq _ _ _ _
        clear hK K
        try simp only [Act.put, pT]
        refine tY (i := 5) (v := ?_) rfl ?_ hHeld ?_
        rotate_left
        · (intro w hSw; (try dsimp only at hSw); go_simp; (try with_reducible rfl))
        try simp only [Act.put, pT]
        refine wpAnyH_done (by kernel_rfl) ?_ _
        clear hHeld
        go_wp2_with fail
        refine bodyPost_ret (v := .tuple #[.agg #[.slice none 0 0, .slice none 0 0, .slice none 0 0, .slice none 0 0], .int .i64 2]) (by simp [results, Try.results10, go_sem, g0, g1, g2, g3]) rfl ⟨none, 0, 0, none, 0, 0, rfl, IR.nil _ _ _, IR.nil _ _ _, HBF.out, fun _ e => (by cases e), fun _ e => (by cases e)⟩
      · have k4_ : IntKind.i64.wrap ((i : Int) + 1) = ((i + 1 : Nat) : Int) := by have := HKN.out; rw [IntWalk.i64_in _ (by omega)]; omega
        rw [show ec true = 0 from rfl] at r1
        rw [← hUWi] at oW3
        rw [← hUVi] at oM3
        have QW := Lib.hid oW3
        have QM := Lib.hid oM3
        have QR := Lib.hid hR4
        have QZ := Lib.hid z4
        have QB := Lib.hid bl5
        have QJ := Lib.hid (hjn rfl)
        clear oW3 oM3 hR4 z4 bl5 hjn hOKi zbr5 zg5 cc5 hUWi hUVi
        go_wp2_with fail
        go_roundw
        case rel => exact ⟨i + 1, by omega, by go_num, QR.out, QZ.out, QW.out, QM.out, QB.out, QJ.out⟩
        case measure => simp [intOf] <;> omega
    · obtain rfl : i = n := by omega
      have hok : ok = true := HOK.out.2 (fun j h => ⟨hj j h, HWV.out j (hj j h)⟩)
      subst hok
      have eW : UW i = aW := by have h := HAW.out; rw [if_pos rfl] at h; exact h
      have eV : UV i = aV := by have h := HAV.out; rw [if_pos rfl] at h; exact h
      obtain rfl : (0 : Int) = aC := by have h := HAC.out; rw [if_pos rfl] at h; exact h
      rw [pad_full (HLU.out i), eW] at oW
      rw [pad_full (HLV.out i), eV] at oM
      obtain ⟨o0, o1, o2, o3⟩ := cells4 zgo
      obtain ⟨g0, g1, g2, g3⟩ := cells4 zg
      have f0 := fro_of 0 zg
      have f1 := fro_of 1 zg
      have f2 := fro_of 2 zg
      have f3 := fro_of 3 zg
      have jl : ¬ ((i : Int) < (i : Int)) := by omega
      have HF := Lib.hid (Own17.got (k := 0) (t := gr + 1) (go := go) ⟨zgo, oW, oM, fun a e1 e2 => by have h1 : gW = a := (by injection e1); have h2 : gM = a := (by injection e2); exact d4 (h2.trans h1.symm)⟩ cc (show w.heap.size ≤ w.heap.size + 1 + 1 by omega) (show w.heap.size + 1 + 1 < gr + 1 by omega) (.slice (some ⟨gW, 0, none⟩) i i) (.slice (some ⟨gM, 0, none⟩) i i) (.slice none 0 0) (.slice none 0 0) rfl)
      clear zgo oW oM hj bl zbr zg cc hR xa0 xa1 xa2 xa3
      go_wp2_with fail
      refine bodyPost_ret (v := .tuple #[.agg #[.slice (some ⟨gW, 0, none⟩) i i, .slice (some ⟨gM, 0, none⟩) i i, .slice none 0 0, .slice none 0 0], .int .i64 0]) (by simp [results, Try.results10, go_sem, g0, g1, g2, g3]) rfl HF.out

theorem mStep_N {w : World} {lr mu wd f : Int} {ne : Bool} {Aw : Option Addr} {nw cw : Nat} {Am : Option Addr} {nm cm : Nat} {Av : Option Addr} {nv cv : Nat} {Ag : Option Addr} {ng cg : Nat} {LW LM LG : List Int} (hl : I64 lr) (hm : I64 mu) (hd : I64 wd) (hf : I64 f) (hW : IR w Aw nw cw LW) (hM : IR w Am nm cm LM) (hG : IR w Ag ng cg LG) (iW : ∀ z ∈ LW, I64 z) (iM : ∀ z ∈ LM, I64 z) (iG : ∀ z ∈ LG, I64 z) (kw : nw ≤ 100) (km : nm ≤ 100) (kg : ng ≤ 100) :
    Calls Try.prog 10 #[.agg #[.int .i64 lr, .int .i64 mu, .int .i64 wd, .bool ne], .int .i64 f, .agg #[.slice Aw nw cw, .slice Am nm cm, .slice Av nv cv, .slice Ag ng cg]] w
      (GotS17 w (stRW17 lr mu wd f ne LW LM LG) (stRV17 lr mu wd f ne LW LM LG) (stC17 lr mu wd f ne LW LM LG)) := by
  have e1 := hW.1
  have e2 := hM.1
  have e3 := hG.1
  have fin : ∀ {k : Int}, stC17 lr mu wd f ne LW LM LG = k → k ≠ 0 → Calls Try.prog 10 #[.agg #[.int .i64 lr, .int .i64 mu, .int .i64 wd, .bool ne], .int .i64 f, .agg #[.slice Aw nw cw, .slice Am nm cm, .slice Av nv cv, .slice Ag ng cg]] w (GotS17 w [] [] k) → Calls Try.prog 10 #[.agg #[.int .i64 lr, .int .i64 mu, .int .i64 wd, .bool ne], .int .i64 f, .agg #[.slice Aw nw cw, .slice Am nm cm, .slice Av nv cv, .slice Ag ng cg]] w (GotS17 w (stRW17 lr mu wd f ne LW LM LG) (stRV17 lr mu wd f ne LW LM LG) (stC17 lr mu wd f ne LW LM LG)) := fun hk hn h => by
    unfold stRW17 stRV17
    rw [hk, if_neg hn, if_neg hn]; exact h
  by_cases hK : OkM17 lr mu wd f
  rotate_left
  · exact fin (k := 1) (by unfold stC17; rw [if_neg hK]) (by omega) ((kStep_k hK).mono fun e w' h => gotS17_nil h)
  by_cases q : nm = nw
  rotate_left
  · exact fin (k := 5) (by unfold stC17; rw [if_pos hK, if_neg (fun h => q (by rw [e1, e2]; exact h.1))]) (by omega) ((kStep_m hK q).mono fun e w' h => gotS17_nil h)
  by_cases q2 : ng = nw
  rotate_left
  · exact fin (k := 5) (by unfold stC17; rw [if_pos hK, if_neg (fun h => q2 (by rw [e1, e3]; exact h.2))]) (by omega) ((kStep_g hK q q2).mono fun e w' h => gotS17_nil h)
  have hs : LM.length = LW.length ∧ LG.length = LW.length := ⟨by omega, by omega⟩
  subst q
  subst q2
  have h := kStep_loop (ne := ne) (Av := Av) (nv := nv) (cv := cv) hK hl hm hd hW hM hG iW iM iG (by omega)
  by_cases ho : rowOK lr mu wd ne f.toNat LW LM LG = true
  · have hk : stC17 lr mu wd f ne LW LM LG = 0 := by unfold stC17; rw [if_pos hK, if_pos hs, if_pos ho]
    simp only [if_pos ho] at h
    unfold stRW17 stRV17
    rw [hk, if_pos rfl, if_pos rfl]; exact h
  · simp only [if_neg ho] at h
    exact fin (k := 2) (by unfold stC17; rw [if_pos hK, if_pos hs, if_neg ho]) (by omega) h

theorem mRight_N (w : World) {lr mu wd f : Int} {ne : Bool} (hl : I64 lr) (hm : I64 mu) (hd : I64 wd) (hf : I64 f) : Calls Try.prog 12 #[.agg #[.int .i64 lr, .int .i64 mu, .int .i64 wd, .bool ne], .int .i64 f] w (GotV w (.bool (decide (OkM17 lr mu wd f)))) := kRight_N

end Go.Proofs.Ytckdbcngnghhiaa

/-
  What the laws of mom lean on: alive.
-/
namespace Go.Proofs.Ytckdbcngnghhiaa
set_option maxRecDepth 100000
open Go.RowKit
set_option linter.unusedVariables false
set_option linter.unusedSimpArgs false

theorem rn_one17 (x : Int) : rn x 1 = x := by
  have h := rn_self x (d := 1) (by omega)
  rwa [show x * ((1 : Nat) : Int) = x from Int.mul_one x] at h
theorem ir_one17 {w : World} {g : Nat} {x : Int} (hx : w.cell? ⟨g, 0, none⟩ = some (.int .i64 x)) : IR w (some ⟨g, 0, none⟩) 1 1 [x] := by
  refine ⟨rfl, Nat.le_refl _, fun _ => ⟨g, 0, rfl, cell_lt hx, fun i hi => ?_⟩⟩
  obtain rfl : i = 0 := by omega
  exact hx
theorem ir_two17 {w : World} {g : Nat} {x y : Int} (hx : w.cell? ⟨g, 0, none⟩ = some (.int .i64 x)) (hy : w.cell? ⟨g, 1, none⟩ = some (.int .i64 y)) : IR w (some ⟨g, 0, none⟩) 2 2 [x, y] := by
  refine ⟨rfl, Nat.le_refl _, fun _ => ⟨g, 0, rfl, cell_lt hx, fun i hi => ?_⟩⟩
  match i, hi with
  | 0, _ => exact hx
  | 1, _ => exact hy
/-- Two rows are answered, with a code. -/
def GotT17 (w : World) (LW LM : List Int) (k : Int) (e : Ending) (w' : World) : Prop :=
  ∃ A n c B m d, e = .returned (.tuple #[.agg #[.slice A n c, .slice B m d, .slice none 0 0, .slice none 0 0], .int .i64 k]) ∧ IR w' A n c LW ∧ IR w' B m d LM ∧ Below w.heap.size w w'
theorem GotS17.weak {w : World} {LW LM : List Int} {k : Int} {e : Ending} {w' : World} (h : GotS17 w LW LM k e w') : GotT17 w LW LM k e w' := by
  obtain ⟨A, n, c, B, m, d, h1, h2, h3, h4, _⟩ := h
  exact ⟨A, n, c, B, m, d, h1, h2, h3, h4⟩
theorem nMul0 (a b : Nm) : nMul 0 a b = (nI (a.1 * b.1), a.2 && b.2 && decide (I64 (a.1 * b.1))) := by
  unfold nMul
  rw [show 2 ^ 0 = 1 from rfl, rn_one17]
theorem first17 : stC17 1 0 0 0 false [5, 0] [7, 7] [2, -1] = 0 ∧ stRW17 1 0 0 0 false [5, 0] [7, 7] [2, -1] = [3, 1] ∧ stRV17 1 0 0 0 false [5, 0] [7, 7] [2, -1] = [2, -1] := by
  have e1 : rowOK 1 0 0 false 0 [5, 0] [7, 7] [2, -1] = true := by simp only [rowOK, stW, stU, stV, stD, nMul0, nOf]; decide
  have e2 : rowW 1 0 0 false 0 [5, 0] [7, 7] [2, -1] = [3, 1] := by simp only [rowW, stW, stU, stV, stD, nMul0, nOf]; decide
  have e3 : rowV 0 0 0 [5, 0] [7, 7] [2, -1] = [2, -1] := by simp only [rowV, stV, stD, nMul0, nOf]; decide
  have e0 : stC17 1 0 0 0 false [5, 0] [7, 7] [2, -1] = 0 := by unfold stC17; rw [if_pos (by decide), if_pos (by decide), show (0 : Int).toNat = 0 from rfl, if_pos e1]
  refine ⟨e0, ?_, ?_⟩
  · unfold stRW17; rw [if_pos e0]; exact e2
  · unfold stRV17; rw [if_pos e0]; exact e3
theorem second17 : stC17 1 0 0 0 false [5] [] [] = 5 ∧ stRW17 1 0 0 0 false [5] [] [] = [] ∧ stRV17 1 0 0 0 false [5] [] [] = [] := by
  have e0 : stC17 1 0 0 0 false [5] [] [] = 5 := by unfold stC17; rw [if_pos (by decide), if_neg (by decide)]
  refine ⟨e0, ?_, ?_⟩
  · unfold stRW17; rw [e0]; rfl
  · unfold stRV17; rw [e0]; rfl
theorem third17 : stC17 0 1 0 0 false [] [] [] = 1 ∧ stRW17 0 1 0 0 false [] [] [] = [] ∧ stRV17 0 1 0 0 false [] [] [] = [] := by
  have e0 : stC17 0 1 0 0 false [] [] [] = 1 := by unfold stC17; rw [if_neg (by decide)]
  refine ⟨e0, ?_, ?_⟩
  · unfold stRW17; rw [e0]; rfl
  · unfold stRV17; rw [e0]; rfl
set_option maxRecDepth 100000 in
set_option maxHeartbeats 8000000 in
theorem alive17_any (w : World) : Calls Try.prog 9 #[] w (GotV w (.bool true)) := by
  have cc := Below.refl w.heap.size w
  go_enter Try.func9, Try.ntmps9
  go_wp2_with fail
  have bA : Below w.heap.size w ((((w.alloc (.cells #[.int .i64 1, .int .i64 0, .int .i64 0, .bool false] 23)).alloc (.cells #[.int .i64 5, .int .i64 0] 2)).alloc (.cells #[.int .i64 7, .int .i64 7] 2)).alloc (.cells #[.int .i64 2, .int .i64 (-1)] 2)) := ((((Below.refl _ w).alloc (by simp) _).alloc (by simp) _).alloc (by simp <;> omega) _).alloc (by simp <;> omega) _
  have hW : IR ((((w.alloc (.cells #[.int .i64 1, .int .i64 0, .int .i64 0, .bool false] 23)).alloc (.cells #[.int .i64 5, .int .i64 0] 2)).alloc (.cells #[.int .i64 7, .int .i64 7] 2)).alloc (.cells #[.int .i64 2, .int .i64 (-1)] 2)) (some ⟨w.heap.size + 1, 0, none⟩) 2 2 [5, 0] := ir_two17 (by simp [go_sem]) (by simp [go_sem])
  have hM : IR ((((w.alloc (.cells #[.int .i64 1, .int .i64 0, .int .i64 0, .bool false] 23)).alloc (.cells #[.int .i64 5, .int .i64 0] 2)).alloc (.cells #[.int .i64 7, .int .i64 7] 2)).alloc (.cells #[.int .i64 2, .int .i64 (-1)] 2)) (some ⟨w.heap.size + 1 + 1, 0, none⟩) 2 2 [7, 7] := ir_two17 (by simp [go_sem]) (by simp [go_sem])
  have hG : IR ((((w.alloc (.cells #[.int .i64 1, .int .i64 0, .int .i64 0, .bool false] 23)).alloc (.cells #[.int .i64 5, .int .i64 0] 2)).alloc (.cells #[.int .i64 7, .int .i64 7] 2)).alloc (.cells #[.int .i64 2, .int .i64 (-1)] 2)) (some ⟨w.heap.size + 1 + 1 + 1, 0, none⟩) 2 2 [2, -1] := ir_two17 (by simp [go_sem]) (by simp [go_sem])
  have ma0 : ((((w.alloc (.cells #[.int .i64 1, .int .i64 0, .int .i64 0, .bool false] 23)).alloc (.cells #[.int .i64 5, .int .i64 0] 2)).alloc (.cells #[.int .i64 7, .int .i64 7] 2)).alloc (.cells #[.int .i64 2, .int .i64 (-1)] 2)).cell? ⟨w.heap.size, 0, none⟩ = some (.int .i64 1) := by simp [go_sem]
  have ma1 : ((((w.alloc (.cells #[.int .i64 1, .int .i64 0, .int .i64 0, .bool false] 23)).alloc (.cells #[.int .i64 5, .int .i64 0] 2)).alloc (.cells #[.int .i64 7, .int .i64 7] 2)).alloc (.cells #[.int .i64 2, .int .i64 (-1)] 2)).cell? ⟨w.heap.size, 1, none⟩ = some (.int .i64 0) := by simp [go_sem]
  have ma2 : ((((w.alloc (.cells #[.int .i64 1, .int .i64 0, .int .i64 0, .bool false] 23)).alloc (.cells #[.int .i64 5, .int .i64 0] 2)).alloc (.cells #[.int .i64 7, .int .i64 7] 2)).alloc (.cells #[.int .i64 2, .int .i64 (-1)] 2)).cell? ⟨w.heap.size, 2, none⟩ = some (.int .i64 0) := by simp [go_sem]
  have ma3 : ((((w.alloc (.cells #[.int .i64 1, .int .i64 0, .int .i64 0, .bool false] 23)).alloc (.cells #[.int .i64 5, .int .i64 0] 2)).alloc (.cells #[.int .i64 7, .int .i64 7] 2)).alloc (.cells #[.int .i64 2, .int .i64 (-1)] 2)).cell? ⟨w.heap.size, 3, none⟩ = some (.bool false) := by simp [go_sem]
  have mal : w.heap.size < ((((w.alloc (.cells #[.int .i64 1, .int .i64 0, .int .i64 0, .bool false] 23)).alloc (.cells #[.int .i64 5, .int .i64 0] 2)).alloc (.cells #[.int .i64 7, .int .i64 7] 2)).alloc (.cells #[.int .i64 2, .int .i64 (-1)] 2)).heap.size := by simp <;> omega
  replace cc := cc.trans bA
  clear bA
  generalize (((w.alloc (.cells #[.int .i64 1, .int .i64 0, .int .i64 0, .bool false] 23)).alloc (.cells #[.int .i64 5, .int .i64 0] 2)).alloc (.cells #[.int .i64 7, .int .i64 7] 2)).alloc (.cells #[.int .i64 2, .int .i64 (-1)] 2) = v1 at *
  refine ((mStep_N (by unfold I64; omega) (by unfold I64; omega) (by unfold I64; omega) (by unfold I64; omega) hW hM hG (by decide) (by decide) (by decide) (by omega) (by omega) (by omega)).mono (fun _ _ h => h.weak)).mono ?_
  rw [first17.1, first17.2.1, first17.2.2]
  rintro e w2 ⟨Ap, np, cp, Bp, mp, dp, rfl, hxp, hyp, b⟩
  replace ma0 := cK b ma0 mal
  replace ma1 := cK b ma1 mal
  replace ma2 := cK b ma2 mal
  replace ma3 := cK b ma3 mal
  replace mal := lK b mal
  replace cc := bK cc b
  clear b hW hM hG
  go_upto_region 3 with fail
  have b := below_one w2 (.cells #[.slice Ap np cp, .slice Bp mp dp, .slice none 0 0, .slice none 0 0] 26)
  replace ma0 := cK b ma0 mal
  replace ma1 := cK b ma1 mal
  replace ma2 := cK b ma2 mal
  replace ma3 := cK b ma3 mal
  replace mal := lK b mal
  replace cc := bK cc b
  replace hxp := hxp.on b
  replace hyp := hyp.on b
  clear b
  have zx : (w2.alloc (.cells #[.slice Ap np cp, .slice Bp mp dp, .slice none 0 0, .slice none 0 0] 26)).heap[w2.heap.size]? = some (.cells #[.slice Ap np cp, .slice Bp mp dp, .slice none 0 0, .slice none 0 0] 26) := World.alloc_heap_new w2 _
  generalize w2.alloc (.cells #[.slice Ap np cp, .slice Bp mp dp, .slice none 0 0, .slice none 0 0] 26) = v3 at *
  have lt := fun {W : World} {b : Nat} {o : Obj} (h : W.heap[b]? = some o) => (Array.getElem?_eq_some_iff.1 h).1
  go_wp2_with fail
  have b := below_one v3 (.cells #[.int .i64 5] 2)
  have hW : IR (v3.alloc (.cells #[.int .i64 5] 2)) (some ⟨v3.heap.size, 0, none⟩) 1 1 [5] := ir_one17 (by simp [go_sem])
  replace ma0 := cK b ma0 mal
  replace ma1 := cK b ma1 mal
  replace ma2 := cK b ma2 mal
  replace ma3 := cK b ma3 mal
  replace mal := lK b mal
  replace cc := bK cc b
  replace hxp := hxp.on b
  replace hyp := hyp.on b
  replace zx := (b.block _ (lt zx)).trans zx
  clear b
  generalize v3.alloc (.cells #[.int .i64 5] 2) = v4 at *
  refine ((mStep_N (by unfold I64; omega) (by unfold I64; omega) (by unfold I64; omega) (by unfold I64; omega) hW (IR.nil _ none 0) (IR.nil _ none 0) (by decide) (by decide) (by decide) (by omega) (by omega) (by omega)).mono (fun _ _ h => h.weak)).mono ?_
  rw [second17.1, second17.2.1, second17.2.2]
  rintro e w5 ⟨Aq, nq, cq, Bq, mq, dq, rfl, hxq, hyq, b⟩
  replace ma0 := cK b ma0 mal
  replace ma1 := cK b ma1 mal
  replace ma2 := cK b ma2 mal
  replace ma3 := cK b ma3 mal
  replace mal := lK b mal
  replace cc := bK cc b
  replace hxp := hxp.on b
  replace hyp := hyp.on b
  replace zx := (b.block _ (lt zx)).trans zx
  clear b hW hxq hyq
  go_upto_region 4 with fail
  have b := below_one w5 (.cells #[.slice Aq nq cq, .slice Bq mq dq, .slice none 0 0, .slice none 0 0] 26)
  replace ma0 := cK b ma0 mal
  replace ma1 := cK b ma1 mal
  replace ma2 := cK b ma2 mal
  replace ma3 := cK b ma3 mal
  replace mal := lK b mal
  replace cc := bK cc b
  replace hxp := hxp.on b
  replace hyp := hyp.on b
  replace zx := (b.block _ (lt zx)).trans zx
  clear b
  generalize w5.alloc (.cells #[.slice Aq nq cq, .slice Bq mq dq, .slice none 0 0, .slice none 0 0] 26) = v6 at *
  go_wp2_with fail
  refine ((mStep_N (by unfold I64; omega) (by unfold I64; omega) (by unfold I64; omega) (by unfold I64; omega) (IR.nil _ none 0) (IR.nil _ none 0) (IR.nil _ none 0) (by decide) (by decide) (by decide) (by omega) (by omega) (by omega)).mono (fun _ _ h => h.weak)).mono ?_
  rw [third17.1, third17.2.1, third17.2.2]
  rintro e w7 ⟨As, ns, cs, Bs, ms, ds, rfl, hxs, hys, b⟩
  replace ma0 := cK b ma0 mal
  replace ma1 := cK b ma1 mal
  replace ma2 := cK b ma2 mal
  replace ma3 := cK b ma3 mal
  replace mal := lK b mal
  replace cc := bK cc b
  replace hxp := hxp.on b
  replace hyp := hyp.on b
  replace zx := (b.block _ (lt zx)).trans zx
  clear b hxs hys
  go_upto_region 5 with fail
  have b := below_one w7 (.cells #[.slice As ns cs, .slice Bs ms ds, .slice none 0 0, .slice none 0 0] 26)
  replace ma0 := cK b ma0 mal
  replace ma1 := cK b ma1 mal
  replace ma2 := cK b ma2 mal
  replace ma3 := cK b ma3 mal
  replace mal := lK b mal
  replace cc := bK cc b
  replace hxp := hxp.on b
  replace hyp := hyp.on b
  replace zx := (b.block _ (lt zx)).trans zx
  clear b
  generalize w7.alloc (.cells #[.slice As ns cs, .slice Bs ms ds, .slice none 0 0, .slice none 0 0] 26) = v8 at *
  obtain ⟨x0, x1, x2, x3⟩ := cells4 zx
  obtain rfl : np = 2 := hxp.1
  obtain rfl : mp = 2 := hyp.1
  obtain ⟨bx, ox, rfl, lx, fx⟩ := hxp.2.2 (by omega)
  obtain ⟨by_, oy, rfl, ly, fy⟩ := hyp.2.2 (by omega)
  have fx0 : v8.cell? ⟨bx, ox, none⟩ = some (.int .i64 3) := fx 0 (by omega)
  have fx1 : v8.cell? ⟨bx, ox + 1, none⟩ = some (.int .i64 1) := fx 1 (by omega)
  have fy0 : v8.cell? ⟨by_, oy, none⟩ = some (.int .i64 2) := fy 0 (by omega)
  have CR : ∀ W : World, Calls Try.prog 12 #[.agg #[.int .i64 1, .int .i64 0, .int .i64 0, .bool false], .int .i64 0] W (GotV W (.bool true)) := fun W => by have h := mRight_N W (lr := 1) (mu := 0) (wd := 0) (f := 0) (ne := false) (by unfold I64; omega) (by unfold I64; omega) (by unfold I64; omega) (by unfold I64; omega); rw [decide_eq_true (by decide)] at h; exact h
  clear fx fy hxp hyp zx
  go_wp2_with fail
  refine (CR _).mono ?_
  rintro e w9 ⟨rfl, b⟩
  replace cc := bK cc b
  clear b
  go_wp2_with fail
  go_ret
  exact ⟨rfl, cc⟩
end Go.Proofs.Ytckdbcngnghhiaa

/-
  The walk of MomTells.
-/
namespace Go.Proofs.Ytckdbcngnghhiaa
open Go.RowKit
set_option linter.unusedVariables false
set_option linter.unusedSimpArgs false

theorem len17 {lr mu wd f : Int} {ne : Bool} {LW LM LG : List Int} : (stRW17 lr mu wd f ne LW LM LG).length ≤ LW.length ∧ (stRV17 lr mu wd f ne LW LM LG).length ≤ LW.length := by
  have h1 : ∀ (W V G : List Int), (rowW lr mu wd ne f.toNat W V G).length ≤ W.length := by
    intro W
    induction W with
    | nil => intro V G; unfold rowW; simp
    | cons x W ih => intro V G; rcases V with _ | ⟨v, V⟩ <;> rcases G with _ | ⟨g, G⟩ <;> unfold rowW <;> simp; exact ih V G
  have h2 : ∀ (W V G : List Int), (rowV mu wd f.toNat W V G).length ≤ W.length := by
    intro W
    induction W with
    | nil => intro V G; unfold rowV; simp
    | cons x W ih => intro V G; rcases V with _ | ⟨v, V⟩ <;> rcases G with _ | ⟨g, G⟩ <;> unfold rowV <;> simp; exact ih V G
  constructor
  · unfold stRW17; split
    · exact h1 _ _ _
    · exact Nat.zero_le _
  · unfold stRV17; split
    · exact h2 _ _ _
    · exact Nat.zero_le _

end Go.Proofs.Ytckdbcngnghhiaa

/-
  Steps, the other way round; numbers alone.
-/
namespace Go.Proofs.Ytckdbcngnghhiaa
set_option linter.unusedVariables false
set_option linter.unusedSimpArgs false

theorem nAdd_ok {a b : Nm} (h : (nAdd a b).2 = true) : a.2 = true ∧ b.2 = true ∧ I64 (a.1 + b.1) ∧ (nAdd a b).1 = a.1 + b.1 := by
  unfold nAdd at h ⊢
  simp only [Bool.and_eq_true, decide_eq_true_eq] at h
  exact ⟨h.1.1, h.1.2, h.2, (nI_yes h.2).1⟩
theorem nSub_ok {a b : Nm} (h : (nSub a b).2 = true) : a.2 = true ∧ b.2 = true ∧ I64 (a.1 - b.1) ∧ (nSub a b).1 = a.1 - b.1 := by
  unfold nSub at h ⊢
  simp only [Bool.and_eq_true, decide_eq_true_eq] at h
  exact ⟨h.1.1, h.1.2, h.2, (nI_yes h.2).1⟩
theorem nMul_ok {f : Nat} {a b : Nm} (h : (nMul f a b).2 = true) : a.2 = true ∧ b.2 = true ∧ I64 (rn (a.1 * b.1) (2 ^ f)) ∧ (nMul f a b).1 = rn (a.1 * b.1) (2 ^ f) := by
  unfold nMul at h ⊢
  simp only [Bool.and_eq_true, decide_eq_true_eq] at h
  exact ⟨h.1.1, h.1.2, h.2, (nI_yes h.2).1⟩
/-- What a step is, where all is there. -/
def exD (wd : Int) (f : Nat) (w g : Int) : Int := g + rn (wd * w) (2 ^ f)
def exV (mu wd : Int) (f : Nat) (w v g : Int) : Int := rn (mu * v) (2 ^ f) + exD wd f w g
def exU (mu wd : Int) (nest : Bool) (f : Nat) (w v g : Int) : Int := if nest = true then exD wd f w g + rn (mu * exV mu wd f w v g) (2 ^ f) else exV mu wd f w v g
def exW (lr mu wd : Int) (nest : Bool) (f : Nat) (w v g : Int) : Int := w - rn (lr * exU mu wd nest f w v g) (2 ^ f)
theorem stD_ex {wd : Int} {f : Nat} {w g : Int} (h : (stD wd f w g).2 = true) : (stD wd f w g).1 = exD wd f w g ∧ I64 (exD wd f w g) ∧ I64 (rn (wd * w) (2 ^ f)) := by
  unfold stD at h ⊢
  obtain ⟨_, h2, h3, h4⟩ := nAdd_ok h
  obtain ⟨_, _, h5, h6⟩ := nMul_ok h2
  have e : (nMul f (nOf wd) (nOf w)).1 = rn (wd * w) (2 ^ f) := h6
  have e2 : exD wd f w g = (nOf g).1 + (nMul f (nOf wd) (nOf w)).1 := by unfold exD; rw [e]; rfl
  exact ⟨by rw [h4, e2], by rw [e2]; exact h3, h5⟩
theorem stV_ex {mu wd : Int} {f : Nat} {w v g : Int} (h : (stV mu wd f w v g).2 = true) : (stV mu wd f w v g).1 = exV mu wd f w v g ∧ I64 (exV mu wd f w v g) ∧ (stD wd f w g).2 = true ∧ I64 (rn (mu * v) (2 ^ f)) := by
  unfold stV at h ⊢
  obtain ⟨h1, h2, h3, h4⟩ := nAdd_ok h
  obtain ⟨_, _, h5, h6⟩ := nMul_ok h1
  have e : (nMul f (nOf mu) (nOf v)).1 = rn (mu * v) (2 ^ f) := h6
  have e2 : exV mu wd f w v g = (nMul f (nOf mu) (nOf v)).1 + (stD wd f w g).1 := by unfold exV; rw [e, (stD_ex h2).1]
  exact ⟨by rw [h4, e2], by rw [e2]; exact h3, h2, h5⟩
theorem stU_ex {mu wd : Int} {nest : Bool} {f : Nat} {w v g : Int} (h : (stU mu wd nest f w v g).2 = true) : (stU mu wd nest f w v g).1 = exU mu wd nest f w v g ∧ I64 (exU mu wd nest f w v g) ∧ (stV mu wd f w v g).2 = true ∧ (nest = true → I64 (rn (mu * exV mu wd f w v g) (2 ^ f))) := by
  unfold stU at h ⊢
  cases nest with
  | false =>
    rw [if_neg (by simp)] at h ⊢
    obtain ⟨h1, h2, _⟩ := stV_ex h
    unfold exU
    rw [if_neg (by simp)]
    exact ⟨h1, h2, h, fun e => by cases e⟩
  | true =>
    rw [if_pos rfl] at h ⊢
    obtain ⟨h1, h2, h3, h4⟩ := nAdd_ok h
    obtain ⟨_, h5, h6, h7⟩ := nMul_ok h2
    obtain ⟨h8, _⟩ := stV_ex h5
    have e : (nMul f (nOf mu) (stV mu wd f w v g)).1 = rn (mu * exV mu wd f w v g) (2 ^ f) := by rw [h7, h8]; rfl
    have e2 : exU mu wd true f w v g = (stD wd f w g).1 + (nMul f (nOf mu) (stV mu wd f w v g)).1 := by unfold exU; rw [if_pos rfl, e, (stD_ex h1).1]
    exact ⟨by rw [h4, e2], by rw [e2]; exact h3, h5, fun _ => by rw [h8] at h6; exact h6⟩
theorem stW_ex {lr mu wd : Int} {nest : Bool} {f : Nat} {w v g : Int} (h : (stW lr mu wd nest f w v g).2 = true) : (stW lr mu wd nest f w v g).1 = exW lr mu wd nest f w v g ∧ (stU mu wd nest f w v g).2 = true ∧ I64 (rn (lr * exU mu wd nest f w v g) (2 ^ f)) := by
  unfold stW at h ⊢
  obtain ⟨_, h2, h3, h4⟩ := nSub_ok h
  obtain ⟨_, h5, h6, h7⟩ := nMul_ok h2
  obtain ⟨h8, _⟩ := stU_ex h5
  have e : (nMul f (nOf lr) (stU mu wd nest f w v g)).1 = rn (lr * exU mu wd nest f w v g) (2 ^ f) := by rw [h7, h8]; rfl
  refine ⟨by rw [h4, e]; rfl, h5, ?_⟩
  rw [h8] at h6; exact h6
section
variable {lr mu wd : Int} {nest : Bool} {f : Nat} {w v g : Int}
theorem two_ne (f : Nat) : 2 ^ f ≠ 0 := Nat.ne_of_gt (Nat.pow_pos (by omega))
theorem rnm_neg (a b : Int) (f : Nat) : rn (a * -b) (2 ^ f) = -rn (a * b) (2 ^ f) := by rw [Int.mul_neg]; exact rn_neg _ (two_ne f)
theorem exD_neg : exD wd f (-w) (-g) = -exD wd f w g := by unfold exD; rw [rnm_neg]; omega
theorem exV_neg : exV mu wd f (-w) (-v) (-g) = -exV mu wd f w v g := by unfold exV; rw [rnm_neg, exD_neg]; omega
theorem exU_neg : exU mu wd nest f (-w) (-v) (-g) = -exU mu wd nest f w v g := by
  unfold exU
  cases nest with
  | false => rw [if_neg (by simp), if_neg (by simp)]; exact exV_neg
  | true => rw [if_pos rfl, if_pos rfl, exV_neg, rnm_neg, exD_neg]; omega
theorem exW_neg : exW lr mu wd nest f (-w) (-v) (-g) = -exW lr mu wd nest f w v g := by unfold exW; rw [exU_neg, rnm_neg]; omega
end
end Go.Proofs.Ytckdbcngnghhiaa

/-
  Appends of rows that may be empty, in regions that draw their order.
-/
namespace Go.Proofs.Ytckdbcngnghhiaa
open Go.RowKit
set_option linter.unusedVariables false
set_option linter.unusedSimpArgs false

/-- Nothing is appended. -/
theorem run_app_zero17 {P : Program} (w : World) (t ty e : TypeId) (i : TypeInfo) (ht : P.underlying t = some (.slice e)) (hi : P.info? e = some i) (A B : Option Addr) (n c d : Nat) (hn : n ≤ c) :
    (Builtin.append_ #[t, t] ty #[.slice A n c, .slice B 0 d]).run P w = .ok (.slice A n c) w := by
  simp only [Builtin.append_]
  rcases A with _ | a <;> rcases B with _ | b <;> simp [run_underlying ht, sizeOf, typeInfo, hi, Builtin.firstCells, Builtin.lenOf, hn, storeCells, Result.andThen, go_sem]
theorem app_zero17 {P : Program} {w : World} {ops : Array Oper} {o : Oper} {a : Act} {K : Act → World → Prop} {E : Prop} (hgd : o.guard = none) (s x : Operand) (t : TypeId)
    (ho : o.op = .call { callee := .builtin .append, args := #[s, x], argTypes := #[t, t] }) {Q : Exit → Act → World → Prop} (e : TypeId) (i : TypeInfo) (ht : P.underlying t = some (.slice e)) (hi : P.info? e = some i)
    (A B : Option Addr) (n c d : Nat) (hs : a.eval s = .slice A n c) (hx : a.eval x = .slice B 0 d) (hn : n ≤ c)
    {T : Array Value} (h : K (a.put o.dst (.slice A n c)) w) : if Region.wanted o (yielded ops T) = true then Oper.wp P o a w K Q else E := by
  have hw : Region.wanted o (yielded ops T) = true := by simp [Region.wanted, hgd]
  rw [if_pos hw]
  have hr := run_app_zero17 (P := P) w t o.type e i ht hi A B n c d hn
  unfold Oper.wp execOp
  simp only [ho, resolve, invoke, builtin, Sem.run_bind, Sem.run_pure, Result.andThen_ok, List.map_toArray, List.map_cons, List.map_nil, hs, hx, hr]
  exact h
/-- A row is appended to a row of the call's own; it may be empty. -/
theorem step_app17 {P : Program} {w : World} {ops : Array Oper} {o : Oper} {a : Act} {K : Act → World → Prop} {Q : Exit → Act → World → Prop} {E : Prop} (hgd : o.guard = none) (s x : Operand) (t : TypeId)
    (ho : o.op = .call { callee := .builtin .append, args := #[s, x], argTypes := #[t, t] })
    (base : Nat) (e : TypeId) (i : TypeInfo) (z : Value) (size bytes : Nat) (ht : P.underlying t = some (.slice e)) (hi : P.info? e = some i) (hz : i.zero = some z)
    (hsize : i.size = size) (hby : i.bytes = bytes) (hzs : z.cells.size = size) (hsz : 0 < size)
    (g0 N cp : Nat) (xs : List Value) (hs : a.eval s = .slice (some ⟨g0, 0, none⟩) N cp) (hown : w.ownsRow base e size (.slice (some ⟨g0, 0, none⟩) N cp) N xs)
    (A : Option Addr) (m c : Nat) (news : List Value) (hx : a.eval x = .slice A m c) (hl : news.length = m * size) (hnews : 0 < m → ∃ ad, A = some ad ∧ ∀ j u, news[j]? = some u → w.cell? (ad.add j) = some u) (h1 : ∀ u ∈ news, u.oneCell' = true)
    (h63 : N + m ≤ maxLen) (hbytes : (N + m) * bytes ≤ 140737488355328) (hbase : base ≤ w.heap.size) (R : Nat) (hR : N + m = R)
    {T : Array Value} (h : ∀ g cap w', w'.ownsRow base e size (.slice (some ⟨g, 0, none⟩) R cap) R (xs ++ news) → w.grownBy w' (some g0) → (g = g0 ∨ g = w.heap.size) → g < w'.heap.size → K (a.put o.dst (.slice (some ⟨g, 0, none⟩) R cap)) w') :
    if Region.wanted o (yielded ops T) = true then Oper.wp P o a w K Q else E := by
  subst hR
  rcases Nat.eq_zero_or_pos m with hm | hm
  · subst hm
    have hn0 : news = [] := List.eq_nil_of_length_eq_zero (by omega)
    subst hn0
    have hcp : N ≤ cp := by
      rcases hown.2 with ⟨e1, h0⟩ | ⟨g, cap, cur, e1, _, _, hnc, _⟩
      · cases e1
      · injection e1 with _ _ e2; omega
    refine app_zero17 hgd s x t ho e i ht hi _ A N cp c hs hx hcp ?_
    exact h g0 cp w (by rw [List.append_nil]; exact hown) ⟨rfl, rfl, rfl, Nat.le_refl _, fun _ _ _ => rfl⟩ (.inl rfl) (hown.lt g0 rfl).2
  · obtain ⟨ad, rfl, hn⟩ := hnews hm
    have hw : ∀ T', Region.wanted o (yielded ops T') = true := fun T' => by simp [Region.wanted, hgd]
    have hS := step_append_lies (ops := ops) (K := K) (Q := Q) (E := E) w hgd s x t ho base e i z size bytes ht hi hz hsize hby hzs hsz _ N xs hs hown ad m c news hx hl hn h1 hm h63 hbytes hbase _ rfl (fun g cap w' a1 a2 a3 a4 => h g cap w' a1 a2 ?_ a4)
    · rw [if_pos (hw _)] at hS ⊢; exact hS
    rcases a3 with e1 | e1
    · left; injection e1 with e1; exact e1.symm
    · right; exact e1
theorem ir_news17 {w W : World} {A : Option Addr} {n c : Nat} {l : List Int} (h : IR w A n c l) (hb : Below w.heap.size w W) : 0 < n → ∃ ad, A = some ad ∧ ∀ j u, (l.map encI)[j]? = some u → W.cell? (ad.add j) = some u := fun hn => by
  obtain ⟨b, off, rfl, hlt, hc⟩ := h.2.2 hn
  refine ⟨_, rfl, fun j u hj => ?_⟩
  have e : (⟨b, off, none⟩ : Addr).add j = ⟨b, off + j, none⟩ := by unfold Addr.add; split <;> simp_all
  rw [e, hb.cell (p := ⟨b, off + j, none⟩) hlt]
  rw [List.getElem?_map] at hj
  rcases Nat.lt_or_ge j l.length with q | q
  · rw [hc j (by rw [h.1]; exact q), List.getElem?_eq_getElem q]
    rw [List.getElem?_eq_getElem q] at hj
    simpa [encI] using hj
  · rw [List.getElem?_eq_none q] at hj; simp at hj
theorem one_encI17 (l : List Int) : ∀ u ∈ l.map encI, u.oneCell' = true := fun u hu => by
  obtain ⟨z, _, rfl⟩ := List.mem_map.1 hu; rfl
end Go.Proofs.Ytckdbcngnghhiaa

/-
  Boxes of two new rows that are laid anywhere in a region that draws.
-/
namespace Go.Proofs.Ytckdbcngnghhiaa
open Go.RowKit
set_option linter.unusedVariables false
set_option linter.unusedSimpArgs false

theorem ir_len17 {w : World} {A : Option Addr} {n c : Nat} {l : List Int} (h : IR w A n c l) : n = l.length := h.1
/-- A row keeps what it is where a cell that holds a slice is written. -/
theorem ir_set17 {w : World} {g k : Nat} {u v : Value} {A : Option Addr} {n c : Nat} {l : List Int} (h : IR w A n c l) (o : w.cell? ⟨g, k, none⟩ = some v) (hv : ∀ z, v ≠ .int .i64 z) : IR (w.setCell ⟨g, k, none⟩ u) A n c l :=
  ⟨h.1, h.2.1, fun hp => by
    obtain ⟨b, off, e, hlt, hc⟩ := h.2.2 hp
    refine ⟨b, off, e, by simpa using hlt, fun j hj => ?_⟩
    have hne : (⟨b, off + j, none⟩ : Addr) ≠ ⟨g, k, none⟩ := fun e2 => by
      have h3 := hc j hj
      rw [e2, o] at h3
      exact hv _ (Option.some.inj h3)
    exact (World.cell?_setCell_other _ _ _ _ hne.symm).trans (hc j hj)⟩
theorem ir_put17 {w : World} {g : Nat} {x y z u a b c d : Value} {A : Option Addr} {n k : Nat} {l : List Int} (h : IR w A n k l) (o0 : w.cell? ⟨g, 0, none⟩ = some a) (o1 : w.cell? ⟨g, 1, none⟩ = some b) (o2 : w.cell? ⟨g, 2, none⟩ = some c) (o3 : w.cell? ⟨g, 3, none⟩ = some d) (ha : ∀ z, a ≠ .int .i64 z) (hb : ∀ z, b ≠ .int .i64 z) (hc : ∀ z, c ≠ .int .i64 z) (hd : ∀ z, d ≠ .int .i64 z) : IR (put4 w g x y z u) A n k l := by
  have ne : ∀ {i j : Nat}, i ≠ j → (⟨g, i, none⟩ : Addr) ≠ ⟨g, j, none⟩ := fun h e => h (by injection e)
  have h1 := ir_set17 (u := x) h o0 ha
  have p1 := (World.cell?_setCell_other w ⟨g, 0, none⟩ ⟨g, 1, none⟩ x (ne (by omega))).trans o1
  have p2 := (World.cell?_setCell_other w ⟨g, 0, none⟩ ⟨g, 2, none⟩ x (ne (by omega))).trans o2
  have p3 := (World.cell?_setCell_other w ⟨g, 0, none⟩ ⟨g, 3, none⟩ x (ne (by omega))).trans o3
  have h2 := ir_set17 (u := y) h1 p1 hb
  have q2 := (World.cell?_setCell_other _ ⟨g, 1, none⟩ ⟨g, 2, none⟩ y (ne (by omega))).trans p2
  have q3 := (World.cell?_setCell_other _ ⟨g, 1, none⟩ ⟨g, 3, none⟩ y (ne (by omega))).trans p3
  have h3 := ir_set17 (u := z) h2 q2 hc
  have r3 := (World.cell?_setCell_other _ ⟨g, 2, none⟩ ⟨g, 3, none⟩ z (ne (by omega))).trans q3
  exact ir_set17 (u := u) h3 r3 hd
theorem put4_cells {w : World} {g : Nat} {x y z u a b c d : Value} (o0 : w.cell? ⟨g, 0, none⟩ = some a) (o1 : w.cell? ⟨g, 1, none⟩ = some b) (o2 : w.cell? ⟨g, 2, none⟩ = some c) (o3 : w.cell? ⟨g, 3, none⟩ = some d) : (put4 w g x y z u).cell? ⟨g, 0, none⟩ = some x ∧ (put4 w g x y z u).cell? ⟨g, 1, none⟩ = some y ∧ (put4 w g x y z u).cell? ⟨g, 2, none⟩ = some z ∧ (put4 w g x y z u).cell? ⟨g, 3, none⟩ = some u := by
  unfold put4
  simp [go_sem, o0, o1, o2, o3]
theorem below_al17 {V W : World} (o : Obj) (h : Below V.heap.size V W) : Below V.heap.size V (W.alloc o) := h.alloc h.size o
theorem below_dr17 {n : Nat} {V W : World} (h : Below n V W) : Below n V W.drew := below_drewN h 1
theorem below_sc17 {n : Nat} {V W : World} {g o : Nat} (u : Value) (h : Below n V W) (x : Unit) (hg : n ≤ g) : Below n V (W.setCell ⟨g, o, none⟩ u) := h.setCell (p := ⟨g, o, none⟩) hg u
/-- A new box of two rows. -/
def LoneT17 (V U : World) (g : Nat) (A : Option Addr) (n c : Nat) (B : Option Addr) (m d : Nat) (X Y : List Int) : Prop :=
  (U.cell? ⟨g, 0, none⟩ = some (.slice A n c) ∧ U.cell? ⟨g, 1, none⟩ = some (.slice B m d) ∧ U.cell? ⟨g, 2, none⟩ = some (.slice none 0 0) ∧ U.cell? ⟨g, 3, none⟩ = some (.slice none 0 0)) ∧ IR U A n c X ∧ IR U B m d Y ∧ Below V.heap.size V U ∧ V.heap.size ≤ g
section
variable {V wz : World} {g : Nat} {A B : Option Addr} {n c m d : Nat} {X Y : List Int}
theorem loneTA (hX : IR wz A n c X) (hY : IR wz B m d Y) (qq : Below V.heap.size V wz) (T : TypeId) : LoneT17 V (wz.alloc (.cells #[.slice A n c, .slice B m d, .slice none 0 0, .slice none 0 0] T)) wz.heap.size A n c B m d X Y := by
  have b := one_upD wz (.cells #[.slice A n c, .slice B m d, .slice none 0 0, .slice none 0 0] T)
  exact ⟨cells4 (World.alloc_heap_new wz _), hX.on b, hY.on b, qq.alloc qq.size _, qq.size⟩
theorem loneTB (o0 : wz.cell? ⟨g, 0, none⟩ = some (.slice none 0 0)) (o1 : wz.cell? ⟨g, 1, none⟩ = some (.slice none 0 0)) (o2 : wz.cell? ⟨g, 2, none⟩ = some (.slice none 0 0)) (o3 : wz.cell? ⟨g, 3, none⟩ = some (.slice none 0 0)) (hX : IR wz A n c X) (hY : IR wz B m d Y) (qq : Below V.heap.size V wz) (l : V.heap.size ≤ g) : LoneT17 V (put4 wz g (.slice A n c) (.slice B m d) (.slice none 0 0) (.slice none 0 0)) g A n c B m d X Y :=
  have hs : ∀ (z : Int), Value.slice none 0 0 ≠ .int .i64 z := fun z e => by cases e
  ⟨put4_cells o0 o1 o2 o3, ir_put17 hX o0 o1 o2 o3 hs hs hs hs, ir_put17 hY o0 o1 o2 o3 hs hs hs hs, below_put4 qq l _ _ _ _, l⟩
end
end Go.Proofs.Ytckdbcngnghhiaa

/-
  The law's helper: rows, the other way round.
-/
namespace Go.Proofs.Ytckdbcngnghhiaa
set_option maxRecDepth 100000
open Go.RowKit
set_option linter.unusedVariables false
set_option linter.unusedSimpArgs false

/-- The other way round, as 64 bits have it. -/
def ng17 (x : Int) : Int := IntKind.i64.wrap (-x)
theorem take_at17 {L : List Int} {i : Nat} (h : i < L.length) : L.take (i + 1) = L.take i ++ [L[i]?.getD 0] := by
  rw [List.take_add_one, List.getElem?_eq_getElem h]; rfl
theorem cell_one_newD17 (w : World) (y : Value) (T : TypeId) : ∀ j u, [y][j]? = some u → ((w.alloc (.cells #[y] T)).drew).cell? ((⟨w.heap.size, 0, none⟩ : Addr).add j) = some u := fun j u e => by
  rcases j with _ | j
  · have e2 : y = u := by simpa using e
    subst e2
    show (w.alloc (.cells #[y] T)).drew.cell? ⟨w.heap.size, 0, none⟩ = some y
    simp [go_sem]
  · simp at e
/-- A row of the call's own, in a box, has grown by a number. -/
theorem push17 {t go k n g1 cap1 cp : Nat} {p : Option Addr} {w w0 w1 : World} {cs : Array Value} {T : TypeId} {L : List Int} {y : Int} (z : w.heap[go]? = some (.cells cs T)) (hO : w.ownsRow t 2 1 (.slice p n cp) n (L.map encI)) (hgo : go < t) (ht : t ≤ w.heap.size) (h0 : Below w.heap.size w w0)
    (hown1 : w1.ownsRow t 2 1 (.slice (some ⟨g1, 0, none⟩) (n + 1) cap1) (n + 1) (L.map encI ++ [.int .i64 y])) (hgrow : w0.grownBy w1 (Value.slice p n cp).ownBlock) (hat : (Value.slice p n cp).ownBlock = some g1 ∨ g1 = w0.heap.size) :
    (w1.setCell ⟨go, k, none⟩ (.slice (some ⟨g1, 0, none⟩) (n + 1) cap1)).heap[go]? = some (.cells (cs.setIfInBounds k (.slice (some ⟨g1, 0, none⟩) (n + 1) cap1)) T) ∧ (w1.setCell ⟨go, k, none⟩ (.slice (some ⟨g1, 0, none⟩) (n + 1) cap1)).ownsRow t 2 1 (.slice (some ⟨g1, 0, none⟩) (n + 1) cap1) (n + 1) ((L ++ [y]).map encI) ∧
    Below go w (w1.setCell ⟨go, k, none⟩ (.slice (some ⟨g1, 0, none⟩) (n + 1) cap1)) ∧ (∀ b, b < w.heap.size → b ≠ go → (Value.slice p n cp).ownBlock ≠ some b → (w1.setCell ⟨go, k, none⟩ (.slice (some ⟨g1, 0, none⟩) (n + 1) cap1)).heap[b]? = w.heap[b]? ∧ g1 ≠ b) ∧ w1.heap[go]? = some (.cells cs T) ∧ t ≤ (w1.setCell ⟨go, k, none⟩ (.slice (some ⟨g1, 0, none⟩) (n + 1) cap1)).heap.size := by
  have hs := h0.size
  have hgl := (Array.getElem?_eq_some_iff.1 z).1
  have b : Below go w w1 := (h0.mono (by omega)).grown hgrow (by omega) (fun k e => by have := (hO.lt k e).1; omega)
  have z1 : w1.heap[go]? = some (.cells cs T) := by rw [hgrow.block go (by omega) (fun e => by have := (hO.lt go e.symm).1; omega), h0.block go hgl]; exact z
  refine ⟨put_cell1 z1, ?_, b.setCell (p := ⟨go, k, none⟩) (Nat.le_refl go) _, fun b hb hne hno => ⟨?_, fun e => ?_⟩, z1, by have := hgrow.size; simp at this ⊢; omega⟩
  · rw [List.map_append]
    exact own_any17 hown1 (fun g e => heap_setCell_other w1 ⟨go, k, none⟩ g _ (by have := (hown1.lt g e).1; show g ≠ go; omega))
  · rw [heap_setCell_other w1 ⟨go, k, none⟩ b _ hne, hgrow.block b (by omega) (fun e => hno e.symm), h0.block b hb]
  · rcases hat with e3 | e3
    · exact hno (by rw [e3, e])
    · omega
/-- Four rows are answered. -/
def GotR17 (w : World) (LW LM LV LG : List Int) (e : Ending) (w' : World) : Prop :=
  ∃ A n c B m d C k h D r o, e = .returned (.agg #[.slice A n c, .slice B m d, .slice C k h, .slice D r o]) ∧ IR w' A n c LW ∧ IR w' B m d LM ∧ IR w' C k h LV ∧ IR w' D r o LG ∧ Below w.heap.size w w'
theorem ir_own_put4 {t g : Nat} {w' : World} {A : Option Addr} {n c : Nat} {L : List Int} (hO : w'.ownsRow t 2 1 (.slice A n c) n (L.map encI)) (hgt : g < t) (x y z u : Value) : IR (put4 w' g x y z u) A n c L := by
  refine ir_keep17 (IR.of_own hO) (fun r _ e => put4_far ?_) (by unfold put4; simp)
  rcases hO.2 with ⟨e1, _⟩ | ⟨g', cap', cur, hv, hg', _⟩
  · rw [e] at e1; cases e1
  · injection hv with e2; rw [e] at e2; injection e2 with e2; rw [e2]; show g' ≠ g; omega
set_option maxHeartbeats 8000000 in
theorem turned17_N {w : World} {Aw : Option Addr} {nw cw : Nat} {Am : Option Addr} {nm cm : Nat} {Av : Option Addr} {nv cv : Nat} {Ag : Option Addr} {ng_ cg : Nat} {LW LM LG : List Int} (hW : IR w Aw nw cw LW) (hM : IR w Am nm cm LM) (hG : IR w Ag ng_ cg LG) (kw : nw ≤ 100) (km : nm ≤ 100) (kg : ng_ ≤ 100) :
    Calls Try.prog 22 #[.agg #[.slice Aw nw cw, .slice Am nm cm, .slice Av nv cv, .slice Ag ng_ cg]] w (GotR17 w (LW.map ng17) (LM.map ng17) [] (LG.map ng17)) := by
  have HTW : Hid (∀ i, i < nw → (LW.take (i + 1)).map ng17 = (LW.take i).map ng17 ++ [ng17 (LW[i]?.getD 0)]) := Lib.hid (fun i h => by rw [take_at17 (by rw [← hW.1]; exact h), List.map_append]; rfl)
  have HEW : Hid ((LW.take nw).map ng17 = LW.map ng17) := Lib.hid (by rw [List.take_of_length_le (by rw [hW.1]; exact Nat.le_refl _)])
  have HTM : Hid (∀ i, i < nm → (LM.take (i + 1)).map ng17 = (LM.take i).map ng17 ++ [ng17 (LM[i]?.getD 0)]) := Lib.hid (fun i h => by rw [take_at17 (by rw [← hM.1]; exact h), List.map_append]; rfl)
  have HEM : Hid ((LM.take nm).map ng17 = LM.map ng17) := Lib.hid (by rw [List.take_of_length_le (by rw [hM.1]; exact Nat.le_refl _)])
  have HTG : Hid (∀ i, i < ng_ → (LG.take (i + 1)).map ng17 = (LG.take i).map ng17 ++ [ng17 (LG[i]?.getD 0)]) := Lib.hid (fun i h => by rw [take_at17 (by rw [← hG.1]; exact h), List.map_append]; rfl)
  have HEG : Hid ((LG.take ng_).map ng17 = LG.map ng17) := Lib.hid (by rw [List.take_of_length_le (by rw [hG.1]; exact Nat.le_refl _)])
  obtain ⟨i0, hi, hz0, hz1, hz2⟩ := info_parts infoI
  have cc := Below.refl w.heap.size w
  go_enter Try.func22, Try.ntmps22
  go_upto_region 2 with fail
  have NW : ∀ (W : World) (o : Obj), (W.alloc o).heap[W.heap.size]? = some o := fun W o => World.alloc_heap_new W o
  have zl : (((w.alloc (.cells #[.slice Aw nw cw, .slice Am nm cm, .slice Av nv cv, .slice Ag ng_ cg] 26)).alloc (.cells #[.slice none 0 0, .slice none 0 0, .slice none 0 0, .slice none 0 0] 26)).alloc (.cells #[.slice none 0 0, .slice none 0 0, .slice none 0 0, .slice none 0 0] 26)).heap[w.heap.size]? = some (.cells #[.slice Aw nw cw, .slice Am nm cm, .slice Av nv cv, .slice Ag ng_ cg] 26) := heap_up (heap_up (NW _ _))
  have zg : (((w.alloc (.cells #[.slice Aw nw cw, .slice Am nm cm, .slice Av nv cv, .slice Ag ng_ cg] 26)).alloc (.cells #[.slice none 0 0, .slice none 0 0, .slice none 0 0, .slice none 0 0] 26)).alloc (.cells #[.slice none 0 0, .slice none 0 0, .slice none 0 0, .slice none 0 0] 26)).heap[w.heap.size + 1]? = some (.cells #[.slice none 0 0, .slice none 0 0, .slice none 0 0, .slice none 0 0] 26) := heap_up (by have h := NW (w.alloc (.cells #[.slice Aw nw cw, .slice Am nm cm, .slice Av nv cv, .slice Ag ng_ cg] 26)) (.cells #[.slice none 0 0, .slice none 0 0, .slice none 0 0, .slice none 0 0] 26); simpa only [World.size_alloc] using h)
  have zo : (((w.alloc (.cells #[.slice Aw nw cw, .slice Am nm cm, .slice Av nv cv, .slice Ag ng_ cg] 26)).alloc (.cells #[.slice none 0 0, .slice none 0 0, .slice none 0 0, .slice none 0 0] 26)).alloc (.cells #[.slice none 0 0, .slice none 0 0, .slice none 0 0, .slice none 0 0] 26)).heap[w.heap.size + 1 + 1]? = some (.cells #[.slice none 0 0, .slice none 0 0, .slice none 0 0, .slice none 0 0] 26) := by have h := NW ((w.alloc (.cells #[.slice Aw nw cw, .slice Am nm cm, .slice Av nv cv, .slice Ag ng_ cg] 26)).alloc (.cells #[.slice none 0 0, .slice none 0 0, .slice none 0 0, .slice none 0 0] 26)) (.cells #[.slice none 0 0, .slice none 0 0, .slice none 0 0, .slice none 0 0] 26); simpa only [World.size_alloc] using h
  have hts : (((w.alloc (.cells #[.slice Aw nw cw, .slice Am nm cm, .slice Av nv cv, .slice Ag ng_ cg] 26)).alloc (.cells #[.slice none 0 0, .slice none 0 0, .slice none 0 0, .slice none 0 0] 26)).alloc (.cells #[.slice none 0 0, .slice none 0 0, .slice none 0 0, .slice none 0 0] 26)).heap.size = w.heap.size + 1 + 1 + 1 := by simp
  have bA : Below w.heap.size w (((w.alloc (.cells #[.slice Aw nw cw, .slice Am nm cm, .slice Av nv cv, .slice Ag ng_ cg] 26)).alloc (.cells #[.slice none 0 0, .slice none 0 0, .slice none 0 0, .slice none 0 0] 26)).alloc (.cells #[.slice none 0 0, .slice none 0 0, .slice none 0 0, .slice none 0 0] 26)) := ((((Below.refl _ w).alloc (by simp) _).alloc (by simp) _).alloc (by simp <;> omega) _)
  replace cc := bK cc bA
  clear bA NW
  generalize ((w.alloc (.cells #[.slice Aw nw cw, .slice Am nm cm, .slice Av nv cv, .slice Ag ng_ cg] 26)).alloc (.cells #[.slice none 0 0, .slice none 0 0, .slice none 0 0, .slice none 0 0] 26)).alloc (.cells #[.slice none 0 0, .slice none 0 0, .slice none 0 0, .slice none 0 0] 26) = V at *
  obtain ⟨go, ego⟩ : ∃ g, w.heap.size + 1 + 1 = g := ⟨_, rfl⟩
  rw [ego] at zo hts ⊢
  have hgo : w.heap.size + 1 < go := by omega
  clear ego
  have HZL := Lib.hid zl
  have HZG := Lib.hid zg
  have HC := Lib.hid cc
  have HGO := Lib.hid hgo
  have HW := Lib.hid hW
  have HM := Lib.hid hM
  have HG := Lib.hid hG
  have lt := fun {W : World} {b : Nat} {o : Obj} (h : W.heap[b]? = some o) => (Array.getElem?_eq_some_iff.1 h).1
  have Z0 : V.ownsRow (go + 1) 2 1 (.slice none 0 0) 0 ([]) := World.ownsRow_nil _ _ _ _
  clear zl zg hW hM hG cc hgo
  have bl := Below.refl go V
  have hts_ : go + 1 ≤ V.heap.size := by omega
  clear hts
  have ZO := Lib.hid zo
  have BL := Lib.hid bl
  have TS := Lib.hid hts_
  have OZ := Lib.hid Z0
  clear zo bl hts_ Z0
  go_wp2_with fail
  go_loopw [4] (fun iv wr => ∃ (i : Nat) (p : Option Addr) (cp : Nat), i ≤ nw ∧ iv = .int .i64 (i : Int) ∧ wr.heap[go]? = some (.cells #[.slice p i cp, .slice none 0 0, .slice none 0 0, .slice none 0 0] 26) ∧ wr.ownsRow (go + 1) 2 1 (.slice p i cp) i (((LW.take i).map ng17).map encI) ∧ Below go V wr ∧ go + 1 ≤ wr.heap.size) (fun iv _ => nw - (intOf iv).toNat)
  case atStart => exact ⟨0, none, 0, by omega, rfl, ZO.out, OZ.out, BL.out, TS.out⟩
  case round =>
    clear ZO BL TS OZ
    obtain ⟨i, p, cp, hi_, rfl, zo, hO, bl, hts_⟩ := hrel
    have hgo := HGO.out
    have zl := (bl.block _ (show w.heap.size < go by omega)).trans HZL.out
    obtain ⟨xa0, xa1, xa2, xa3⟩ := cells4 zl
    by_cases hlt : i < nw
    · have cc := HC.out.trans (bl.mono (show w.heap.size ≤ go by omega))
      obtain ⟨bw, ow, rfl, lbw, cW⟩ := HW.out.2.2 (by omega)
      have e1 := (cc.cell (p := ⟨bw, ow + i, none⟩) lbw).trans (cW i hlt)
      have hT := HTW.out i hlt
      obtain ⟨x, ex⟩ : ∃ x, LW[i]?.getD 0 = x := ⟨_, rfl⟩
      rw [ex] at e1 hT
      obtain ⟨y, ey⟩ : ∃ y, ng17 x = y := ⟨_, rfl⟩
      rw [ey] at hT
      have kx : IntKind.i64.wrap (-x) = y := ey
      have HTi := Lib.hid hT
      have jlt : (i : Int) < (nw : Int) := by omega
      have k4_ : IntKind.i64.wrap ((i : Int) + 1) = ((i + 1 : Nat) : Int) := by rw [IntWalk.i64_in _ (by omega)]; omega
      clear cW ex ey hT
      obtain ⟨o0, o1, o2, o3⟩ := cells4 zo
      go_upto_region 5 with fail
      have qD : Below wr.heap.size wr wr.drew := below_drewN (Below.refl _ wr) 1
      have qA : Below wr.heap.size wr ((wr.alloc (.cells #[.int .i64 y] 2)).drew) := below_drewN (below_one _ _) 1
      have lgo := lt zo
      have ll := lt zl
      have lb : bw < wr.heap.size := by have := cc.size; omega
      have ohd := cK qD o0 lgo
      have xhd := cK qD xa0 ll
      have ehd := cK qD e1 lb
      have oha := cK qA o0 lgo
      have xha := cK qA xa0 ll
      have eha := cK qA e1 lb
      have hOA := (hO.alloc (.cells #[.int .i64 y] 2)).drew
      have hN : ∀ j u, [Value.int .i64 y][j]? = some u → ((wr.alloc (.cells #[.int .i64 y] 2)).drew).cell? ((⟨wr.heap.size, 0, none⟩ : Addr).add j) = some u := cell_one_newD17 wr _ _
      have HOO := Lib.hid hO
      have ZOO := Lib.hid zo
      clear hO zo
      clear o0 o1 o2 o3 xa0 xa1 xa2 xa3 e1
      go_region_law (refine step_append_lies _ rfl _ _ 24 rfl (go + 1) 2 i0 (.int .i64 0) 1 8 Try.underlying24 hi hz0 hz1 hz2 rfl (by decide) _ _ _ rfl hOA ⟨wr.heap.size, 0, none⟩ 1 1 [.int .i64 y] rfl rfl hN (by simp [Value.oneCell']) (by omega) (by unfold maxLen; omega) (by omega) (by simp; omega) _ rfl ?_; intro g1 cap1 w1 hown1 hgrow1 hat1 hlt1; have HP := Lib.hid (push17 (k := 0) ZOO.out HOO.out (show go < go + 1 by omega) hts_ qA hown1 hgrow1 hat1); have z1_ := HP.out.2.2.2.2.1; have fo := fro_of 0 z1_; have oh1 := (cells4 z1_).1)
      all_goals (go_wp2_with fail; go_roundw)
      all_goals first | (obtain ⟨p1, p2, p3, p4, _, p6⟩ := HP.out; exact ⟨i + 1, _, _, by omega, by go_num, p1, by rw [HTi.out]; exact p2, bl.trans p3, p6⟩) | (simp [intOf] <;> omega)
    · obtain rfl : nw = i := by omega
      rw [HEW.out] at hO
      have jlW : ¬ ((nw : Int) < (nw : Int)) := by omega
      obtain ⟨pW, rfl⟩ : ∃ q, q = p := ⟨_, rfl⟩
      obtain ⟨cW_, rfl⟩ : ∃ q, q = cp := ⟨_, rfl⟩
      obtain ⟨wv0, rfl⟩ : ∃ W, W = wr := ⟨_, rfl⟩
      have ownW := hO
      have Z0 : wv0.ownsRow (go + 1) 2 1 (.slice none 0 0) 0 ([]) := World.ownsRow_nil _ _ _ _
      clear hO
      have ZO := Lib.hid zo
      have BL := Lib.hid bl
      have TS := Lib.hid hts_
      have OZ := Lib.hid Z0
      have OW := Lib.hid ownW
      clear zo bl hts_ Z0 ownW
      go_wp2_with fail
      go_loopw [5] (fun iv wr => ∃ (i : Nat) (p : Option Addr) (cp : Nat), i ≤ nm ∧ iv = .int .i64 (i : Int) ∧ wr.heap[go]? = some (.cells #[.slice pW nw cW_, .slice p i cp, .slice none 0 0, .slice none 0 0] 26) ∧ wr.ownsRow (go + 1) 2 1 (.slice p i cp) i (((LM.take i).map ng17).map encI) ∧ wr.ownsRow (go + 1) 2 1 (.slice pW nw cW_) nw ((LW.map ng17).map encI) ∧ (∀ a, (Value.slice p i cp).ownBlock = some a → (Value.slice pW nw cW_).ownBlock ≠ some a) ∧ Below go V wr ∧ go + 1 ≤ wr.heap.size) (fun iv _ => nm - (intOf iv).toNat)
      case atStart => exact ⟨0, none, 0, by omega, rfl, ZO.out, OZ.out, OW.out, (fun a e => by cases e), BL.out, TS.out⟩
      case round =>
        clear ZO BL TS OZ OW
        obtain ⟨i, p, cp, hi_, rfl, zo, hO, ownW, neW, bl, hts_⟩ := hrel
        have hgo := HGO.out
        have zl := (bl.block _ (show w.heap.size < go by omega)).trans HZL.out
        obtain ⟨xa0, xa1, xa2, xa3⟩ := cells4 zl
        by_cases hlt : i < nm
        · have cc := HC.out.trans (bl.mono (show w.heap.size ≤ go by omega))
          obtain ⟨bw, ow, rfl, lbw, cW⟩ := HM.out.2.2 (by omega)
          have e1 := (cc.cell (p := ⟨bw, ow + i, none⟩) lbw).trans (cW i hlt)
          have hT := HTM.out i hlt
          obtain ⟨x, ex⟩ : ∃ x, LM[i]?.getD 0 = x := ⟨_, rfl⟩
          rw [ex] at e1 hT
          obtain ⟨y, ey⟩ : ∃ y, ng17 x = y := ⟨_, rfl⟩
          rw [ey] at hT
          have kx : IntKind.i64.wrap (-x) = y := ey
          have HTi := Lib.hid hT
          have jlt : (i : Int) < (nm : Int) := by omega
          have k4_ : IntKind.i64.wrap ((i : Int) + 1) = ((i + 1 : Nat) : Int) := by rw [IntWalk.i64_in _ (by omega)]; omega
          clear cW ex ey hT
          obtain ⟨o0, o1, o2, o3⟩ := cells4 zo
          go_upto_region 9 with fail
          have qD : Below wr.heap.size wr wr.drew := below_drewN (Below.refl _ wr) 1
          have qA : Below wr.heap.size wr ((wr.alloc (.cells #[.int .i64 y] 2)).drew) := below_drewN (below_one _ _) 1
          have lgo := lt zo
          have ll := lt zl
          have lb : bw < wr.heap.size := by have := cc.size; omega
          have ohd := cK qD o1 lgo
          have xhd := cK qD xa1 ll
          have ehd := cK qD e1 lb
          have oha := cK qA o1 lgo
          have xha := cK qA xa1 ll
          have eha := cK qA e1 lb
          have hOA := (hO.alloc (.cells #[.int .i64 y] 2)).drew
          have hN : ∀ j u, [Value.int .i64 y][j]? = some u → ((wr.alloc (.cells #[.int .i64 y] 2)).drew).cell? ((⟨wr.heap.size, 0, none⟩ : Addr).add j) = some u := cell_one_newD17 wr _ _
          have HOO := Lib.hid hO
          have ZOO := Lib.hid zo
          clear hO zo
          clear o0 o1 o2 o3 xa0 xa1 xa2 xa3 e1
          go_region_law (refine step_append_lies _ rfl _ _ 24 rfl (go + 1) 2 i0 (.int .i64 0) 1 8 Try.underlying24 hi hz0 hz1 hz2 rfl (by decide) _ _ _ rfl hOA ⟨wr.heap.size, 0, none⟩ 1 1 [.int .i64 y] rfl rfl hN (by simp [Value.oneCell']) (by omega) (by unfold maxLen; omega) (by omega) (by simp; omega) _ rfl ?_; intro g1 cap1 w1 hown1 hgrow1 hat1 hlt1; have HP := Lib.hid (push17 (k := 1) ZOO.out HOO.out (show go < go + 1 by omega) hts_ qA hown1 hgrow1 hat1); have z1_ := HP.out.2.2.2.2.1; have fo := fro_of 1 z1_; have oh1 := (cells4 z1_).2.1)
          all_goals (go_wp2_with fail; go_roundw)
          all_goals first | (obtain ⟨p1, p2, p3, p4, _, p6⟩ := HP.out; exact ⟨i + 1, _, _, by omega, by go_num, p1, by rw [HTi.out]; exact p2, own_any17 ownW (fun g e => (p4 g (ownW.lt g e).2 (by have := (ownW.lt g e).1; omega) (fun e2 => neW g e2 e)).1), (fun a e e2 => by have e3 : g1 = a := (by injection e); exact (p4 a (ownW.lt a e2).2 (by have := (ownW.lt a e2).1; omega) (fun e4 => neW a e4 e2)).2 e3), bl.trans p3, p6⟩) | (simp [intOf] <;> omega)
        · obtain rfl : nm = i := by omega
          rw [HEM.out] at hO
          have jlM : ¬ ((nm : Int) < (nm : Int)) := by omega
          obtain ⟨pM, rfl⟩ : ∃ q, q = p := ⟨_, rfl⟩
          obtain ⟨cM_, rfl⟩ : ∃ q, q = cp := ⟨_, rfl⟩
          obtain ⟨wv1, rfl⟩ : ∃ W, W = wr := ⟨_, rfl⟩
          have ownM := hO
          have Z0 : wv1.ownsRow (go + 1) 2 1 (.slice none 0 0) 0 ([]) := World.ownsRow_nil _ _ _ _
          clear hO
          have ZO := Lib.hid zo
          have BL := Lib.hid bl
          have TS := Lib.hid hts_
          have OZ := Lib.hid Z0
          have OW := Lib.hid ownW
          have OM := Lib.hid ownM
          clear zo bl hts_ Z0 ownW ownM
          go_wp2_with fail
          go_loopw [6] (fun iv wr => ∃ (i : Nat) (p : Option Addr) (cp : Nat), i ≤ ng_ ∧ iv = .int .i64 (i : Int) ∧ wr.heap[go]? = some (.cells #[.slice pW nw cW_, .slice pM nm cM_, .slice none 0 0, .slice p i cp] 26) ∧ wr.ownsRow (go + 1) 2 1 (.slice p i cp) i (((LG.take i).map ng17).map encI) ∧ wr.ownsRow (go + 1) 2 1 (.slice pW nw cW_) nw ((LW.map ng17).map encI) ∧ (∀ a, (Value.slice p i cp).ownBlock = some a → (Value.slice pW nw cW_).ownBlock ≠ some a) ∧ wr.ownsRow (go + 1) 2 1 (.slice pM nm cM_) nm ((LM.map ng17).map encI) ∧ (∀ a, (Value.slice p i cp).ownBlock = some a → (Value.slice pM nm cM_).ownBlock ≠ some a) ∧ Below go V wr ∧ go + 1 ≤ wr.heap.size) (fun iv _ => ng_ - (intOf iv).toNat)
          case atStart => exact ⟨0, none, 0, by omega, rfl, ZO.out, OZ.out, OW.out, (fun a e => by cases e), OM.out, (fun a e => by cases e), BL.out, TS.out⟩
          case round =>
            clear ZO BL TS OZ OW OM
            obtain ⟨i, p, cp, hi_, rfl, zo, hO, ownW, neW, ownM, neM, bl, hts_⟩ := hrel
            have hgo := HGO.out
            have zl := (bl.block _ (show w.heap.size < go by omega)).trans HZL.out
            obtain ⟨xa0, xa1, xa2, xa3⟩ := cells4 zl
            by_cases hlt : i < ng_
            · have cc := HC.out.trans (bl.mono (show w.heap.size ≤ go by omega))
              obtain ⟨bw, ow, rfl, lbw, cW⟩ := HG.out.2.2 (by omega)
              have e1 := (cc.cell (p := ⟨bw, ow + i, none⟩) lbw).trans (cW i hlt)
              have hT := HTG.out i hlt
              obtain ⟨x, ex⟩ : ∃ x, LG[i]?.getD 0 = x := ⟨_, rfl⟩
              rw [ex] at e1 hT
              obtain ⟨y, ey⟩ : ∃ y, ng17 x = y := ⟨_, rfl⟩
              rw [ey] at hT
              have kx : IntKind.i64.wrap (-x) = y := ey
              have HTi := Lib.hid hT
              have jlt : (i : Int) < (ng_ : Int) := by omega
              have k4_ : IntKind.i64.wrap ((i : Int) + 1) = ((i + 1 : Nat) : Int) := by rw [IntWalk.i64_in _ (by omega)]; omega
              clear cW ex ey hT
              obtain ⟨o0, o1, o2, o3⟩ := cells4 zo
              go_upto_region 13 with fail
              have qD : Below wr.heap.size wr wr.drew := below_drewN (Below.refl _ wr) 1
              have qA : Below wr.heap.size wr ((wr.alloc (.cells #[.int .i64 y] 2)).drew) := below_drewN (below_one _ _) 1
              have lgo := lt zo
              have ll := lt zl
              have lb : bw < wr.heap.size := by have := cc.size; omega
              have ohd := cK qD o3 lgo
              have xhd := cK qD xa3 ll
              have ehd := cK qD e1 lb
              have oha := cK qA o3 lgo
              have xha := cK qA xa3 ll
              have eha := cK qA e1 lb
              have hOA := (hO.alloc (.cells #[.int .i64 y] 2)).drew
              have hN : ∀ j u, [Value.int .i64 y][j]? = some u → ((wr.alloc (.cells #[.int .i64 y] 2)).drew).cell? ((⟨wr.heap.size, 0, none⟩ : Addr).add j) = some u := cell_one_newD17 wr _ _
              have HOO := Lib.hid hO
              have ZOO := Lib.hid zo
              clear hO zo
              clear o0 o1 o2 o3 xa0 xa1 xa2 xa3 e1
              go_region_law (refine step_append_lies _ rfl _ _ 24 rfl (go + 1) 2 i0 (.int .i64 0) 1 8 Try.underlying24 hi hz0 hz1 hz2 rfl (by decide) _ _ _ rfl hOA ⟨wr.heap.size, 0, none⟩ 1 1 [.int .i64 y] rfl rfl hN (by simp [Value.oneCell']) (by omega) (by unfold maxLen; omega) (by omega) (by simp; omega) _ rfl ?_; intro g1 cap1 w1 hown1 hgrow1 hat1 hlt1; have HP := Lib.hid (push17 (k := 3) ZOO.out HOO.out (show go < go + 1 by omega) hts_ qA hown1 hgrow1 hat1); have z1_ := HP.out.2.2.2.2.1; have fo := fro_of 3 z1_; have oh1 := (cells4 z1_).2.2.2)
              all_goals (go_wp2_with fail; go_roundw)
              all_goals first | (obtain ⟨p1, p2, p3, p4, _, p6⟩ := HP.out; exact ⟨i + 1, _, _, by omega, by go_num, p1, by rw [HTi.out]; exact p2, own_any17 ownW (fun g e => (p4 g (ownW.lt g e).2 (by have := (ownW.lt g e).1; omega) (fun e2 => neW g e2 e)).1), (fun a e e2 => by have e3 : g1 = a := (by injection e); exact (p4 a (ownW.lt a e2).2 (by have := (ownW.lt a e2).1; omega) (fun e4 => neW a e4 e2)).2 e3), own_any17 ownM (fun g e => (p4 g (ownM.lt g e).2 (by have := (ownM.lt g e).1; omega) (fun e2 => neM g e2 e)).1), (fun a e e2 => by have e3 : g1 = a := (by injection e); exact (p4 a (ownM.lt a e2).2 (by have := (ownM.lt a e2).1; omega) (fun e4 => neM a e4 e2)).2 e3), bl.trans p3, p6⟩) | (simp [intOf] <;> omega)
            · obtain rfl : ng_ = i := by omega
              rw [HEG.out] at hO
              have jlG : ¬ ((ng_ : Int) < (ng_ : Int)) := by omega
              obtain ⟨o0, o1, o2, o3⟩ := cells4 zo
              have zg := (bl.block _ (show w.heap.size + 1 < go by omega)).trans HZG.out
              obtain ⟨g0, g1, g2, g3⟩ := cells4 zg
              have f0 := fro_of 0 zg
              have f1 := fro_of 1 zg
              have f2 := fro_of 2 zg
              have f3 := fro_of 3 zg
              have cc := HC.out.trans (bl.mono (show w.heap.size ≤ go by omega))
              have HRW := Lib.hid (ir_own_put4 ownW (show w.heap.size + 1 < go + 1 by omega) (.slice pW nw cW_) (.slice pM nm cM_) (.slice none 0 0) (.slice p ng_ cp))
              have HRM := Lib.hid (ir_own_put4 ownM (show w.heap.size + 1 < go + 1 by omega) (.slice pW nw cW_) (.slice pM nm cM_) (.slice none 0 0) (.slice p ng_ cp))
              have HRG := Lib.hid (ir_own_put4 hO (show w.heap.size + 1 < go + 1 by omega) (.slice pW nw cW_) (.slice pM nm cM_) (.slice none 0 0) (.slice p ng_ cp))
              have HBF := Lib.hid (below_put4 cc (show w.heap.size ≤ w.heap.size + 1 by omega) (.slice pW nw cW_) (.slice pM nm cM_) (.slice none 0 0) (.slice p ng_ cp))
              clear zo zg zl bl cc hO ownW ownM neW neM
              go_wp2_with fail
              refine bodyPost_ret (v := .agg #[.slice pW nw cW_, .slice pM nm cM_, .slice none 0 0, .slice p ng_ cp]) (by simp [results, Try.results22, go_sem, g0, g1, g2, g3]) rfl ⟨_, _, _, _, _, _, _, _, _, _, _, _, rfl, HRW.out, HRM.out, IR.nil _ _ _, HRG.out, HBF.out⟩
end Go.Proofs.Ytckdbcngnghhiaa

/-
  Rows of steps, the other way round; numbers alone.
-/
namespace Go.Proofs.Ytckdbcngnghhiaa
set_option linter.unusedVariables false
set_option linter.unusedSimpArgs false

theorem ng_is {x : Int} (h : I64 x) (h2 : x ≠ -9223372036854775808) : ng17 x = -x := by
  unfold ng17
  exact IntWalk.i64_in _ (by unfold I64 at h; omega)
theorem ng_i64 (x : Int) : I64 (ng17 x) := by
  unfold ng17 I64
  have := IntKind.wrap_i64 (-x)
  omega
section
variable {lr mu wd : Int} {nest : Bool} {f : Nat}
theorem rowV_neg : ∀ {W V G : List Int}, rowOK lr mu wd nest f W V G = true → rowOK lr mu wd nest f (W.map ng17) (V.map ng17) (G.map ng17) = true → (∀ z ∈ W, I64 z ∧ z ≠ -9223372036854775808) → (∀ z ∈ V, I64 z ∧ z ≠ -9223372036854775808) → (∀ z ∈ G, I64 z ∧ z ≠ -9223372036854775808) → (∀ z ∈ rowV mu wd f W V G, z ≠ -9223372036854775808) →
    rowV mu wd f (W.map ng17) (V.map ng17) (G.map ng17) = (rowV mu wd f W V G).map ng17
  | [], V, G, _, _, _, _, _, _ => by cases V <;> cases G <;> simp [rowV]
  | w :: W, [], G, _, _, _, _, _, _ => by cases G <;> simp [rowV]
  | w :: W, v :: V, [], _, _, _, _, _, _ => by simp [rowV]
  | w :: W, v :: V, g :: G, h, h', hW, hV, hG, hR => by
    rw [List.map_cons, List.map_cons, List.map_cons] at h' ⊢
    have e : rowOK lr mu wd nest f (w :: W) (v :: V) (g :: G) = ((stW lr mu wd nest f w v g).2 && (stV mu wd f w v g).2 && rowOK lr mu wd nest f W V G) := rfl
    have e' : rowOK lr mu wd nest f (ng17 w :: W.map ng17) (ng17 v :: V.map ng17) (ng17 g :: G.map ng17) = ((stW lr mu wd nest f (ng17 w) (ng17 v) (ng17 g)).2 && (stV mu wd f (ng17 w) (ng17 v) (ng17 g)).2 && rowOK lr mu wd nest f (W.map ng17) (V.map ng17) (G.map ng17)) := rfl
    rw [e, Bool.and_eq_true, Bool.and_eq_true] at h
    rw [e', Bool.and_eq_true, Bool.and_eq_true] at h'
    have hr : rowV mu wd f (w :: W) (v :: V) (g :: G) = (stV mu wd f w v g).1 :: rowV mu wd f W V G := rfl
    have hr' : rowV mu wd f (ng17 w :: W.map ng17) (ng17 v :: V.map ng17) (ng17 g :: G.map ng17) = (stV mu wd f (ng17 w) (ng17 v) (ng17 g)).1 :: rowV mu wd f (W.map ng17) (V.map ng17) (G.map ng17) := rfl
    rw [hr] at hR ⊢
    rw [hr', List.map_cons, rowV_neg h.2 h'.2 (fun z q => hW z (List.mem_cons_of_mem _ q)) (fun z q => hV z (List.mem_cons_of_mem _ q)) (fun z q => hG z (List.mem_cons_of_mem _ q)) (fun z q => hR z (List.mem_cons_of_mem _ q))]
    congr 1
    obtain ⟨a1, a2⟩ := hW w (by simp)
    obtain ⟨b1, b2⟩ := hV v (by simp)
    obtain ⟨c1, c2⟩ := hG g (by simp)
    have h2 := h'.1.2
    rw [ng_is a1 a2, ng_is b1 b2, ng_is c1 c2] at h2 ⊢
    rw [(stV_ex h2).1, exV_neg, ng_is (stV_i64 _ _ _ _ _ _) (hR _ (by simp)), (stV_ex h.1.2).1]
theorem rowW_neg : ∀ {W V G : List Int}, rowOK lr mu wd nest f W V G = true → rowOK lr mu wd nest f (W.map ng17) (V.map ng17) (G.map ng17) = true → (∀ z ∈ W, I64 z ∧ z ≠ -9223372036854775808) → (∀ z ∈ V, I64 z ∧ z ≠ -9223372036854775808) → (∀ z ∈ G, I64 z ∧ z ≠ -9223372036854775808) → (∀ z ∈ rowW lr mu wd nest f W V G, z ≠ -9223372036854775808) →
    rowW lr mu wd nest f (W.map ng17) (V.map ng17) (G.map ng17) = (rowW lr mu wd nest f W V G).map ng17
  | [], V, G, _, _, _, _, _, _ => by cases V <;> cases G <;> simp [rowW]
  | w :: W, [], G, _, _, _, _, _, _ => by cases G <;> simp [rowW]
  | w :: W, v :: V, [], _, _, _, _, _, _ => by simp [rowW]
  | w :: W, v :: V, g :: G, h, h', hW, hV, hG, hR => by
    rw [List.map_cons, List.map_cons, List.map_cons] at h' ⊢
    have e : rowOK lr mu wd nest f (w :: W) (v :: V) (g :: G) = ((stW lr mu wd nest f w v g).2 && (stV mu wd f w v g).2 && rowOK lr mu wd nest f W V G) := rfl
    have e' : rowOK lr mu wd nest f (ng17 w :: W.map ng17) (ng17 v :: V.map ng17) (ng17 g :: G.map ng17) = ((stW lr mu wd nest f (ng17 w) (ng17 v) (ng17 g)).2 && (stV mu wd f (ng17 w) (ng17 v) (ng17 g)).2 && rowOK lr mu wd nest f (W.map ng17) (V.map ng17) (G.map ng17)) := rfl
    rw [e, Bool.and_eq_true, Bool.and_eq_true] at h
    rw [e', Bool.and_eq_true, Bool.and_eq_true] at h'
    have hr : rowW lr mu wd nest f (w :: W) (v :: V) (g :: G) = (stW lr mu wd nest f w v g).1 :: rowW lr mu wd nest f W V G := rfl
    have hr' : rowW lr mu wd nest f (ng17 w :: W.map ng17) (ng17 v :: V.map ng17) (ng17 g :: G.map ng17) = (stW lr mu wd nest f (ng17 w) (ng17 v) (ng17 g)).1 :: rowW lr mu wd nest f (W.map ng17) (V.map ng17) (G.map ng17) := rfl
    rw [hr] at hR ⊢
    rw [hr', List.map_cons, rowW_neg h.2 h'.2 (fun z q => hW z (List.mem_cons_of_mem _ q)) (fun z q => hV z (List.mem_cons_of_mem _ q)) (fun z q => hG z (List.mem_cons_of_mem _ q)) (fun z q => hR z (List.mem_cons_of_mem _ q))]
    congr 1
    obtain ⟨a1, a2⟩ := hW w (by simp)
    obtain ⟨b1, b2⟩ := hV v (by simp)
    obtain ⟨c1, c2⟩ := hG g (by simp)
    have h2 := h'.1.1
    rw [ng_is a1 a2, ng_is b1 b2, ng_is c1 c2] at h2 ⊢
    rw [(stW_ex h2).1, exW_neg, ng_is (stW_i64 _ _ _ _ _ _ _ _) (hR _ (by simp)), (stW_ex h.1.1).1]
end
section
variable {lr mu wd f : Int} {ne : Bool} {LW LM LG : List Int}
/-- Codes of both: the same, or one is of a number too large. -/
theorem codes_neg (h : ¬ (stC17 lr mu wd f ne LW LM LG = 0 ∧ stC17 lr mu wd f ne (LW.map ng17) (LM.map ng17) (LG.map ng17) = 0)) : stC17 lr mu wd f ne LW LM LG = stC17 lr mu wd f ne (LW.map ng17) (LM.map ng17) (LG.map ng17) ∨ stC17 lr mu wd f ne LW LM LG = 2 ∨ stC17 lr mu wd f ne (LW.map ng17) (LM.map ng17) (LG.map ng17) = 2 := by
  unfold stC17 at h ⊢
  simp only [List.length_map] at h ⊢
  by_cases hK : OkM17 lr mu wd f
  · simp only [if_pos hK] at h ⊢
    by_cases hs : LM.length = LW.length ∧ LG.length = LW.length
    · simp only [if_pos hs] at h ⊢
      split <;> split <;> simp_all
    · simp only [if_neg hs]; exact .inl trivial
  · simp only [if_neg hK]; exact .inl trivial
theorem stC_zero (h : stC17 lr mu wd f ne LW LM LG = 0) : OkM17 lr mu wd f ∧ (LM.length = LW.length ∧ LG.length = LW.length) ∧ rowOK lr mu wd ne f.toNat LW LM LG = true ∧ stRW17 lr mu wd f ne LW LM LG = rowW lr mu wd ne f.toNat LW LM LG ∧ stRV17 lr mu wd f ne LW LM LG = rowV mu wd f.toNat LW LM LG := by
  have h0 := h
  unfold stC17 at h
  by_cases hK : OkM17 lr mu wd f
  · rw [if_pos hK] at h
    by_cases hs : LM.length = LW.length ∧ LG.length = LW.length
    · rw [if_pos hs] at h
      by_cases hr : rowOK lr mu wd ne f.toNat LW LM LG = true
      · exact ⟨hK, hs, hr, by unfold stRW17; rw [if_pos h0], by unfold stRV17; rw [if_pos h0]⟩
      · rw [if_neg hr] at h; omega
    · rw [if_neg hs] at h; omega
  · rw [if_neg hK] at h; omega
theorem sides17 (h : stC17 lr mu wd f ne LW LM LG = 0) (h' : stC17 lr mu wd f ne (LW.map ng17) (LM.map ng17) (LG.map ng17) = 0) (eW : ∀ z ∈ LW, I64 z) (eM : ∀ z ∈ LM, I64 z) (eG : ∀ z ∈ LG, I64 z) (n1 : ¬ (-9223372036854775808 : Int) ∈ LW ++ LM ++ LG) (n2 : ¬ (-9223372036854775808 : Int) ∈ stRW17 lr mu wd f ne LW LM LG ++ stRV17 lr mu wd f ne LW LM LG) :
    stRW17 lr mu wd f ne (LW.map ng17) (LM.map ng17) (LG.map ng17) = (stRW17 lr mu wd f ne LW LM LG).map ng17 ∧ stRV17 lr mu wd f ne (LW.map ng17) (LM.map ng17) (LG.map ng17) = (stRV17 lr mu wd f ne LW LM LG).map ng17 := by
  obtain ⟨_, _, h1, h2, h3⟩ := stC_zero h
  obtain ⟨_, _, h4, h5, h6⟩ := stC_zero h'
  rw [h2, h3] at n2 ⊢
  rw [h5, h6]
  simp only [List.mem_append, not_or] at n1 n2
  have a := fun z (q : z ∈ LW) => (⟨eW z q, fun e => n1.1.1 (e ▸ q)⟩ : I64 z ∧ z ≠ -9223372036854775808)
  have b := fun z (q : z ∈ LM) => (⟨eM z q, fun e => n1.1.2 (e ▸ q)⟩ : I64 z ∧ z ≠ -9223372036854775808)
  have c := fun z (q : z ∈ LG) => (⟨eG z q, fun e => n1.2 (e ▸ q)⟩ : I64 z ∧ z ≠ -9223372036854775808)
  exact ⟨rowW_neg h1 h4 a b c (fun z q e => n2.1 (e ▸ q)), rowV_neg (lr := lr) (nest := ne) h1 h4 a b c (fun z q e => n2.2 (e ▸ q))⟩
end
end Go.Proofs.Ytckdbcngnghhiaa
