/-
  Several texts in one: L12, WTells12.
-/
import Derived.Lib.SlBytesConst
import Derived.Deep.WholeRow
import Derived.Test.YtkknopahiajeeaaA1

/-
  What the laws of crc lean on: alive.
-/
namespace Go.Proofs.Ytkknopahiajeeaa
set_option maxRecDepth 100000
open Go.RowKit
set_option linter.unusedVariables false
set_option linter.unusedSimpArgs false

theorem tabV_size : tabV.size = 256 := by unfold tabV; simp
theorem tabV_at {i : Nat} (h : i < 256) : tabV[i]? = some (.int .u32 ((stp 0 i : Nat) : Int)) := by
  unfold tabV
  rw [List.getElem?_toArray, List.getElem?_map, List.getElem?_range h]; rfl
theorem tabV_one : tabV.all (·.oneCell') = true := by
  rw [Array.all_eq_true]
  intro i hi
  have h : i < 256 := by rw [tabV_size] at hi; exact hi
  have e := tabV_at h
  rw [Array.getElem?_eq_getElem hi] at e
  injection e with e
  rw [e]; rfl
theorem tab_store (W : World) : (storeCells ⟨W.heap.size, 0, none⟩ tabV.toList 0).run Try.prog (W.alloc (.cells zcT 25)) = .ok () (W.alloc (.cells tabV 25)) :=
  run_storeCells_new (P := Try.prog) W 25 _ tabV (by rw [tabV_size]; kernel_rfl) (by rw [tabV_size]; kernel_rfl) tabV_one
/-- The figures that are asked about. -/
def dig9 : List Nat := [49, 50, 51, 52, 53, 54, 55, 56, 57]
theorem dig9_crc : crcOn 0 dig9 = 3421780262 := by decide +kernel
theorem dig9_cut : cutB (putB dig9) = dig9 ∧ cutE (putB dig9) = 0 := cut_put rfl
theorem tab_one : stp 0 1 = 1996959894 := by decide +kernel
theorem nil_crc : crcOn 0 [] = 0 := rfl
theorem dig9_row (W : World) (T : TypeId) (fr : Nat × Nat) : BR (W.alloc (.cells #[.int .u8 49, .int .u8 50, .int .u8 51, .int .u8 52, .int .u8 53, .int .u8 54, .int .u8 55, .int .u8 56, .int .u8 57] T fr)) (some ⟨W.heap.size, 0, none⟩) 9 9 dig9 := by
  refine ⟨rfl, Nat.le_refl _, by decide, fun _ => ⟨W.heap.size, 0, rfl, by simp, fun j hj => ?_⟩⟩
  rw [Nat.zero_add, World.cell?_alloc_mark]
  match j, hj with
  | 0, _ => rfl
  | 1, _ => rfl
  | 2, _ => rfl
  | 3, _ => rfl
  | 4, _ => rfl
  | 5, _ => rfl
  | 6, _ => rfl
  | 7, _ => rfl
  | 8, _ => rfl

theorem of9 {W : World} {A : Option Addr} {n c : Nat} (h : BR W A n c dig9) (hn : n ≤ 9) : Calls Try.prog 15 #[.slice A n c] W (GotV W (.int .u32 3421780262)) := by
  have e := gOf_N h (by omega)
  rw [dig9_crc] at e
  exact e
theorem gPutB_N {w : World} {A : Option Addr} {n c : Nat} {l : List Nat} (hA : BR w A n c l) (hn : n ≤ 140737488351232) : Calls Try.prog 18 #[.slice A n c] w (GotB w (putB l)) := (gPut_N hA hn).mono fun _ _ h => h.row (putB_lt hA.2.2.1)
theorem rPutB_N {w : World} {A : Option Addr} {n c : Nat} {l : List Nat} (hA : BR w A n c l) (hn : n ≤ 2000000) : Calls Try.prog 19 #[.slice A n c] w (GotB w (putB l)) := (rPut_N hA hn).mono fun _ _ h => h.row (putB_lt hA.2.2.1)
theorem rsameB_self {w : World} {A B : Option Addr} {n c m d : Nat} {L : List Nat} (hA : BR w A n c L) (hB : BR w B m d L) (hn : n ≤ 9223372036854775807) : Calls Try.prog 17 #[.slice A n c, .slice B m d] w (GotV w (.bool true)) := by
  have h := rsameB_any hA hB hn
  rw [decide_eq_true rfl] at h
  exact h
theorem cutPut {W : World} {A : Option Addr} {n c : Nat} {l : List Nat} (h : BR W A n c (putB l)) (hn : n ≤ 2000000) : Calls Try.prog 10 #[.slice A n c] W (GotBr W l 0) := by
  have e := gCut_N h hn
  obtain ⟨e1, e2⟩ := cut_put (y := putB l) (l := l) rfl
  rw [e1, e2] at e
  exact e
theorem one_row {x : Nat} (W : World) (hx : x < 256) : BR (W.alloc (.cells #[.int .u8 (x : Int)] 5)) (some ⟨W.heap.size, 0, none⟩) 1 1 [x] := by
  refine ⟨rfl, Nat.le_refl _, fun y hy => by simp at hy; omega, fun _ => ⟨W.heap.size, 0, rfl, by simp, fun j hj => ?_⟩⟩
  obtain rfl : j = 0 := by omega
  rw [Nat.zero_add, World.cell?_alloc_new]; rfl
theorem on0 (W : World) : Calls Try.prog 13 #[.int .u32 0, .slice none 0 0] W (GotV W (.int .u32 0)) := gOn_N (sum := 0) (by omega) (BR.nil W none 0) (by omega)

set_option maxRecDepth 100000 in
set_option maxHeartbeats 8000000 in
theorem alive12_any (w : World) :
    Calls Try.prog 8 #[] w (GotV w (.bool true)) := by
  obtain ⟨T, eT⟩ : ∃ T, tabV = T := ⟨_, rfl⟩
  have CT := gTable_N
  rw [eT] at CT
  have hTs : T.size = 256 := by rw [← eT]; exact tabV_size
  have hst : ∀ W : World, (storeCells ⟨W.heap.size, 0, none⟩ T.toList 0).run Try.prog (W.alloc (.cells zcT 25)) = .ok () (W.alloc (.cells T 25)) := fun W => by rw [← eT]; exact tab_store W
  have hzT := zcT_run
  have HTT := Lib.hid eT
  clear eT
  have hcb := fun W : World => Lib.run_convert_bytes_const (P := Try.prog) W 23 5 #[.int .u8 49, .int .u8 50, .int .u8 51, .int .u8 52, .int .u8 53, .int .u8 54, .int .u8 55, .int .u8 56, .int .u8 57] 9 9 Try.underlying23 Try.underlying5
  have cc := Below.refl w.heap.size w
  go_enter Try.func8, Try.ntmps8
  go_wp2_with fail
  have R1 := dig9_row w 5 (9, 10)
  have bA : Below w.heap.size w (w.alloc (.cells #[.int .u8 49, .int .u8 50, .int .u8 51, .int .u8 52, .int .u8 53, .int .u8 54, .int .u8 55, .int .u8 56, .int .u8 57] 5 (9, 10))) := (Below.refl _ w).alloc (Nat.le_refl _) _
  replace cc := cc.trans (bA.mono cc.size)
  clear bA
  generalize w.alloc (.cells #[.int .u8 49, .int .u8 50, .int .u8 51, .int .u8 52, .int .u8 53, .int .u8 54, .int .u8 55, .int .u8 56, .int .u8 57] 5 (9, 10)) = v1 at *
  refine (gPut_N R1 (by omega)).mono ?_
  rintro e w2 ⟨g, q, d, rfl, hO, b⟩
  replace R1 := R1.on b
  replace cc := cc.trans (b.mono cc.size)
  clear b
  have hP := BR.of_own hO (putB_lt (by decide))
  have hq : q = 13 := hP.1
  subst hq
  clear hO
  go_wp2_with fail
  refine (gCut_N hP (by omega)).mono ?_
  rintro e w3 ⟨Ab, nb, cb, rfl, hb, b⟩
  replace R1 := R1.on b
  replace hP := hP.on b
  replace cc := cc.trans (b.mono cc.size)
  clear b
  rw [dig9_cut.1] at hb
  rw [dig9_cut.2]
  have e9 : nb = 9 := hb.1
  subst e9
  obtain ⟨bb, ob, rfl, hbb⟩ := hb.some (by omega)
  go_wp2_with fail
  refine (CT _).mono ?_
  rintro e w4 ⟨rfl, b⟩
  replace R1 := R1.on b
  replace hP := hP.on b
  replace hb := hb.on b
  replace cc := cc.trans (b.mono cc.size)
  clear b
  go_upto_region 3 with fail
  have bA : Below w4.heap.size w4 (w4.alloc (.cells T 25)) := (Below.refl _ w4).alloc (Nat.le_refl _) _
  replace R1 := R1.on bA
  replace hP := hP.on bA
  replace hb := hb.on bA
  replace cc := cc.trans (bA.mono cc.size)
  clear bA
  have t1 : (w4.alloc (.cells T 25)).cell? ⟨w4.heap.size, 1, none⟩ = some (.int .u32 1996959894) := by rw [World.cell?_alloc_new, ← HTT.out, tabV_at (by omega), tab_one]; rfl
  have tbl : w4.heap.size < (w4.alloc (.cells T 25)).heap.size := by simp
  generalize w4.alloc (.cells T 25) = v5 at *
  clear hst
  go_wp2_with fail
  have R2 := dig9_row v5 5 (9, 10)
  have bA : Below v5.heap.size v5 (v5.alloc (.cells #[.int .u8 49, .int .u8 50, .int .u8 51, .int .u8 52, .int .u8 53, .int .u8 54, .int .u8 55, .int .u8 56, .int .u8 57] 5 (9, 10))) := (Below.refl _ v5).alloc (Nat.le_refl _) _
  replace t1 := (bA.cell (p := ⟨w4.heap.size, 1, none⟩) tbl).trans t1
  replace tbl := Nat.lt_of_lt_of_le tbl bA.size
  replace R1 := R1.on bA
  replace hP := hP.on bA
  replace hb := hb.on bA
  replace cc := cc.trans (bA.mono cc.size)
  clear bA
  generalize v5.alloc (.cells #[.int .u8 49, .int .u8 50, .int .u8 51, .int .u8 52, .int .u8 53, .int .u8 54, .int .u8 55, .int .u8 56, .int .u8 57] 5 (9, 10)) = v6 at *
  refine (of9 R2 (by omega)).mono ?_
  rintro e w7 ⟨rfl, b⟩
  replace t1 := (b.cell (p := ⟨w4.heap.size, 1, none⟩) tbl).trans t1
  replace tbl := Nat.lt_of_lt_of_le tbl b.size
  replace R1 := R1.on b
  replace hP := hP.on b
  replace hb := hb.on b
  replace R2 := R2.on b
  replace cc := cc.trans (b.mono cc.size)
  clear b
  have hcv : (convert 23 9 (.slice (some ⟨bb, ob, none⟩) 9 cb)).run Try.prog w7 = .ok (.string ⟨#[49, 50, 51, 52, 53, 54, 55, 56, 57]⟩) w7 := run_convert_bytes_back (P := Try.prog) w7 23 9 5 ⟨bb, ob, none⟩ cb [49, 50, 51, 52, 53, 54, 55, 56, 57] Try.underlying23 Try.underlying5 Try.underlying9 (fun j hj => by
    have h := hb.cell (j := j) (by simpa using hj)
    rw [addr_add]
    match j, hj with
    | 0, _ => exact h
    | 1, _ => exact h
    | 2, _ => exact h
    | 3, _ => exact h
    | 4, _ => exact h
    | 5, _ => exact h
    | 6, _ => exact h
    | 7, _ => exact h
    | 8, _ => exact h)
  go_wp2_with fail
  refine (on0 _).mono ?_
  rintro e w8 ⟨rfl, b⟩
  replace t1 := (b.cell (p := ⟨w4.heap.size, 1, none⟩) tbl).trans t1
  replace tbl := Nat.lt_of_lt_of_le tbl b.size
  replace R1 := R1.on b
  replace hP := hP.on b
  replace hb := hb.on b
  replace R2 := R2.on b
  replace cc := cc.trans (b.mono cc.size)
  clear b
  go_wp2_with fail
  go_ret
  exact ⟨rfl, cc⟩

end Go.Proofs.Ytkknopahiajeeaa

/-
  The walk of CrcTells.
-/
namespace Go.Proofs.Ytkknopahiajeeaa
set_option maxRecDepth 100000
open Go.RowKit
set_option linter.unusedVariables false
set_option linter.unusedSimpArgs false

set_option maxRecDepth 100000 in
set_option maxHeartbeats 8000000 in
theorem CrcTells_few {w : World} {s x : Nat} {A : Option Addr} {n c : Nat} (h : 2000 < n) :
    Calls Try.prog 3 #[.int .u32 (s : Int), .int .u8 (x : Int), .slice A n c] w fun e w' => e = .returned (.bool true) ∧ Below w.heap.size w w' := by
  have t0 : decide (2000 < (n : Int)) = true := decide_eq_true (by omega)
  have u0 : decide (2000 < n) = true := decide_eq_true (by omega)
  clear h
  have cc := Below.refl w.heap.size w
  go_enter Try.func3, Try.ntmps3
  go_wp2_with fail
  refine (alive12_any _).mono ?_
  rintro e w1 ⟨rfl, b⟩
  replace cc := cc.trans (b.mono cc.size)
  clear b
  go_wp2_with fail
  go_ret
  exact ⟨rfl, cc⟩

theorem cutB_len {y : List Nat} (h : y.length ≤ 2000) : (cutB y).length ≤ 2000000 := by
  unfold cutB
  split
  · simp
  split
  · rw [List.length_take]; omega
  · simp

set_option maxRecDepth 100000 in
set_option maxHeartbeats 8000000 in
theorem CrcTells_yes {w : World} {s x : Nat} {A : Option Addr} {n c : Nat} {l : List Nat} (hA : BR w A n c l) (h : n ≤ 2000) (hs : s < 4294967296) (hx : x < 256) :
    Calls Try.prog 3 #[.int .u32 (s : Int), .int .u8 (x : Int), .slice A n c] w fun e w' => e = .returned (.bool true) ∧ Below w.heap.size w w' := by
  have t0 : decide (2000 < (n : Int)) = false := decide_eq_false (by omega)
  have u0 : decide (2000 < n) = false := decide_eq_false (by omega)
  obtain ⟨T, eT⟩ : ∃ T, tabV = T := ⟨_, rfl⟩
  have CT := gTable_N
  rw [eT] at CT
  have hTs : T.size = 256 := by rw [← eT]; exact tabV_size
  have hst : ∀ W : World, (storeCells ⟨W.heap.size, 0, none⟩ T.toList 0).run Try.prog (W.alloc (.cells zcT 25)) = .ok () (W.alloc (.cells T 25)) := fun W => by rw [← eT]; exact tab_store W
  have hzT := zcT_run
  have HTT := Lib.hid eT
  clear eT
  have CO := fun {W : World} (h : BR W A n c l) => gOn_N hs h (by omega)
  have CP := fun {W : World} (h : BR W A n c l) => rOn_N hs h (by omega)
  have CF := fun {W : World} (h : BR W A n c l) => gOf_N h (by omega)
  have CG := fun {W : World} (h : BR W A n c l) => rOf_N h (by omega)
  have CS := fun (W : World) => rStep_N (s := 0) W (by omega) hx
  obtain ⟨v, hv⟩ : ∃ v, stp 0 x = v := ⟨_, rfl⟩
  rw [hv] at CS
  have HV := Lib.hid hv
  have HX := Lib.hid hx
  generalize crcOn s l = p at *
  generalize crcOn 0 l = q at *
  have x6 : (x : Int) < 256 := by omega
  have HC : ∀ c ∈ cutB l, True := fun _ _ => trivial
  have hll : (cutB l).length ≤ 2000000 := cutB_len (by rw [← hA.1]; omega)
  generalize cutE l = E at *
  clear hv hx hs HC
  have cc := Below.refl w.heap.size w
  go_enter Try.func3, Try.ntmps3
  go_wp2_with fail
  refine (CT _).mono ?_
  rintro e w1 ⟨rfl, b⟩
  replace hA := hA.on b
  replace cc := cc.trans (b.mono cc.size)
  clear b
  go_upto_region 4 with fail
  have bA : Below w1.heap.size w1 (w1.alloc (.cells T 25)) := (Below.refl _ w1).alloc (Nat.le_refl _) _
  replace hA := hA.on bA
  replace cc := cc.trans (bA.mono cc.size)
  clear bA
  have tc : (w1.alloc (.cells T 25)).cell? ⟨w1.heap.size, x, none⟩ = some (.int .u32 (v : Int)) := by rw [World.cell?_alloc_new, ← HTT.out, tabV_at HX.out, HV.out]
  have tbl : w1.heap.size < (w1.alloc (.cells T 25)).heap.size := by simp
  generalize w1.alloc (.cells T 25) = v2 at *
  clear hst
  go_wp2_with fail
  refine (gCut_N hA (by omega)).mono ?_
  rintro e w3 ⟨Ay, ny, cy, rfl, hy, b⟩
  replace tc := (b.cell (p := ⟨w1.heap.size, x, none⟩) tbl).trans tc
  replace tbl := Nat.lt_of_lt_of_le tbl b.size
  replace hA := hA.on b
  replace cc := cc.trans (b.mono cc.size)
  clear b
  go_wp2_with fail
  refine (rCut_N hA (by omega)).mono ?_
  rintro e w4 ⟨Az, nz, cz, rfl, hz, b⟩
  replace tc := (b.cell (p := ⟨w1.heap.size, x, none⟩) tbl).trans tc
  replace tbl := Nat.lt_of_lt_of_le tbl b.size
  replace hA := hA.on b
  replace hy := hy.on b
  replace cc := cc.trans (b.mono cc.size)
  clear b
  go_wp2_with fail
  have bD : Below w4.heap.size w4 w4.drew := below_drewN (Below.refl _ w4) 1
  replace tc := (bD.cell (p := ⟨w1.heap.size, x, none⟩) tbl).trans tc
  replace tbl := Nat.lt_of_lt_of_le tbl bD.size
  replace hA := hA.on bD
  replace hy := hy.on bD
  replace hz := hz.on bD
  replace cc := cc.trans (bD.mono cc.size)
  clear bD
  refine wp_region_held_drew (S := fun w' => w'.cell? ⟨w1.heap.size, x, none⟩ = some (.int .u32 (v : Int))) (by kernel_rfl) ?_ (fun hHeld => ?_)
  · exact tc
  refine wpAnyH_ready (rs := [0]) (by kernel_rfl) (by simp) ?_
  refine AllReadyH.cons rfl (fun K hK => ?_) AllReadyH.nil
  (try simp only [List.getElem_toArray, List.getElem_cons_zero, List.getElem_cons_succ])
  rw [if_pos (by rfl)]
  go_simp
  go_at_call 8
  refine (alive12_any _).mono ?_
  rintro e w5 ⟨rfl, b⟩
  replace tc := (b.cell (p := ⟨w1.heap.size, x, none⟩) tbl).trans tc
  replace tbl := Nat.lt_of_lt_of_le tbl b.size
  replace hA := hA.on b
  replace hy := hy.on b
  replace hz := hz.on b
  replace cc := cc.trans (b.mono cc.size)
  clear b
  refine hK.out _ _ ?_ (fun hHeld => ?_)
  · exact tc
  clear hK K
  try simp only [Act.put, List.getElem_toArray, List.getElem_cons_zero, List.getElem_cons_succ, List.setIfInBounds_toArray, List.set_cons_zero, List.set_cons_succ]
  refine wpAnyH_take (i := 1) (v := ?_) rfl (by kernel_rfl) (by kernel_rfl) (by kernel_rfl) (fun _ _ _ h => h) (Or.inl ⟨by rfl, ?_⟩) hHeld ?_
  rotate_left
  · (intro w hSw; (try dsimp only at hSw); go_simp; (try with_reducible rfl))
  try simp only [Act.put, List.getElem_toArray, List.getElem_cons_zero, List.getElem_cons_succ, List.setIfInBounds_toArray, List.set_cons_zero, List.set_cons_succ]
  refine wpAnyH_take (i := 2) (v := ?_) rfl (by kernel_rfl) (by kernel_rfl) (by kernel_rfl) (fun _ _ _ h => h) (Or.inl ⟨by rfl, ?_⟩) hHeld ?_
  rotate_left
  · (intro w hSw; (try dsimp only at hSw); go_simp; (try with_reducible rfl))
  try simp only [Act.put, List.getElem_toArray, List.getElem_cons_zero, List.getElem_cons_succ, List.setIfInBounds_toArray, List.set_cons_zero, List.set_cons_succ]
  refine wpAnyH_take (i := 3) (v := ?_) rfl (by kernel_rfl) (by kernel_rfl) (by kernel_rfl) (fun _ _ _ h => h) (Or.inl ⟨by rfl, ?_⟩) hHeld ?_
  rotate_left
  · (intro w hSw; (try dsimp only at hSw); go_simp; (try with_reducible rfl))
  try simp only [Act.put, List.getElem_toArray, List.getElem_cons_zero, List.getElem_cons_succ, List.setIfInBounds_toArray, List.set_cons_zero, List.set_cons_succ]
  refine wpAnyH_take (i := 4) (v := ?_) rfl (by kernel_rfl) (by kernel_rfl) (by kernel_rfl) (fun _ _ _ h => h) (Or.inl ⟨by rfl, ?_⟩) hHeld ?_
  rotate_left
  · (intro w hSw; (try dsimp only at hSw); go_simp; (try with_reducible rfl))
  try simp only [Act.put, List.getElem_toArray, List.getElem_cons_zero, List.getElem_cons_succ, List.setIfInBounds_toArray, List.set_cons_zero, List.set_cons_succ]
  refine wpAnyH_take (i := 5) (v := ?_) rfl (by kernel_rfl) (by kernel_rfl) (by kernel_rfl) (fun _ _ _ h => h) (Or.inl ⟨by rfl, ?_⟩) hHeld ?_
  rotate_left
  · (intro w hSw; (try dsimp only at hSw); go_simp; (try with_reducible rfl))
  try simp only [Act.put, List.getElem_toArray, List.getElem_cons_zero, List.getElem_cons_succ, List.setIfInBounds_toArray, List.set_cons_zero, List.set_cons_succ]
  refine wpAnyH_ready (rs := [6]) (by kernel_rfl) (by simp) ?_
  refine AllReadyH.cons rfl (fun K hK => ?_) AllReadyH.nil
  (try simp only [List.getElem_toArray, List.getElem_cons_zero, List.getElem_cons_succ])
  rw [if_pos (by rfl)]
  go_simp
  go_at_call 12
  refine (CS _).mono ?_
  rintro e w6 ⟨rfl, b⟩
  replace tc := (b.cell (p := ⟨w1.heap.size, x, none⟩) tbl).trans tc
  replace tbl := Nat.lt_of_lt_of_le tbl b.size
  replace hA := hA.on b
  replace hy := hy.on b
  replace hz := hz.on b
  replace cc := cc.trans (b.mono cc.size)
  clear b
  refine hK.out _ _ ?_ (fun hHeld => ?_)
  · exact tc
  clear hK K
  try simp only [Act.put, List.getElem_toArray, List.getElem_cons_zero, List.getElem_cons_succ, List.setIfInBounds_toArray, List.set_cons_zero, List.set_cons_succ]
  refine wpAnyH_take (i := 7) (v := ?_) rfl (by kernel_rfl) (by kernel_rfl) (by kernel_rfl) (fun _ _ _ h => h) (Or.inl ⟨by rfl, ?_⟩) hHeld ?_
  rotate_left
  · (intro w hSw; (try dsimp only at hSw); go_simp; (try with_reducible rfl))
  try simp only [Act.put, List.getElem_toArray, List.getElem_cons_zero, List.getElem_cons_succ, List.setIfInBounds_toArray, List.set_cons_zero, List.set_cons_succ]
  refine wpAnyH_take (i := 8) (v := ?_) rfl (by kernel_rfl) (by kernel_rfl) (by kernel_rfl) (fun _ _ _ h => h) (Or.inl ⟨by rfl, ?_⟩) hHeld ?_
  rotate_left
  · (intro w hSw; (try dsimp only at hSw); go_simp; (try with_reducible rfl))
  try simp only [Act.put, List.getElem_toArray, List.getElem_cons_zero, List.getElem_cons_succ, List.setIfInBounds_toArray, List.set_cons_zero, List.set_cons_succ]
  refine wpAnyH_take (i := 9) (v := ?_) rfl (by kernel_rfl) (by kernel_rfl) (by kernel_rfl) (fun _ _ _ h => h) (Or.inl ⟨by rfl, ?_⟩) hHeld ?_
  rotate_left
  · (intro w hSw; (try dsimp only at hSw); go_simp; (try with_reducible rfl))
  try simp only [Act.put, List.getElem_toArray, List.getElem_cons_zero, List.getElem_cons_succ, List.setIfInBounds_toArray, List.set_cons_zero, List.set_cons_succ]
  refine wpAnyH_take (i := 10) (v := ?_) rfl (by kernel_rfl) (by kernel_rfl) (by kernel_rfl) (fun _ _ _ h => h) (Or.inl ⟨by rfl, ?_⟩) hHeld ?_
  rotate_left
  · (intro w hSw; (try dsimp only at hSw); go_simp; (try with_reducible rfl))
  try simp only [Act.put, List.getElem_toArray, List.getElem_cons_zero, List.getElem_cons_succ, List.setIfInBounds_toArray, List.set_cons_zero, List.set_cons_succ]
  refine wpAnyH_take (i := 11) (v := ?_) rfl (by kernel_rfl) (by kernel_rfl) (by kernel_rfl) (fun _ _ _ h => h) (Or.inl ⟨by rfl, ?_⟩) hHeld ?_
  rotate_left
  · (intro w hSw; (try dsimp only at hSw); go_simp; (try with_reducible rfl))
  try simp only [Act.put, List.getElem_toArray, List.getElem_cons_zero, List.getElem_cons_succ, List.setIfInBounds_toArray, List.set_cons_zero, List.set_cons_succ]
  refine wpAnyH_take (i := 13) (v := ?_) rfl (by kernel_rfl) (by kernel_rfl) (by kernel_rfl) (fun _ _ _ h => h) (Or.inl ⟨by rfl, ?_⟩) hHeld ?_
  rotate_left
  · (intro w hSw; (try dsimp only at hSw); go_simp; (try with_reducible rfl))
  try simp only [Act.put, List.getElem_toArray, List.getElem_cons_zero, List.getElem_cons_succ, List.setIfInBounds_toArray, List.set_cons_zero, List.set_cons_succ]
  refine wpAnyH_take (i := 14) (v := ?_) rfl (by kernel_rfl) (by kernel_rfl) (by kernel_rfl) (fun _ _ _ h => h) (Or.inl ⟨by rfl, ?_⟩) hHeld ?_
  rotate_left
  · (intro w hSw; (try dsimp only at hSw); go_simp; (try with_reducible rfl))
  try simp only [Act.put, List.getElem_toArray, List.getElem_cons_zero, List.getElem_cons_succ, List.setIfInBounds_toArray, List.set_cons_zero, List.set_cons_succ]
  refine wpAnyH_ready (rs := [12]) (by kernel_rfl) (by simp) ?_
  refine AllReadyH.cons rfl (fun K hK => ?_) AllReadyH.nil
  (try simp only [List.getElem_toArray, List.getElem_cons_zero, List.getElem_cons_succ])
  rw [if_pos (by rfl)]
  go_simp
  go_at_call 13
  refine (CO hA).mono ?_
  rintro e w7 ⟨rfl, b⟩
  replace tc := (b.cell (p := ⟨w1.heap.size, x, none⟩) tbl).trans tc
  replace tbl := Nat.lt_of_lt_of_le tbl b.size
  replace hA := hA.on b
  replace hy := hy.on b
  replace hz := hz.on b
  replace cc := cc.trans (b.mono cc.size)
  clear b
  refine hK.out _ _ ?_ (fun hHeld => ?_)
  · exact tc
  clear hK K
  try simp only [Act.put, List.getElem_toArray, List.getElem_cons_zero, List.getElem_cons_succ, List.setIfInBounds_toArray, List.set_cons_zero, List.set_cons_succ]
  refine wpAnyH_ready (rs := [15]) (by kernel_rfl) (by simp) ?_
  refine AllReadyH.cons rfl (fun K hK => ?_) AllReadyH.nil
  (try simp only [List.getElem_toArray, List.getElem_cons_zero, List.getElem_cons_succ])
  rw [if_pos (by rfl)]
  go_simp
  go_at_call 14
  refine (CP hA).mono ?_
  rintro e w8 ⟨rfl, b⟩
  replace tc := (b.cell (p := ⟨w1.heap.size, x, none⟩) tbl).trans tc
  replace tbl := Nat.lt_of_lt_of_le tbl b.size
  replace hA := hA.on b
  replace hy := hy.on b
  replace hz := hz.on b
  replace cc := cc.trans (b.mono cc.size)
  clear b
  refine hK.out _ _ ?_ (fun hHeld => ?_)
  · exact tc
  clear hK K
  try simp only [Act.put, List.getElem_toArray, List.getElem_cons_zero, List.getElem_cons_succ, List.setIfInBounds_toArray, List.set_cons_zero, List.set_cons_succ]
  refine wpAnyH_take (i := 16) (v := ?_) rfl (by kernel_rfl) (by kernel_rfl) (by kernel_rfl) (fun _ _ _ h => h) (Or.inl ⟨by rfl, ?_⟩) hHeld ?_
  rotate_left
  · (intro w hSw; (try dsimp only at hSw); go_simp; (try with_reducible rfl))
  try simp only [Act.put, List.getElem_toArray, List.getElem_cons_zero, List.getElem_cons_succ, List.setIfInBounds_toArray, List.set_cons_zero, List.set_cons_succ]
  refine wpAnyH_take (i := 17) (v := ?_) rfl (by kernel_rfl) (by kernel_rfl) (by kernel_rfl) (fun _ _ _ h => h) (Or.inl ⟨by rfl, ?_⟩) hHeld ?_
  rotate_left
  · (intro w hSw; (try dsimp only at hSw); go_simp; (try with_reducible rfl))
  try simp only [Act.put, List.getElem_toArray, List.getElem_cons_zero, List.getElem_cons_succ, List.setIfInBounds_toArray, List.set_cons_zero, List.set_cons_succ]
  refine wpAnyH_take (i := 18) (v := ?_) rfl (by kernel_rfl) (by kernel_rfl) (by kernel_rfl) (fun _ _ _ h => h) (Or.inl ⟨by rfl, ?_⟩) hHeld ?_
  rotate_left
  · (intro w hSw; (try dsimp only at hSw); go_simp; (try with_reducible rfl))
  try simp only [Act.put, List.getElem_toArray, List.getElem_cons_zero, List.getElem_cons_succ, List.setIfInBounds_toArray, List.set_cons_zero, List.set_cons_succ]
  refine wpAnyH_take (i := 19) (v := ?_) rfl (by kernel_rfl) (by kernel_rfl) (by kernel_rfl) (fun _ _ _ h => h) (Or.inl ⟨by rfl, ?_⟩) hHeld ?_
  rotate_left
  · (intro w hSw; (try dsimp only at hSw); go_simp; (try with_reducible rfl))
  try simp only [Act.put, List.getElem_toArray, List.getElem_cons_zero, List.getElem_cons_succ, List.setIfInBounds_toArray, List.set_cons_zero, List.set_cons_succ]
  refine wpAnyH_take (i := 21) (v := ?_) rfl (by kernel_rfl) (by kernel_rfl) (by kernel_rfl) (fun _ _ _ h => h) (Or.inl ⟨by rfl, ?_⟩) hHeld ?_
  rotate_left
  · (intro w hSw; (try dsimp only at hSw); go_simp; (try with_reducible rfl))
  try simp only [Act.put, List.getElem_toArray, List.getElem_cons_zero, List.getElem_cons_succ, List.setIfInBounds_toArray, List.set_cons_zero, List.set_cons_succ]
  refine wpAnyH_ready (rs := [20]) (by kernel_rfl) (by simp) ?_
  refine AllReadyH.cons rfl (fun K hK => ?_) AllReadyH.nil
  (try simp only [List.getElem_toArray, List.getElem_cons_zero, List.getElem_cons_succ])
  rw [if_pos (by rfl)]
  go_simp
  go_at_call 15
  refine (CF hA).mono ?_
  rintro e w9 ⟨rfl, b⟩
  replace tc := (b.cell (p := ⟨w1.heap.size, x, none⟩) tbl).trans tc
  replace tbl := Nat.lt_of_lt_of_le tbl b.size
  replace hA := hA.on b
  replace hy := hy.on b
  replace hz := hz.on b
  replace cc := cc.trans (b.mono cc.size)
  clear b
  refine hK.out _ _ ?_ (fun hHeld => ?_)
  · exact tc
  clear hK K
  try simp only [Act.put, List.getElem_toArray, List.getElem_cons_zero, List.getElem_cons_succ, List.setIfInBounds_toArray, List.set_cons_zero, List.set_cons_succ]
  refine wpAnyH_ready (rs := [22]) (by kernel_rfl) (by simp) ?_
  refine AllReadyH.cons rfl (fun K hK => ?_) AllReadyH.nil
  (try simp only [List.getElem_toArray, List.getElem_cons_zero, List.getElem_cons_succ])
  rw [if_pos (by rfl)]
  go_simp
  go_at_call 16
  refine (CG hA).mono ?_
  rintro e w10 ⟨rfl, b⟩
  replace tc := (b.cell (p := ⟨w1.heap.size, x, none⟩) tbl).trans tc
  replace tbl := Nat.lt_of_lt_of_le tbl b.size
  replace hA := hA.on b
  replace hy := hy.on b
  replace hz := hz.on b
  replace cc := cc.trans (b.mono cc.size)
  clear b
  refine hK.out _ _ ?_ (fun hHeld => ?_)
  · exact tc
  clear hK K
  try simp only [Act.put, List.getElem_toArray, List.getElem_cons_zero, List.getElem_cons_succ, List.setIfInBounds_toArray, List.set_cons_zero, List.set_cons_succ]
  refine wpAnyH_take (i := 23) (v := ?_) rfl (by kernel_rfl) (by kernel_rfl) (by kernel_rfl) (fun _ _ _ h => h) (Or.inl ⟨by rfl, ?_⟩) hHeld ?_
  rotate_left
  · (intro w hSw; (try dsimp only at hSw); go_simp; (try with_reducible rfl))
  try simp only [Act.put, List.getElem_toArray, List.getElem_cons_zero, List.getElem_cons_succ, List.setIfInBounds_toArray, List.set_cons_zero, List.set_cons_succ]
  refine wpAnyH_take (i := 24) (v := ?_) rfl (by kernel_rfl) (by kernel_rfl) (by kernel_rfl) (fun _ _ _ h => h) (Or.inl ⟨by rfl, ?_⟩) hHeld ?_
  rotate_left
  · (intro w hSw; (try dsimp only at hSw); go_simp; (try with_reducible rfl))
  try simp only [Act.put, List.getElem_toArray, List.getElem_cons_zero, List.getElem_cons_succ, List.setIfInBounds_toArray, List.set_cons_zero, List.set_cons_succ]
  refine wpAnyH_take (i := 25) (v := ?_) rfl (by kernel_rfl) (by kernel_rfl) (by kernel_rfl) (fun _ _ _ h => h) (Or.inl ⟨by rfl, ?_⟩) hHeld ?_
  rotate_left
  · (intro w hSw; (try dsimp only at hSw); go_simp; (try with_reducible rfl))
  try simp only [Act.put, List.getElem_toArray, List.getElem_cons_zero, List.getElem_cons_succ, List.setIfInBounds_toArray, List.set_cons_zero, List.set_cons_succ]
  refine wpAnyH_take (i := 26) (v := ?_) rfl (by kernel_rfl) (by kernel_rfl) (by kernel_rfl) (fun _ _ _ h => h) (Or.inl ⟨by rfl, ?_⟩) hHeld ?_
  rotate_left
  · (intro w hSw; (try dsimp only at hSw); go_simp; (try with_reducible rfl))
  try simp only [Act.put, List.getElem_toArray, List.getElem_cons_zero, List.getElem_cons_succ, List.setIfInBounds_toArray, List.set_cons_zero, List.set_cons_succ]
  refine wpAnyH_take (i := 28) (v := ?_) rfl (by kernel_rfl) (by kernel_rfl) (by kernel_rfl) (fun _ _ _ h => h) (Or.inl ⟨by rfl, ?_⟩) hHeld ?_
  rotate_left
  · (intro w hSw; (try dsimp only at hSw); go_simp; (try with_reducible rfl))
  try simp only [Act.put, List.getElem_toArray, List.getElem_cons_zero, List.getElem_cons_succ, List.setIfInBounds_toArray, List.set_cons_zero, List.set_cons_succ]
  refine wpAnyH_ready (rs := [27]) (by kernel_rfl) (by simp) ?_
  refine AllReadyH.cons rfl (fun K hK => ?_) AllReadyH.nil
  (try simp only [List.getElem_toArray, List.getElem_cons_zero, List.getElem_cons_succ])
  rw [if_pos (by rfl)]
  go_simp
  go_at_call 18
  refine (gPutB_N hA (by omega)).mono ?_
  rintro e w11 ⟨Au, nu, cu, rfl, hu, b⟩
  replace tc := (b.cell (p := ⟨w1.heap.size, x, none⟩) tbl).trans tc
  replace tbl := Nat.lt_of_lt_of_le tbl b.size
  replace hA := hA.on b
  replace hy := hy.on b
  replace hz := hz.on b
  replace cc := cc.trans (b.mono cc.size)
  clear b
  refine hK.out _ _ ?_ (fun hHeld => ?_)
  · exact tc
  clear hK K
  try simp only [Act.put, List.getElem_toArray, List.getElem_cons_zero, List.getElem_cons_succ, List.setIfInBounds_toArray, List.set_cons_zero, List.set_cons_succ]
  refine wpAnyH_ready (rs := [29]) (by kernel_rfl) (by simp) ?_
  refine AllReadyH.cons rfl (fun K hK => ?_) AllReadyH.nil
  (try simp only [List.getElem_toArray, List.getElem_cons_zero, List.getElem_cons_succ])
  rw [if_pos (by rfl)]
  go_simp
  go_at_call 19
  refine (rPutB_N hA (by omega)).mono ?_
  rintro e w12 ⟨Av_, nv_, cv_, rfl, hv_, b⟩
  replace tc := (b.cell (p := ⟨w1.heap.size, x, none⟩) tbl).trans tc
  replace tbl := Nat.lt_of_lt_of_le tbl b.size
  replace hA := hA.on b
  replace hy := hy.on b
  replace hz := hz.on b
  replace hu := hu.on b
  replace cc := cc.trans (b.mono cc.size)
  clear b
  refine hK.out _ _ ?_ (fun hHeld => ?_)
  · exact tc
  clear hK K
  try simp only [Act.put, List.getElem_toArray, List.getElem_cons_zero, List.getElem_cons_succ, List.setIfInBounds_toArray, List.set_cons_zero, List.set_cons_succ]
  refine wpAnyH_ready (rs := [30]) (by kernel_rfl) (by simp) ?_
  refine AllReadyH.cons rfl (fun K hK => ?_) AllReadyH.nil
  (try simp only [List.getElem_toArray, List.getElem_cons_zero, List.getElem_cons_succ])
  rw [if_pos (by rfl)]
  go_simp
  go_at_call 17
  refine (rsameB_self hu hv_ (by rw [hu.1, putB_len, ← hA.1]; omega)).mono ?_
  rintro e w13 ⟨rfl, b⟩
  replace tc := (b.cell (p := ⟨w1.heap.size, x, none⟩) tbl).trans tc
  replace tbl := Nat.lt_of_lt_of_le tbl b.size
  replace hA := hA.on b
  replace hy := hy.on b
  replace hz := hz.on b
  replace hu := hu.on b
  replace hv_ := hv_.on b
  replace cc := cc.trans (b.mono cc.size)
  clear b
  refine hK.out _ _ ?_ (fun hHeld => ?_)
  · exact tc
  clear hK K
  try simp only [Act.put, List.getElem_toArray, List.getElem_cons_zero, List.getElem_cons_succ, List.setIfInBounds_toArray, List.set_cons_zero, List.set_cons_succ]
  refine wpAnyH_take (i := 31) (v := ?_) rfl (by kernel_rfl) (by kernel_rfl) (by kernel_rfl) (fun _ _ _ h => h) (Or.inl ⟨by rfl, ?_⟩) hHeld ?_
  rotate_left
  · (intro w hSw; (try dsimp only at hSw); go_simp; (try with_reducible rfl))
  try simp only [Act.put, List.getElem_toArray, List.getElem_cons_zero, List.getElem_cons_succ, List.setIfInBounds_toArray, List.set_cons_zero, List.set_cons_succ]
  refine wpAnyH_take (i := 32) (v := ?_) rfl (by kernel_rfl) (by kernel_rfl) (by kernel_rfl) (fun _ _ _ h => h) (Or.inl ⟨by rfl, ?_⟩) hHeld ?_
  rotate_left
  · (intro w hSw; (try dsimp only at hSw); go_simp; (try with_reducible rfl))
  try simp only [Act.put, List.getElem_toArray, List.getElem_cons_zero, List.getElem_cons_succ, List.setIfInBounds_toArray, List.set_cons_zero, List.set_cons_succ]
  refine wpAnyH_take (i := 33) (v := ?_) rfl (by kernel_rfl) (by kernel_rfl) (by kernel_rfl) (fun _ _ _ h => h) (Or.inl ⟨by rfl, ?_⟩) hHeld ?_
  rotate_left
  · (intro w hSw; (try dsimp only at hSw); go_simp; (try with_reducible rfl))
  try simp only [Act.put, List.getElem_toArray, List.getElem_cons_zero, List.getElem_cons_succ, List.setIfInBounds_toArray, List.set_cons_zero, List.set_cons_succ]
  refine wpAnyH_take (i := 34) (v := ?_) rfl (by kernel_rfl) (by kernel_rfl) (by kernel_rfl) (fun _ _ _ h => h) (Or.inl ⟨by rfl, ?_⟩) hHeld ?_
  rotate_left
  · (intro w hSw; (try dsimp only at hSw); go_simp; (try with_reducible rfl))
  try simp only [Act.put, List.getElem_toArray, List.getElem_cons_zero, List.getElem_cons_succ, List.setIfInBounds_toArray, List.set_cons_zero, List.set_cons_succ]
  refine wpAnyH_ready (rs := [35]) (by kernel_rfl) (by simp) ?_
  refine AllReadyH.cons rfl (fun K hK => ?_) AllReadyH.nil
  (try simp only [List.getElem_toArray, List.getElem_cons_zero, List.getElem_cons_succ])
  rw [if_pos (by rfl)]
  go_simp
  go_at_call 17
  refine (rsameB_self hy hz (by rw [hy.1]; omega)).mono ?_
  rintro e w14 ⟨rfl, b⟩
  replace tc := (b.cell (p := ⟨w1.heap.size, x, none⟩) tbl).trans tc
  replace tbl := Nat.lt_of_lt_of_le tbl b.size
  replace hA := hA.on b
  replace hy := hy.on b
  replace hz := hz.on b
  replace hu := hu.on b
  replace hv_ := hv_.on b
  replace cc := cc.trans (b.mono cc.size)
  clear b
  refine hK.out _ _ ?_ (fun hHeld => ?_)
  · exact tc
  clear hK K
  try simp only [Act.put, List.getElem_toArray, List.getElem_cons_zero, List.getElem_cons_succ, List.setIfInBounds_toArray, List.set_cons_zero, List.set_cons_succ]
  refine wpAnyH_take (i := 36) (v := ?_) rfl (by kernel_rfl) (by kernel_rfl) (by kernel_rfl) (fun _ _ _ h => h) (Or.inl ⟨by rfl, ?_⟩) hHeld ?_
  rotate_left
  · (intro w hSw; (try dsimp only at hSw); go_simp; (try with_reducible rfl))
  try simp only [Act.put, List.getElem_toArray, List.getElem_cons_zero, List.getElem_cons_succ, List.setIfInBounds_toArray, List.set_cons_zero, List.set_cons_succ]
  refine wpAnyH_take (i := 37) (v := ?_) rfl (by kernel_rfl) (by kernel_rfl) (by kernel_rfl) (fun _ _ _ h => h) (Or.inl ⟨by rfl, ?_⟩) hHeld ?_
  rotate_left
  · (intro w hSw; (try dsimp only at hSw); go_simp; (try with_reducible rfl))
  try simp only [Act.put, List.getElem_toArray, List.getElem_cons_zero, List.getElem_cons_succ, List.setIfInBounds_toArray, List.set_cons_zero, List.set_cons_succ]
  refine wpAnyH_take (i := 38) (v := ?_) rfl (by kernel_rfl) (by kernel_rfl) (by kernel_rfl) (fun _ _ _ h => h) (Or.inl ⟨by rfl, ?_⟩) hHeld ?_
  rotate_left
  · (intro w hSw; (try dsimp only at hSw); go_simp; (try with_reducible rfl))
  try simp only [Act.put, List.getElem_toArray, List.getElem_cons_zero, List.getElem_cons_succ, List.setIfInBounds_toArray, List.set_cons_zero, List.set_cons_succ]
  refine wpAnyH_take (i := 39) (v := ?_) rfl (by kernel_rfl) (by kernel_rfl) (by kernel_rfl) (fun _ _ _ h => h) (Or.inl ⟨by rfl, ?_⟩) hHeld ?_
  rotate_left
  · (intro w hSw; (try dsimp only at hSw); go_simp; (try with_reducible rfl))
  try simp only [Act.put, List.getElem_toArray, List.getElem_cons_zero, List.getElem_cons_succ, List.setIfInBounds_toArray, List.set_cons_zero, List.set_cons_succ]
  refine wpAnyH_take (i := 40) (v := ?_) rfl (by kernel_rfl) (by kernel_rfl) (by kernel_rfl) (fun _ _ _ h => h) (Or.inl ⟨by rfl, ?_⟩) hHeld ?_
  rotate_left
  · (intro w hSw; (try dsimp only at hSw); go_simp; (try with_reducible rfl))
  try simp only [Act.put, List.getElem_toArray, List.getElem_cons_zero, List.getElem_cons_succ, List.setIfInBounds_toArray, List.set_cons_zero, List.set_cons_succ]
  refine wpAnyH_take (i := 41) (v := ?_) rfl (by kernel_rfl) (by kernel_rfl) (by kernel_rfl) (fun _ _ _ h => h) (Or.inl ⟨by rfl, ?_⟩) hHeld ?_
  rotate_left
  · (intro w hSw; (try dsimp only at hSw); go_simp; (try with_reducible rfl))
  try simp only [Act.put, List.getElem_toArray, List.getElem_cons_zero, List.getElem_cons_succ, List.setIfInBounds_toArray, List.set_cons_zero, List.set_cons_succ]
  refine wpAnyH_take (i := 42) (v := ?_) rfl (by kernel_rfl) (by kernel_rfl) (by kernel_rfl) (fun _ _ _ h => h) (Or.inl ⟨by rfl, ?_⟩) hHeld ?_
  rotate_left
  · (intro w hSw; (try dsimp only at hSw); go_simp; (try with_reducible rfl))
  try simp only [Act.put, List.getElem_toArray, List.getElem_cons_zero, List.getElem_cons_succ, List.setIfInBounds_toArray, List.set_cons_zero, List.set_cons_succ]
  refine wpAnyH_done (by kernel_rfl) ?_ _
  clear hHeld
  go_wp2_with fail
  go_ret
  exact ⟨rfl, cc⟩

theorem u32_nat {a : Int} (h : (Lit.int .u32 a).wf = true) : ∃ q : Nat, a = (q : Int) ∧ q < 4294967296 := by
  have : 0 ≤ a ∧ a ≤ 4294967295 := bounds_u32 h
  exact ⟨a.toNat, by omega, by omega⟩
theorem u8_nat12 {a : Int} (h : (Lit.int .u8 a).wf = true) : ∃ q : Nat, a = (q : Int) ∧ q < 256 := by
  have : 0 ≤ a ∧ a ≤ 255 := bounds_u8 h
  exact ⟨a.toNat, by omega, by omega⟩
theorem CrcTells_walk {w : World} (s : Int) (ws : (Lit.int .u32 s).wf = true) (x : Int) (wx : (Lit.int .u8 x).wf = true) {A : Option Addr} {n c : Nat} {l : List Nat} (hA : BR w A n c l) (hn : n ≤ 9223372036854775807) : Calls Try.prog 3 #[.int .u32 s, .int .u8 x, .slice A n c] w fun e w' => e = .returned (.bool true) ∧ Below w.heap.size w w' := by
  obtain ⟨s, rfl, hs⟩ := u32_nat ws
  obtain ⟨x, rfl, hx⟩ := u8_nat12 wx
  by_cases h : 2000 < n
  · exact CrcTells_few h
  · exact CrcTells_yes hA (by omega) hs hx

end Go.Proofs.Ytkknopahiajeeaa
