/-
  The walk of TensApart.
-/
import Derived.Test.YtpidpebgeblenaaA13
import Derived.Test.YtpidpebgeblenaaA3
namespace Go.Proofs.Ytpidpebgeblenaa
set_option maxRecDepth 100000
open Go.RowKit
set_option linter.unusedVariables false
set_option linter.unusedSimpArgs false

set_option maxRecDepth 100000 in
set_option maxHeartbeats 8000000 in
theorem TensApart_few {w : World} {kk ks km ko : Int} {A : Option Addr} {n c : Nat} {L : List Int} {x v : Int} {a : Nat} (ha : bits .and .i64 x 31 = (a : Int)) (hA : IR w A n c L) (h : 24 < n) :
    Calls Try.prog 4 #[.agg #[.int .i64 kk, .int .i64 ks, .int .i64 km, .int .i64 ko], .slice A n c, .agg #[.int .i64 x, .int .i64 v]] w fun e w' => e = .returned (.bool true) ∧ Below w.heap.size w w' := by
  have t0 : decide (24 < n) = true := decide_eq_true h
  have t1 : decide ((24 : Int) < (n : Int)) = true := decide_eq_true (by omega)
  clear h hA
  have cc := Below.refl w.heap.size w
  go_enter Try.func4, Try.ntmps4
  go_wp2_with fail
  have bA : Below w.heap.size w ((w.alloc (.cells #[.int .i64 kk, .int .i64 ks, .int .i64 km, .int .i64 ko] 23)).alloc (.cells #[.int .i64 x, .int .i64 v] 37)) := (((Below.refl _ w).alloc (by simp) _).alloc (by simp) _)
  replace cc := bK cc bA
  clear bA
  have ka0 : ((w.alloc (.cells #[.int .i64 kk, .int .i64 ks, .int .i64 km, .int .i64 ko] 23)).alloc (.cells #[.int .i64 x, .int .i64 v] 37)).cell? ⟨w.heap.size, 0, none⟩ = some (.int .i64 kk) := by simp [go_sem]
  have ka1 : ((w.alloc (.cells #[.int .i64 kk, .int .i64 ks, .int .i64 km, .int .i64 ko] 23)).alloc (.cells #[.int .i64 x, .int .i64 v] 37)).cell? ⟨w.heap.size, 1, none⟩ = some (.int .i64 ks) := by simp [go_sem]
  have ka2 : ((w.alloc (.cells #[.int .i64 kk, .int .i64 ks, .int .i64 km, .int .i64 ko] 23)).alloc (.cells #[.int .i64 x, .int .i64 v] 37)).cell? ⟨w.heap.size, 2, none⟩ = some (.int .i64 km) := by simp [go_sem]
  have ka3 : ((w.alloc (.cells #[.int .i64 kk, .int .i64 ks, .int .i64 km, .int .i64 ko] 23)).alloc (.cells #[.int .i64 x, .int .i64 v] 37)).cell? ⟨w.heap.size, 3, none⟩ = some (.int .i64 ko) := by simp [go_sem]
  have kal : w.heap.size < ((w.alloc (.cells #[.int .i64 kk, .int .i64 ks, .int .i64 km, .int .i64 ko] 23)).alloc (.cells #[.int .i64 x, .int .i64 v] 37)).heap.size := by simp <;> omega
  have pw0 : ((w.alloc (.cells #[.int .i64 kk, .int .i64 ks, .int .i64 km, .int .i64 ko] 23)).alloc (.cells #[.int .i64 x, .int .i64 v] 37)).cell? ⟨w.heap.size + 1, 0, none⟩ = some (.int .i64 x) := by simp [go_sem]
  have pw1 : ((w.alloc (.cells #[.int .i64 kk, .int .i64 ks, .int .i64 km, .int .i64 ko] 23)).alloc (.cells #[.int .i64 x, .int .i64 v] 37)).cell? ⟨w.heap.size + 1, 1, none⟩ = some (.int .i64 v) := by simp [go_sem]
  have pwl : w.heap.size + 1 < ((w.alloc (.cells #[.int .i64 kk, .int .i64 ks, .int .i64 km, .int .i64 ko] 23)).alloc (.cells #[.int .i64 x, .int .i64 v] 37)).heap.size := by simp <;> omega
  generalize (w.alloc (.cells #[.int .i64 kk, .int .i64 ks, .int .i64 km, .int .i64 ko] 23)).alloc (.cells #[.int .i64 x, .int .i64 v] 37) = v1 at *
  go_wp2_with fail
  refine (alive14_any _).mono ?_
  rintro e w2 ⟨rfl, b⟩
  replace ka0 := cK b ka0 kal
  replace ka1 := cK b ka1 kal
  replace ka2 := cK b ka2 kal
  replace ka3 := cK b ka3 kal
  replace kal := lK b kal
  replace pw0 := cK b pw0 pwl
  replace pw1 := cK b pw1 pwl
  replace pwl := lK b pwl
  replace cc := bK cc b
  clear b
  go_wp2_with fail
  go_ret
  exact ⟨rfl, cc⟩

set_option maxRecDepth 100000 in
set_option maxHeartbeats 8000000 in
theorem TensApart_out {w : World} {kk ks km ko : Int} {A : Option Addr} {n c : Nat} {L : List Int} {x v : Int} {a : Nat} (ha : bits .and .i64 x 31 = (a : Int)) (hA : IR w A n c L) (h : n ≤ 24) (h2 : n ≤ a) :
    Calls Try.prog 4 #[.agg #[.int .i64 kk, .int .i64 ks, .int .i64 km, .int .i64 ko], .slice A n c, .agg #[.int .i64 x, .int .i64 v]] w fun e w' => e = .returned (.bool true) ∧ Below w.heap.size w w' := by
  have t0 : decide (24 < n) = false := decide_eq_false (by omega)
  have t1 : decide ((24 : Int) < (n : Int)) = false := decide_eq_false (by omega)
  have t2 : decide (n ≤ a) = true := decide_eq_true h2
  have t3 : decide ((n : Int) ≤ (a : Int)) = true := decide_eq_true (by omega)
  clear h h2 hA
  have cc := Below.refl w.heap.size w
  go_enter Try.func4, Try.ntmps4
  go_wp2_with fail
  have bA : Below w.heap.size w ((w.alloc (.cells #[.int .i64 kk, .int .i64 ks, .int .i64 km, .int .i64 ko] 23)).alloc (.cells #[.int .i64 x, .int .i64 v] 37)) := (((Below.refl _ w).alloc (by simp) _).alloc (by simp) _)
  replace cc := bK cc bA
  clear bA
  have ka0 : ((w.alloc (.cells #[.int .i64 kk, .int .i64 ks, .int .i64 km, .int .i64 ko] 23)).alloc (.cells #[.int .i64 x, .int .i64 v] 37)).cell? ⟨w.heap.size, 0, none⟩ = some (.int .i64 kk) := by simp [go_sem]
  have ka1 : ((w.alloc (.cells #[.int .i64 kk, .int .i64 ks, .int .i64 km, .int .i64 ko] 23)).alloc (.cells #[.int .i64 x, .int .i64 v] 37)).cell? ⟨w.heap.size, 1, none⟩ = some (.int .i64 ks) := by simp [go_sem]
  have ka2 : ((w.alloc (.cells #[.int .i64 kk, .int .i64 ks, .int .i64 km, .int .i64 ko] 23)).alloc (.cells #[.int .i64 x, .int .i64 v] 37)).cell? ⟨w.heap.size, 2, none⟩ = some (.int .i64 km) := by simp [go_sem]
  have ka3 : ((w.alloc (.cells #[.int .i64 kk, .int .i64 ks, .int .i64 km, .int .i64 ko] 23)).alloc (.cells #[.int .i64 x, .int .i64 v] 37)).cell? ⟨w.heap.size, 3, none⟩ = some (.int .i64 ko) := by simp [go_sem]
  have kal : w.heap.size < ((w.alloc (.cells #[.int .i64 kk, .int .i64 ks, .int .i64 km, .int .i64 ko] 23)).alloc (.cells #[.int .i64 x, .int .i64 v] 37)).heap.size := by simp <;> omega
  have pw0 : ((w.alloc (.cells #[.int .i64 kk, .int .i64 ks, .int .i64 km, .int .i64 ko] 23)).alloc (.cells #[.int .i64 x, .int .i64 v] 37)).cell? ⟨w.heap.size + 1, 0, none⟩ = some (.int .i64 x) := by simp [go_sem]
  have pw1 : ((w.alloc (.cells #[.int .i64 kk, .int .i64 ks, .int .i64 km, .int .i64 ko] 23)).alloc (.cells #[.int .i64 x, .int .i64 v] 37)).cell? ⟨w.heap.size + 1, 1, none⟩ = some (.int .i64 v) := by simp [go_sem]
  have pwl : w.heap.size + 1 < ((w.alloc (.cells #[.int .i64 kk, .int .i64 ks, .int .i64 km, .int .i64 ko] 23)).alloc (.cells #[.int .i64 x, .int .i64 v] 37)).heap.size := by simp <;> omega
  generalize (w.alloc (.cells #[.int .i64 kk, .int .i64 ks, .int .i64 km, .int .i64 ko] 23)).alloc (.cells #[.int .i64 x, .int .i64 v] 37) = v1 at *
  go_wp2_with fail
  refine (alive14_any _).mono ?_
  rintro e w2 ⟨rfl, b⟩
  replace ka0 := cK b ka0 kal
  replace ka1 := cK b ka1 kal
  replace ka2 := cK b ka2 kal
  replace ka3 := cK b ka3 kal
  replace kal := lK b kal
  replace pw0 := cK b pw0 pwl
  replace pw1 := cK b pw1 pwl
  replace pwl := lK b pwl
  replace cc := bK cc b
  clear b
  go_wp2_with fail
  go_ret
  exact ⟨rfl, cc⟩

set_option maxRecDepth 100000 in
set_option maxHeartbeats 8000000 in
theorem TensApart_yy {w : World} {kk ks km ko : Int} {A : Option Addr} {n c : Nat} {L : List Int} {x v : Int} {a : Nat} (ha : bits .and .i64 x 31 = (a : Int)) (hA : IR w A n c L) (h : n ≤ 24) (h2 : a < n) (hks : 1 ≤ ks ∧ ks ≤ 4096) {D E : List Bk} {nb : Nat} (hDl : D.length = nb) (hEl : E.length = nb) (hb24 : nb ≤ 24) (heq : ∀ i, i < nb → i ≠ a / ks.toNat → D[i]?.getD bk0 = E[i]?.getD bk0) (O0 : ∀ {W : World} {A : Option Addr} {c : Nat}, IR W A n c L → Calls Try.prog 7 #[.agg #[.int .i64 kk, .int .i64 ks, .int .i64 km, .int .i64 ko], .slice A n c] W (GotSto W kk ks km ko (n : Int) D)) (O1 : ∀ {W : World} {A : Option Addr} {c : Nat}, IR W A n c (L.set a v) → Calls Try.prog 7 #[.agg #[.int .i64 kk, .int .i64 ks, .int .i64 km, .int .i64 ko], .slice A n c] W (GotSto W kk ks km ko (n : Int) E)) :
    Calls Try.prog 4 #[.agg #[.int .i64 kk, .int .i64 ks, .int .i64 km, .int .i64 ko], .slice A n c, .agg #[.int .i64 x, .int .i64 v]] w fun e w' => e = .returned (.bool true) ∧ Below w.heap.size w w' := by
  have t0 : decide (24 < n) = false := decide_eq_false (by omega)
  have t1 : decide ((24 : Int) < (n : Int)) = false := decide_eq_false (by omega)
  have t2 : decide (n ≤ a) = false := decide_eq_false (by omega)
  have t3 : decide ((n : Int) ≤ (a : Int)) = false := decide_eq_false (by omega)
  have HN := Lib.hid h
  have HAN := Lib.hid h2
  have HL := Lib.hid hA.1
  have ja : (a : Int) < (n : Int) := by omega
  have hn0 : 0 < n := by omega
  have hn24 : n ≤ 24 := h
  clear h h2
  have HDL := Lib.hid hDl
  have HEL := Lib.hid hEl
  have HB24 := Lib.hid hb24
  have HKS := Lib.hid hks
  have HEQ := Lib.hid heq
  clear hDl hEl hb24 hks heq
  obtain ⟨bb, off, rfl, _⟩ := hA.some hn0
  have cc := Below.refl w.heap.size w
  go_enter Try.func4, Try.ntmps4
  go_upto_region 4 with fail
  have bA : Below w.heap.size w ((w.alloc (.cells #[.int .i64 kk, .int .i64 ks, .int .i64 km, .int .i64 ko] 23)).alloc (.cells #[.int .i64 x, .int .i64 v] 37)) := (((Below.refl _ w).alloc (by simp) _).alloc (by simp) _)
  replace hA := hA.on bA
  replace cc := bK cc bA
  clear bA
  have ka0 : ((w.alloc (.cells #[.int .i64 kk, .int .i64 ks, .int .i64 km, .int .i64 ko] 23)).alloc (.cells #[.int .i64 x, .int .i64 v] 37)).cell? ⟨w.heap.size, 0, none⟩ = some (.int .i64 kk) := by simp [go_sem]
  have ka1 : ((w.alloc (.cells #[.int .i64 kk, .int .i64 ks, .int .i64 km, .int .i64 ko] 23)).alloc (.cells #[.int .i64 x, .int .i64 v] 37)).cell? ⟨w.heap.size, 1, none⟩ = some (.int .i64 ks) := by simp [go_sem]
  have ka2 : ((w.alloc (.cells #[.int .i64 kk, .int .i64 ks, .int .i64 km, .int .i64 ko] 23)).alloc (.cells #[.int .i64 x, .int .i64 v] 37)).cell? ⟨w.heap.size, 2, none⟩ = some (.int .i64 km) := by simp [go_sem]
  have ka3 : ((w.alloc (.cells #[.int .i64 kk, .int .i64 ks, .int .i64 km, .int .i64 ko] 23)).alloc (.cells #[.int .i64 x, .int .i64 v] 37)).cell? ⟨w.heap.size, 3, none⟩ = some (.int .i64 ko) := by simp [go_sem]
  have kal : w.heap.size < ((w.alloc (.cells #[.int .i64 kk, .int .i64 ks, .int .i64 km, .int .i64 ko] 23)).alloc (.cells #[.int .i64 x, .int .i64 v] 37)).heap.size := by simp <;> omega
  have pw0 : ((w.alloc (.cells #[.int .i64 kk, .int .i64 ks, .int .i64 km, .int .i64 ko] 23)).alloc (.cells #[.int .i64 x, .int .i64 v] 37)).cell? ⟨w.heap.size + 1, 0, none⟩ = some (.int .i64 x) := by simp [go_sem]
  have pw1 : ((w.alloc (.cells #[.int .i64 kk, .int .i64 ks, .int .i64 km, .int .i64 ko] 23)).alloc (.cells #[.int .i64 x, .int .i64 v] 37)).cell? ⟨w.heap.size + 1, 1, none⟩ = some (.int .i64 v) := by simp [go_sem]
  have pwl : w.heap.size + 1 < ((w.alloc (.cells #[.int .i64 kk, .int .i64 ks, .int .i64 km, .int .i64 ko] 23)).alloc (.cells #[.int .i64 x, .int .i64 v] 37)).heap.size := by simp <;> omega
  generalize (w.alloc (.cells #[.int .i64 kk, .int .i64 ks, .int .i64 km, .int .i64 ko] 23)).alloc (.cells #[.int .i64 x, .int .i64 v] 37) = v1 at *
  obtain ⟨i0, hi0, hz0, hz1, hz2⟩ := info_parts infoI
  obtain ⟨t, ht⟩ : ∃ t, v1.heap.size = t := ⟨_, rfl⟩
  have HTT := Lib.hid ht
  have HNV : Hid (∀ j u, (L.map encI)[j]? = some u → (v1.alloc (.cells #[] 2)).cell? ((⟨bb, off, none⟩ : Addr).add j) = some u) := Lib.hid (ir_news hA (one_up _ _))
  have HO : Hid ((v1.alloc (.cells #[] 2)).ownsRow t 2 1 (.slice (some ⟨v1.heap.size, 0, none⟩) 0 0) 0 ([] : List Value)) := Lib.hid (World.ownsRow_lit v1 #[] 0 (by omega) (by unfold maxLen; omega) rfl)
  have HB : Hid (Below t v1 (v1.alloc (.cells #[] 2))) := Lib.hid ((Below.refl t v1).alloc (by omega) _)
  have t_le : t ≤ v1.heap.size + 1 := by omega
  have HAV := Lib.hid hA
  have CCV := Lib.hid cc
  have HKA0 := Lib.hid ka0
  have HKA1 := Lib.hid ka1
  have HKA2 := Lib.hid ka2
  have HKA3 := Lib.hid ka3
  have HPW0 := Lib.hid pw0
  have HPW1 := Lib.hid pw1
  have HKAL := Lib.hid kal
  have HPWL := Lib.hid pwl
  clear ht hA cc  
  go_wp2_with (at_builtin; refine wpList_append_lies _ rfl _ _ 24 rfl t 2 i0 (.int .i64 0) 1 8 Try.underlying24 hi0 hz0 hz1 hz2 rfl (by decide) _ 0 [] rfl HO.out ⟨bb, off, none⟩ n c (L.map encI) rfl (by rw [List.length_map, ← HL.out]; simp) HNV.out (by simp [encI, Value.oneCell']) hn0 (by unfold maxLen; omega) (by omega) (by simp; omega) _ rfl ?_; intro gq cq w3 hown1 hgrow1 hat hlt1; rw [List.nil_append] at hown1; rw [Nat.zero_add] at hown1; have h1 : Below t v1 w3 := HB.out.grown hgrow1 (by simp; omega) (fun q e => by injection (show some v1.heap.size = some q from e) with e1; have := HTT.out; omega); have hgt := (hown1.lt gq rfl).1; rw [← HTT.out] at h1; rw [← HTT.out] at hgt; replace ka0 := (h1.cell (p := ⟨w.heap.size, 0, none⟩) HKAL.out).trans HKA0.out; replace ka1 := (h1.cell (p := ⟨w.heap.size, 1, none⟩) HKAL.out).trans HKA1.out; replace ka2 := (h1.cell (p := ⟨w.heap.size, 2, none⟩) HKAL.out).trans HKA2.out; replace ka3 := (h1.cell (p := ⟨w.heap.size, 3, none⟩) HKAL.out).trans HKA3.out; replace pw0 := (h1.cell (p := ⟨w.heap.size + 1, 0, none⟩) HPWL.out).trans HPW0.out; replace pw1 := (h1.cell (p := ⟨w.heap.size + 1, 1, none⟩) HPWL.out).trans HPW1.out; have HOW := Lib.hid hown1; have HB1 := Lib.hid h1; have HGT := Lib.hid hgt; have cx := hown1.cellAt a (by have := HAN.out; omega); obtain ⟨v0_, ev0⟩ : ∃ v, (L.map encI)[a]? = some v := ⟨_, List.getElem?_eq_getElem (by rw [List.length_map, ← HL.out]; exact HAN.out)⟩; rw [ev0] at cx; have fx := hown1.frozenAt a; clear h1 hown1 hgrow1 hat hgt; have b5 : Below v1.heap.size v1 (w3.setCell ⟨gq, a, none⟩ (.int .i64 v)) := HB1.out.setCell (p := ⟨gq, a, none⟩) HGT.out _; have h5 := (HOW.out.stored a (.int .i64 v)).1; have e5 : (L.map encI).set a (.int .i64 v) = (L.set a v).map encI := (by rw [List.map_set]; rfl); rw [e5] at h5; have HM := Lib.hid (IR.of_own h5); have HB5 := Lib.hid b5; have Zka0 := (b5.cell (p := ⟨w.heap.size, 0, none⟩) HKAL.out).trans HKA0.out; have Zka1 := (b5.cell (p := ⟨w.heap.size, 1, none⟩) HKAL.out).trans HKA1.out; have Zka2 := (b5.cell (p := ⟨w.heap.size, 2, none⟩) HKAL.out).trans HKA2.out; have Zka3 := (b5.cell (p := ⟨w.heap.size, 3, none⟩) HKAL.out).trans HKA3.out; have Zpw0 := (b5.cell (p := ⟨w.heap.size + 1, 0, none⟩) HPWL.out).trans HPW0.out; have Zpw1 := (b5.cell (p := ⟨w.heap.size + 1, 1, none⟩) HPWL.out).trans HPW1.out; clear b5 h5 e5)
  have hM := HM.out
  have hA := HAV.out.on HB5.out
  have cc := CCV.out.trans (HB5.out.mono CCV.out.size)
  have kal := Nat.lt_of_lt_of_le HKAL.out HB5.out.size
  have pwl := Nat.lt_of_lt_of_le HPWL.out HB5.out.size
  clear cx fx ev0 HM HB5 HOW HB1 hlt1 ka0 ka1 ka2 ka3 pw0 pw1
  generalize w3.setCell ⟨gq, a, none⟩ (.int .i64 v) = w5 at *
  have ka0 := Zka0
  have ka1 := Zka1
  have ka2 := Zka2
  have ka3 := Zka3
  have pw0 := Zpw0
  have pw1 := Zpw1
  clear Zka0 Zka1 Zka2 Zka3 Zpw0 Zpw1
  refine (O0 hA).mono ?_
  rintro e w11 ⟨Ax, nx, cx, rfl, hx, b⟩
  replace hA := hA.on b
  replace hM := hM.on b
  replace ka0 := cK b ka0 kal
  replace ka1 := cK b ka1 kal
  replace ka2 := cK b ka2 kal
  replace ka3 := cK b ka3 kal
  replace kal := lK b kal
  replace pw0 := cK b pw0 pwl
  replace pw1 := cK b pw1 pwl
  replace pwl := lK b pwl
  replace cc := bK cc b
  clear b
  obtain rfl : nx = nb := hx.1.trans HDL.out
  go_upto_region 7 with fail
  have bxqka : w.heap.size < w11.heap.size := kal
  have bxqpw : w.heap.size + 1 < w11.heap.size := pwl
  have bA := below_one w11 (.cells #[.int .i64 kk, .int .i64 ks, .int .i64 km, .int .i64 ko, .int .i64 (n : Int), .slice Ax nx cx] 28)
  replace hA := hA.on bA
  replace hM := hM.on bA
  replace hx := hx.on bA
  replace ka0 := cK bA ka0 kal
  replace ka1 := cK bA ka1 kal
  replace ka2 := cK bA ka2 kal
  replace ka3 := cK bA ka3 kal
  replace kal := lK bA kal
  replace pw0 := cK bA pw0 pwl
  replace pw1 := cK bA pw1 pwl
  replace pwl := lK bA pwl
  replace cc := bK cc bA
  clear bA
  have bx0 : (w11.alloc (.cells #[.int .i64 kk, .int .i64 ks, .int .i64 km, .int .i64 ko, .int .i64 (n : Int), .slice Ax nx cx] 28)).cell? ⟨w11.heap.size, 0, none⟩ = some (.int .i64 kk) := by simp [go_sem]
  have bx1 : (w11.alloc (.cells #[.int .i64 kk, .int .i64 ks, .int .i64 km, .int .i64 ko, .int .i64 (n : Int), .slice Ax nx cx] 28)).cell? ⟨w11.heap.size, 1, none⟩ = some (.int .i64 ks) := by simp [go_sem]
  have bx2 : (w11.alloc (.cells #[.int .i64 kk, .int .i64 ks, .int .i64 km, .int .i64 ko, .int .i64 (n : Int), .slice Ax nx cx] 28)).cell? ⟨w11.heap.size, 2, none⟩ = some (.int .i64 km) := by simp [go_sem]
  have bx3 : (w11.alloc (.cells #[.int .i64 kk, .int .i64 ks, .int .i64 km, .int .i64 ko, .int .i64 (n : Int), .slice Ax nx cx] 28)).cell? ⟨w11.heap.size, 3, none⟩ = some (.int .i64 ko) := by simp [go_sem]
  have bx4 : (w11.alloc (.cells #[.int .i64 kk, .int .i64 ks, .int .i64 km, .int .i64 ko, .int .i64 (n : Int), .slice Ax nx cx] 28)).cell? ⟨w11.heap.size, 4, none⟩ = some (.int .i64 (n : Int)) := by simp [go_sem]
  have bx5 : (w11.alloc (.cells #[.int .i64 kk, .int .i64 ks, .int .i64 km, .int .i64 ko, .int .i64 (n : Int), .slice Ax nx cx] 28)).cell? ⟨w11.heap.size, 5, none⟩ = some (.slice Ax nx cx) := by simp [go_sem]
  have bxl : w11.heap.size < (w11.alloc (.cells #[.int .i64 kk, .int .i64 ks, .int .i64 km, .int .i64 ko, .int .i64 (n : Int), .slice Ax nx cx] 28)).heap.size := by simp
  generalize w11.alloc (.cells #[.int .i64 kk, .int .i64 ks, .int .i64 km, .int .i64 ko, .int .i64 (n : Int), .slice Ax nx cx] 28) = v12 at *
  go_wp2_with fail
  refine (O1 hM).mono ?_
  rintro e w13 ⟨Ay, ny, cy, rfl, hy, b⟩
  replace hA := hA.on b
  replace hM := hM.on b
  replace hx := hx.on b
  replace ka0 := cK b ka0 kal
  replace ka1 := cK b ka1 kal
  replace ka2 := cK b ka2 kal
  replace ka3 := cK b ka3 kal
  replace kal := lK b kal
  replace pw0 := cK b pw0 pwl
  replace pw1 := cK b pw1 pwl
  replace pwl := lK b pwl
  replace bx0 := cK b bx0 bxl
  replace bx1 := cK b bx1 bxl
  replace bx2 := cK b bx2 bxl
  replace bx3 := cK b bx3 bxl
  replace bx4 := cK b bx4 bxl
  replace bx5 := cK b bx5 bxl
  replace bxl := lK b bxl
  replace cc := bK cc b
  clear b
  obtain rfl : ny = nx := hy.1.trans HEL.out
  go_upto_region 8 with fail
  have by_qka : w.heap.size < w13.heap.size := kal
  have by_qpw : w.heap.size + 1 < w13.heap.size := pwl
  have by_qbx : w11.heap.size < w13.heap.size := bxl
  have bA := below_one w13 (.cells #[.int .i64 kk, .int .i64 ks, .int .i64 km, .int .i64 ko, .int .i64 (n : Int), .slice Ay ny cy] 28)
  replace hA := hA.on bA
  replace hM := hM.on bA
  replace hx := hx.on bA
  replace hy := hy.on bA
  replace ka0 := cK bA ka0 kal
  replace ka1 := cK bA ka1 kal
  replace ka2 := cK bA ka2 kal
  replace ka3 := cK bA ka3 kal
  replace kal := lK bA kal
  replace pw0 := cK bA pw0 pwl
  replace pw1 := cK bA pw1 pwl
  replace pwl := lK bA pwl
  replace bx0 := cK bA bx0 bxl
  replace bx1 := cK bA bx1 bxl
  replace bx2 := cK bA bx2 bxl
  replace bx3 := cK bA bx3 bxl
  replace bx4 := cK bA bx4 bxl
  replace bx5 := cK bA bx5 bxl
  replace bxl := lK bA bxl
  replace cc := bK cc bA
  clear bA
  have by_0 : (w13.alloc (.cells #[.int .i64 kk, .int .i64 ks, .int .i64 km, .int .i64 ko, .int .i64 (n : Int), .slice Ay ny cy] 28)).cell? ⟨w13.heap.size, 0, none⟩ = some (.int .i64 kk) := by simp [go_sem]
  have by_1 : (w13.alloc (.cells #[.int .i64 kk, .int .i64 ks, .int .i64 km, .int .i64 ko, .int .i64 (n : Int), .slice Ay ny cy] 28)).cell? ⟨w13.heap.size, 1, none⟩ = some (.int .i64 ks) := by simp [go_sem]
  have by_2 : (w13.alloc (.cells #[.int .i64 kk, .int .i64 ks, .int .i64 km, .int .i64 ko, .int .i64 (n : Int), .slice Ay ny cy] 28)).cell? ⟨w13.heap.size, 2, none⟩ = some (.int .i64 km) := by simp [go_sem]
  have by_3 : (w13.alloc (.cells #[.int .i64 kk, .int .i64 ks, .int .i64 km, .int .i64 ko, .int .i64 (n : Int), .slice Ay ny cy] 28)).cell? ⟨w13.heap.size, 3, none⟩ = some (.int .i64 ko) := by simp [go_sem]
  have by_4 : (w13.alloc (.cells #[.int .i64 kk, .int .i64 ks, .int .i64 km, .int .i64 ko, .int .i64 (n : Int), .slice Ay ny cy] 28)).cell? ⟨w13.heap.size, 4, none⟩ = some (.int .i64 (n : Int)) := by simp [go_sem]
  have by_5 : (w13.alloc (.cells #[.int .i64 kk, .int .i64 ks, .int .i64 km, .int .i64 ko, .int .i64 (n : Int), .slice Ay ny cy] 28)).cell? ⟨w13.heap.size, 5, none⟩ = some (.slice Ay ny cy) := by simp [go_sem]
  have by_l : w13.heap.size < (w13.alloc (.cells #[.int .i64 kk, .int .i64 ks, .int .i64 km, .int .i64 ko, .int .i64 (n : Int), .slice Ay ny cy] 28)).heap.size := by simp
  generalize w13.alloc (.cells #[.int .i64 kk, .int .i64 ks, .int .i64 km, .int .i64 ko, .int .i64 (n : Int), .slice Ay ny cy] 28) = v14 at *
  have JKA0 := Lib.hid ka0
  have JKA1 := Lib.hid ka1
  have JKA2 := Lib.hid ka2
  have JKA3 := Lib.hid ka3
  have JPW0 := Lib.hid pw0
  have JPW1 := Lib.hid pw1
  have JBX0 := Lib.hid bx0
  have JBX1 := Lib.hid bx1
  have JBX2 := Lib.hid bx2
  have JBX3 := Lib.hid bx3
  have JBX4 := Lib.hid bx4
  have JBX5 := Lib.hid bx5
  have JBY_0 := Lib.hid by_0
  have JBY_1 := Lib.hid by_1
  have JBY_2 := Lib.hid by_2
  have JBY_3 := Lib.hid by_3
  have JBY_4 := Lib.hid by_4
  have JBY_5 := Lib.hid by_5
  have JKAL := Lib.hid kal
  have JPWL := Lib.hid pwl
  have JBXL := Lib.hid bxl
  have JBY_L := Lib.hid by_l
  have HXV := Lib.hid hx
  have HYV := Lib.hid hy
  have CC6 := Lib.hid cc
  clear cc hx hy hA hM O0 O1 bxqka bxqpw by_qka by_qpw by_qbx
  go_wp2_with fail
  go_loopw [13] (fun iv wr => ∃ i : Nat, i ≤ ny ∧ iv = .int .i64 (i : Int) ∧ Below v14.heap.size v14 wr) (fun iv _ => ny - (intOf iv).toNat)
  case atStart => exact ⟨0, by omega, rfl, Below.refl _ _⟩
  case round =>
    clear ka0 ka1 ka2 ka3 pw0 pw1 bx0 bx1 bx2 bx3 bx4 bx5 by_0 by_1 by_2 by_3 by_4 by_5 kal pwl bxl by_l
    obtain ⟨i, hi, rfl, hbl⟩ := hrel
    have ka0 := (hbl.cell (p := ⟨w.heap.size, 0, none⟩) JKAL.out).trans JKA0.out
    have ka1 := (hbl.cell (p := ⟨w.heap.size, 1, none⟩) JKAL.out).trans JKA1.out
    have ka2 := (hbl.cell (p := ⟨w.heap.size, 2, none⟩) JKAL.out).trans JKA2.out
    have ka3 := (hbl.cell (p := ⟨w.heap.size, 3, none⟩) JKAL.out).trans JKA3.out
    have pw0 := (hbl.cell (p := ⟨w.heap.size + 1, 0, none⟩) JPWL.out).trans JPW0.out
    have pw1 := (hbl.cell (p := ⟨w.heap.size + 1, 1, none⟩) JPWL.out).trans JPW1.out
    have bx0 := (hbl.cell (p := ⟨w11.heap.size, 0, none⟩) JBXL.out).trans JBX0.out
    have bx1 := (hbl.cell (p := ⟨w11.heap.size, 1, none⟩) JBXL.out).trans JBX1.out
    have bx2 := (hbl.cell (p := ⟨w11.heap.size, 2, none⟩) JBXL.out).trans JBX2.out
    have bx3 := (hbl.cell (p := ⟨w11.heap.size, 3, none⟩) JBXL.out).trans JBX3.out
    have bx4 := (hbl.cell (p := ⟨w11.heap.size, 4, none⟩) JBXL.out).trans JBX4.out
    have bx5 := (hbl.cell (p := ⟨w11.heap.size, 5, none⟩) JBXL.out).trans JBX5.out
    have by_0 := (hbl.cell (p := ⟨w13.heap.size, 0, none⟩) JBY_L.out).trans JBY_0.out
    have by_1 := (hbl.cell (p := ⟨w13.heap.size, 1, none⟩) JBY_L.out).trans JBY_1.out
    have by_2 := (hbl.cell (p := ⟨w13.heap.size, 2, none⟩) JBY_L.out).trans JBY_2.out
    have by_3 := (hbl.cell (p := ⟨w13.heap.size, 3, none⟩) JBY_L.out).trans JBY_3.out
    have by_4 := (hbl.cell (p := ⟨w13.heap.size, 4, none⟩) JBY_L.out).trans JBY_4.out
    have by_5 := (hbl.cell (p := ⟨w13.heap.size, 5, none⟩) JBY_L.out).trans JBY_5.out
    have kal := Nat.lt_of_lt_of_le JKAL.out hbl.size
    have pwl := Nat.lt_of_lt_of_le JPWL.out hbl.size
    have bxl := Nat.lt_of_lt_of_le JBXL.out hbl.size
    have by_l := Nat.lt_of_lt_of_le JBY_L.out hbl.size
    have cc := CC6.out.trans (hbl.mono CC6.out.size)
    by_cases hlt : i < ny
    · obtain ⟨bk, ok_, hxe, hbk⟩ := (HXV.out.on hbl).some (by omega)
      subst hxe
      obtain ⟨bj, oj, hye, hbj⟩ := (HYV.out.on hbl).some (by omega)
      subst hye
      have n24 := HN.out
      have hks := HKS.out
      have hb24 := HB24.out
      have dq : (a : Int) / ks = ((a / ks.toNat : Nat) : Int) := by rw [Int.natCast_ediv]; congr 1; omega
      obtain ⟨q, hq⟩ : ∃ q, a / ks.toNat = q := ⟨_, rfl⟩
      have hq24 : q ≤ 24 := by have := Nat.div_le_self a ks.toNat; have := HAN.out; omega
      rw [hq] at dq
      have k3q : Int.tdiv (a : Int) ks = (q : Int) := by rw [Int.tdiv_eq_ediv_of_nonneg (by omega)]; exact dq
      have k4q : IntKind.i64.wrap (q : Int) = (q : Int) := IntWalk.i64_in _ (by omega)
      have k6q : IntKind.i64.wrap ((a : Int) / ks) = (q : Int) := by rw [dq]; exact k4q
      have k5 : (ks == 0) = false := beq_eq_false_iff_ne.2 (by omega)
      have k7 : ¬ ks = 0 := by omega
      have jq : (i : Int) < (ny : Int) := by omega
      have k3_ : IntKind.i64.wrap ((i : Int) + 1) = ((i + 1 : Nat) : Int) := by rw [IntWalk.i64_in _ (by omega)]; omega
      obtain ⟨A1, n1, c1, B1, m1, d1, x0, x1, x2, x3, hC1, hW1, hn1, hm1, _, _⟩ := kr_at (HXV.out.on hbl) hlt
      obtain ⟨A2, n2, c2, B2, m2, d2, y0, y1, y2, y3, hC2, hW2, hn2, hm2, _, _⟩ := kr_at (HYV.out.on hbl) hlt
      by_cases hiq : i = q
      · subst hiq
        have ti : ((i : Int) == (i : Int)) = true := beq_self_eq_true _
        have ti2 : ((i : Int) != (i : Int)) = false := by simp
        clear hq x0 x1 x2 x3 y0 y1 y2 y3 hC1 hW1 hC2 hW2
        have hB1 := hbl
        go_wp2_with fail
        have bD : Below wr.heap.size wr wr.drew := below_drewN (Below.refl _ wr) 1
        replace hB1 := bK hB1 bD
        replace ka0 := cK bD ka0 kal
        replace ka1 := cK bD ka1 kal
        replace ka2 := cK bD ka2 kal
        replace ka3 := cK bD ka3 kal
        replace kal := lK bD kal
        replace pw0 := cK bD pw0 pwl
        replace pw1 := cK bD pw1 pwl
        replace pwl := lK bD pwl
        replace bx0 := cK bD bx0 bxl
        replace bx1 := cK bD bx1 bxl
        replace bx2 := cK bD bx2 bxl
        replace bx3 := cK bD bx3 bxl
        replace bx4 := cK bD bx4 bxl
        replace bx5 := cK bD bx5 bxl
        replace bxl := lK bD bxl
        replace by_0 := cK bD by_0 by_l
        replace by_1 := cK bD by_1 by_l
        replace by_2 := cK bD by_2 by_l
        replace by_3 := cK bD by_3 by_l
        replace by_4 := cK bD by_4 by_l
        replace by_5 := cK bD by_5 by_l
        replace by_l := lK bD by_l
        replace cc := bK cc bD
        clear bD
        refine wp_region_held_drew (S := fun w' => w'.cell? ⟨w.heap.size, 0, none⟩ = some (.int .i64 kk) ∧ w'.cell? ⟨w.heap.size, 1, none⟩ = some (.int .i64 ks) ∧ w'.cell? ⟨w.heap.size, 2, none⟩ = some (.int .i64 km) ∧ w'.cell? ⟨w.heap.size, 3, none⟩ = some (.int .i64 ko) ∧ w'.cell? ⟨w.heap.size + 1, 0, none⟩ = some (.int .i64 x) ∧ w'.cell? ⟨w.heap.size + 1, 1, none⟩ = some (.int .i64 v) ∧ w'.cell? ⟨w11.heap.size, 0, none⟩ = some (.int .i64 kk) ∧ w'.cell? ⟨w11.heap.size, 1, none⟩ = some (.int .i64 ks) ∧ w'.cell? ⟨w11.heap.size, 2, none⟩ = some (.int .i64 km) ∧ w'.cell? ⟨w11.heap.size, 3, none⟩ = some (.int .i64 ko) ∧ w'.cell? ⟨w11.heap.size, 4, none⟩ = some (.int .i64 (n : Int)) ∧ w'.cell? ⟨w11.heap.size, 5, none⟩ = some (.slice (some ⟨bk, ok_, none⟩) ny cx) ∧ w'.cell? ⟨w13.heap.size, 0, none⟩ = some (.int .i64 kk) ∧ w'.cell? ⟨w13.heap.size, 1, none⟩ = some (.int .i64 ks) ∧ w'.cell? ⟨w13.heap.size, 2, none⟩ = some (.int .i64 km) ∧ w'.cell? ⟨w13.heap.size, 3, none⟩ = some (.int .i64 ko) ∧ w'.cell? ⟨w13.heap.size, 4, none⟩ = some (.int .i64 (n : Int)) ∧ w'.cell? ⟨w13.heap.size, 5, none⟩ = some (.slice (some ⟨bj, oj, none⟩) ny cy)) (by kernel_rfl) ?_ (fun hHeld => ?_)
        · exact ⟨ka0, ka1, ka2, ka3, pw0, pw1, bx0, bx1, bx2, bx3, bx4, bx5, by_0, by_1, by_2, by_3, by_4, by_5⟩
        refine wpAnyH_take (i := 0) (v := ?_) rfl (by kernel_rfl) (by kernel_rfl) (by kernel_rfl) (fun _ _ _ h => h) (Or.inl ⟨by rfl, ?_⟩) hHeld ?_
        rotate_left
        · (intro w hSw; (try dsimp only at hSw); go_simp; (try with_reducible rfl))
        try simp only [Act.put, List.getElem_toArray, List.getElem_cons_zero, List.getElem_cons_succ, List.setIfInBounds_toArray, List.set_cons_zero, List.set_cons_succ]
        refine wpAnyH_take (i := 1) (v := ?_) rfl (by kernel_rfl) (by kernel_rfl) (by kernel_rfl) (fun _ _ _ h => h) (Or.inl ⟨by rfl, ?_⟩) hHeld ?_
        rotate_left
        · (intro w hSw; (try dsimp only at hSw); go_simp; (try with_reducible rfl))
        try simp only [Act.put, List.getElem_toArray, List.getElem_cons_zero, List.getElem_cons_succ, List.setIfInBounds_toArray, List.set_cons_zero, List.set_cons_succ]
        refine wpAnyH_take (i := 2) (v := ?_) rfl (by kernel_rfl) (by kernel_rfl) (by kernel_rfl) (fun _ _ _ h => h) (Or.inl ⟨by rfl, ?_⟩) hHeld ?_
        rotate_left
        · (intro w hSw; (try dsimp only at hSw); go_simp; (try with_reducible rfl))
        try simp only [Act.put, List.getElem_toArray, List.getElem_cons_zero, List.getElem_cons_succ, List.setIfInBounds_toArray, List.set_cons_zero, List.set_cons_succ]
        refine wpAnyH_take (i := 3) (v := ?_) rfl (by kernel_rfl) (by kernel_rfl) (by kernel_rfl) (fun _ _ _ h => h) (Or.inl ⟨by rfl, ?_⟩) hHeld ?_
        rotate_left
        · (intro w hSw; (try dsimp only at hSw); go_simp; (try with_reducible rfl))
        try simp only [Act.put, List.getElem_toArray, List.getElem_cons_zero, List.getElem_cons_succ, List.setIfInBounds_toArray, List.set_cons_zero, List.set_cons_succ]
        refine wpAnyH_take (i := 4) (v := ?_) rfl (by kernel_rfl) (by kernel_rfl) (by kernel_rfl) (fun _ _ _ h => h) (Or.inl ⟨by rfl, ?_⟩) hHeld ?_
        rotate_left
        · (intro w hSw; (try dsimp only at hSw); go_simp; (try with_reducible rfl))
        try simp only [Act.put, List.getElem_toArray, List.getElem_cons_zero, List.getElem_cons_succ, List.setIfInBounds_toArray, List.set_cons_zero, List.set_cons_succ]
        refine wpAnyH_take (i := 5) (v := ?_) rfl (by kernel_rfl) (by kernel_rfl) (by kernel_rfl) (fun _ _ _ h => h) (Or.inl ⟨by rfl, ?_⟩) hHeld ?_
        rotate_left
        · (intro w hSw; (try dsimp only at hSw); go_simp; (try with_reducible rfl))
        try simp only [Act.put, List.getElem_toArray, List.getElem_cons_zero, List.getElem_cons_succ, List.setIfInBounds_toArray, List.set_cons_zero, List.set_cons_succ]
        refine wpAnyH_take (i := 6) (v := ?_) rfl (by kernel_rfl) (by kernel_rfl) (by kernel_rfl) (fun _ _ _ h => h) (Or.inl ⟨by rfl, ?_⟩) hHeld ?_
        rotate_left
        · (intro w hSw; (try dsimp only at hSw); go_simp; (try with_reducible rfl))
        try simp only [Act.put, List.getElem_toArray, List.getElem_cons_zero, List.getElem_cons_succ, List.setIfInBounds_toArray, List.set_cons_zero, List.set_cons_succ]
        refine wpAnyH_take (i := 7) (v := undef) rfl (by kernel_rfl) (by kernel_rfl) (by kernel_rfl) (fun _ _ _ h => h) (Or.inr ⟨by rfl, rfl⟩) hHeld ?_
        try simp only [Act.put, List.getElem_toArray, List.getElem_cons_zero, List.getElem_cons_succ, List.setIfInBounds_toArray, List.set_cons_zero, List.set_cons_succ]
        refine wpAnyH_take (i := 8) (v := undef) rfl (by kernel_rfl) (by kernel_rfl) (by kernel_rfl) (fun _ _ _ h => h) (Or.inr ⟨by rfl, rfl⟩) hHeld ?_
        try simp only [Act.put, List.getElem_toArray, List.getElem_cons_zero, List.getElem_cons_succ, List.setIfInBounds_toArray, List.set_cons_zero, List.set_cons_succ]
        refine wpAnyH_take (i := 9) (v := undef) rfl (by kernel_rfl) (by kernel_rfl) (by kernel_rfl) (fun _ _ _ h => h) (Or.inr ⟨by rfl, rfl⟩) hHeld ?_
        try simp only [Act.put, List.getElem_toArray, List.getElem_cons_zero, List.getElem_cons_succ, List.setIfInBounds_toArray, List.set_cons_zero, List.set_cons_succ]
        refine wpAnyH_take (i := 10) (v := undef) rfl (by kernel_rfl) (by kernel_rfl) (by kernel_rfl) (fun _ _ _ h => h) (Or.inr ⟨by rfl, rfl⟩) hHeld ?_
        try simp only [Act.put, List.getElem_toArray, List.getElem_cons_zero, List.getElem_cons_succ, List.setIfInBounds_toArray, List.set_cons_zero, List.set_cons_succ]
        refine wpAnyH_take (i := 11) (v := undef) rfl (by kernel_rfl) (by kernel_rfl) (by kernel_rfl) (fun _ _ _ h => h) (Or.inr ⟨by rfl, rfl⟩) hHeld ?_
        try simp only [Act.put, List.getElem_toArray, List.getElem_cons_zero, List.getElem_cons_succ, List.setIfInBounds_toArray, List.set_cons_zero, List.set_cons_succ]
        refine wpAnyH_take (i := 12) (v := undef) rfl (by kernel_rfl) (by kernel_rfl) (by kernel_rfl) (fun _ _ _ h => h) (Or.inr ⟨by rfl, rfl⟩) hHeld ?_
        try simp only [Act.put, List.getElem_toArray, List.getElem_cons_zero, List.getElem_cons_succ, List.setIfInBounds_toArray, List.set_cons_zero, List.set_cons_succ]
        refine wpAnyH_take (i := 13) (v := undef) rfl (by kernel_rfl) (by kernel_rfl) (by kernel_rfl) (fun _ _ _ h => h) (Or.inr ⟨by rfl, rfl⟩) hHeld ?_
        try simp only [Act.put, List.getElem_toArray, List.getElem_cons_zero, List.getElem_cons_succ, List.setIfInBounds_toArray, List.set_cons_zero, List.set_cons_succ]
        refine wpAnyH_take (i := 14) (v := undef) rfl (by kernel_rfl) (by kernel_rfl) (by kernel_rfl) (fun _ _ _ h => h) (Or.inr ⟨by rfl, rfl⟩) hHeld ?_
        try simp only [Act.put, List.getElem_toArray, List.getElem_cons_zero, List.getElem_cons_succ, List.setIfInBounds_toArray, List.set_cons_zero, List.set_cons_succ]
        refine wpAnyH_take (i := 15) (v := undef) rfl (by kernel_rfl) (by kernel_rfl) (by kernel_rfl) (fun _ _ _ h => h) (Or.inr ⟨by rfl, rfl⟩) hHeld ?_
        try simp only [Act.put, List.getElem_toArray, List.getElem_cons_zero, List.getElem_cons_succ, List.setIfInBounds_toArray, List.set_cons_zero, List.set_cons_succ]
        refine wpAnyH_take (i := 16) (v := undef) rfl (by kernel_rfl) (by kernel_rfl) (by kernel_rfl) (fun _ _ _ h => h) (Or.inr ⟨by rfl, rfl⟩) hHeld ?_
        try simp only [Act.put, List.getElem_toArray, List.getElem_cons_zero, List.getElem_cons_succ, List.setIfInBounds_toArray, List.set_cons_zero, List.set_cons_succ]
        refine wpAnyH_take (i := 17) (v := undef) rfl (by kernel_rfl) (by kernel_rfl) (by kernel_rfl) (fun _ _ _ h => h) (Or.inr ⟨by rfl, rfl⟩) hHeld ?_
        try simp only [Act.put, List.getElem_toArray, List.getElem_cons_zero, List.getElem_cons_succ, List.setIfInBounds_toArray, List.set_cons_zero, List.set_cons_succ]
        refine wpAnyH_take (i := 18) (v := undef) rfl (by kernel_rfl) (by kernel_rfl) (by kernel_rfl) (fun _ _ _ h => h) (Or.inr ⟨by rfl, rfl⟩) hHeld ?_
        try simp only [Act.put, List.getElem_toArray, List.getElem_cons_zero, List.getElem_cons_succ, List.setIfInBounds_toArray, List.set_cons_zero, List.set_cons_succ]
        refine wpAnyH_take (i := 19) (v := ?_) rfl (by kernel_rfl) (by kernel_rfl) (by kernel_rfl) (fun _ _ _ h => h) (Or.inl ⟨by rfl, ?_⟩) hHeld ?_
        rotate_left
        · (intro w hSw; (try dsimp only at hSw); go_simp; (try with_reducible rfl))
        try simp only [Act.put, List.getElem_toArray, List.getElem_cons_zero, List.getElem_cons_succ, List.setIfInBounds_toArray, List.set_cons_zero, List.set_cons_succ]
        refine wpAnyH_done (by kernel_rfl) ?_ _
        clear hHeld
        go_wp2_with fail
        go_roundw
        case rel => exact ⟨i + 1, by omega, by go_num, hB1⟩
        case measure => simp [intOf] <;> omega
      · have ti : ((i : Int) == (q : Int)) = false := beq_eq_false_iff_ne.2 (by omega)
        have ti2 : ((i : Int) != (q : Int)) = true := by simp; omega
        have hE := HEQ.out i hlt (by rw [hq]; exact hiq)
        rw [← hE] at y0 y1 hC2 hW2
        obtain ⟨C_, hC_⟩ : ∃ C, (D[i]?.getD bk0).2.2.1 = C := ⟨_, rfl⟩
        obtain ⟨W_, hW_⟩ : ∃ C, (D[i]?.getD bk0).2.2.2 = C := ⟨_, rfl⟩
        obtain ⟨k_, hk_⟩ : ∃ C, (D[i]?.getD bk0).1 = C := ⟨_, rfl⟩
        obtain ⟨s_, hs_⟩ : ∃ C, (D[i]?.getD bk0).2.1 = C := ⟨_, rfl⟩
        rw [hk_] at x0 y0
        rw [hs_] at x1 y1
        rw [hC_] at hC1 hC2
        rw [hW_] at hW1 hW2
        have CS : ∀ {W : World}, BR W A1 n1 c1 C_ → IR W B1 m1 d1 W_ → BR W A2 n2 c2 C_ → IR W B2 m2 d2 W_ → Calls Try.prog 9 #[.agg #[.int .i64 k_, .int .i64 s_, .slice A1 n1 c1, .slice B1 m1 d1], .agg #[.int .i64 k_, .int .i64 s_, .slice A2 n2 c2, .slice B2 m2 d2]] W (GotV W (.bool true)) := fun g1 g2 g3 g4 => by have h := rSame_N (ka := k_) (sa := s_) (kb := k_) (sb := s_) g1 g2 hn1 hm1 g3 g4 hn2 hm2; rw [decide_eq_true ⟨rfl, rfl, rfl, rfl⟩] at h; exact h
        clear hq hiq hE hC_ hW_ hk_ hs_
        have hB1 := hbl
        go_wp2_with fail
        have bD : Below wr.heap.size wr wr.drew := below_drewN (Below.refl _ wr) 1
        replace hB1 := bK hB1 bD
        replace x0 := cK bD x0 hbk
        replace x1 := cK bD x1 hbk
        replace x2 := cK bD x2 hbk
        replace x3 := cK bD x3 hbk
        replace y0 := cK bD y0 hbj
        replace y1 := cK bD y1 hbj
        replace y2 := cK bD y2 hbj
        replace y3 := cK bD y3 hbj
        replace hbj := lK bD hbj
        replace hbk := lK bD hbk
        replace hC1 := hC1.on bD
        replace hW1 := hW1.on bD
        replace hC2 := hC2.on bD
        replace hW2 := hW2.on bD
        replace ka0 := cK bD ka0 kal
        replace ka1 := cK bD ka1 kal
        replace ka2 := cK bD ka2 kal
        replace ka3 := cK bD ka3 kal
        replace kal := lK bD kal
        replace pw0 := cK bD pw0 pwl
        replace pw1 := cK bD pw1 pwl
        replace pwl := lK bD pwl
        replace bx0 := cK bD bx0 bxl
        replace bx1 := cK bD bx1 bxl
        replace bx2 := cK bD bx2 bxl
        replace bx3 := cK bD bx3 bxl
        replace bx4 := cK bD bx4 bxl
        replace bx5 := cK bD bx5 bxl
        replace bxl := lK bD bxl
        replace by_0 := cK bD by_0 by_l
        replace by_1 := cK bD by_1 by_l
        replace by_2 := cK bD by_2 by_l
        replace by_3 := cK bD by_3 by_l
        replace by_4 := cK bD by_4 by_l
        replace by_5 := cK bD by_5 by_l
        replace by_l := lK bD by_l
        replace cc := bK cc bD
        clear bD
        refine wp_region_held_drew (S := fun w' => w'.cell? ⟨bk, ok_ + i * 4, none⟩ = some (.int .i64 k_) ∧ w'.cell? ⟨bk, ok_ + i * 4 + 1, none⟩ = some (.int .i64 s_) ∧ w'.cell? ⟨bk, ok_ + i * 4 + 2, none⟩ = some (.slice A1 n1 c1) ∧ w'.cell? ⟨bk, ok_ + i * 4 + 3, none⟩ = some (.slice B1 m1 d1) ∧ w'.cell? ⟨bj, oj + i * 4, none⟩ = some (.int .i64 k_) ∧ w'.cell? ⟨bj, oj + i * 4 + 1, none⟩ = some (.int .i64 s_) ∧ w'.cell? ⟨bj, oj + i * 4 + 2, none⟩ = some (.slice A2 n2 c2) ∧ w'.cell? ⟨bj, oj + i * 4 + 3, none⟩ = some (.slice B2 m2 d2) ∧ w'.cell? ⟨w.heap.size, 0, none⟩ = some (.int .i64 kk) ∧ w'.cell? ⟨w.heap.size, 1, none⟩ = some (.int .i64 ks) ∧ w'.cell? ⟨w.heap.size, 2, none⟩ = some (.int .i64 km) ∧ w'.cell? ⟨w.heap.size, 3, none⟩ = some (.int .i64 ko) ∧ w'.cell? ⟨w.heap.size + 1, 0, none⟩ = some (.int .i64 x) ∧ w'.cell? ⟨w.heap.size + 1, 1, none⟩ = some (.int .i64 v) ∧ w'.cell? ⟨w11.heap.size, 0, none⟩ = some (.int .i64 kk) ∧ w'.cell? ⟨w11.heap.size, 1, none⟩ = some (.int .i64 ks) ∧ w'.cell? ⟨w11.heap.size, 2, none⟩ = some (.int .i64 km) ∧ w'.cell? ⟨w11.heap.size, 3, none⟩ = some (.int .i64 ko) ∧ w'.cell? ⟨w11.heap.size, 4, none⟩ = some (.int .i64 (n : Int)) ∧ w'.cell? ⟨w11.heap.size, 5, none⟩ = some (.slice (some ⟨bk, ok_, none⟩) ny cx) ∧ w'.cell? ⟨w13.heap.size, 0, none⟩ = some (.int .i64 kk) ∧ w'.cell? ⟨w13.heap.size, 1, none⟩ = some (.int .i64 ks) ∧ w'.cell? ⟨w13.heap.size, 2, none⟩ = some (.int .i64 km) ∧ w'.cell? ⟨w13.heap.size, 3, none⟩ = some (.int .i64 ko) ∧ w'.cell? ⟨w13.heap.size, 4, none⟩ = some (.int .i64 (n : Int)) ∧ w'.cell? ⟨w13.heap.size, 5, none⟩ = some (.slice (some ⟨bj, oj, none⟩) ny cy)) (by kernel_rfl) ?_ (fun hHeld => ?_)
        · exact ⟨x0, x1, x2, x3, y0, y1, y2, y3, ka0, ka1, ka2, ka3, pw0, pw1, bx0, bx1, bx2, bx3, bx4, bx5, by_0, by_1, by_2, by_3, by_4, by_5⟩
        refine wpAnyH_take (i := 0) (v := ?_) rfl (by kernel_rfl) (by kernel_rfl) (by kernel_rfl) (fun _ _ _ h => h) (Or.inl ⟨by rfl, ?_⟩) hHeld ?_
        rotate_left
        · (intro w hSw; (try dsimp only at hSw); go_simp; (try with_reducible rfl))
        try simp only [Act.put, List.getElem_toArray, List.getElem_cons_zero, List.getElem_cons_succ, List.setIfInBounds_toArray, List.set_cons_zero, List.set_cons_succ]
        refine wpAnyH_take (i := 1) (v := ?_) rfl (by kernel_rfl) (by kernel_rfl) (by kernel_rfl) (fun _ _ _ h => h) (Or.inl ⟨by rfl, ?_⟩) hHeld ?_
        rotate_left
        · (intro w hSw; (try dsimp only at hSw); go_simp; (try with_reducible rfl))
        try simp only [Act.put, List.getElem_toArray, List.getElem_cons_zero, List.getElem_cons_succ, List.setIfInBounds_toArray, List.set_cons_zero, List.set_cons_succ]
        refine wpAnyH_take (i := 2) (v := ?_) rfl (by kernel_rfl) (by kernel_rfl) (by kernel_rfl) (fun _ _ _ h => h) (Or.inl ⟨by rfl, ?_⟩) hHeld ?_
        rotate_left
        · (intro w hSw; (try dsimp only at hSw); go_simp; (try with_reducible rfl))
        try simp only [Act.put, List.getElem_toArray, List.getElem_cons_zero, List.getElem_cons_succ, List.setIfInBounds_toArray, List.set_cons_zero, List.set_cons_succ]
        refine wpAnyH_take (i := 3) (v := ?_) rfl (by kernel_rfl) (by kernel_rfl) (by kernel_rfl) (fun _ _ _ h => h) (Or.inl ⟨by rfl, ?_⟩) hHeld ?_
        rotate_left
        · (intro w hSw; (try dsimp only at hSw); go_simp; (try with_reducible rfl))
        try simp only [Act.put, List.getElem_toArray, List.getElem_cons_zero, List.getElem_cons_succ, List.setIfInBounds_toArray, List.set_cons_zero, List.set_cons_succ]
        refine wpAnyH_take (i := 4) (v := ?_) rfl (by kernel_rfl) (by kernel_rfl) (by kernel_rfl) (fun _ _ _ h => h) (Or.inl ⟨by rfl, ?_⟩) hHeld ?_
        rotate_left
        · (intro w hSw; (try dsimp only at hSw); go_simp; (try with_reducible rfl))
        try simp only [Act.put, List.getElem_toArray, List.getElem_cons_zero, List.getElem_cons_succ, List.setIfInBounds_toArray, List.set_cons_zero, List.set_cons_succ]
        refine wpAnyH_take (i := 5) (v := ?_) rfl (by kernel_rfl) (by kernel_rfl) (by kernel_rfl) (fun _ _ _ h => h) (Or.inl ⟨by rfl, ?_⟩) hHeld ?_
        rotate_left
        · (intro w hSw; (try dsimp only at hSw); go_simp; (try with_reducible rfl))
        try simp only [Act.put, List.getElem_toArray, List.getElem_cons_zero, List.getElem_cons_succ, List.setIfInBounds_toArray, List.set_cons_zero, List.set_cons_succ]
        refine wpAnyH_take (i := 6) (v := ?_) rfl (by kernel_rfl) (by kernel_rfl) (by kernel_rfl) (fun _ _ _ h => h) (Or.inl ⟨by rfl, ?_⟩) hHeld ?_
        rotate_left
        · (intro w hSw; (try dsimp only at hSw); go_simp; (try with_reducible rfl))
        try simp only [Act.put, List.getElem_toArray, List.getElem_cons_zero, List.getElem_cons_succ, List.setIfInBounds_toArray, List.set_cons_zero, List.set_cons_succ]
        refine wpAnyH_take (i := 7) (v := ?_) rfl (by kernel_rfl) (by kernel_rfl) (by kernel_rfl) (fun _ _ _ h => h) (Or.inl ⟨by rfl, ?_⟩) hHeld ?_
        rotate_left
        · (intro w hSw; (try dsimp only at hSw); go_simp; (try with_reducible rfl))
        try simp only [Act.put, List.getElem_toArray, List.getElem_cons_zero, List.getElem_cons_succ, List.setIfInBounds_toArray, List.set_cons_zero, List.set_cons_succ]
        refine wpAnyH_take (i := 8) (v := ?_) rfl (by kernel_rfl) (by kernel_rfl) (by kernel_rfl) (fun _ _ _ h => h) (Or.inl ⟨by rfl, ?_⟩) hHeld ?_
        rotate_left
        · (intro w hSw; (try dsimp only at hSw); go_simp; (try with_reducible rfl))
        try simp only [Act.put, List.getElem_toArray, List.getElem_cons_zero, List.getElem_cons_succ, List.setIfInBounds_toArray, List.set_cons_zero, List.set_cons_succ]
        refine wpAnyH_take (i := 9) (v := ?_) rfl (by kernel_rfl) (by kernel_rfl) (by kernel_rfl) (fun _ _ _ h => h) (Or.inl ⟨by rfl, ?_⟩) hHeld ?_
        rotate_left
        · (intro w hSw; (try dsimp only at hSw); go_simp; (try with_reducible rfl))
        try simp only [Act.put, List.getElem_toArray, List.getElem_cons_zero, List.getElem_cons_succ, List.setIfInBounds_toArray, List.set_cons_zero, List.set_cons_succ]
        refine wpAnyH_take (i := 10) (v := ?_) rfl (by kernel_rfl) (by kernel_rfl) (by kernel_rfl) (fun _ _ _ h => h) (Or.inl ⟨by rfl, ?_⟩) hHeld ?_
        rotate_left
        · (intro w hSw; (try dsimp only at hSw); go_simp; (try with_reducible rfl))
        try simp only [Act.put, List.getElem_toArray, List.getElem_cons_zero, List.getElem_cons_succ, List.setIfInBounds_toArray, List.set_cons_zero, List.set_cons_succ]
        refine wpAnyH_take (i := 11) (v := ?_) rfl (by kernel_rfl) (by kernel_rfl) (by kernel_rfl) (fun _ _ _ h => h) (Or.inl ⟨by rfl, ?_⟩) hHeld ?_
        rotate_left
        · (intro w hSw; (try dsimp only at hSw); go_simp; (try with_reducible rfl))
        try simp only [Act.put, List.getElem_toArray, List.getElem_cons_zero, List.getElem_cons_succ, List.setIfInBounds_toArray, List.set_cons_zero, List.set_cons_succ]
        refine wpAnyH_take (i := 12) (v := ?_) rfl (by kernel_rfl) (by kernel_rfl) (by kernel_rfl) (fun _ _ _ h => h) (Or.inl ⟨by rfl, ?_⟩) hHeld ?_
        rotate_left
        · (intro w hSw; (try dsimp only at hSw); go_simp; (try with_reducible rfl))
        try simp only [Act.put, List.getElem_toArray, List.getElem_cons_zero, List.getElem_cons_succ, List.setIfInBounds_toArray, List.set_cons_zero, List.set_cons_succ]
        refine wpAnyH_take (i := 13) (v := ?_) rfl (by kernel_rfl) (by kernel_rfl) (by kernel_rfl) (fun _ _ _ h => h) (Or.inl ⟨by rfl, ?_⟩) hHeld ?_
        rotate_left
        · (intro w hSw; (try dsimp only at hSw); go_simp; (try with_reducible rfl))
        try simp only [Act.put, List.getElem_toArray, List.getElem_cons_zero, List.getElem_cons_succ, List.setIfInBounds_toArray, List.set_cons_zero, List.set_cons_succ]
        refine wpAnyH_take (i := 14) (v := ?_) rfl (by kernel_rfl) (by kernel_rfl) (by kernel_rfl) (fun _ _ _ h => h) (Or.inl ⟨by rfl, ?_⟩) hHeld ?_
        rotate_left
        · (intro w hSw; (try dsimp only at hSw); go_simp; (try with_reducible rfl))
        try simp only [Act.put, List.getElem_toArray, List.getElem_cons_zero, List.getElem_cons_succ, List.setIfInBounds_toArray, List.set_cons_zero, List.set_cons_succ]
        refine wpAnyH_take (i := 15) (v := ?_) rfl (by kernel_rfl) (by kernel_rfl) (by kernel_rfl) (fun _ _ _ h => h) (Or.inl ⟨by rfl, ?_⟩) hHeld ?_
        rotate_left
        · (intro w hSw; (try dsimp only at hSw); go_simp; (try with_reducible rfl))
        try simp only [Act.put, List.getElem_toArray, List.getElem_cons_zero, List.getElem_cons_succ, List.setIfInBounds_toArray, List.set_cons_zero, List.set_cons_succ]
        refine wpAnyH_take (i := 16) (v := ?_) rfl (by kernel_rfl) (by kernel_rfl) (by kernel_rfl) (fun _ _ _ h => h) (Or.inl ⟨by rfl, ?_⟩) hHeld ?_
        rotate_left
        · (intro w hSw; (try dsimp only at hSw); go_simp; (try with_reducible rfl))
        try simp only [Act.put, List.getElem_toArray, List.getElem_cons_zero, List.getElem_cons_succ, List.setIfInBounds_toArray, List.set_cons_zero, List.set_cons_succ]
        refine wpAnyH_ready (rs := [17]) (by kernel_rfl) (by simp) ?_
        refine AllReadyH.cons rfl (fun K hK => ?_) AllReadyH.nil
        (try simp only [List.getElem_toArray, List.getElem_cons_zero, List.getElem_cons_succ])
        rw [if_pos (by rfl)]
        go_simp
        go_at_call 9
        refine (CS hC1 hW1 hC2 hW2).mono ?_
        rintro e w61 ⟨rfl, b⟩
        replace hB1 := bK hB1 b
        replace x0 := cK b x0 hbk
        replace x1 := cK b x1 hbk
        replace x2 := cK b x2 hbk
        replace x3 := cK b x3 hbk
        replace y0 := cK b y0 hbj
        replace y1 := cK b y1 hbj
        replace y2 := cK b y2 hbj
        replace y3 := cK b y3 hbj
        replace hbj := lK b hbj
        replace hbk := lK b hbk
        replace hC1 := hC1.on b
        replace hW1 := hW1.on b
        replace hC2 := hC2.on b
        replace hW2 := hW2.on b
        replace ka0 := cK b ka0 kal
        replace ka1 := cK b ka1 kal
        replace ka2 := cK b ka2 kal
        replace ka3 := cK b ka3 kal
        replace kal := lK b kal
        replace pw0 := cK b pw0 pwl
        replace pw1 := cK b pw1 pwl
        replace pwl := lK b pwl
        replace bx0 := cK b bx0 bxl
        replace bx1 := cK b bx1 bxl
        replace bx2 := cK b bx2 bxl
        replace bx3 := cK b bx3 bxl
        replace bx4 := cK b bx4 bxl
        replace bx5 := cK b bx5 bxl
        replace bxl := lK b bxl
        replace by_0 := cK b by_0 by_l
        replace by_1 := cK b by_1 by_l
        replace by_2 := cK b by_2 by_l
        replace by_3 := cK b by_3 by_l
        replace by_4 := cK b by_4 by_l
        replace by_5 := cK b by_5 by_l
        replace by_l := lK b by_l
        replace cc := bK cc b
        clear b
        refine hK.out _ _ ?_ (fun hHeld => ?_)
        · exact ⟨x0, x1, x2, x3, y0, y1, y2, y3, ka0, ka1, ka2, ka3, pw0, pw1, bx0, bx1, bx2, bx3, bx4, bx5, by_0, by_1, by_2, by_3, by_4, by_5⟩
        clear hK K
        try simp only [Act.put, List.getElem_toArray, List.getElem_cons_zero, List.getElem_cons_succ, List.setIfInBounds_toArray, List.set_cons_zero, List.set_cons_succ]
        refine wpAnyH_take (i := 18) (v := ?_) rfl (by kernel_rfl) (by kernel_rfl) (by kernel_rfl) (fun _ _ _ h => h) (Or.inl ⟨by rfl, ?_⟩) hHeld ?_
        rotate_left
        · (intro w hSw; (try dsimp only at hSw); go_simp; (try with_reducible rfl))
        try simp only [Act.put, List.getElem_toArray, List.getElem_cons_zero, List.getElem_cons_succ, List.setIfInBounds_toArray, List.set_cons_zero, List.set_cons_succ]
        refine wpAnyH_take (i := 19) (v := ?_) rfl (by kernel_rfl) (by kernel_rfl) (by kernel_rfl) (fun _ _ _ h => h) (Or.inl ⟨by rfl, ?_⟩) hHeld ?_
        rotate_left
        · (intro w hSw; (try dsimp only at hSw); go_simp; (try with_reducible rfl))
        try simp only [Act.put, List.getElem_toArray, List.getElem_cons_zero, List.getElem_cons_succ, List.setIfInBounds_toArray, List.set_cons_zero, List.set_cons_succ]
        refine wpAnyH_done (by kernel_rfl) ?_ _
        clear hHeld
        go_wp2_with fail
        go_roundw
        case rel => exact ⟨i + 1, by omega, by go_num, hB1⟩
        case measure => simp [intOf] <;> omega
    · obtain rfl : i = ny := by omega
      go_wp2_with fail
      refine (alive14_any _).mono ?_
      rintro e w15 ⟨rfl, b⟩
      replace cc := bK cc b
      clear b
      go_wp2_with fail
      go_ret
      exact ⟨rfl, cc⟩

set_option maxRecDepth 100000 in
set_option maxHeartbeats 8000000 in
theorem TensApart_yn {w : World} {kk ks km ko : Int} {A : Option Addr} {n c : Nat} {L : List Int} {x v : Int} {a : Nat} (ha : bits .and .i64 x 31 = (a : Int)) (hA : IR w A n c L) (h : n ≤ 24) (h2 : a < n) {D : List Bk} (O0 : ∀ {W : World} {A : Option Addr} {c : Nat}, IR W A n c L → Calls Try.prog 7 #[.agg #[.int .i64 kk, .int .i64 ks, .int .i64 km, .int .i64 ko], .slice A n c] W (GotSto W kk ks km ko (n : Int) D)) (O1 : ∀ {W : World} {A : Option Addr} {c : Nat}, IR W A n c (L.set a v) → Calls Try.prog 7 #[.agg #[.int .i64 kk, .int .i64 ks, .int .i64 km, .int .i64 ko], .slice A n c] W (GotV W (.tuple #[.agg #[.int .i64 0, .int .i64 0, .int .i64 0, .int .i64 0, .int .i64 0, .slice none 0 0], .int .i64 1]))) :
    Calls Try.prog 4 #[.agg #[.int .i64 kk, .int .i64 ks, .int .i64 km, .int .i64 ko], .slice A n c, .agg #[.int .i64 x, .int .i64 v]] w fun e w' => e = .returned (.bool true) ∧ Below w.heap.size w w' := by
  have t0 : decide (24 < n) = false := decide_eq_false (by omega)
  have t1 : decide ((24 : Int) < (n : Int)) = false := decide_eq_false (by omega)
  have t2 : decide (n ≤ a) = false := decide_eq_false (by omega)
  have t3 : decide ((n : Int) ≤ (a : Int)) = false := decide_eq_false (by omega)
  have HN := Lib.hid h
  have HAN := Lib.hid h2
  have HL := Lib.hid hA.1
  have ja : (a : Int) < (n : Int) := by omega
  have hn0 : 0 < n := by omega
  have hn24 : n ≤ 24 := h
  clear h h2
  obtain ⟨bb, off, rfl, _⟩ := hA.some hn0
  have cc := Below.refl w.heap.size w
  go_enter Try.func4, Try.ntmps4
  go_upto_region 4 with fail
  have bA : Below w.heap.size w ((w.alloc (.cells #[.int .i64 kk, .int .i64 ks, .int .i64 km, .int .i64 ko] 23)).alloc (.cells #[.int .i64 x, .int .i64 v] 37)) := (((Below.refl _ w).alloc (by simp) _).alloc (by simp) _)
  replace hA := hA.on bA
  replace cc := bK cc bA
  clear bA
  have ka0 : ((w.alloc (.cells #[.int .i64 kk, .int .i64 ks, .int .i64 km, .int .i64 ko] 23)).alloc (.cells #[.int .i64 x, .int .i64 v] 37)).cell? ⟨w.heap.size, 0, none⟩ = some (.int .i64 kk) := by simp [go_sem]
  have ka1 : ((w.alloc (.cells #[.int .i64 kk, .int .i64 ks, .int .i64 km, .int .i64 ko] 23)).alloc (.cells #[.int .i64 x, .int .i64 v] 37)).cell? ⟨w.heap.size, 1, none⟩ = some (.int .i64 ks) := by simp [go_sem]
  have ka2 : ((w.alloc (.cells #[.int .i64 kk, .int .i64 ks, .int .i64 km, .int .i64 ko] 23)).alloc (.cells #[.int .i64 x, .int .i64 v] 37)).cell? ⟨w.heap.size, 2, none⟩ = some (.int .i64 km) := by simp [go_sem]
  have ka3 : ((w.alloc (.cells #[.int .i64 kk, .int .i64 ks, .int .i64 km, .int .i64 ko] 23)).alloc (.cells #[.int .i64 x, .int .i64 v] 37)).cell? ⟨w.heap.size, 3, none⟩ = some (.int .i64 ko) := by simp [go_sem]
  have kal : w.heap.size < ((w.alloc (.cells #[.int .i64 kk, .int .i64 ks, .int .i64 km, .int .i64 ko] 23)).alloc (.cells #[.int .i64 x, .int .i64 v] 37)).heap.size := by simp <;> omega
  have pw0 : ((w.alloc (.cells #[.int .i64 kk, .int .i64 ks, .int .i64 km, .int .i64 ko] 23)).alloc (.cells #[.int .i64 x, .int .i64 v] 37)).cell? ⟨w.heap.size + 1, 0, none⟩ = some (.int .i64 x) := by simp [go_sem]
  have pw1 : ((w.alloc (.cells #[.int .i64 kk, .int .i64 ks, .int .i64 km, .int .i64 ko] 23)).alloc (.cells #[.int .i64 x, .int .i64 v] 37)).cell? ⟨w.heap.size + 1, 1, none⟩ = some (.int .i64 v) := by simp [go_sem]
  have pwl : w.heap.size + 1 < ((w.alloc (.cells #[.int .i64 kk, .int .i64 ks, .int .i64 km, .int .i64 ko] 23)).alloc (.cells #[.int .i64 x, .int .i64 v] 37)).heap.size := by simp <;> omega
  generalize (w.alloc (.cells #[.int .i64 kk, .int .i64 ks, .int .i64 km, .int .i64 ko] 23)).alloc (.cells #[.int .i64 x, .int .i64 v] 37) = v1 at *
  obtain ⟨i0, hi0, hz0, hz1, hz2⟩ := info_parts infoI
  obtain ⟨t, ht⟩ : ∃ t, v1.heap.size = t := ⟨_, rfl⟩
  have HTT := Lib.hid ht
  have HNV : Hid (∀ j u, (L.map encI)[j]? = some u → (v1.alloc (.cells #[] 2)).cell? ((⟨bb, off, none⟩ : Addr).add j) = some u) := Lib.hid (ir_news hA (one_up _ _))
  have HO : Hid ((v1.alloc (.cells #[] 2)).ownsRow t 2 1 (.slice (some ⟨v1.heap.size, 0, none⟩) 0 0) 0 ([] : List Value)) := Lib.hid (World.ownsRow_lit v1 #[] 0 (by omega) (by unfold maxLen; omega) rfl)
  have HB : Hid (Below t v1 (v1.alloc (.cells #[] 2))) := Lib.hid ((Below.refl t v1).alloc (by omega) _)
  have t_le : t ≤ v1.heap.size + 1 := by omega
  have HAV := Lib.hid hA
  have CCV := Lib.hid cc
  have HKA0 := Lib.hid ka0
  have HKA1 := Lib.hid ka1
  have HKA2 := Lib.hid ka2
  have HKA3 := Lib.hid ka3
  have HPW0 := Lib.hid pw0
  have HPW1 := Lib.hid pw1
  have HKAL := Lib.hid kal
  have HPWL := Lib.hid pwl
  clear ht hA cc  
  go_wp2_with (at_builtin; refine wpList_append_lies _ rfl _ _ 24 rfl t 2 i0 (.int .i64 0) 1 8 Try.underlying24 hi0 hz0 hz1 hz2 rfl (by decide) _ 0 [] rfl HO.out ⟨bb, off, none⟩ n c (L.map encI) rfl (by rw [List.length_map, ← HL.out]; simp) HNV.out (by simp [encI, Value.oneCell']) hn0 (by unfold maxLen; omega) (by omega) (by simp; omega) _ rfl ?_; intro gq cq w3 hown1 hgrow1 hat hlt1; rw [List.nil_append] at hown1; rw [Nat.zero_add] at hown1; have h1 : Below t v1 w3 := HB.out.grown hgrow1 (by simp; omega) (fun q e => by injection (show some v1.heap.size = some q from e) with e1; have := HTT.out; omega); have hgt := (hown1.lt gq rfl).1; rw [← HTT.out] at h1; rw [← HTT.out] at hgt; replace ka0 := (h1.cell (p := ⟨w.heap.size, 0, none⟩) HKAL.out).trans HKA0.out; replace ka1 := (h1.cell (p := ⟨w.heap.size, 1, none⟩) HKAL.out).trans HKA1.out; replace ka2 := (h1.cell (p := ⟨w.heap.size, 2, none⟩) HKAL.out).trans HKA2.out; replace ka3 := (h1.cell (p := ⟨w.heap.size, 3, none⟩) HKAL.out).trans HKA3.out; replace pw0 := (h1.cell (p := ⟨w.heap.size + 1, 0, none⟩) HPWL.out).trans HPW0.out; replace pw1 := (h1.cell (p := ⟨w.heap.size + 1, 1, none⟩) HPWL.out).trans HPW1.out; have HOW := Lib.hid hown1; have HB1 := Lib.hid h1; have HGT := Lib.hid hgt; have cx := hown1.cellAt a (by have := HAN.out; omega); obtain ⟨v0_, ev0⟩ : ∃ v, (L.map encI)[a]? = some v := ⟨_, List.getElem?_eq_getElem (by rw [List.length_map, ← HL.out]; exact HAN.out)⟩; rw [ev0] at cx; have fx := hown1.frozenAt a; clear h1 hown1 hgrow1 hat hgt; have b5 : Below v1.heap.size v1 (w3.setCell ⟨gq, a, none⟩ (.int .i64 v)) := HB1.out.setCell (p := ⟨gq, a, none⟩) HGT.out _; have h5 := (HOW.out.stored a (.int .i64 v)).1; have e5 : (L.map encI).set a (.int .i64 v) = (L.set a v).map encI := (by rw [List.map_set]; rfl); rw [e5] at h5; have HM := Lib.hid (IR.of_own h5); have HB5 := Lib.hid b5; have Zka0 := (b5.cell (p := ⟨w.heap.size, 0, none⟩) HKAL.out).trans HKA0.out; have Zka1 := (b5.cell (p := ⟨w.heap.size, 1, none⟩) HKAL.out).trans HKA1.out; have Zka2 := (b5.cell (p := ⟨w.heap.size, 2, none⟩) HKAL.out).trans HKA2.out; have Zka3 := (b5.cell (p := ⟨w.heap.size, 3, none⟩) HKAL.out).trans HKA3.out; have Zpw0 := (b5.cell (p := ⟨w.heap.size + 1, 0, none⟩) HPWL.out).trans HPW0.out; have Zpw1 := (b5.cell (p := ⟨w.heap.size + 1, 1, none⟩) HPWL.out).trans HPW1.out; clear b5 h5 e5)
  have hM := HM.out
  have hA := HAV.out.on HB5.out
  have cc := CCV.out.trans (HB5.out.mono CCV.out.size)
  have kal := Nat.lt_of_lt_of_le HKAL.out HB5.out.size
  have pwl := Nat.lt_of_lt_of_le HPWL.out HB5.out.size
  clear cx fx ev0 HM HB5 HOW HB1 hlt1 ka0 ka1 ka2 ka3 pw0 pw1
  generalize w3.setCell ⟨gq, a, none⟩ (.int .i64 v) = w5 at *
  have ka0 := Zka0
  have ka1 := Zka1
  have ka2 := Zka2
  have ka3 := Zka3
  have pw0 := Zpw0
  have pw1 := Zpw1
  clear Zka0 Zka1 Zka2 Zka3 Zpw0 Zpw1
  refine (O0 hA).mono ?_
  rintro e w11 ⟨Ax, nx, cx, rfl, hx, b⟩
  replace hA := hA.on b
  replace hM := hM.on b
  replace ka0 := cK b ka0 kal
  replace ka1 := cK b ka1 kal
  replace ka2 := cK b ka2 kal
  replace ka3 := cK b ka3 kal
  replace kal := lK b kal
  replace pw0 := cK b pw0 pwl
  replace pw1 := cK b pw1 pwl
  replace pwl := lK b pwl
  replace cc := bK cc b
  clear b
  skip
  go_upto_region 7 with fail
  have bxqka : w.heap.size < w11.heap.size := kal
  have bxqpw : w.heap.size + 1 < w11.heap.size := pwl
  have bA := below_one w11 (.cells #[.int .i64 kk, .int .i64 ks, .int .i64 km, .int .i64 ko, .int .i64 (n : Int), .slice Ax nx cx] 28)
  replace hA := hA.on bA
  replace hM := hM.on bA
  replace hx := hx.on bA
  replace ka0 := cK bA ka0 kal
  replace ka1 := cK bA ka1 kal
  replace ka2 := cK bA ka2 kal
  replace ka3 := cK bA ka3 kal
  replace kal := lK bA kal
  replace pw0 := cK bA pw0 pwl
  replace pw1 := cK bA pw1 pwl
  replace pwl := lK bA pwl
  replace cc := bK cc bA
  clear bA
  have bx0 : (w11.alloc (.cells #[.int .i64 kk, .int .i64 ks, .int .i64 km, .int .i64 ko, .int .i64 (n : Int), .slice Ax nx cx] 28)).cell? ⟨w11.heap.size, 0, none⟩ = some (.int .i64 kk) := by simp [go_sem]
  have bx1 : (w11.alloc (.cells #[.int .i64 kk, .int .i64 ks, .int .i64 km, .int .i64 ko, .int .i64 (n : Int), .slice Ax nx cx] 28)).cell? ⟨w11.heap.size, 1, none⟩ = some (.int .i64 ks) := by simp [go_sem]
  have bx2 : (w11.alloc (.cells #[.int .i64 kk, .int .i64 ks, .int .i64 km, .int .i64 ko, .int .i64 (n : Int), .slice Ax nx cx] 28)).cell? ⟨w11.heap.size, 2, none⟩ = some (.int .i64 km) := by simp [go_sem]
  have bx3 : (w11.alloc (.cells #[.int .i64 kk, .int .i64 ks, .int .i64 km, .int .i64 ko, .int .i64 (n : Int), .slice Ax nx cx] 28)).cell? ⟨w11.heap.size, 3, none⟩ = some (.int .i64 ko) := by simp [go_sem]
  have bx4 : (w11.alloc (.cells #[.int .i64 kk, .int .i64 ks, .int .i64 km, .int .i64 ko, .int .i64 (n : Int), .slice Ax nx cx] 28)).cell? ⟨w11.heap.size, 4, none⟩ = some (.int .i64 (n : Int)) := by simp [go_sem]
  have bx5 : (w11.alloc (.cells #[.int .i64 kk, .int .i64 ks, .int .i64 km, .int .i64 ko, .int .i64 (n : Int), .slice Ax nx cx] 28)).cell? ⟨w11.heap.size, 5, none⟩ = some (.slice Ax nx cx) := by simp [go_sem]
  have bxl : w11.heap.size < (w11.alloc (.cells #[.int .i64 kk, .int .i64 ks, .int .i64 km, .int .i64 ko, .int .i64 (n : Int), .slice Ax nx cx] 28)).heap.size := by simp
  generalize w11.alloc (.cells #[.int .i64 kk, .int .i64 ks, .int .i64 km, .int .i64 ko, .int .i64 (n : Int), .slice Ax nx cx] 28) = v12 at *
  go_wp2_with fail
  refine (O1 hM).mono ?_
  rintro e w13 ⟨rfl, b⟩
  replace hA := hA.on b
  replace hM := hM.on b
  replace hx := hx.on b
  replace ka0 := cK b ka0 kal
  replace ka1 := cK b ka1 kal
  replace ka2 := cK b ka2 kal
  replace ka3 := cK b ka3 kal
  replace kal := lK b kal
  replace pw0 := cK b pw0 pwl
  replace pw1 := cK b pw1 pwl
  replace pwl := lK b pwl
  replace bx0 := cK b bx0 bxl
  replace bx1 := cK b bx1 bxl
  replace bx2 := cK b bx2 bxl
  replace bx3 := cK b bx3 bxl
  replace bx4 := cK b bx4 bxl
  replace bx5 := cK b bx5 bxl
  replace bxl := lK b bxl
  replace cc := bK cc b
  clear b
  go_upto_region 8 with fail
  have by_qka : w.heap.size < w13.heap.size := kal
  have by_qpw : w.heap.size + 1 < w13.heap.size := pwl
  have by_qbx : w11.heap.size < w13.heap.size := bxl
  have bA := below_one w13 (.cells #[.int .i64 0, .int .i64 0, .int .i64 0, .int .i64 0, .int .i64 0, .slice none 0 0] 28)
  replace hA := hA.on bA
  replace hM := hM.on bA
  replace hx := hx.on bA
  replace ka0 := cK bA ka0 kal
  replace ka1 := cK bA ka1 kal
  replace ka2 := cK bA ka2 kal
  replace ka3 := cK bA ka3 kal
  replace kal := lK bA kal
  replace pw0 := cK bA pw0 pwl
  replace pw1 := cK bA pw1 pwl
  replace pwl := lK bA pwl
  replace bx0 := cK bA bx0 bxl
  replace bx1 := cK bA bx1 bxl
  replace bx2 := cK bA bx2 bxl
  replace bx3 := cK bA bx3 bxl
  replace bx4 := cK bA bx4 bxl
  replace bx5 := cK bA bx5 bxl
  replace bxl := lK bA bxl
  replace cc := bK cc bA
  clear bA
  have by_0 : (w13.alloc (.cells #[.int .i64 0, .int .i64 0, .int .i64 0, .int .i64 0, .int .i64 0, .slice none 0 0] 28)).cell? ⟨w13.heap.size, 0, none⟩ = some (.int .i64 0) := by simp [go_sem]
  have by_1 : (w13.alloc (.cells #[.int .i64 0, .int .i64 0, .int .i64 0, .int .i64 0, .int .i64 0, .slice none 0 0] 28)).cell? ⟨w13.heap.size, 1, none⟩ = some (.int .i64 0) := by simp [go_sem]
  have by_2 : (w13.alloc (.cells #[.int .i64 0, .int .i64 0, .int .i64 0, .int .i64 0, .int .i64 0, .slice none 0 0] 28)).cell? ⟨w13.heap.size, 2, none⟩ = some (.int .i64 0) := by simp [go_sem]
  have by_3 : (w13.alloc (.cells #[.int .i64 0, .int .i64 0, .int .i64 0, .int .i64 0, .int .i64 0, .slice none 0 0] 28)).cell? ⟨w13.heap.size, 3, none⟩ = some (.int .i64 0) := by simp [go_sem]
  have by_4 : (w13.alloc (.cells #[.int .i64 0, .int .i64 0, .int .i64 0, .int .i64 0, .int .i64 0, .slice none 0 0] 28)).cell? ⟨w13.heap.size, 4, none⟩ = some (.int .i64 0) := by simp [go_sem]
  have by_5 : (w13.alloc (.cells #[.int .i64 0, .int .i64 0, .int .i64 0, .int .i64 0, .int .i64 0, .slice none 0 0] 28)).cell? ⟨w13.heap.size, 5, none⟩ = some (.slice none 0 0) := by simp [go_sem]
  have by_l : w13.heap.size < (w13.alloc (.cells #[.int .i64 0, .int .i64 0, .int .i64 0, .int .i64 0, .int .i64 0, .slice none 0 0] 28)).heap.size := by simp
  generalize w13.alloc (.cells #[.int .i64 0, .int .i64 0, .int .i64 0, .int .i64 0, .int .i64 0, .slice none 0 0] 28) = v14 at *
  go_wp2_with fail
  refine (alive14_any _).mono ?_
  rintro e w15 ⟨rfl, b⟩
  replace hA := hA.on b
  replace hM := hM.on b
  replace hx := hx.on b
  replace ka0 := cK b ka0 kal
  replace ka1 := cK b ka1 kal
  replace ka2 := cK b ka2 kal
  replace ka3 := cK b ka3 kal
  replace kal := lK b kal
  replace pw0 := cK b pw0 pwl
  replace pw1 := cK b pw1 pwl
  replace pwl := lK b pwl
  replace bx0 := cK b bx0 bxl
  replace bx1 := cK b bx1 bxl
  replace bx2 := cK b bx2 bxl
  replace bx3 := cK b bx3 bxl
  replace bx4 := cK b bx4 bxl
  replace bx5 := cK b bx5 bxl
  replace bxl := lK b bxl
  replace by_0 := cK b by_0 by_l
  replace by_1 := cK b by_1 by_l
  replace by_2 := cK b by_2 by_l
  replace by_3 := cK b by_3 by_l
  replace by_4 := cK b by_4 by_l
  replace by_5 := cK b by_5 by_l
  replace by_l := lK b by_l
  replace cc := bK cc b
  clear b
  go_wp2_with fail
  go_ret
  exact ⟨rfl, cc⟩

set_option maxRecDepth 100000 in
set_option maxHeartbeats 8000000 in
theorem TensApart_ny {w : World} {kk ks km ko : Int} {A : Option Addr} {n c : Nat} {L : List Int} {x v : Int} {a : Nat} (ha : bits .and .i64 x 31 = (a : Int)) (hA : IR w A n c L) (h : n ≤ 24) (h2 : a < n) {E : List Bk} (O0 : ∀ {W : World} {A : Option Addr} {c : Nat}, IR W A n c L → Calls Try.prog 7 #[.agg #[.int .i64 kk, .int .i64 ks, .int .i64 km, .int .i64 ko], .slice A n c] W (GotV W (.tuple #[.agg #[.int .i64 0, .int .i64 0, .int .i64 0, .int .i64 0, .int .i64 0, .slice none 0 0], .int .i64 1]))) (O1 : ∀ {W : World} {A : Option Addr} {c : Nat}, IR W A n c (L.set a v) → Calls Try.prog 7 #[.agg #[.int .i64 kk, .int .i64 ks, .int .i64 km, .int .i64 ko], .slice A n c] W (GotSto W kk ks km ko (n : Int) E)) :
    Calls Try.prog 4 #[.agg #[.int .i64 kk, .int .i64 ks, .int .i64 km, .int .i64 ko], .slice A n c, .agg #[.int .i64 x, .int .i64 v]] w fun e w' => e = .returned (.bool true) ∧ Below w.heap.size w w' := by
  have t0 : decide (24 < n) = false := decide_eq_false (by omega)
  have t1 : decide ((24 : Int) < (n : Int)) = false := decide_eq_false (by omega)
  have t2 : decide (n ≤ a) = false := decide_eq_false (by omega)
  have t3 : decide ((n : Int) ≤ (a : Int)) = false := decide_eq_false (by omega)
  have HN := Lib.hid h
  have HAN := Lib.hid h2
  have HL := Lib.hid hA.1
  have ja : (a : Int) < (n : Int) := by omega
  have hn0 : 0 < n := by omega
  have hn24 : n ≤ 24 := h
  clear h h2
  obtain ⟨bb, off, rfl, _⟩ := hA.some hn0
  have cc := Below.refl w.heap.size w
  go_enter Try.func4, Try.ntmps4
  go_upto_region 4 with fail
  have bA : Below w.heap.size w ((w.alloc (.cells #[.int .i64 kk, .int .i64 ks, .int .i64 km, .int .i64 ko] 23)).alloc (.cells #[.int .i64 x, .int .i64 v] 37)) := (((Below.refl _ w).alloc (by simp) _).alloc (by simp) _)
  replace hA := hA.on bA
  replace cc := bK cc bA
  clear bA
  have ka0 : ((w.alloc (.cells #[.int .i64 kk, .int .i64 ks, .int .i64 km, .int .i64 ko] 23)).alloc (.cells #[.int .i64 x, .int .i64 v] 37)).cell? ⟨w.heap.size, 0, none⟩ = some (.int .i64 kk) := by simp [go_sem]
  have ka1 : ((w.alloc (.cells #[.int .i64 kk, .int .i64 ks, .int .i64 km, .int .i64 ko] 23)).alloc (.cells #[.int .i64 x, .int .i64 v] 37)).cell? ⟨w.heap.size, 1, none⟩ = some (.int .i64 ks) := by simp [go_sem]
  have ka2 : ((w.alloc (.cells #[.int .i64 kk, .int .i64 ks, .int .i64 km, .int .i64 ko] 23)).alloc (.cells #[.int .i64 x, .int .i64 v] 37)).cell? ⟨w.heap.size, 2, none⟩ = some (.int .i64 km) := by simp [go_sem]
  have ka3 : ((w.alloc (.cells #[.int .i64 kk, .int .i64 ks, .int .i64 km, .int .i64 ko] 23)).alloc (.cells #[.int .i64 x, .int .i64 v] 37)).cell? ⟨w.heap.size, 3, none⟩ = some (.int .i64 ko) := by simp [go_sem]
  have kal : w.heap.size < ((w.alloc (.cells #[.int .i64 kk, .int .i64 ks, .int .i64 km, .int .i64 ko] 23)).alloc (.cells #[.int .i64 x, .int .i64 v] 37)).heap.size := by simp <;> omega
  have pw0 : ((w.alloc (.cells #[.int .i64 kk, .int .i64 ks, .int .i64 km, .int .i64 ko] 23)).alloc (.cells #[.int .i64 x, .int .i64 v] 37)).cell? ⟨w.heap.size + 1, 0, none⟩ = some (.int .i64 x) := by simp [go_sem]
  have pw1 : ((w.alloc (.cells #[.int .i64 kk, .int .i64 ks, .int .i64 km, .int .i64 ko] 23)).alloc (.cells #[.int .i64 x, .int .i64 v] 37)).cell? ⟨w.heap.size + 1, 1, none⟩ = some (.int .i64 v) := by simp [go_sem]
  have pwl : w.heap.size + 1 < ((w.alloc (.cells #[.int .i64 kk, .int .i64 ks, .int .i64 km, .int .i64 ko] 23)).alloc (.cells #[.int .i64 x, .int .i64 v] 37)).heap.size := by simp <;> omega
  generalize (w.alloc (.cells #[.int .i64 kk, .int .i64 ks, .int .i64 km, .int .i64 ko] 23)).alloc (.cells #[.int .i64 x, .int .i64 v] 37) = v1 at *
  obtain ⟨i0, hi0, hz0, hz1, hz2⟩ := info_parts infoI
  obtain ⟨t, ht⟩ : ∃ t, v1.heap.size = t := ⟨_, rfl⟩
  have HTT := Lib.hid ht
  have HNV : Hid (∀ j u, (L.map encI)[j]? = some u → (v1.alloc (.cells #[] 2)).cell? ((⟨bb, off, none⟩ : Addr).add j) = some u) := Lib.hid (ir_news hA (one_up _ _))
  have HO : Hid ((v1.alloc (.cells #[] 2)).ownsRow t 2 1 (.slice (some ⟨v1.heap.size, 0, none⟩) 0 0) 0 ([] : List Value)) := Lib.hid (World.ownsRow_lit v1 #[] 0 (by omega) (by unfold maxLen; omega) rfl)
  have HB : Hid (Below t v1 (v1.alloc (.cells #[] 2))) := Lib.hid ((Below.refl t v1).alloc (by omega) _)
  have t_le : t ≤ v1.heap.size + 1 := by omega
  have HAV := Lib.hid hA
  have CCV := Lib.hid cc
  have HKA0 := Lib.hid ka0
  have HKA1 := Lib.hid ka1
  have HKA2 := Lib.hid ka2
  have HKA3 := Lib.hid ka3
  have HPW0 := Lib.hid pw0
  have HPW1 := Lib.hid pw1
  have HKAL := Lib.hid kal
  have HPWL := Lib.hid pwl
  clear ht hA cc  
  go_wp2_with (at_builtin; refine wpList_append_lies _ rfl _ _ 24 rfl t 2 i0 (.int .i64 0) 1 8 Try.underlying24 hi0 hz0 hz1 hz2 rfl (by decide) _ 0 [] rfl HO.out ⟨bb, off, none⟩ n c (L.map encI) rfl (by rw [List.length_map, ← HL.out]; simp) HNV.out (by simp [encI, Value.oneCell']) hn0 (by unfold maxLen; omega) (by omega) (by simp; omega) _ rfl ?_; intro gq cq w3 hown1 hgrow1 hat hlt1; rw [List.nil_append] at hown1; rw [Nat.zero_add] at hown1; have h1 : Below t v1 w3 := HB.out.grown hgrow1 (by simp; omega) (fun q e => by injection (show some v1.heap.size = some q from e) with e1; have := HTT.out; omega); have hgt := (hown1.lt gq rfl).1; rw [← HTT.out] at h1; rw [← HTT.out] at hgt; replace ka0 := (h1.cell (p := ⟨w.heap.size, 0, none⟩) HKAL.out).trans HKA0.out; replace ka1 := (h1.cell (p := ⟨w.heap.size, 1, none⟩) HKAL.out).trans HKA1.out; replace ka2 := (h1.cell (p := ⟨w.heap.size, 2, none⟩) HKAL.out).trans HKA2.out; replace ka3 := (h1.cell (p := ⟨w.heap.size, 3, none⟩) HKAL.out).trans HKA3.out; replace pw0 := (h1.cell (p := ⟨w.heap.size + 1, 0, none⟩) HPWL.out).trans HPW0.out; replace pw1 := (h1.cell (p := ⟨w.heap.size + 1, 1, none⟩) HPWL.out).trans HPW1.out; have HOW := Lib.hid hown1; have HB1 := Lib.hid h1; have HGT := Lib.hid hgt; have cx := hown1.cellAt a (by have := HAN.out; omega); obtain ⟨v0_, ev0⟩ : ∃ v, (L.map encI)[a]? = some v := ⟨_, List.getElem?_eq_getElem (by rw [List.length_map, ← HL.out]; exact HAN.out)⟩; rw [ev0] at cx; have fx := hown1.frozenAt a; clear h1 hown1 hgrow1 hat hgt; have b5 : Below v1.heap.size v1 (w3.setCell ⟨gq, a, none⟩ (.int .i64 v)) := HB1.out.setCell (p := ⟨gq, a, none⟩) HGT.out _; have h5 := (HOW.out.stored a (.int .i64 v)).1; have e5 : (L.map encI).set a (.int .i64 v) = (L.set a v).map encI := (by rw [List.map_set]; rfl); rw [e5] at h5; have HM := Lib.hid (IR.of_own h5); have HB5 := Lib.hid b5; have Zka0 := (b5.cell (p := ⟨w.heap.size, 0, none⟩) HKAL.out).trans HKA0.out; have Zka1 := (b5.cell (p := ⟨w.heap.size, 1, none⟩) HKAL.out).trans HKA1.out; have Zka2 := (b5.cell (p := ⟨w.heap.size, 2, none⟩) HKAL.out).trans HKA2.out; have Zka3 := (b5.cell (p := ⟨w.heap.size, 3, none⟩) HKAL.out).trans HKA3.out; have Zpw0 := (b5.cell (p := ⟨w.heap.size + 1, 0, none⟩) HPWL.out).trans HPW0.out; have Zpw1 := (b5.cell (p := ⟨w.heap.size + 1, 1, none⟩) HPWL.out).trans HPW1.out; clear b5 h5 e5)
  have hM := HM.out
  have hA := HAV.out.on HB5.out
  have cc := CCV.out.trans (HB5.out.mono CCV.out.size)
  have kal := Nat.lt_of_lt_of_le HKAL.out HB5.out.size
  have pwl := Nat.lt_of_lt_of_le HPWL.out HB5.out.size
  clear cx fx ev0 HM HB5 HOW HB1 hlt1 ka0 ka1 ka2 ka3 pw0 pw1
  generalize w3.setCell ⟨gq, a, none⟩ (.int .i64 v) = w5 at *
  have ka0 := Zka0
  have ka1 := Zka1
  have ka2 := Zka2
  have ka3 := Zka3
  have pw0 := Zpw0
  have pw1 := Zpw1
  clear Zka0 Zka1 Zka2 Zka3 Zpw0 Zpw1
  refine (O0 hA).mono ?_
  rintro e w11 ⟨rfl, b⟩
  replace hA := hA.on b
  replace hM := hM.on b
  replace ka0 := cK b ka0 kal
  replace ka1 := cK b ka1 kal
  replace ka2 := cK b ka2 kal
  replace ka3 := cK b ka3 kal
  replace kal := lK b kal
  replace pw0 := cK b pw0 pwl
  replace pw1 := cK b pw1 pwl
  replace pwl := lK b pwl
  replace cc := bK cc b
  clear b
  go_upto_region 7 with fail
  have bxqka : w.heap.size < w11.heap.size := kal
  have bxqpw : w.heap.size + 1 < w11.heap.size := pwl
  have bA := below_one w11 (.cells #[.int .i64 0, .int .i64 0, .int .i64 0, .int .i64 0, .int .i64 0, .slice none 0 0] 28)
  replace hA := hA.on bA
  replace hM := hM.on bA
  replace ka0 := cK bA ka0 kal
  replace ka1 := cK bA ka1 kal
  replace ka2 := cK bA ka2 kal
  replace ka3 := cK bA ka3 kal
  replace kal := lK bA kal
  replace pw0 := cK bA pw0 pwl
  replace pw1 := cK bA pw1 pwl
  replace pwl := lK bA pwl
  replace cc := bK cc bA
  clear bA
  have bx0 : (w11.alloc (.cells #[.int .i64 0, .int .i64 0, .int .i64 0, .int .i64 0, .int .i64 0, .slice none 0 0] 28)).cell? ⟨w11.heap.size, 0, none⟩ = some (.int .i64 0) := by simp [go_sem]
  have bx1 : (w11.alloc (.cells #[.int .i64 0, .int .i64 0, .int .i64 0, .int .i64 0, .int .i64 0, .slice none 0 0] 28)).cell? ⟨w11.heap.size, 1, none⟩ = some (.int .i64 0) := by simp [go_sem]
  have bx2 : (w11.alloc (.cells #[.int .i64 0, .int .i64 0, .int .i64 0, .int .i64 0, .int .i64 0, .slice none 0 0] 28)).cell? ⟨w11.heap.size, 2, none⟩ = some (.int .i64 0) := by simp [go_sem]
  have bx3 : (w11.alloc (.cells #[.int .i64 0, .int .i64 0, .int .i64 0, .int .i64 0, .int .i64 0, .slice none 0 0] 28)).cell? ⟨w11.heap.size, 3, none⟩ = some (.int .i64 0) := by simp [go_sem]
  have bx4 : (w11.alloc (.cells #[.int .i64 0, .int .i64 0, .int .i64 0, .int .i64 0, .int .i64 0, .slice none 0 0] 28)).cell? ⟨w11.heap.size, 4, none⟩ = some (.int .i64 0) := by simp [go_sem]
  have bx5 : (w11.alloc (.cells #[.int .i64 0, .int .i64 0, .int .i64 0, .int .i64 0, .int .i64 0, .slice none 0 0] 28)).cell? ⟨w11.heap.size, 5, none⟩ = some (.slice none 0 0) := by simp [go_sem]
  have bxl : w11.heap.size < (w11.alloc (.cells #[.int .i64 0, .int .i64 0, .int .i64 0, .int .i64 0, .int .i64 0, .slice none 0 0] 28)).heap.size := by simp
  generalize w11.alloc (.cells #[.int .i64 0, .int .i64 0, .int .i64 0, .int .i64 0, .int .i64 0, .slice none 0 0] 28) = v12 at *
  go_wp2_with fail
  refine (O1 hM).mono ?_
  rintro e w13 ⟨Ay, ny, cy, rfl, hy, b⟩
  replace hA := hA.on b
  replace hM := hM.on b
  replace ka0 := cK b ka0 kal
  replace ka1 := cK b ka1 kal
  replace ka2 := cK b ka2 kal
  replace ka3 := cK b ka3 kal
  replace kal := lK b kal
  replace pw0 := cK b pw0 pwl
  replace pw1 := cK b pw1 pwl
  replace pwl := lK b pwl
  replace bx0 := cK b bx0 bxl
  replace bx1 := cK b bx1 bxl
  replace bx2 := cK b bx2 bxl
  replace bx3 := cK b bx3 bxl
  replace bx4 := cK b bx4 bxl
  replace bx5 := cK b bx5 bxl
  replace bxl := lK b bxl
  replace cc := bK cc b
  clear b
  skip
  go_upto_region 8 with fail
  have by_qka : w.heap.size < w13.heap.size := kal
  have by_qpw : w.heap.size + 1 < w13.heap.size := pwl
  have by_qbx : w11.heap.size < w13.heap.size := bxl
  have bA := below_one w13 (.cells #[.int .i64 kk, .int .i64 ks, .int .i64 km, .int .i64 ko, .int .i64 (n : Int), .slice Ay ny cy] 28)
  replace hA := hA.on bA
  replace hM := hM.on bA
  replace hy := hy.on bA
  replace ka0 := cK bA ka0 kal
  replace ka1 := cK bA ka1 kal
  replace ka2 := cK bA ka2 kal
  replace ka3 := cK bA ka3 kal
  replace kal := lK bA kal
  replace pw0 := cK bA pw0 pwl
  replace pw1 := cK bA pw1 pwl
  replace pwl := lK bA pwl
  replace bx0 := cK bA bx0 bxl
  replace bx1 := cK bA bx1 bxl
  replace bx2 := cK bA bx2 bxl
  replace bx3 := cK bA bx3 bxl
  replace bx4 := cK bA bx4 bxl
  replace bx5 := cK bA bx5 bxl
  replace bxl := lK bA bxl
  replace cc := bK cc bA
  clear bA
  have by_0 : (w13.alloc (.cells #[.int .i64 kk, .int .i64 ks, .int .i64 km, .int .i64 ko, .int .i64 (n : Int), .slice Ay ny cy] 28)).cell? ⟨w13.heap.size, 0, none⟩ = some (.int .i64 kk) := by simp [go_sem]
  have by_1 : (w13.alloc (.cells #[.int .i64 kk, .int .i64 ks, .int .i64 km, .int .i64 ko, .int .i64 (n : Int), .slice Ay ny cy] 28)).cell? ⟨w13.heap.size, 1, none⟩ = some (.int .i64 ks) := by simp [go_sem]
  have by_2 : (w13.alloc (.cells #[.int .i64 kk, .int .i64 ks, .int .i64 km, .int .i64 ko, .int .i64 (n : Int), .slice Ay ny cy] 28)).cell? ⟨w13.heap.size, 2, none⟩ = some (.int .i64 km) := by simp [go_sem]
  have by_3 : (w13.alloc (.cells #[.int .i64 kk, .int .i64 ks, .int .i64 km, .int .i64 ko, .int .i64 (n : Int), .slice Ay ny cy] 28)).cell? ⟨w13.heap.size, 3, none⟩ = some (.int .i64 ko) := by simp [go_sem]
  have by_4 : (w13.alloc (.cells #[.int .i64 kk, .int .i64 ks, .int .i64 km, .int .i64 ko, .int .i64 (n : Int), .slice Ay ny cy] 28)).cell? ⟨w13.heap.size, 4, none⟩ = some (.int .i64 (n : Int)) := by simp [go_sem]
  have by_5 : (w13.alloc (.cells #[.int .i64 kk, .int .i64 ks, .int .i64 km, .int .i64 ko, .int .i64 (n : Int), .slice Ay ny cy] 28)).cell? ⟨w13.heap.size, 5, none⟩ = some (.slice Ay ny cy) := by simp [go_sem]
  have by_l : w13.heap.size < (w13.alloc (.cells #[.int .i64 kk, .int .i64 ks, .int .i64 km, .int .i64 ko, .int .i64 (n : Int), .slice Ay ny cy] 28)).heap.size := by simp
  generalize w13.alloc (.cells #[.int .i64 kk, .int .i64 ks, .int .i64 km, .int .i64 ko, .int .i64 (n : Int), .slice Ay ny cy] 28) = v14 at *
  go_wp2_with fail
  refine (alive14_any _).mono ?_
  rintro e w15 ⟨rfl, b⟩
  replace hA := hA.on b
  replace hM := hM.on b
  replace hy := hy.on b
  replace ka0 := cK b ka0 kal
  replace ka1 := cK b ka1 kal
  replace ka2 := cK b ka2 kal
  replace ka3 := cK b ka3 kal
  replace kal := lK b kal
  replace pw0 := cK b pw0 pwl
  replace pw1 := cK b pw1 pwl
  replace pwl := lK b pwl
  replace bx0 := cK b bx0 bxl
  replace bx1 := cK b bx1 bxl
  replace bx2 := cK b bx2 bxl
  replace bx3 := cK b bx3 bxl
  replace bx4 := cK b bx4 bxl
  replace bx5 := cK b bx5 bxl
  replace bxl := lK b bxl
  replace by_0 := cK b by_0 by_l
  replace by_1 := cK b by_1 by_l
  replace by_2 := cK b by_2 by_l
  replace by_3 := cK b by_3 by_l
  replace by_4 := cK b by_4 by_l
  replace by_5 := cK b by_5 by_l
  replace by_l := lK b by_l
  replace cc := bK cc b
  clear b
  go_wp2_with fail
  go_ret
  exact ⟨rfl, cc⟩

set_option maxRecDepth 100000 in
set_option maxHeartbeats 8000000 in
theorem TensApart_nn {w : World} {kk ks km ko : Int} {A : Option Addr} {n c : Nat} {L : List Int} {x v : Int} {a : Nat} (ha : bits .and .i64 x 31 = (a : Int)) (hA : IR w A n c L) (h : n ≤ 24) (h2 : a < n) (O0 : ∀ {W : World} {A : Option Addr} {c : Nat}, IR W A n c L → Calls Try.prog 7 #[.agg #[.int .i64 kk, .int .i64 ks, .int .i64 km, .int .i64 ko], .slice A n c] W (GotV W (.tuple #[.agg #[.int .i64 0, .int .i64 0, .int .i64 0, .int .i64 0, .int .i64 0, .slice none 0 0], .int .i64 1]))) (O1 : ∀ {W : World} {A : Option Addr} {c : Nat}, IR W A n c (L.set a v) → Calls Try.prog 7 #[.agg #[.int .i64 kk, .int .i64 ks, .int .i64 km, .int .i64 ko], .slice A n c] W (GotV W (.tuple #[.agg #[.int .i64 0, .int .i64 0, .int .i64 0, .int .i64 0, .int .i64 0, .slice none 0 0], .int .i64 1]))) :
    Calls Try.prog 4 #[.agg #[.int .i64 kk, .int .i64 ks, .int .i64 km, .int .i64 ko], .slice A n c, .agg #[.int .i64 x, .int .i64 v]] w fun e w' => e = .returned (.bool true) ∧ Below w.heap.size w w' := by
  have t0 : decide (24 < n) = false := decide_eq_false (by omega)
  have t1 : decide ((24 : Int) < (n : Int)) = false := decide_eq_false (by omega)
  have t2 : decide (n ≤ a) = false := decide_eq_false (by omega)
  have t3 : decide ((n : Int) ≤ (a : Int)) = false := decide_eq_false (by omega)
  have HN := Lib.hid h
  have HAN := Lib.hid h2
  have HL := Lib.hid hA.1
  have ja : (a : Int) < (n : Int) := by omega
  have hn0 : 0 < n := by omega
  have hn24 : n ≤ 24 := h
  clear h h2
  obtain ⟨bb, off, rfl, _⟩ := hA.some hn0
  have cc := Below.refl w.heap.size w
  go_enter Try.func4, Try.ntmps4
  go_upto_region 4 with fail
  have bA : Below w.heap.size w ((w.alloc (.cells #[.int .i64 kk, .int .i64 ks, .int .i64 km, .int .i64 ko] 23)).alloc (.cells #[.int .i64 x, .int .i64 v] 37)) := (((Below.refl _ w).alloc (by simp) _).alloc (by simp) _)
  replace hA := hA.on bA
  replace cc := bK cc bA
  clear bA
  have ka0 : ((w.alloc (.cells #[.int .i64 kk, .int .i64 ks, .int .i64 km, .int .i64 ko] 23)).alloc (.cells #[.int .i64 x, .int .i64 v] 37)).cell? ⟨w.heap.size, 0, none⟩ = some (.int .i64 kk) := by simp [go_sem]
  have ka1 : ((w.alloc (.cells #[.int .i64 kk, .int .i64 ks, .int .i64 km, .int .i64 ko] 23)).alloc (.cells #[.int .i64 x, .int .i64 v] 37)).cell? ⟨w.heap.size, 1, none⟩ = some (.int .i64 ks) := by simp [go_sem]
  have ka2 : ((w.alloc (.cells #[.int .i64 kk, .int .i64 ks, .int .i64 km, .int .i64 ko] 23)).alloc (.cells #[.int .i64 x, .int .i64 v] 37)).cell? ⟨w.heap.size, 2, none⟩ = some (.int .i64 km) := by simp [go_sem]
  have ka3 : ((w.alloc (.cells #[.int .i64 kk, .int .i64 ks, .int .i64 km, .int .i64 ko] 23)).alloc (.cells #[.int .i64 x, .int .i64 v] 37)).cell? ⟨w.heap.size, 3, none⟩ = some (.int .i64 ko) := by simp [go_sem]
  have kal : w.heap.size < ((w.alloc (.cells #[.int .i64 kk, .int .i64 ks, .int .i64 km, .int .i64 ko] 23)).alloc (.cells #[.int .i64 x, .int .i64 v] 37)).heap.size := by simp <;> omega
  have pw0 : ((w.alloc (.cells #[.int .i64 kk, .int .i64 ks, .int .i64 km, .int .i64 ko] 23)).alloc (.cells #[.int .i64 x, .int .i64 v] 37)).cell? ⟨w.heap.size + 1, 0, none⟩ = some (.int .i64 x) := by simp [go_sem]
  have pw1 : ((w.alloc (.cells #[.int .i64 kk, .int .i64 ks, .int .i64 km, .int .i64 ko] 23)).alloc (.cells #[.int .i64 x, .int .i64 v] 37)).cell? ⟨w.heap.size + 1, 1, none⟩ = some (.int .i64 v) := by simp [go_sem]
  have pwl : w.heap.size + 1 < ((w.alloc (.cells #[.int .i64 kk, .int .i64 ks, .int .i64 km, .int .i64 ko] 23)).alloc (.cells #[.int .i64 x, .int .i64 v] 37)).heap.size := by simp <;> omega
  generalize (w.alloc (.cells #[.int .i64 kk, .int .i64 ks, .int .i64 km, .int .i64 ko] 23)).alloc (.cells #[.int .i64 x, .int .i64 v] 37) = v1 at *
  obtain ⟨i0, hi0, hz0, hz1, hz2⟩ := info_parts infoI
  obtain ⟨t, ht⟩ : ∃ t, v1.heap.size = t := ⟨_, rfl⟩
  have HTT := Lib.hid ht
  have HNV : Hid (∀ j u, (L.map encI)[j]? = some u → (v1.alloc (.cells #[] 2)).cell? ((⟨bb, off, none⟩ : Addr).add j) = some u) := Lib.hid (ir_news hA (one_up _ _))
  have HO : Hid ((v1.alloc (.cells #[] 2)).ownsRow t 2 1 (.slice (some ⟨v1.heap.size, 0, none⟩) 0 0) 0 ([] : List Value)) := Lib.hid (World.ownsRow_lit v1 #[] 0 (by omega) (by unfold maxLen; omega) rfl)
  have HB : Hid (Below t v1 (v1.alloc (.cells #[] 2))) := Lib.hid ((Below.refl t v1).alloc (by omega) _)
  have t_le : t ≤ v1.heap.size + 1 := by omega
  have HAV := Lib.hid hA
  have CCV := Lib.hid cc
  have HKA0 := Lib.hid ka0
  have HKA1 := Lib.hid ka1
  have HKA2 := Lib.hid ka2
  have HKA3 := Lib.hid ka3
  have HPW0 := Lib.hid pw0
  have HPW1 := Lib.hid pw1
  have HKAL := Lib.hid kal
  have HPWL := Lib.hid pwl
  clear ht hA cc  
  go_wp2_with (at_builtin; refine wpList_append_lies _ rfl _ _ 24 rfl t 2 i0 (.int .i64 0) 1 8 Try.underlying24 hi0 hz0 hz1 hz2 rfl (by decide) _ 0 [] rfl HO.out ⟨bb, off, none⟩ n c (L.map encI) rfl (by rw [List.length_map, ← HL.out]; simp) HNV.out (by simp [encI, Value.oneCell']) hn0 (by unfold maxLen; omega) (by omega) (by simp; omega) _ rfl ?_; intro gq cq w3 hown1 hgrow1 hat hlt1; rw [List.nil_append] at hown1; rw [Nat.zero_add] at hown1; have h1 : Below t v1 w3 := HB.out.grown hgrow1 (by simp; omega) (fun q e => by injection (show some v1.heap.size = some q from e) with e1; have := HTT.out; omega); have hgt := (hown1.lt gq rfl).1; rw [← HTT.out] at h1; rw [← HTT.out] at hgt; replace ka0 := (h1.cell (p := ⟨w.heap.size, 0, none⟩) HKAL.out).trans HKA0.out; replace ka1 := (h1.cell (p := ⟨w.heap.size, 1, none⟩) HKAL.out).trans HKA1.out; replace ka2 := (h1.cell (p := ⟨w.heap.size, 2, none⟩) HKAL.out).trans HKA2.out; replace ka3 := (h1.cell (p := ⟨w.heap.size, 3, none⟩) HKAL.out).trans HKA3.out; replace pw0 := (h1.cell (p := ⟨w.heap.size + 1, 0, none⟩) HPWL.out).trans HPW0.out; replace pw1 := (h1.cell (p := ⟨w.heap.size + 1, 1, none⟩) HPWL.out).trans HPW1.out; have HOW := Lib.hid hown1; have HB1 := Lib.hid h1; have HGT := Lib.hid hgt; have cx := hown1.cellAt a (by have := HAN.out; omega); obtain ⟨v0_, ev0⟩ : ∃ v, (L.map encI)[a]? = some v := ⟨_, List.getElem?_eq_getElem (by rw [List.length_map, ← HL.out]; exact HAN.out)⟩; rw [ev0] at cx; have fx := hown1.frozenAt a; clear h1 hown1 hgrow1 hat hgt; have b5 : Below v1.heap.size v1 (w3.setCell ⟨gq, a, none⟩ (.int .i64 v)) := HB1.out.setCell (p := ⟨gq, a, none⟩) HGT.out _; have h5 := (HOW.out.stored a (.int .i64 v)).1; have e5 : (L.map encI).set a (.int .i64 v) = (L.set a v).map encI := (by rw [List.map_set]; rfl); rw [e5] at h5; have HM := Lib.hid (IR.of_own h5); have HB5 := Lib.hid b5; have Zka0 := (b5.cell (p := ⟨w.heap.size, 0, none⟩) HKAL.out).trans HKA0.out; have Zka1 := (b5.cell (p := ⟨w.heap.size, 1, none⟩) HKAL.out).trans HKA1.out; have Zka2 := (b5.cell (p := ⟨w.heap.size, 2, none⟩) HKAL.out).trans HKA2.out; have Zka3 := (b5.cell (p := ⟨w.heap.size, 3, none⟩) HKAL.out).trans HKA3.out; have Zpw0 := (b5.cell (p := ⟨w.heap.size + 1, 0, none⟩) HPWL.out).trans HPW0.out; have Zpw1 := (b5.cell (p := ⟨w.heap.size + 1, 1, none⟩) HPWL.out).trans HPW1.out; clear b5 h5 e5)
  have hM := HM.out
  have hA := HAV.out.on HB5.out
  have cc := CCV.out.trans (HB5.out.mono CCV.out.size)
  have kal := Nat.lt_of_lt_of_le HKAL.out HB5.out.size
  have pwl := Nat.lt_of_lt_of_le HPWL.out HB5.out.size
  clear cx fx ev0 HM HB5 HOW HB1 hlt1 ka0 ka1 ka2 ka3 pw0 pw1
  generalize w3.setCell ⟨gq, a, none⟩ (.int .i64 v) = w5 at *
  have ka0 := Zka0
  have ka1 := Zka1
  have ka2 := Zka2
  have ka3 := Zka3
  have pw0 := Zpw0
  have pw1 := Zpw1
  clear Zka0 Zka1 Zka2 Zka3 Zpw0 Zpw1
  refine (O0 hA).mono ?_
  rintro e w11 ⟨rfl, b⟩
  replace hA := hA.on b
  replace hM := hM.on b
  replace ka0 := cK b ka0 kal
  replace ka1 := cK b ka1 kal
  replace ka2 := cK b ka2 kal
  replace ka3 := cK b ka3 kal
  replace kal := lK b kal
  replace pw0 := cK b pw0 pwl
  replace pw1 := cK b pw1 pwl
  replace pwl := lK b pwl
  replace cc := bK cc b
  clear b
  go_upto_region 7 with fail
  have bxqka : w.heap.size < w11.heap.size := kal
  have bxqpw : w.heap.size + 1 < w11.heap.size := pwl
  have bA := below_one w11 (.cells #[.int .i64 0, .int .i64 0, .int .i64 0, .int .i64 0, .int .i64 0, .slice none 0 0] 28)
  replace hA := hA.on bA
  replace hM := hM.on bA
  replace ka0 := cK bA ka0 kal
  replace ka1 := cK bA ka1 kal
  replace ka2 := cK bA ka2 kal
  replace ka3 := cK bA ka3 kal
  replace kal := lK bA kal
  replace pw0 := cK bA pw0 pwl
  replace pw1 := cK bA pw1 pwl
  replace pwl := lK bA pwl
  replace cc := bK cc bA
  clear bA
  have bx0 : (w11.alloc (.cells #[.int .i64 0, .int .i64 0, .int .i64 0, .int .i64 0, .int .i64 0, .slice none 0 0] 28)).cell? ⟨w11.heap.size, 0, none⟩ = some (.int .i64 0) := by simp [go_sem]
  have bx1 : (w11.alloc (.cells #[.int .i64 0, .int .i64 0, .int .i64 0, .int .i64 0, .int .i64 0, .slice none 0 0] 28)).cell? ⟨w11.heap.size, 1, none⟩ = some (.int .i64 0) := by simp [go_sem]
  have bx2 : (w11.alloc (.cells #[.int .i64 0, .int .i64 0, .int .i64 0, .int .i64 0, .int .i64 0, .slice none 0 0] 28)).cell? ⟨w11.heap.size, 2, none⟩ = some (.int .i64 0) := by simp [go_sem]
  have bx3 : (w11.alloc (.cells #[.int .i64 0, .int .i64 0, .int .i64 0, .int .i64 0, .int .i64 0, .slice none 0 0] 28)).cell? ⟨w11.heap.size, 3, none⟩ = some (.int .i64 0) := by simp [go_sem]
  have bx4 : (w11.alloc (.cells #[.int .i64 0, .int .i64 0, .int .i64 0, .int .i64 0, .int .i64 0, .slice none 0 0] 28)).cell? ⟨w11.heap.size, 4, none⟩ = some (.int .i64 0) := by simp [go_sem]
  have bx5 : (w11.alloc (.cells #[.int .i64 0, .int .i64 0, .int .i64 0, .int .i64 0, .int .i64 0, .slice none 0 0] 28)).cell? ⟨w11.heap.size, 5, none⟩ = some (.slice none 0 0) := by simp [go_sem]
  have bxl : w11.heap.size < (w11.alloc (.cells #[.int .i64 0, .int .i64 0, .int .i64 0, .int .i64 0, .int .i64 0, .slice none 0 0] 28)).heap.size := by simp
  generalize w11.alloc (.cells #[.int .i64 0, .int .i64 0, .int .i64 0, .int .i64 0, .int .i64 0, .slice none 0 0] 28) = v12 at *
  go_wp2_with fail
  refine (O1 hM).mono ?_
  rintro e w13 ⟨rfl, b⟩
  replace hA := hA.on b
  replace hM := hM.on b
  replace ka0 := cK b ka0 kal
  replace ka1 := cK b ka1 kal
  replace ka2 := cK b ka2 kal
  replace ka3 := cK b ka3 kal
  replace kal := lK b kal
  replace pw0 := cK b pw0 pwl
  replace pw1 := cK b pw1 pwl
  replace pwl := lK b pwl
  replace bx0 := cK b bx0 bxl
  replace bx1 := cK b bx1 bxl
  replace bx2 := cK b bx2 bxl
  replace bx3 := cK b bx3 bxl
  replace bx4 := cK b bx4 bxl
  replace bx5 := cK b bx5 bxl
  replace bxl := lK b bxl
  replace cc := bK cc b
  clear b
  go_upto_region 8 with fail
  have by_qka : w.heap.size < w13.heap.size := kal
  have by_qpw : w.heap.size + 1 < w13.heap.size := pwl
  have by_qbx : w11.heap.size < w13.heap.size := bxl
  have bA := below_one w13 (.cells #[.int .i64 0, .int .i64 0, .int .i64 0, .int .i64 0, .int .i64 0, .slice none 0 0] 28)
  replace hA := hA.on bA
  replace hM := hM.on bA
  replace ka0 := cK bA ka0 kal
  replace ka1 := cK bA ka1 kal
  replace ka2 := cK bA ka2 kal
  replace ka3 := cK bA ka3 kal
  replace kal := lK bA kal
  replace pw0 := cK bA pw0 pwl
  replace pw1 := cK bA pw1 pwl
  replace pwl := lK bA pwl
  replace bx0 := cK bA bx0 bxl
  replace bx1 := cK bA bx1 bxl
  replace bx2 := cK bA bx2 bxl
  replace bx3 := cK bA bx3 bxl
  replace bx4 := cK bA bx4 bxl
  replace bx5 := cK bA bx5 bxl
  replace bxl := lK bA bxl
  replace cc := bK cc bA
  clear bA
  have by_0 : (w13.alloc (.cells #[.int .i64 0, .int .i64 0, .int .i64 0, .int .i64 0, .int .i64 0, .slice none 0 0] 28)).cell? ⟨w13.heap.size, 0, none⟩ = some (.int .i64 0) := by simp [go_sem]
  have by_1 : (w13.alloc (.cells #[.int .i64 0, .int .i64 0, .int .i64 0, .int .i64 0, .int .i64 0, .slice none 0 0] 28)).cell? ⟨w13.heap.size, 1, none⟩ = some (.int .i64 0) := by simp [go_sem]
  have by_2 : (w13.alloc (.cells #[.int .i64 0, .int .i64 0, .int .i64 0, .int .i64 0, .int .i64 0, .slice none 0 0] 28)).cell? ⟨w13.heap.size, 2, none⟩ = some (.int .i64 0) := by simp [go_sem]
  have by_3 : (w13.alloc (.cells #[.int .i64 0, .int .i64 0, .int .i64 0, .int .i64 0, .int .i64 0, .slice none 0 0] 28)).cell? ⟨w13.heap.size, 3, none⟩ = some (.int .i64 0) := by simp [go_sem]
  have by_4 : (w13.alloc (.cells #[.int .i64 0, .int .i64 0, .int .i64 0, .int .i64 0, .int .i64 0, .slice none 0 0] 28)).cell? ⟨w13.heap.size, 4, none⟩ = some (.int .i64 0) := by simp [go_sem]
  have by_5 : (w13.alloc (.cells #[.int .i64 0, .int .i64 0, .int .i64 0, .int .i64 0, .int .i64 0, .slice none 0 0] 28)).cell? ⟨w13.heap.size, 5, none⟩ = some (.slice none 0 0) := by simp [go_sem]
  have by_l : w13.heap.size < (w13.alloc (.cells #[.int .i64 0, .int .i64 0, .int .i64 0, .int .i64 0, .int .i64 0, .slice none 0 0] 28)).heap.size := by simp
  generalize w13.alloc (.cells #[.int .i64 0, .int .i64 0, .int .i64 0, .int .i64 0, .int .i64 0, .slice none 0 0] 28) = v14 at *
  go_wp2_with fail
  refine (alive14_any _).mono ?_
  rintro e w15 ⟨rfl, b⟩
  replace hA := hA.on b
  replace hM := hM.on b
  replace ka0 := cK b ka0 kal
  replace ka1 := cK b ka1 kal
  replace ka2 := cK b ka2 kal
  replace ka3 := cK b ka3 kal
  replace kal := lK b kal
  replace pw0 := cK b pw0 pwl
  replace pw1 := cK b pw1 pwl
  replace pwl := lK b pwl
  replace bx0 := cK b bx0 bxl
  replace bx1 := cK b bx1 bxl
  replace bx2 := cK b bx2 bxl
  replace bx3 := cK b bx3 bxl
  replace bx4 := cK b bx4 bxl
  replace bx5 := cK b bx5 bxl
  replace bxl := lK b bxl
  replace by_0 := cK b by_0 by_l
  replace by_1 := cK b by_1 by_l
  replace by_2 := cK b by_2 by_l
  replace by_3 := cK b by_3 by_l
  replace by_4 := cK b by_4 by_l
  replace by_5 := cK b by_5 by_l
  replace by_l := lK b by_l
  replace cc := bK cc b
  clear b
  go_wp2_with fail
  go_ret
  exact ⟨rfl, cc⟩

theorem and31_14 (d : Int) : 0 ≤ bits .and .i64 d 31 ∧ bits .and .i64 d 31 ≤ 31 := by
  have h : (BitVec.ofInt 64 d &&& BitVec.ofInt 64 31).toNat ≤ 31 := by rw [BitVec.toNat_and]; exact Nat.and_le_right
  have e : bits .and .i64 d 31 = IntKind.i64.wrap ((BitVec.ofInt 64 d &&& BitVec.ofInt 64 31).toNat : Int) := rfl
  rw [e, IntWalk.i64_in _ (by omega)]
  omega
theorem TensApart_main {w : World} {kk ks km ko : Int} (hI : I64 kk ∧ I64 ks ∧ I64 km ∧ I64 ko) {A : Option Addr} {n c : Nat} {L : List Int} (hA : IR w A n c L) (hi6 : ∀ x ∈ L, I64 x) (x v : Int) (hx : I64 x) (hv : I64 v) : Calls Try.prog 4 #[.agg #[.int .i64 kk, .int .i64 ks, .int .i64 km, .int .i64 ko], .slice A n c, .agg #[.int .i64 x, .int .i64 v]] w fun e w' => e = .returned (.bool true) ∧ Below w.heap.size w w' := by
  obtain ⟨a0, a1⟩ := and31_14 x
  obtain ⟨a, ha⟩ : ∃ a : Nat, bits .and .i64 x 31 = (a : Int) := ⟨(bits .and .i64 x 31).toNat, by omega⟩
  by_cases h : 24 < n
  · exact TensApart_few ha hA h
  by_cases h2 : n ≤ a
  · exact TensApart_out ha hA (by omega) h2
  have hl := hA.1
  have hi6' : ∀ y ∈ L.set a v, I64 y := fun y hy => by
    rcases List.mem_or_eq_of_mem_set hy with e | e
    · exact hi6 y e
    · rw [e]; exact hv
  by_cases ho : OkT kk ks km ko L
  · by_cases hp : OkT kk ks km ko (L.set a v)
    · obtain ⟨s1, s2, s3, hk⟩ := okT_size ho
      refine TensApart_yy ha hA (by omega) (by omega) (by omega) (D := ofT kk ks km ko L) (E := ofT kk ks km ko (L.set a v)) (nb := nbk ks.toNat L.length) (ofT_len _ _ _ _ _) (by rw [ofT_len, List.length_set]) (by have := nbk_le (n := L.length) s1; omega) (fun i hi hne => ?_) (fun g => tnOf_yes hI g hi6 (by omega) ho) (fun g => tnOf_yes hI g hi6' (by omega) hp)
      have e1 : (ofT kk ks km ko L)[i]?.getD bk0 = ofB kk km ko L.length (cutL ks.toNat L i) := ofL_at hi
      have e2 : (ofT kk ks km ko (L.set a v))[i]?.getD bk0 = ofB kk km ko (L.set a v).length (cutL ks.toNat (L.set a v) i) := ofL_at (by rw [List.length_set]; exact hi)
      rw [e1, e2, List.length_set, cutL_set s1 v hne]
    · exact TensApart_yn ha hA (by omega) (by omega) (fun g => tnOf_yes hI g hi6 (by omega) ho) (fun g => tnOf_no hI g hi6' (by omega) hp)
  · by_cases hp : OkT kk ks km ko (L.set a v)
    · exact TensApart_ny ha hA (by omega) (by omega) (fun g => tnOf_no hI g hi6 (by omega) ho) (fun g => tnOf_yes hI g hi6' (by omega) hp)
    · exact TensApart_nn ha hA (by omega) (by omega) (fun g => tnOf_no hI g hi6 (by omega) ho) (fun g => tnOf_no hI g hi6' (by omega) hp)
theorem TensApart_walk {w : World} {kk ks km ko : Int} (hI : I64 kk ∧ I64 ks ∧ I64 km ∧ I64 ko) {A : Option Addr} {n c : Nat} {L : List Int} (hA : IR w A n c L) (hi6 : ∀ x ∈ L, I64 x) (x v : Int) (wx : (Lit.int .i64 x).wf = true) (wv : (Lit.int .i64 v).wf = true) : Calls Try.prog 4 #[.agg #[.int .i64 kk, .int .i64 ks, .int .i64 km, .int .i64 ko], .slice A n c, .agg #[.int .i64 x, .int .i64 v]] w fun e w' => e = .returned (.bool true) ∧ Below w.heap.size w w' := TensApart_main hI hA hi6 x v (bounds_i64 wx) (bounds_i64 wv)

end Go.Proofs.Ytpidpebgeblenaa
