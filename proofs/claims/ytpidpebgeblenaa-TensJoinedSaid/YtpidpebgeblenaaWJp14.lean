/-
  TensJoined: where a row is refused.
-/
import Derived.Test.YtpidpebgeblenaaWJo14
import Derived.Test.YtpidpebgeblenaaA11
import Derived.Test.YtpidpebgeblenaaA3
namespace Go.Proofs.Ytpidpebgeblenaa
set_option maxRecDepth 100000
open Go.RowKit
set_option linter.unusedVariables false
set_option linter.unusedSimpArgs false

theorem below_al {V W : World} (o : Obj) (h : Below V.heap.size V W) : Below V.heap.size V (W.alloc o) := h.alloc h.size o
theorem below_dr {n : Nat} {V W : World} (h : Below n V W) : Below n V W.drew := below_drewN h 1
theorem below_sc {n : Nat} {V W : World} {g o : Nat} (u : Value) (h : Below n V W) (x : Unit) (hg : n ≤ g) : Below n V (W.setCell ⟨g, o, none⟩ u) := h.setCell (p := ⟨g, o, none⟩) hg u
set_option maxRecDepth 100000 in
set_option maxHeartbeats 8000000 in
theorem TensJoined_yn {w : World} {kk ks km ko : Int} {A : Option Addr} {n c : Nat} {L : List Int} (hA : IR w A n c L) {B : Option Addr} {m d : Nat} {M : List Int} (hB : IR w B m d M) (h : n + m ≤ 24) (hK : OkK kk ks km ko) (hr : (n : Int) % ks = 0) (h3 : km ≤ (n : Int)) (h4 : km ≤ (m : Int)) {D : List Bk} (O0 : ∀ {W : World} {A : Option Addr} {c : Nat}, IR W A n c L → Calls Try.prog 7 #[.agg #[.int .i64 kk, .int .i64 ks, .int .i64 km, .int .i64 ko], .slice A n c] W (GotStn W kk ks km ko (n : Int) D)) (O1 : ∀ {W : World} {A : Option Addr} {c : Nat}, IR W A m c M → Calls Try.prog 7 #[.agg #[.int .i64 kk, .int .i64 ks, .int .i64 km, .int .i64 ko], .slice A m c] W (GotV W (.tuple #[.agg #[.int .i64 0, .int .i64 0, .int .i64 0, .int .i64 0, .int .i64 0, .slice none 0 0], .int .i64 1]))) (O2 : ∀ {W : World} {A : Option Addr} {c : Nat}, IR W A (n + m) c (L ++ M) → Calls Try.prog 7 #[.agg #[.int .i64 kk, .int .i64 ks, .int .i64 km, .int .i64 ko], .slice A (n + m) c] W (GotV W (.tuple #[.agg #[.int .i64 0, .int .i64 0, .int .i64 0, .int .i64 0, .int .i64 0, .slice none 0 0], .int .i64 1]))) :
    Calls Try.prog 5 #[.agg #[.int .i64 kk, .int .i64 ks, .int .i64 km, .int .i64 ko], .slice A n c, .slice B m d] w fun e w' => e = .returned (.bool true) ∧ Below w.heap.size w w' := by
  have k0_ : IntKind.i64.wrap ((n : Int) + (m : Int)) = (n : Int) + (m : Int) := IntWalk.i64_in _ (by omega)
  have t0 : decide ((24 : Int) < (n : Int) + (m : Int)) = false := decide_eq_false (by omega)
  have t1 : decide (24 < n + m) = false := decide_eq_false (by omega)
  have CM : ∀ V : World, Calls Try.prog 10 #[.agg #[.int .i64 kk, .int .i64 ks, .int .i64 km, .int .i64 ko]] V (GotV V (.bool true)) := fun V => by have h := rMay14_N V (kk := kk) (ks := ks) (km := km) (ko := ko); rw [decide_eq_true hK] at h; exact h
  have hks : 1 ≤ ks ∧ ks ≤ 4096 := by unfold OkK at hK; omega
  have k5 : (ks == 0) = false := beq_eq_false_iff_ne.2 (by omega)
  have k7 : ¬ ks = 0 := by omega
  have k3q : Int.tmod (n : Int) ks = 0 := by rw [Int.tmod_eq_emod_of_nonneg (by omega)]; exact hr
  have k4q : IntKind.i64.wrap 0 = 0 := IntWalk.i64_in _ (by omega)
  have t_n : decide ((n : Int) < km) = false := decide_eq_false (by omega)
  have t_m : decide ((m : Int) < km) = false := decide_eq_false (by omega)
  have hnm : n + m ≤ 24 := h
  clear h hK hr h3 h4 hks
  have cc := Below.refl w.heap.size w
  go_enter Try.func5, Try.ntmps5
  go_wp2_with fail
  have bA : Below w.heap.size w (w.alloc (.cells #[.int .i64 kk, .int .i64 ks, .int .i64 km, .int .i64 ko] 23)) := ((Below.refl _ w).alloc (by simp) _)
  replace hA := hA.on bA
  replace hB := hB.on bA
  replace cc := bK cc bA
  clear bA
  have ka0 : (w.alloc (.cells #[.int .i64 kk, .int .i64 ks, .int .i64 km, .int .i64 ko] 23)).cell? ⟨w.heap.size, 0, none⟩ = some (.int .i64 kk) := by simp [go_sem]
  have ka1 : (w.alloc (.cells #[.int .i64 kk, .int .i64 ks, .int .i64 km, .int .i64 ko] 23)).cell? ⟨w.heap.size, 1, none⟩ = some (.int .i64 ks) := by simp [go_sem]
  have ka2 : (w.alloc (.cells #[.int .i64 kk, .int .i64 ks, .int .i64 km, .int .i64 ko] 23)).cell? ⟨w.heap.size, 2, none⟩ = some (.int .i64 km) := by simp [go_sem]
  have ka3 : (w.alloc (.cells #[.int .i64 kk, .int .i64 ks, .int .i64 km, .int .i64 ko] 23)).cell? ⟨w.heap.size, 3, none⟩ = some (.int .i64 ko) := by simp [go_sem]
  have kal : w.heap.size < (w.alloc (.cells #[.int .i64 kk, .int .i64 ks, .int .i64 km, .int .i64 ko] 23)).heap.size := by simp <;> omega
  generalize w.alloc (.cells #[.int .i64 kk, .int .i64 ks, .int .i64 km, .int .i64 ko] 23) = v1 at *
  go_wp2_with fail
  refine (CM _).mono ?_
  rintro e w2 ⟨rfl, b⟩
  replace hA := hA.on b
  replace hB := hB.on b
  replace ka0 := cK b ka0 kal
  replace ka1 := cK b ka1 kal
  replace ka2 := cK b ka2 kal
  replace ka3 := cK b ka3 kal
  replace kal := lK b kal
  replace cc := bK cc b
  clear b
  go_wp2_with fail
  refine (O0 hA).mono ?_
  rintro e w3 ⟨Ax, nx, cx, rfl, hx, b⟩
  replace hA := hA.on b
  replace hB := hB.on b
  replace ka0 := cK b ka0 kal
  replace ka1 := cK b ka1 kal
  replace ka2 := cK b ka2 kal
  replace ka3 := cK b ka3 kal
  replace kal := lK b kal
  replace cc := bK cc b
  clear b
  clear hx
  go_upto_region 4 with fail
  have bxqka : w.heap.size < w3.heap.size := kal
  have bA := below_one w3 (.cells #[.int .i64 kk, .int .i64 ks, .int .i64 km, .int .i64 ko, .int .i64 (n : Int), .slice Ax nx cx] 28)
  replace hA := hA.on bA
  replace hB := hB.on bA
  replace ka0 := cK bA ka0 kal
  replace ka1 := cK bA ka1 kal
  replace ka2 := cK bA ka2 kal
  replace ka3 := cK bA ka3 kal
  replace kal := lK bA kal
  replace cc := bK cc bA
  clear bA
  have bx0 : (w3.alloc (.cells #[.int .i64 kk, .int .i64 ks, .int .i64 km, .int .i64 ko, .int .i64 (n : Int), .slice Ax nx cx] 28)).cell? ⟨w3.heap.size, 0, none⟩ = some (.int .i64 kk) := by simp [go_sem]
  have bx1 : (w3.alloc (.cells #[.int .i64 kk, .int .i64 ks, .int .i64 km, .int .i64 ko, .int .i64 (n : Int), .slice Ax nx cx] 28)).cell? ⟨w3.heap.size, 1, none⟩ = some (.int .i64 ks) := by simp [go_sem]
  have bx2 : (w3.alloc (.cells #[.int .i64 kk, .int .i64 ks, .int .i64 km, .int .i64 ko, .int .i64 (n : Int), .slice Ax nx cx] 28)).cell? ⟨w3.heap.size, 2, none⟩ = some (.int .i64 km) := by simp [go_sem]
  have bx3 : (w3.alloc (.cells #[.int .i64 kk, .int .i64 ks, .int .i64 km, .int .i64 ko, .int .i64 (n : Int), .slice Ax nx cx] 28)).cell? ⟨w3.heap.size, 3, none⟩ = some (.int .i64 ko) := by simp [go_sem]
  have bx4 : (w3.alloc (.cells #[.int .i64 kk, .int .i64 ks, .int .i64 km, .int .i64 ko, .int .i64 (n : Int), .slice Ax nx cx] 28)).cell? ⟨w3.heap.size, 4, none⟩ = some (.int .i64 (n : Int)) := by simp [go_sem]
  have bx5 : (w3.alloc (.cells #[.int .i64 kk, .int .i64 ks, .int .i64 km, .int .i64 ko, .int .i64 (n : Int), .slice Ax nx cx] 28)).cell? ⟨w3.heap.size, 5, none⟩ = some (.slice Ax nx cx) := by simp [go_sem]
  have bxl : w3.heap.size < (w3.alloc (.cells #[.int .i64 kk, .int .i64 ks, .int .i64 km, .int .i64 ko, .int .i64 (n : Int), .slice Ax nx cx] 28)).heap.size := by simp
  generalize w3.alloc (.cells #[.int .i64 kk, .int .i64 ks, .int .i64 km, .int .i64 ko, .int .i64 (n : Int), .slice Ax nx cx] 28) = v4 at *
  go_wp2_with fail
  refine (O1 hB).mono ?_
  rintro e w5 ⟨rfl, b⟩
  replace hA := hA.on b
  replace hB := hB.on b
  replace ka0 := cK b ka0 kal
  replace ka1 := cK b ka1 kal
  replace ka2 := cK b ka2 kal
  replace ka3 := cK b ka3 kal
  replace kal := lK b kal
  replace bx0 := cK b bx0 bxl
  replace bx1 := cK b bx1 bxl
  replace bx2 := cK b bx2 bxl
  replace bx3 := cK b bx3 bxl
  replace bx4 := cK b bx4 bxl
  replace bx5 := cK b bx5 bxl
  replace bxl := lK b bxl
  replace cc := bK cc b
  clear b
  go_upto_region 5 with fail
  have by_qka : w.heap.size < w5.heap.size := kal
  have by_qbx : w3.heap.size < w5.heap.size := bxl
  have bA := below_one w5 (.cells #[.int .i64 0, .int .i64 0, .int .i64 0, .int .i64 0, .int .i64 0, .slice none 0 0] 28)
  replace hA := hA.on bA
  replace hB := hB.on bA
  replace ka0 := cK bA ka0 kal
  replace ka1 := cK bA ka1 kal
  replace ka2 := cK bA ka2 kal
  replace ka3 := cK bA ka3 kal
  replace kal := lK bA kal
  replace bx0 := cK bA bx0 bxl
  replace bx1 := cK bA bx1 bxl
  replace bx2 := cK bA bx2 bxl
  replace bx3 := cK bA bx3 bxl
  replace bx4 := cK bA bx4 bxl
  replace bx5 := cK bA bx5 bxl
  replace bxl := lK bA bxl
  replace cc := bK cc bA
  clear bA
  have by_0 : (w5.alloc (.cells #[.int .i64 0, .int .i64 0, .int .i64 0, .int .i64 0, .int .i64 0, .slice none 0 0] 28)).cell? ⟨w5.heap.size, 0, none⟩ = some (.int .i64 0) := by simp [go_sem]
  have by_1 : (w5.alloc (.cells #[.int .i64 0, .int .i64 0, .int .i64 0, .int .i64 0, .int .i64 0, .slice none 0 0] 28)).cell? ⟨w5.heap.size, 1, none⟩ = some (.int .i64 0) := by simp [go_sem]
  have by_2 : (w5.alloc (.cells #[.int .i64 0, .int .i64 0, .int .i64 0, .int .i64 0, .int .i64 0, .slice none 0 0] 28)).cell? ⟨w5.heap.size, 2, none⟩ = some (.int .i64 0) := by simp [go_sem]
  have by_3 : (w5.alloc (.cells #[.int .i64 0, .int .i64 0, .int .i64 0, .int .i64 0, .int .i64 0, .slice none 0 0] 28)).cell? ⟨w5.heap.size, 3, none⟩ = some (.int .i64 0) := by simp [go_sem]
  have by_4 : (w5.alloc (.cells #[.int .i64 0, .int .i64 0, .int .i64 0, .int .i64 0, .int .i64 0, .slice none 0 0] 28)).cell? ⟨w5.heap.size, 4, none⟩ = some (.int .i64 0) := by simp [go_sem]
  have by_5 : (w5.alloc (.cells #[.int .i64 0, .int .i64 0, .int .i64 0, .int .i64 0, .int .i64 0, .slice none 0 0] 28)).cell? ⟨w5.heap.size, 5, none⟩ = some (.slice none 0 0) := by simp [go_sem]
  have by_l : w5.heap.size < (w5.alloc (.cells #[.int .i64 0, .int .i64 0, .int .i64 0, .int .i64 0, .int .i64 0, .slice none 0 0] 28)).heap.size := by simp
  generalize w5.alloc (.cells #[.int .i64 0, .int .i64 0, .int .i64 0, .int .i64 0, .int .i64 0, .slice none 0 0] 28) = v6 at *
  go_cut [11, 12] (fun ux ue wx => ∃ (gz : Nat), ux = .pointer (some ⟨gz, 0, none⟩) ∧ ue = .int .i64 1 ∧ LoneT v6 wx gz (.int .i64 0) (.int .i64 0) (.int .i64 0) (.int .i64 0) (.int .i64 0) (.slice none 0 0))
  case first =>
    obtain ⟨i0, hi, hz0, hz1, hz2⟩ := info_parts infoI
    obtain ⟨t, ht⟩ : ∃ t, v6.heap.size = t := ⟨_, rfl⟩
    have HT := Lib.hid ht
    have tw : t ≤ v6.heap.size := by omega
    have b00 : Below t v6 v6 := Below.refl t v6
    have o1 : ((v6.alloc (.cells #[] 2)).drew).ownsRow t 2 1 (.slice (some ⟨v6.heap.size, 0, none⟩) 0 0) 0 ([] : List Value) := (World.ownsRow_lit v6 #[] 0 tw (by unfold maxLen; omega) rfl).drew
    have o2 : (((v6.alloc (.cells #[] 2)).alloc (.cells #[.int .i64 0, .int .i64 0, .int .i64 0, .int .i64 0, .int .i64 0, .slice none 0 0] 28)).drew).ownsRow t 2 1 (.slice (some ⟨v6.heap.size, 0, none⟩) 0 0) 0 ([] : List Value) := ((World.ownsRow_lit v6 #[] 0 tw (by unfold maxLen; omega) rfl).alloc _).drew
    have o3 : (((v6.alloc (.cells #[.int .i64 0, .int .i64 0, .int .i64 0, .int .i64 0, .int .i64 0, .slice none 0 0] 28)).alloc (.cells #[] 2)).drew).ownsRow t 2 1 (.slice (some ⟨v6.heap.size + 1, 0, none⟩) 0 0) 0 ([] : List Value) := by have h := (World.ownsRow_lit (e := 2) (size := 1) (v6.alloc (.cells #[.int .i64 0, .int .i64 0, .int .i64 0, .int .i64 0, .int .i64 0, .slice none 0 0] 28)) #[] 0 (base := t) (by simp; omega) (by unfold maxLen; omega) rfl).drew; simpa using h
    have c1 : Below t v6 ((v6.alloc (.cells #[] 2)).drew) := below_drewN (b00.alloc tw _) 1
    have c2 : Below t v6 (((v6.alloc (.cells #[] 2)).alloc (.cells #[.int .i64 0, .int .i64 0, .int .i64 0, .int .i64 0, .int .i64 0, .slice none 0 0] 28)).drew) := below_drewN ((b00.alloc tw _).alloc (by simp; omega) _) 1
    have c3 : Below t v6 (((v6.alloc (.cells #[.int .i64 0, .int .i64 0, .int .i64 0, .int .i64 0, .int .i64 0, .slice none 0 0] 28)).alloc (.cells #[] 2)).drew) := below_drewN ((b00.alloc tw _).alloc (by simp; omega) _) 1
    have z2 : BZ (((v6.alloc (.cells #[] 2)).alloc (.cells #[.int .i64 0, .int .i64 0, .int .i64 0, .int .i64 0, .int .i64 0, .slice none 0 0] 28)).drew) (v6.heap.size + 1) := by have h := (BZ.new (v6.alloc (.cells #[] 2))).drew; simpa using h
    have z3 : BZ (((v6.alloc (.cells #[.int .i64 0, .int .i64 0, .int .i64 0, .int .i64 0, .int .i64 0, .slice none 0 0] 28)).alloc (.cells #[] 2)).drew) v6.heap.size := ((BZ.new v6).up _).drew
    have n1 := ir_any hA (show Below v6.heap.size v6 _ by rw [HT.out]; exact c1)
    have n2 := ir_any hA (show Below v6.heap.size v6 _ by rw [HT.out]; exact c2)
    have n3 := ir_any hA (show Below v6.heap.size v6 _ by rw [HT.out]; exact c3)
    have HL := Lib.hid hA.1
    have HM := Lib.hid hB.1
    have hlA : (L.map encI).length = n * 1 := by rw [List.length_map, ← hA.1]; omega
    have hlB : (M.map encI).length = m * 1 := by rw [List.length_map, ← hB.1]; omega
    have HLM : Hid (L.map encI ++ M.map encI = (L ++ M).map encI) := Lib.hid (by rw [List.map_append])
    have HNM := Lib.hid hnm
    clear ht hnm
    have bR : Below v6.heap.size v6 v6 := Below.refl _ _
    have kc0 : ∀ W : World, Below v6.heap.size v6 W → W.cell? ⟨w.heap.size, 0, none⟩ = some (.int .i64 kk) := fun W b => cK b ka0 kal
    have kc1 : ∀ W : World, Below v6.heap.size v6 W → W.cell? ⟨w.heap.size, 1, none⟩ = some (.int .i64 ks) := fun W b => cK b ka1 kal
    have kc2 : ∀ W : World, Below v6.heap.size v6 W → W.cell? ⟨w.heap.size, 2, none⟩ = some (.int .i64 km) := fun W b => cK b ka2 kal
    have kc3 : ∀ W : World, Below v6.heap.size v6 W → W.cell? ⟨w.heap.size, 3, none⟩ = some (.int .i64 ko) := fun W b => cK b ka3 kal
    clear ka0 ka1 ka2 ka3
    go_region_held3 (fun w' => Below v6.heap.size v6 w')
      (repeat' (first | with_reducible assumption | with_reducible refine below_al _ ?_ | with_reducible refine below_dr ?_ | with_reducible refine below_sc _ ?_ () ?_ | (first | omega | (simp; omega))))
      (first
        | (refine step_append_any rfl _ _ 24 rfl t 2 i0 (.int .i64 0) 1 8 Try.underlying24 hi hz0 hz1 hz2 rfl (by decide) v6.heap.size 0 0 [] rfl o1 A n c (L.map encI) rfl hlA n1 (fun u hu => by obtain ⟨x, _, rfl⟩ := List.mem_map.1 hu; rfl) (by have := HNM.out; unfold maxLen; omega) (by have := HNM.out; omega) (by have := HT.out; first | omega | (simp; omega)) n (Nat.zero_add n) ?_; intro g1 cap1 w1 hown1 hgrow1 hat1 hlt1; have b1 := c1.grown hgrow1 (by have := HT.out; first | omega | (simp; omega)) (fun q e => by injection (show some v6.heap.size = some q from e) with e1; have := HT.out; omega); have bV : Below v6.heap.size v6 w1 := (by rw [HT.out]; exact b1); have hs1 := bV.size; have hts : t ≤ w1.heap.size := (by have := bV.size; have := HT.out; omega); rw [List.nil_append] at hown1; have hg1 := (hown1.lt g1 rfl))
        | (refine step_append_any rfl _ _ 24 rfl t 2 i0 (.int .i64 0) 1 8 Try.underlying24 hi hz0 hz1 hz2 rfl (by decide) v6.heap.size 0 0 [] rfl o2 A n c (L.map encI) rfl hlA n2 (fun u hu => by obtain ⟨x, _, rfl⟩ := List.mem_map.1 hu; rfl) (by have := HNM.out; unfold maxLen; omega) (by have := HNM.out; omega) (by have := HT.out; first | omega | (simp; omega)) n (Nat.zero_add n) ?_; intro g1 cap1 w1 hown1 hgrow1 hat1 hlt1; have b1 := c2.grown hgrow1 (by have := HT.out; first | omega | (simp; omega)) (fun q e => by injection (show some v6.heap.size = some q from e) with e1; have := HT.out; omega); have bV : Below v6.heap.size v6 w1 := (by rw [HT.out]; exact b1); have hs1 := bV.size; have hts : t ≤ w1.heap.size := (by have := bV.size; have := HT.out; omega); rw [List.nil_append] at hown1; have hg1 := (hown1.lt g1 rfl); have nz_ : v6.heap.size + 1 ≠ g1 := (by rcases hat1 with e | e; (omega); (simp at e; omega)); have bz := BZ.grown z2 hgrow1 (by omega))
        | (refine step_append_any rfl _ _ 24 rfl t 2 i0 (.int .i64 0) 1 8 Try.underlying24 hi hz0 hz1 hz2 rfl (by decide) (v6.heap.size + 1) 0 0 [] rfl o3 A n c (L.map encI) rfl hlA n3 (fun u hu => by obtain ⟨x, _, rfl⟩ := List.mem_map.1 hu; rfl) (by have := HNM.out; unfold maxLen; omega) (by have := HNM.out; omega) (by have := HT.out; first | omega | (simp; omega)) n (Nat.zero_add n) ?_; intro g1 cap1 w1 hown1 hgrow1 hat1 hlt1; have b1 := c3.grown hgrow1 (by have := HT.out; first | omega | (simp; omega)) (fun q e => by injection (show some (v6.heap.size + 1) = some q from e) with e1; have := HT.out; omega); have bV : Below v6.heap.size v6 w1 := (by rw [HT.out]; exact b1); have hs1 := bV.size; have hts : t ≤ w1.heap.size := (by have := bV.size; have := HT.out; omega); rw [List.nil_append] at hown1; have hg1 := (hown1.lt g1 rfl); have nz_ : v6.heap.size ≠ g1 := (by rcases hat1 with e | e; (omega); (simp at e; omega)); have bz := BZ.grown z3 hgrow1 (by omega))
        | (refine step_append_any rfl _ _ 24 rfl t 2 i0 (.int .i64 0) 1 8 Try.underlying24 hi hz0 hz1 hz2 rfl (by decide) g1 n cap1 (L.map encI) rfl hown1 B m d (M.map encI) rfl hlB (ir_any hB bV) (fun u hu => by obtain ⟨x, _, rfl⟩ := List.mem_map.1 hu; rfl) (by have := HNM.out; unfold maxLen; omega) (by have := HNM.out; omega) hts (n + m) rfl ?_; intro g2 cap2 w2 hown2 hgrow2 hat2 hlt2; have b2 := b1.grown hgrow2 hts (fun q e => by injection (show some g1 = some q from e) with e1; omega); have bV2 : Below v6.heap.size v6 w2 := (by rw [HT.out]; exact b2); have hs2 := bV2.size; have hts2 : t ≤ w2.heap.size := (by have := bV2.size; have := HT.out; omega); rw [HLM.out] at hown2; have hI2 := IR.of_own hown2; (try replace bz := BZ.grown bz hgrow2 nz_))
        | (refine step_append_any rfl _ _ 24 rfl t 2 i0 (.int .i64 0) 1 8 Try.underlying24 hi hz0 hz1 hz2 rfl (by decide) g1 n cap1 (L.map encI) rfl (hown1.alloc _) B m d (M.map encI) rfl hlB (ir_any hB (bV.alloc bV.size _)) (fun u hu => by obtain ⟨x, _, rfl⟩ := List.mem_map.1 hu; rfl) (by have := HNM.out; unfold maxLen; omega) (by have := HNM.out; omega) (by simp; omega) (n + m) rfl ?_; intro g2 cap2 w2 hown2 hgrow2 hat2 hlt2; have b2 := (b1.alloc hts _).grown hgrow2 (by simp; omega) (fun q e => by injection (show some g1 = some q from e) with e1; omega); have bV2 : Below v6.heap.size v6 w2 := (by rw [HT.out]; exact b2); have hs2 := bV2.size; have hts2 : t ≤ w2.heap.size := (by have := bV2.size; have := HT.out; omega); rw [HLM.out] at hown2; have hI2 := IR.of_own hown2; have bz := BZ.grown (BZ.new w1) hgrow2 (by omega))
        | (go_at_call 7; have hO2 := O2 (W := w2) hI2; (with_reducible refine hO2.mono ?_); clear hO2; rintro e y1 ⟨rfl, q⟩; have qq := (bV2).trans (q.mono (bV2).size); (try (replace bz := bz.on q; obtain ⟨⟨bo_0, bo_1, bo_2, bo_3, bo_4, bo_5⟩, fo_0, fo_1, fo_2, fo_3, fo_4, fo_5⟩ := BZ.cells bz; have ol := BZ.lt bz)); clear q)
        | (go_at_call 7; have hO2 := O2 (W := (w2.alloc (.cells #[.int .i64 0, .int .i64 0, .int .i64 0, .int .i64 0, .int .i64 0, .slice none 0 0] 28))) (hI2.on (one_up _ _)); (with_reducible refine hO2.mono ?_); clear hO2; rintro e y1 ⟨rfl, q⟩; have qq := (bV2.alloc bV2.size _).trans (q.mono (bV2.alloc bV2.size _).size); have bz := (BZ.new w2).on q; obtain ⟨⟨bo_0, bo_1, bo_2, bo_3, bo_4, bo_5⟩, fo_0, fo_1, fo_2, fo_3, fo_4, fo_5⟩ := BZ.cells bz; have ol := BZ.lt bz; clear q))
    all_goals (go_wp2_with fail; go_meet)
    all_goals refine ⟨_, rfl, rfl, ?_⟩
    all_goals first
      | with_reducible exact loneTA qq _
      | with_reducible exact loneTB bz qq (by have := HT.out; first | omega | (simp; omega))
  case rest =>
    obtain ⟨gz, rfl, rfl, ⟨bz_0, bz_1, bz_2, bz_3, bz_4, bz_5⟩, b, bz_ge⟩ := hcut
    have bz_l := cell_lt bz_0
    simp only at bz_l
    have bz_qka : w.heap.size < gz := Nat.lt_of_lt_of_le kal bz_ge
    have bz_qbx : w3.heap.size < gz := Nat.lt_of_lt_of_le bxl bz_ge
    have bz_qby_ : w5.heap.size < gz := Nat.lt_of_lt_of_le by_l bz_ge
    replace hA := hA.on b
    replace hB := hB.on b
    replace ka0 := cK b ka0 kal
    replace ka1 := cK b ka1 kal
    replace ka2 := cK b ka2 kal
    replace ka3 := cK b ka3 kal
    replace kal := lK b kal
    replace bx0 := cK b bx0 bxl
    replace bx1 := cK b bx1 bxl
    replace bx2 := cK b bx2 bxl
    replace bx3 := cK b bx3 bxl
    replace bx4 := cK b bx4 bxl
    replace bx5 := cK b bx5 bxl
    replace bxl := lK b bxl
    replace by_0 := cK b by_0 by_l
    replace by_1 := cK b by_1 by_l
    replace by_2 := cK b by_2 by_l
    replace by_3 := cK b by_3 by_l
    replace by_4 := cK b by_4 by_l
    replace by_5 := cK b by_5 by_l
    replace by_l := lK b by_l
    replace cc := bK cc b
    clear b
    go_wp2_with fail
    refine (alive14_any _).mono ?_
    rintro e w7 ⟨rfl, b⟩
    replace hA := hA.on b
    replace hB := hB.on b
    replace ka0 := cK b ka0 kal
    replace ka1 := cK b ka1 kal
    replace ka2 := cK b ka2 kal
    replace ka3 := cK b ka3 kal
    replace kal := lK b kal
    replace bx0 := cK b bx0 bxl
    replace bx1 := cK b bx1 bxl
    replace bx2 := cK b bx2 bxl
    replace bx3 := cK b bx3 bxl
    replace bx4 := cK b bx4 bxl
    replace bx5 := cK b bx5 bxl
    replace bxl := lK b bxl
    replace by_0 := cK b by_0 by_l
    replace by_1 := cK b by_1 by_l
    replace by_2 := cK b by_2 by_l
    replace by_3 := cK b by_3 by_l
    replace by_4 := cK b by_4 by_l
    replace by_5 := cK b by_5 by_l
    replace by_l := lK b by_l
    replace bz_0 := cK b bz_0 bz_l
    replace bz_1 := cK b bz_1 bz_l
    replace bz_2 := cK b bz_2 bz_l
    replace bz_3 := cK b bz_3 bz_l
    replace bz_4 := cK b bz_4 bz_l
    replace bz_5 := cK b bz_5 bz_l
    replace bz_l := lK b bz_l
    replace cc := bK cc b
    clear b
    go_wp2_with fail
    go_ret
    exact ⟨rfl, cc⟩

set_option maxRecDepth 100000 in
set_option maxHeartbeats 8000000 in
theorem TensJoined_ny {w : World} {kk ks km ko : Int} {A : Option Addr} {n c : Nat} {L : List Int} (hA : IR w A n c L) {B : Option Addr} {m d : Nat} {M : List Int} (hB : IR w B m d M) (h : n + m ≤ 24) (hK : OkK kk ks km ko) (hr : (n : Int) % ks = 0) (h3 : km ≤ (n : Int)) (h4 : km ≤ (m : Int)) {E : List Bk} (O0 : ∀ {W : World} {A : Option Addr} {c : Nat}, IR W A n c L → Calls Try.prog 7 #[.agg #[.int .i64 kk, .int .i64 ks, .int .i64 km, .int .i64 ko], .slice A n c] W (GotV W (.tuple #[.agg #[.int .i64 0, .int .i64 0, .int .i64 0, .int .i64 0, .int .i64 0, .slice none 0 0], .int .i64 1]))) (O1 : ∀ {W : World} {A : Option Addr} {c : Nat}, IR W A m c M → Calls Try.prog 7 #[.agg #[.int .i64 kk, .int .i64 ks, .int .i64 km, .int .i64 ko], .slice A m c] W (GotStn W kk ks km ko (m : Int) E)) (O2 : ∀ {W : World} {A : Option Addr} {c : Nat}, IR W A (n + m) c (L ++ M) → Calls Try.prog 7 #[.agg #[.int .i64 kk, .int .i64 ks, .int .i64 km, .int .i64 ko], .slice A (n + m) c] W (GotV W (.tuple #[.agg #[.int .i64 0, .int .i64 0, .int .i64 0, .int .i64 0, .int .i64 0, .slice none 0 0], .int .i64 1]))) :
    Calls Try.prog 5 #[.agg #[.int .i64 kk, .int .i64 ks, .int .i64 km, .int .i64 ko], .slice A n c, .slice B m d] w fun e w' => e = .returned (.bool true) ∧ Below w.heap.size w w' := by
  have k0_ : IntKind.i64.wrap ((n : Int) + (m : Int)) = (n : Int) + (m : Int) := IntWalk.i64_in _ (by omega)
  have t0 : decide ((24 : Int) < (n : Int) + (m : Int)) = false := decide_eq_false (by omega)
  have t1 : decide (24 < n + m) = false := decide_eq_false (by omega)
  have CM : ∀ V : World, Calls Try.prog 10 #[.agg #[.int .i64 kk, .int .i64 ks, .int .i64 km, .int .i64 ko]] V (GotV V (.bool true)) := fun V => by have h := rMay14_N V (kk := kk) (ks := ks) (km := km) (ko := ko); rw [decide_eq_true hK] at h; exact h
  have hks : 1 ≤ ks ∧ ks ≤ 4096 := by unfold OkK at hK; omega
  have k5 : (ks == 0) = false := beq_eq_false_iff_ne.2 (by omega)
  have k7 : ¬ ks = 0 := by omega
  have k3q : Int.tmod (n : Int) ks = 0 := by rw [Int.tmod_eq_emod_of_nonneg (by omega)]; exact hr
  have k4q : IntKind.i64.wrap 0 = 0 := IntWalk.i64_in _ (by omega)
  have t_n : decide ((n : Int) < km) = false := decide_eq_false (by omega)
  have t_m : decide ((m : Int) < km) = false := decide_eq_false (by omega)
  have hnm : n + m ≤ 24 := h
  clear h hK hr h3 h4 hks
  have cc := Below.refl w.heap.size w
  go_enter Try.func5, Try.ntmps5
  go_wp2_with fail
  have bA : Below w.heap.size w (w.alloc (.cells #[.int .i64 kk, .int .i64 ks, .int .i64 km, .int .i64 ko] 23)) := ((Below.refl _ w).alloc (by simp) _)
  replace hA := hA.on bA
  replace hB := hB.on bA
  replace cc := bK cc bA
  clear bA
  have ka0 : (w.alloc (.cells #[.int .i64 kk, .int .i64 ks, .int .i64 km, .int .i64 ko] 23)).cell? ⟨w.heap.size, 0, none⟩ = some (.int .i64 kk) := by simp [go_sem]
  have ka1 : (w.alloc (.cells #[.int .i64 kk, .int .i64 ks, .int .i64 km, .int .i64 ko] 23)).cell? ⟨w.heap.size, 1, none⟩ = some (.int .i64 ks) := by simp [go_sem]
  have ka2 : (w.alloc (.cells #[.int .i64 kk, .int .i64 ks, .int .i64 km, .int .i64 ko] 23)).cell? ⟨w.heap.size, 2, none⟩ = some (.int .i64 km) := by simp [go_sem]
  have ka3 : (w.alloc (.cells #[.int .i64 kk, .int .i64 ks, .int .i64 km, .int .i64 ko] 23)).cell? ⟨w.heap.size, 3, none⟩ = some (.int .i64 ko) := by simp [go_sem]
  have kal : w.heap.size < (w.alloc (.cells #[.int .i64 kk, .int .i64 ks, .int .i64 km, .int .i64 ko] 23)).heap.size := by simp <;> omega
  generalize w.alloc (.cells #[.int .i64 kk, .int .i64 ks, .int .i64 km, .int .i64 ko] 23) = v1 at *
  go_wp2_with fail
  refine (CM _).mono ?_
  rintro e w2 ⟨rfl, b⟩
  replace hA := hA.on b
  replace hB := hB.on b
  replace ka0 := cK b ka0 kal
  replace ka1 := cK b ka1 kal
  replace ka2 := cK b ka2 kal
  replace ka3 := cK b ka3 kal
  replace kal := lK b kal
  replace cc := bK cc b
  clear b
  go_wp2_with fail
  refine (O0 hA).mono ?_
  rintro e w3 ⟨rfl, b⟩
  replace hA := hA.on b
  replace hB := hB.on b
  replace ka0 := cK b ka0 kal
  replace ka1 := cK b ka1 kal
  replace ka2 := cK b ka2 kal
  replace ka3 := cK b ka3 kal
  replace kal := lK b kal
  replace cc := bK cc b
  clear b
  go_upto_region 4 with fail
  have bxqka : w.heap.size < w3.heap.size := kal
  have bA := below_one w3 (.cells #[.int .i64 0, .int .i64 0, .int .i64 0, .int .i64 0, .int .i64 0, .slice none 0 0] 28)
  replace hA := hA.on bA
  replace hB := hB.on bA
  replace ka0 := cK bA ka0 kal
  replace ka1 := cK bA ka1 kal
  replace ka2 := cK bA ka2 kal
  replace ka3 := cK bA ka3 kal
  replace kal := lK bA kal
  replace cc := bK cc bA
  clear bA
  have bx0 : (w3.alloc (.cells #[.int .i64 0, .int .i64 0, .int .i64 0, .int .i64 0, .int .i64 0, .slice none 0 0] 28)).cell? ⟨w3.heap.size, 0, none⟩ = some (.int .i64 0) := by simp [go_sem]
  have bx1 : (w3.alloc (.cells #[.int .i64 0, .int .i64 0, .int .i64 0, .int .i64 0, .int .i64 0, .slice none 0 0] 28)).cell? ⟨w3.heap.size, 1, none⟩ = some (.int .i64 0) := by simp [go_sem]
  have bx2 : (w3.alloc (.cells #[.int .i64 0, .int .i64 0, .int .i64 0, .int .i64 0, .int .i64 0, .slice none 0 0] 28)).cell? ⟨w3.heap.size, 2, none⟩ = some (.int .i64 0) := by simp [go_sem]
  have bx3 : (w3.alloc (.cells #[.int .i64 0, .int .i64 0, .int .i64 0, .int .i64 0, .int .i64 0, .slice none 0 0] 28)).cell? ⟨w3.heap.size, 3, none⟩ = some (.int .i64 0) := by simp [go_sem]
  have bx4 : (w3.alloc (.cells #[.int .i64 0, .int .i64 0, .int .i64 0, .int .i64 0, .int .i64 0, .slice none 0 0] 28)).cell? ⟨w3.heap.size, 4, none⟩ = some (.int .i64 0) := by simp [go_sem]
  have bx5 : (w3.alloc (.cells #[.int .i64 0, .int .i64 0, .int .i64 0, .int .i64 0, .int .i64 0, .slice none 0 0] 28)).cell? ⟨w3.heap.size, 5, none⟩ = some (.slice none 0 0) := by simp [go_sem]
  have bxl : w3.heap.size < (w3.alloc (.cells #[.int .i64 0, .int .i64 0, .int .i64 0, .int .i64 0, .int .i64 0, .slice none 0 0] 28)).heap.size := by simp
  generalize w3.alloc (.cells #[.int .i64 0, .int .i64 0, .int .i64 0, .int .i64 0, .int .i64 0, .slice none 0 0] 28) = v4 at *
  go_wp2_with fail
  refine (O1 hB).mono ?_
  rintro e w5 ⟨Ay, ny, cy, rfl, hy, b⟩
  replace hA := hA.on b
  replace hB := hB.on b
  replace ka0 := cK b ka0 kal
  replace ka1 := cK b ka1 kal
  replace ka2 := cK b ka2 kal
  replace ka3 := cK b ka3 kal
  replace kal := lK b kal
  replace bx0 := cK b bx0 bxl
  replace bx1 := cK b bx1 bxl
  replace bx2 := cK b bx2 bxl
  replace bx3 := cK b bx3 bxl
  replace bx4 := cK b bx4 bxl
  replace bx5 := cK b bx5 bxl
  replace bxl := lK b bxl
  replace cc := bK cc b
  clear b
  clear hy
  go_upto_region 5 with fail
  have by_qka : w.heap.size < w5.heap.size := kal
  have by_qbx : w3.heap.size < w5.heap.size := bxl
  have bA := below_one w5 (.cells #[.int .i64 kk, .int .i64 ks, .int .i64 km, .int .i64 ko, .int .i64 (m : Int), .slice Ay ny cy] 28)
  replace hA := hA.on bA
  replace hB := hB.on bA
  replace ka0 := cK bA ka0 kal
  replace ka1 := cK bA ka1 kal
  replace ka2 := cK bA ka2 kal
  replace ka3 := cK bA ka3 kal
  replace kal := lK bA kal
  replace bx0 := cK bA bx0 bxl
  replace bx1 := cK bA bx1 bxl
  replace bx2 := cK bA bx2 bxl
  replace bx3 := cK bA bx3 bxl
  replace bx4 := cK bA bx4 bxl
  replace bx5 := cK bA bx5 bxl
  replace bxl := lK bA bxl
  replace cc := bK cc bA
  clear bA
  have by_0 : (w5.alloc (.cells #[.int .i64 kk, .int .i64 ks, .int .i64 km, .int .i64 ko, .int .i64 (m : Int), .slice Ay ny cy] 28)).cell? ⟨w5.heap.size, 0, none⟩ = some (.int .i64 kk) := by simp [go_sem]
  have by_1 : (w5.alloc (.cells #[.int .i64 kk, .int .i64 ks, .int .i64 km, .int .i64 ko, .int .i64 (m : Int), .slice Ay ny cy] 28)).cell? ⟨w5.heap.size, 1, none⟩ = some (.int .i64 ks) := by simp [go_sem]
  have by_2 : (w5.alloc (.cells #[.int .i64 kk, .int .i64 ks, .int .i64 km, .int .i64 ko, .int .i64 (m : Int), .slice Ay ny cy] 28)).cell? ⟨w5.heap.size, 2, none⟩ = some (.int .i64 km) := by simp [go_sem]
  have by_3 : (w5.alloc (.cells #[.int .i64 kk, .int .i64 ks, .int .i64 km, .int .i64 ko, .int .i64 (m : Int), .slice Ay ny cy] 28)).cell? ⟨w5.heap.size, 3, none⟩ = some (.int .i64 ko) := by simp [go_sem]
  have by_4 : (w5.alloc (.cells #[.int .i64 kk, .int .i64 ks, .int .i64 km, .int .i64 ko, .int .i64 (m : Int), .slice Ay ny cy] 28)).cell? ⟨w5.heap.size, 4, none⟩ = some (.int .i64 (m : Int)) := by simp [go_sem]
  have by_5 : (w5.alloc (.cells #[.int .i64 kk, .int .i64 ks, .int .i64 km, .int .i64 ko, .int .i64 (m : Int), .slice Ay ny cy] 28)).cell? ⟨w5.heap.size, 5, none⟩ = some (.slice Ay ny cy) := by simp [go_sem]
  have by_l : w5.heap.size < (w5.alloc (.cells #[.int .i64 kk, .int .i64 ks, .int .i64 km, .int .i64 ko, .int .i64 (m : Int), .slice Ay ny cy] 28)).heap.size := by simp
  generalize w5.alloc (.cells #[.int .i64 kk, .int .i64 ks, .int .i64 km, .int .i64 ko, .int .i64 (m : Int), .slice Ay ny cy] 28) = v6 at *
  go_cut [11, 12] (fun ux ue wx => ∃ (gz : Nat), ux = .pointer (some ⟨gz, 0, none⟩) ∧ ue = .int .i64 1 ∧ LoneT v6 wx gz (.int .i64 0) (.int .i64 0) (.int .i64 0) (.int .i64 0) (.int .i64 0) (.slice none 0 0))
  case first =>
    obtain ⟨i0, hi, hz0, hz1, hz2⟩ := info_parts infoI
    obtain ⟨t, ht⟩ : ∃ t, v6.heap.size = t := ⟨_, rfl⟩
    have HT := Lib.hid ht
    have tw : t ≤ v6.heap.size := by omega
    have b00 : Below t v6 v6 := Below.refl t v6
    have o1 : ((v6.alloc (.cells #[] 2)).drew).ownsRow t 2 1 (.slice (some ⟨v6.heap.size, 0, none⟩) 0 0) 0 ([] : List Value) := (World.ownsRow_lit v6 #[] 0 tw (by unfold maxLen; omega) rfl).drew
    have o2 : (((v6.alloc (.cells #[] 2)).alloc (.cells #[.int .i64 0, .int .i64 0, .int .i64 0, .int .i64 0, .int .i64 0, .slice none 0 0] 28)).drew).ownsRow t 2 1 (.slice (some ⟨v6.heap.size, 0, none⟩) 0 0) 0 ([] : List Value) := ((World.ownsRow_lit v6 #[] 0 tw (by unfold maxLen; omega) rfl).alloc _).drew
    have o3 : (((v6.alloc (.cells #[.int .i64 0, .int .i64 0, .int .i64 0, .int .i64 0, .int .i64 0, .slice none 0 0] 28)).alloc (.cells #[] 2)).drew).ownsRow t 2 1 (.slice (some ⟨v6.heap.size + 1, 0, none⟩) 0 0) 0 ([] : List Value) := by have h := (World.ownsRow_lit (e := 2) (size := 1) (v6.alloc (.cells #[.int .i64 0, .int .i64 0, .int .i64 0, .int .i64 0, .int .i64 0, .slice none 0 0] 28)) #[] 0 (base := t) (by simp; omega) (by unfold maxLen; omega) rfl).drew; simpa using h
    have c1 : Below t v6 ((v6.alloc (.cells #[] 2)).drew) := below_drewN (b00.alloc tw _) 1
    have c2 : Below t v6 (((v6.alloc (.cells #[] 2)).alloc (.cells #[.int .i64 0, .int .i64 0, .int .i64 0, .int .i64 0, .int .i64 0, .slice none 0 0] 28)).drew) := below_drewN ((b00.alloc tw _).alloc (by simp; omega) _) 1
    have c3 : Below t v6 (((v6.alloc (.cells #[.int .i64 0, .int .i64 0, .int .i64 0, .int .i64 0, .int .i64 0, .slice none 0 0] 28)).alloc (.cells #[] 2)).drew) := below_drewN ((b00.alloc tw _).alloc (by simp; omega) _) 1
    have z2 : BZ (((v6.alloc (.cells #[] 2)).alloc (.cells #[.int .i64 0, .int .i64 0, .int .i64 0, .int .i64 0, .int .i64 0, .slice none 0 0] 28)).drew) (v6.heap.size + 1) := by have h := (BZ.new (v6.alloc (.cells #[] 2))).drew; simpa using h
    have z3 : BZ (((v6.alloc (.cells #[.int .i64 0, .int .i64 0, .int .i64 0, .int .i64 0, .int .i64 0, .slice none 0 0] 28)).alloc (.cells #[] 2)).drew) v6.heap.size := ((BZ.new v6).up _).drew
    have n1 := ir_any hA (show Below v6.heap.size v6 _ by rw [HT.out]; exact c1)
    have n2 := ir_any hA (show Below v6.heap.size v6 _ by rw [HT.out]; exact c2)
    have n3 := ir_any hA (show Below v6.heap.size v6 _ by rw [HT.out]; exact c3)
    have HL := Lib.hid hA.1
    have HM := Lib.hid hB.1
    have hlA : (L.map encI).length = n * 1 := by rw [List.length_map, ← hA.1]; omega
    have hlB : (M.map encI).length = m * 1 := by rw [List.length_map, ← hB.1]; omega
    have HLM : Hid (L.map encI ++ M.map encI = (L ++ M).map encI) := Lib.hid (by rw [List.map_append])
    have HNM := Lib.hid hnm
    clear ht hnm
    have bR : Below v6.heap.size v6 v6 := Below.refl _ _
    have kc0 : ∀ W : World, Below v6.heap.size v6 W → W.cell? ⟨w.heap.size, 0, none⟩ = some (.int .i64 kk) := fun W b => cK b ka0 kal
    have kc1 : ∀ W : World, Below v6.heap.size v6 W → W.cell? ⟨w.heap.size, 1, none⟩ = some (.int .i64 ks) := fun W b => cK b ka1 kal
    have kc2 : ∀ W : World, Below v6.heap.size v6 W → W.cell? ⟨w.heap.size, 2, none⟩ = some (.int .i64 km) := fun W b => cK b ka2 kal
    have kc3 : ∀ W : World, Below v6.heap.size v6 W → W.cell? ⟨w.heap.size, 3, none⟩ = some (.int .i64 ko) := fun W b => cK b ka3 kal
    clear ka0 ka1 ka2 ka3
    go_region_held3 (fun w' => Below v6.heap.size v6 w')
      (repeat' (first | with_reducible assumption | with_reducible refine below_al _ ?_ | with_reducible refine below_dr ?_ | with_reducible refine below_sc _ ?_ () ?_ | (first | omega | (simp; omega))))
      (first
        | (refine step_append_any rfl _ _ 24 rfl t 2 i0 (.int .i64 0) 1 8 Try.underlying24 hi hz0 hz1 hz2 rfl (by decide) v6.heap.size 0 0 [] rfl o1 A n c (L.map encI) rfl hlA n1 (fun u hu => by obtain ⟨x, _, rfl⟩ := List.mem_map.1 hu; rfl) (by have := HNM.out; unfold maxLen; omega) (by have := HNM.out; omega) (by have := HT.out; first | omega | (simp; omega)) n (Nat.zero_add n) ?_; intro g1 cap1 w1 hown1 hgrow1 hat1 hlt1; have b1 := c1.grown hgrow1 (by have := HT.out; first | omega | (simp; omega)) (fun q e => by injection (show some v6.heap.size = some q from e) with e1; have := HT.out; omega); have bV : Below v6.heap.size v6 w1 := (by rw [HT.out]; exact b1); have hs1 := bV.size; have hts : t ≤ w1.heap.size := (by have := bV.size; have := HT.out; omega); rw [List.nil_append] at hown1; have hg1 := (hown1.lt g1 rfl))
        | (refine step_append_any rfl _ _ 24 rfl t 2 i0 (.int .i64 0) 1 8 Try.underlying24 hi hz0 hz1 hz2 rfl (by decide) v6.heap.size 0 0 [] rfl o2 A n c (L.map encI) rfl hlA n2 (fun u hu => by obtain ⟨x, _, rfl⟩ := List.mem_map.1 hu; rfl) (by have := HNM.out; unfold maxLen; omega) (by have := HNM.out; omega) (by have := HT.out; first | omega | (simp; omega)) n (Nat.zero_add n) ?_; intro g1 cap1 w1 hown1 hgrow1 hat1 hlt1; have b1 := c2.grown hgrow1 (by have := HT.out; first | omega | (simp; omega)) (fun q e => by injection (show some v6.heap.size = some q from e) with e1; have := HT.out; omega); have bV : Below v6.heap.size v6 w1 := (by rw [HT.out]; exact b1); have hs1 := bV.size; have hts : t ≤ w1.heap.size := (by have := bV.size; have := HT.out; omega); rw [List.nil_append] at hown1; have hg1 := (hown1.lt g1 rfl); have nz_ : v6.heap.size + 1 ≠ g1 := (by rcases hat1 with e | e; (omega); (simp at e; omega)); have bz := BZ.grown z2 hgrow1 (by omega))
        | (refine step_append_any rfl _ _ 24 rfl t 2 i0 (.int .i64 0) 1 8 Try.underlying24 hi hz0 hz1 hz2 rfl (by decide) (v6.heap.size + 1) 0 0 [] rfl o3 A n c (L.map encI) rfl hlA n3 (fun u hu => by obtain ⟨x, _, rfl⟩ := List.mem_map.1 hu; rfl) (by have := HNM.out; unfold maxLen; omega) (by have := HNM.out; omega) (by have := HT.out; first | omega | (simp; omega)) n (Nat.zero_add n) ?_; intro g1 cap1 w1 hown1 hgrow1 hat1 hlt1; have b1 := c3.grown hgrow1 (by have := HT.out; first | omega | (simp; omega)) (fun q e => by injection (show some (v6.heap.size + 1) = some q from e) with e1; have := HT.out; omega); have bV : Below v6.heap.size v6 w1 := (by rw [HT.out]; exact b1); have hs1 := bV.size; have hts : t ≤ w1.heap.size := (by have := bV.size; have := HT.out; omega); rw [List.nil_append] at hown1; have hg1 := (hown1.lt g1 rfl); have nz_ : v6.heap.size ≠ g1 := (by rcases hat1 with e | e; (omega); (simp at e; omega)); have bz := BZ.grown z3 hgrow1 (by omega))
        | (refine step_append_any rfl _ _ 24 rfl t 2 i0 (.int .i64 0) 1 8 Try.underlying24 hi hz0 hz1 hz2 rfl (by decide) g1 n cap1 (L.map encI) rfl hown1 B m d (M.map encI) rfl hlB (ir_any hB bV) (fun u hu => by obtain ⟨x, _, rfl⟩ := List.mem_map.1 hu; rfl) (by have := HNM.out; unfold maxLen; omega) (by have := HNM.out; omega) hts (n + m) rfl ?_; intro g2 cap2 w2 hown2 hgrow2 hat2 hlt2; have b2 := b1.grown hgrow2 hts (fun q e => by injection (show some g1 = some q from e) with e1; omega); have bV2 : Below v6.heap.size v6 w2 := (by rw [HT.out]; exact b2); have hs2 := bV2.size; have hts2 : t ≤ w2.heap.size := (by have := bV2.size; have := HT.out; omega); rw [HLM.out] at hown2; have hI2 := IR.of_own hown2; (try replace bz := BZ.grown bz hgrow2 nz_))
        | (refine step_append_any rfl _ _ 24 rfl t 2 i0 (.int .i64 0) 1 8 Try.underlying24 hi hz0 hz1 hz2 rfl (by decide) g1 n cap1 (L.map encI) rfl (hown1.alloc _) B m d (M.map encI) rfl hlB (ir_any hB (bV.alloc bV.size _)) (fun u hu => by obtain ⟨x, _, rfl⟩ := List.mem_map.1 hu; rfl) (by have := HNM.out; unfold maxLen; omega) (by have := HNM.out; omega) (by simp; omega) (n + m) rfl ?_; intro g2 cap2 w2 hown2 hgrow2 hat2 hlt2; have b2 := (b1.alloc hts _).grown hgrow2 (by simp; omega) (fun q e => by injection (show some g1 = some q from e) with e1; omega); have bV2 : Below v6.heap.size v6 w2 := (by rw [HT.out]; exact b2); have hs2 := bV2.size; have hts2 : t ≤ w2.heap.size := (by have := bV2.size; have := HT.out; omega); rw [HLM.out] at hown2; have hI2 := IR.of_own hown2; have bz := BZ.grown (BZ.new w1) hgrow2 (by omega))
        | (go_at_call 7; have hO2 := O2 (W := w2) hI2; (with_reducible refine hO2.mono ?_); clear hO2; rintro e y1 ⟨rfl, q⟩; have qq := (bV2).trans (q.mono (bV2).size); (try (replace bz := bz.on q; obtain ⟨⟨bo_0, bo_1, bo_2, bo_3, bo_4, bo_5⟩, fo_0, fo_1, fo_2, fo_3, fo_4, fo_5⟩ := BZ.cells bz; have ol := BZ.lt bz)); clear q)
        | (go_at_call 7; have hO2 := O2 (W := (w2.alloc (.cells #[.int .i64 0, .int .i64 0, .int .i64 0, .int .i64 0, .int .i64 0, .slice none 0 0] 28))) (hI2.on (one_up _ _)); (with_reducible refine hO2.mono ?_); clear hO2; rintro e y1 ⟨rfl, q⟩; have qq := (bV2.alloc bV2.size _).trans (q.mono (bV2.alloc bV2.size _).size); have bz := (BZ.new w2).on q; obtain ⟨⟨bo_0, bo_1, bo_2, bo_3, bo_4, bo_5⟩, fo_0, fo_1, fo_2, fo_3, fo_4, fo_5⟩ := BZ.cells bz; have ol := BZ.lt bz; clear q))
    all_goals (go_wp2_with fail; go_meet)
    all_goals refine ⟨_, rfl, rfl, ?_⟩
    all_goals first
      | with_reducible exact loneTA qq _
      | with_reducible exact loneTB bz qq (by have := HT.out; first | omega | (simp; omega))
  case rest =>
    obtain ⟨gz, rfl, rfl, ⟨bz_0, bz_1, bz_2, bz_3, bz_4, bz_5⟩, b, bz_ge⟩ := hcut
    have bz_l := cell_lt bz_0
    simp only at bz_l
    have bz_qka : w.heap.size < gz := Nat.lt_of_lt_of_le kal bz_ge
    have bz_qbx : w3.heap.size < gz := Nat.lt_of_lt_of_le bxl bz_ge
    have bz_qby_ : w5.heap.size < gz := Nat.lt_of_lt_of_le by_l bz_ge
    replace hA := hA.on b
    replace hB := hB.on b
    replace ka0 := cK b ka0 kal
    replace ka1 := cK b ka1 kal
    replace ka2 := cK b ka2 kal
    replace ka3 := cK b ka3 kal
    replace kal := lK b kal
    replace bx0 := cK b bx0 bxl
    replace bx1 := cK b bx1 bxl
    replace bx2 := cK b bx2 bxl
    replace bx3 := cK b bx3 bxl
    replace bx4 := cK b bx4 bxl
    replace bx5 := cK b bx5 bxl
    replace bxl := lK b bxl
    replace by_0 := cK b by_0 by_l
    replace by_1 := cK b by_1 by_l
    replace by_2 := cK b by_2 by_l
    replace by_3 := cK b by_3 by_l
    replace by_4 := cK b by_4 by_l
    replace by_5 := cK b by_5 by_l
    replace by_l := lK b by_l
    replace cc := bK cc b
    clear b
    go_wp2_with fail
    refine (alive14_any _).mono ?_
    rintro e w7 ⟨rfl, b⟩
    replace hA := hA.on b
    replace hB := hB.on b
    replace ka0 := cK b ka0 kal
    replace ka1 := cK b ka1 kal
    replace ka2 := cK b ka2 kal
    replace ka3 := cK b ka3 kal
    replace kal := lK b kal
    replace bx0 := cK b bx0 bxl
    replace bx1 := cK b bx1 bxl
    replace bx2 := cK b bx2 bxl
    replace bx3 := cK b bx3 bxl
    replace bx4 := cK b bx4 bxl
    replace bx5 := cK b bx5 bxl
    replace bxl := lK b bxl
    replace by_0 := cK b by_0 by_l
    replace by_1 := cK b by_1 by_l
    replace by_2 := cK b by_2 by_l
    replace by_3 := cK b by_3 by_l
    replace by_4 := cK b by_4 by_l
    replace by_5 := cK b by_5 by_l
    replace by_l := lK b by_l
    replace bz_0 := cK b bz_0 bz_l
    replace bz_1 := cK b bz_1 bz_l
    replace bz_2 := cK b bz_2 bz_l
    replace bz_3 := cK b bz_3 bz_l
    replace bz_4 := cK b bz_4 bz_l
    replace bz_5 := cK b bz_5 bz_l
    replace bz_l := lK b bz_l
    replace cc := bK cc b
    clear b
    go_wp2_with fail
    go_ret
    exact ⟨rfl, cc⟩

set_option maxRecDepth 100000 in
set_option maxHeartbeats 8000000 in
theorem TensJoined_nn {w : World} {kk ks km ko : Int} {A : Option Addr} {n c : Nat} {L : List Int} (hA : IR w A n c L) {B : Option Addr} {m d : Nat} {M : List Int} (hB : IR w B m d M) (h : n + m ≤ 24) (hK : OkK kk ks km ko) (hr : (n : Int) % ks = 0) (h3 : km ≤ (n : Int)) (h4 : km ≤ (m : Int)) (O0 : ∀ {W : World} {A : Option Addr} {c : Nat}, IR W A n c L → Calls Try.prog 7 #[.agg #[.int .i64 kk, .int .i64 ks, .int .i64 km, .int .i64 ko], .slice A n c] W (GotV W (.tuple #[.agg #[.int .i64 0, .int .i64 0, .int .i64 0, .int .i64 0, .int .i64 0, .slice none 0 0], .int .i64 1]))) (O1 : ∀ {W : World} {A : Option Addr} {c : Nat}, IR W A m c M → Calls Try.prog 7 #[.agg #[.int .i64 kk, .int .i64 ks, .int .i64 km, .int .i64 ko], .slice A m c] W (GotV W (.tuple #[.agg #[.int .i64 0, .int .i64 0, .int .i64 0, .int .i64 0, .int .i64 0, .slice none 0 0], .int .i64 1]))) (O2 : ∀ {W : World} {A : Option Addr} {c : Nat}, IR W A (n + m) c (L ++ M) → Calls Try.prog 7 #[.agg #[.int .i64 kk, .int .i64 ks, .int .i64 km, .int .i64 ko], .slice A (n + m) c] W (GotV W (.tuple #[.agg #[.int .i64 0, .int .i64 0, .int .i64 0, .int .i64 0, .int .i64 0, .slice none 0 0], .int .i64 1]))) :
    Calls Try.prog 5 #[.agg #[.int .i64 kk, .int .i64 ks, .int .i64 km, .int .i64 ko], .slice A n c, .slice B m d] w fun e w' => e = .returned (.bool true) ∧ Below w.heap.size w w' := by
  have k0_ : IntKind.i64.wrap ((n : Int) + (m : Int)) = (n : Int) + (m : Int) := IntWalk.i64_in _ (by omega)
  have t0 : decide ((24 : Int) < (n : Int) + (m : Int)) = false := decide_eq_false (by omega)
  have t1 : decide (24 < n + m) = false := decide_eq_false (by omega)
  have CM : ∀ V : World, Calls Try.prog 10 #[.agg #[.int .i64 kk, .int .i64 ks, .int .i64 km, .int .i64 ko]] V (GotV V (.bool true)) := fun V => by have h := rMay14_N V (kk := kk) (ks := ks) (km := km) (ko := ko); rw [decide_eq_true hK] at h; exact h
  have hks : 1 ≤ ks ∧ ks ≤ 4096 := by unfold OkK at hK; omega
  have k5 : (ks == 0) = false := beq_eq_false_iff_ne.2 (by omega)
  have k7 : ¬ ks = 0 := by omega
  have k3q : Int.tmod (n : Int) ks = 0 := by rw [Int.tmod_eq_emod_of_nonneg (by omega)]; exact hr
  have k4q : IntKind.i64.wrap 0 = 0 := IntWalk.i64_in _ (by omega)
  have t_n : decide ((n : Int) < km) = false := decide_eq_false (by omega)
  have t_m : decide ((m : Int) < km) = false := decide_eq_false (by omega)
  have hnm : n + m ≤ 24 := h
  clear h hK hr h3 h4 hks
  have cc := Below.refl w.heap.size w
  go_enter Try.func5, Try.ntmps5
  go_wp2_with fail
  have bA : Below w.heap.size w (w.alloc (.cells #[.int .i64 kk, .int .i64 ks, .int .i64 km, .int .i64 ko] 23)) := ((Below.refl _ w).alloc (by simp) _)
  replace hA := hA.on bA
  replace hB := hB.on bA
  replace cc := bK cc bA
  clear bA
  have ka0 : (w.alloc (.cells #[.int .i64 kk, .int .i64 ks, .int .i64 km, .int .i64 ko] 23)).cell? ⟨w.heap.size, 0, none⟩ = some (.int .i64 kk) := by simp [go_sem]
  have ka1 : (w.alloc (.cells #[.int .i64 kk, .int .i64 ks, .int .i64 km, .int .i64 ko] 23)).cell? ⟨w.heap.size, 1, none⟩ = some (.int .i64 ks) := by simp [go_sem]
  have ka2 : (w.alloc (.cells #[.int .i64 kk, .int .i64 ks, .int .i64 km, .int .i64 ko] 23)).cell? ⟨w.heap.size, 2, none⟩ = some (.int .i64 km) := by simp [go_sem]
  have ka3 : (w.alloc (.cells #[.int .i64 kk, .int .i64 ks, .int .i64 km, .int .i64 ko] 23)).cell? ⟨w.heap.size, 3, none⟩ = some (.int .i64 ko) := by simp [go_sem]
  have kal : w.heap.size < (w.alloc (.cells #[.int .i64 kk, .int .i64 ks, .int .i64 km, .int .i64 ko] 23)).heap.size := by simp <;> omega
  generalize w.alloc (.cells #[.int .i64 kk, .int .i64 ks, .int .i64 km, .int .i64 ko] 23) = v1 at *
  go_wp2_with fail
  refine (CM _).mono ?_
  rintro e w2 ⟨rfl, b⟩
  replace hA := hA.on b
  replace hB := hB.on b
  replace ka0 := cK b ka0 kal
  replace ka1 := cK b ka1 kal
  replace ka2 := cK b ka2 kal
  replace ka3 := cK b ka3 kal
  replace kal := lK b kal
  replace cc := bK cc b
  clear b
  go_wp2_with fail
  refine (O0 hA).mono ?_
  rintro e w3 ⟨rfl, b⟩
  replace hA := hA.on b
  replace hB := hB.on b
  replace ka0 := cK b ka0 kal
  replace ka1 := cK b ka1 kal
  replace ka2 := cK b ka2 kal
  replace ka3 := cK b ka3 kal
  replace kal := lK b kal
  replace cc := bK cc b
  clear b
  go_upto_region 4 with fail
  have bxqka : w.heap.size < w3.heap.size := kal
  have bA := below_one w3 (.cells #[.int .i64 0, .int .i64 0, .int .i64 0, .int .i64 0, .int .i64 0, .slice none 0 0] 28)
  replace hA := hA.on bA
  replace hB := hB.on bA
  replace ka0 := cK bA ka0 kal
  replace ka1 := cK bA ka1 kal
  replace ka2 := cK bA ka2 kal
  replace ka3 := cK bA ka3 kal
  replace kal := lK bA kal
  replace cc := bK cc bA
  clear bA
  have bx0 : (w3.alloc (.cells #[.int .i64 0, .int .i64 0, .int .i64 0, .int .i64 0, .int .i64 0, .slice none 0 0] 28)).cell? ⟨w3.heap.size, 0, none⟩ = some (.int .i64 0) := by simp [go_sem]
  have bx1 : (w3.alloc (.cells #[.int .i64 0, .int .i64 0, .int .i64 0, .int .i64 0, .int .i64 0, .slice none 0 0] 28)).cell? ⟨w3.heap.size, 1, none⟩ = some (.int .i64 0) := by simp [go_sem]
  have bx2 : (w3.alloc (.cells #[.int .i64 0, .int .i64 0, .int .i64 0, .int .i64 0, .int .i64 0, .slice none 0 0] 28)).cell? ⟨w3.heap.size, 2, none⟩ = some (.int .i64 0) := by simp [go_sem]
  have bx3 : (w3.alloc (.cells #[.int .i64 0, .int .i64 0, .int .i64 0, .int .i64 0, .int .i64 0, .slice none 0 0] 28)).cell? ⟨w3.heap.size, 3, none⟩ = some (.int .i64 0) := by simp [go_sem]
  have bx4 : (w3.alloc (.cells #[.int .i64 0, .int .i64 0, .int .i64 0, .int .i64 0, .int .i64 0, .slice none 0 0] 28)).cell? ⟨w3.heap.size, 4, none⟩ = some (.int .i64 0) := by simp [go_sem]
  have bx5 : (w3.alloc (.cells #[.int .i64 0, .int .i64 0, .int .i64 0, .int .i64 0, .int .i64 0, .slice none 0 0] 28)).cell? ⟨w3.heap.size, 5, none⟩ = some (.slice none 0 0) := by simp [go_sem]
  have bxl : w3.heap.size < (w3.alloc (.cells #[.int .i64 0, .int .i64 0, .int .i64 0, .int .i64 0, .int .i64 0, .slice none 0 0] 28)).heap.size := by simp
  generalize w3.alloc (.cells #[.int .i64 0, .int .i64 0, .int .i64 0, .int .i64 0, .int .i64 0, .slice none 0 0] 28) = v4 at *
  go_wp2_with fail
  refine (O1 hB).mono ?_
  rintro e w5 ⟨rfl, b⟩
  replace hA := hA.on b
  replace hB := hB.on b
  replace ka0 := cK b ka0 kal
  replace ka1 := cK b ka1 kal
  replace ka2 := cK b ka2 kal
  replace ka3 := cK b ka3 kal
  replace kal := lK b kal
  replace bx0 := cK b bx0 bxl
  replace bx1 := cK b bx1 bxl
  replace bx2 := cK b bx2 bxl
  replace bx3 := cK b bx3 bxl
  replace bx4 := cK b bx4 bxl
  replace bx5 := cK b bx5 bxl
  replace bxl := lK b bxl
  replace cc := bK cc b
  clear b
  go_upto_region 5 with fail
  have by_qka : w.heap.size < w5.heap.size := kal
  have by_qbx : w3.heap.size < w5.heap.size := bxl
  have bA := below_one w5 (.cells #[.int .i64 0, .int .i64 0, .int .i64 0, .int .i64 0, .int .i64 0, .slice none 0 0] 28)
  replace hA := hA.on bA
  replace hB := hB.on bA
  replace ka0 := cK bA ka0 kal
  replace ka1 := cK bA ka1 kal
  replace ka2 := cK bA ka2 kal
  replace ka3 := cK bA ka3 kal
  replace kal := lK bA kal
  replace bx0 := cK bA bx0 bxl
  replace bx1 := cK bA bx1 bxl
  replace bx2 := cK bA bx2 bxl
  replace bx3 := cK bA bx3 bxl
  replace bx4 := cK bA bx4 bxl
  replace bx5 := cK bA bx5 bxl
  replace bxl := lK bA bxl
  replace cc := bK cc bA
  clear bA
  have by_0 : (w5.alloc (.cells #[.int .i64 0, .int .i64 0, .int .i64 0, .int .i64 0, .int .i64 0, .slice none 0 0] 28)).cell? ⟨w5.heap.size, 0, none⟩ = some (.int .i64 0) := by simp [go_sem]
  have by_1 : (w5.alloc (.cells #[.int .i64 0, .int .i64 0, .int .i64 0, .int .i64 0, .int .i64 0, .slice none 0 0] 28)).cell? ⟨w5.heap.size, 1, none⟩ = some (.int .i64 0) := by simp [go_sem]
  have by_2 : (w5.alloc (.cells #[.int .i64 0, .int .i64 0, .int .i64 0, .int .i64 0, .int .i64 0, .slice none 0 0] 28)).cell? ⟨w5.heap.size, 2, none⟩ = some (.int .i64 0) := by simp [go_sem]
  have by_3 : (w5.alloc (.cells #[.int .i64 0, .int .i64 0, .int .i64 0, .int .i64 0, .int .i64 0, .slice none 0 0] 28)).cell? ⟨w5.heap.size, 3, none⟩ = some (.int .i64 0) := by simp [go_sem]
  have by_4 : (w5.alloc (.cells #[.int .i64 0, .int .i64 0, .int .i64 0, .int .i64 0, .int .i64 0, .slice none 0 0] 28)).cell? ⟨w5.heap.size, 4, none⟩ = some (.int .i64 0) := by simp [go_sem]
  have by_5 : (w5.alloc (.cells #[.int .i64 0, .int .i64 0, .int .i64 0, .int .i64 0, .int .i64 0, .slice none 0 0] 28)).cell? ⟨w5.heap.size, 5, none⟩ = some (.slice none 0 0) := by simp [go_sem]
  have by_l : w5.heap.size < (w5.alloc (.cells #[.int .i64 0, .int .i64 0, .int .i64 0, .int .i64 0, .int .i64 0, .slice none 0 0] 28)).heap.size := by simp
  generalize w5.alloc (.cells #[.int .i64 0, .int .i64 0, .int .i64 0, .int .i64 0, .int .i64 0, .slice none 0 0] 28) = v6 at *
  go_cut [11, 12] (fun ux ue wx => ∃ (gz : Nat), ux = .pointer (some ⟨gz, 0, none⟩) ∧ ue = .int .i64 1 ∧ LoneT v6 wx gz (.int .i64 0) (.int .i64 0) (.int .i64 0) (.int .i64 0) (.int .i64 0) (.slice none 0 0))
  case first =>
    obtain ⟨i0, hi, hz0, hz1, hz2⟩ := info_parts infoI
    obtain ⟨t, ht⟩ : ∃ t, v6.heap.size = t := ⟨_, rfl⟩
    have HT := Lib.hid ht
    have tw : t ≤ v6.heap.size := by omega
    have b00 : Below t v6 v6 := Below.refl t v6
    have o1 : ((v6.alloc (.cells #[] 2)).drew).ownsRow t 2 1 (.slice (some ⟨v6.heap.size, 0, none⟩) 0 0) 0 ([] : List Value) := (World.ownsRow_lit v6 #[] 0 tw (by unfold maxLen; omega) rfl).drew
    have o2 : (((v6.alloc (.cells #[] 2)).alloc (.cells #[.int .i64 0, .int .i64 0, .int .i64 0, .int .i64 0, .int .i64 0, .slice none 0 0] 28)).drew).ownsRow t 2 1 (.slice (some ⟨v6.heap.size, 0, none⟩) 0 0) 0 ([] : List Value) := ((World.ownsRow_lit v6 #[] 0 tw (by unfold maxLen; omega) rfl).alloc _).drew
    have o3 : (((v6.alloc (.cells #[.int .i64 0, .int .i64 0, .int .i64 0, .int .i64 0, .int .i64 0, .slice none 0 0] 28)).alloc (.cells #[] 2)).drew).ownsRow t 2 1 (.slice (some ⟨v6.heap.size + 1, 0, none⟩) 0 0) 0 ([] : List Value) := by have h := (World.ownsRow_lit (e := 2) (size := 1) (v6.alloc (.cells #[.int .i64 0, .int .i64 0, .int .i64 0, .int .i64 0, .int .i64 0, .slice none 0 0] 28)) #[] 0 (base := t) (by simp; omega) (by unfold maxLen; omega) rfl).drew; simpa using h
    have c1 : Below t v6 ((v6.alloc (.cells #[] 2)).drew) := below_drewN (b00.alloc tw _) 1
    have c2 : Below t v6 (((v6.alloc (.cells #[] 2)).alloc (.cells #[.int .i64 0, .int .i64 0, .int .i64 0, .int .i64 0, .int .i64 0, .slice none 0 0] 28)).drew) := below_drewN ((b00.alloc tw _).alloc (by simp; omega) _) 1
    have c3 : Below t v6 (((v6.alloc (.cells #[.int .i64 0, .int .i64 0, .int .i64 0, .int .i64 0, .int .i64 0, .slice none 0 0] 28)).alloc (.cells #[] 2)).drew) := below_drewN ((b00.alloc tw _).alloc (by simp; omega) _) 1
    have z2 : BZ (((v6.alloc (.cells #[] 2)).alloc (.cells #[.int .i64 0, .int .i64 0, .int .i64 0, .int .i64 0, .int .i64 0, .slice none 0 0] 28)).drew) (v6.heap.size + 1) := by have h := (BZ.new (v6.alloc (.cells #[] 2))).drew; simpa using h
    have z3 : BZ (((v6.alloc (.cells #[.int .i64 0, .int .i64 0, .int .i64 0, .int .i64 0, .int .i64 0, .slice none 0 0] 28)).alloc (.cells #[] 2)).drew) v6.heap.size := ((BZ.new v6).up _).drew
    have n1 := ir_any hA (show Below v6.heap.size v6 _ by rw [HT.out]; exact c1)
    have n2 := ir_any hA (show Below v6.heap.size v6 _ by rw [HT.out]; exact c2)
    have n3 := ir_any hA (show Below v6.heap.size v6 _ by rw [HT.out]; exact c3)
    have HL := Lib.hid hA.1
    have HM := Lib.hid hB.1
    have hlA : (L.map encI).length = n * 1 := by rw [List.length_map, ← hA.1]; omega
    have hlB : (M.map encI).length = m * 1 := by rw [List.length_map, ← hB.1]; omega
    have HLM : Hid (L.map encI ++ M.map encI = (L ++ M).map encI) := Lib.hid (by rw [List.map_append])
    have HNM := Lib.hid hnm
    clear ht hnm
    have bR : Below v6.heap.size v6 v6 := Below.refl _ _
    have kc0 : ∀ W : World, Below v6.heap.size v6 W → W.cell? ⟨w.heap.size, 0, none⟩ = some (.int .i64 kk) := fun W b => cK b ka0 kal
    have kc1 : ∀ W : World, Below v6.heap.size v6 W → W.cell? ⟨w.heap.size, 1, none⟩ = some (.int .i64 ks) := fun W b => cK b ka1 kal
    have kc2 : ∀ W : World, Below v6.heap.size v6 W → W.cell? ⟨w.heap.size, 2, none⟩ = some (.int .i64 km) := fun W b => cK b ka2 kal
    have kc3 : ∀ W : World, Below v6.heap.size v6 W → W.cell? ⟨w.heap.size, 3, none⟩ = some (.int .i64 ko) := fun W b => cK b ka3 kal
    clear ka0 ka1 ka2 ka3
    go_region_held3 (fun w' => Below v6.heap.size v6 w')
      (repeat' (first | with_reducible assumption | with_reducible refine below_al _ ?_ | with_reducible refine below_dr ?_ | with_reducible refine below_sc _ ?_ () ?_ | (first | omega | (simp; omega))))
      (first
        | (refine step_append_any rfl _ _ 24 rfl t 2 i0 (.int .i64 0) 1 8 Try.underlying24 hi hz0 hz1 hz2 rfl (by decide) v6.heap.size 0 0 [] rfl o1 A n c (L.map encI) rfl hlA n1 (fun u hu => by obtain ⟨x, _, rfl⟩ := List.mem_map.1 hu; rfl) (by have := HNM.out; unfold maxLen; omega) (by have := HNM.out; omega) (by have := HT.out; first | omega | (simp; omega)) n (Nat.zero_add n) ?_; intro g1 cap1 w1 hown1 hgrow1 hat1 hlt1; have b1 := c1.grown hgrow1 (by have := HT.out; first | omega | (simp; omega)) (fun q e => by injection (show some v6.heap.size = some q from e) with e1; have := HT.out; omega); have bV : Below v6.heap.size v6 w1 := (by rw [HT.out]; exact b1); have hs1 := bV.size; have hts : t ≤ w1.heap.size := (by have := bV.size; have := HT.out; omega); rw [List.nil_append] at hown1; have hg1 := (hown1.lt g1 rfl))
        | (refine step_append_any rfl _ _ 24 rfl t 2 i0 (.int .i64 0) 1 8 Try.underlying24 hi hz0 hz1 hz2 rfl (by decide) v6.heap.size 0 0 [] rfl o2 A n c (L.map encI) rfl hlA n2 (fun u hu => by obtain ⟨x, _, rfl⟩ := List.mem_map.1 hu; rfl) (by have := HNM.out; unfold maxLen; omega) (by have := HNM.out; omega) (by have := HT.out; first | omega | (simp; omega)) n (Nat.zero_add n) ?_; intro g1 cap1 w1 hown1 hgrow1 hat1 hlt1; have b1 := c2.grown hgrow1 (by have := HT.out; first | omega | (simp; omega)) (fun q e => by injection (show some v6.heap.size = some q from e) with e1; have := HT.out; omega); have bV : Below v6.heap.size v6 w1 := (by rw [HT.out]; exact b1); have hs1 := bV.size; have hts : t ≤ w1.heap.size := (by have := bV.size; have := HT.out; omega); rw [List.nil_append] at hown1; have hg1 := (hown1.lt g1 rfl); have nz_ : v6.heap.size + 1 ≠ g1 := (by rcases hat1 with e | e; (omega); (simp at e; omega)); have bz := BZ.grown z2 hgrow1 (by omega))
        | (refine step_append_any rfl _ _ 24 rfl t 2 i0 (.int .i64 0) 1 8 Try.underlying24 hi hz0 hz1 hz2 rfl (by decide) (v6.heap.size + 1) 0 0 [] rfl o3 A n c (L.map encI) rfl hlA n3 (fun u hu => by obtain ⟨x, _, rfl⟩ := List.mem_map.1 hu; rfl) (by have := HNM.out; unfold maxLen; omega) (by have := HNM.out; omega) (by have := HT.out; first | omega | (simp; omega)) n (Nat.zero_add n) ?_; intro g1 cap1 w1 hown1 hgrow1 hat1 hlt1; have b1 := c3.grown hgrow1 (by have := HT.out; first | omega | (simp; omega)) (fun q e => by injection (show some (v6.heap.size + 1) = some q from e) with e1; have := HT.out; omega); have bV : Below v6.heap.size v6 w1 := (by rw [HT.out]; exact b1); have hs1 := bV.size; have hts : t ≤ w1.heap.size := (by have := bV.size; have := HT.out; omega); rw [List.nil_append] at hown1; have hg1 := (hown1.lt g1 rfl); have nz_ : v6.heap.size ≠ g1 := (by rcases hat1 with e | e; (omega); (simp at e; omega)); have bz := BZ.grown z3 hgrow1 (by omega))
        | (refine step_append_any rfl _ _ 24 rfl t 2 i0 (.int .i64 0) 1 8 Try.underlying24 hi hz0 hz1 hz2 rfl (by decide) g1 n cap1 (L.map encI) rfl hown1 B m d (M.map encI) rfl hlB (ir_any hB bV) (fun u hu => by obtain ⟨x, _, rfl⟩ := List.mem_map.1 hu; rfl) (by have := HNM.out; unfold maxLen; omega) (by have := HNM.out; omega) hts (n + m) rfl ?_; intro g2 cap2 w2 hown2 hgrow2 hat2 hlt2; have b2 := b1.grown hgrow2 hts (fun q e => by injection (show some g1 = some q from e) with e1; omega); have bV2 : Below v6.heap.size v6 w2 := (by rw [HT.out]; exact b2); have hs2 := bV2.size; have hts2 : t ≤ w2.heap.size := (by have := bV2.size; have := HT.out; omega); rw [HLM.out] at hown2; have hI2 := IR.of_own hown2; (try replace bz := BZ.grown bz hgrow2 nz_))
        | (refine step_append_any rfl _ _ 24 rfl t 2 i0 (.int .i64 0) 1 8 Try.underlying24 hi hz0 hz1 hz2 rfl (by decide) g1 n cap1 (L.map encI) rfl (hown1.alloc _) B m d (M.map encI) rfl hlB (ir_any hB (bV.alloc bV.size _)) (fun u hu => by obtain ⟨x, _, rfl⟩ := List.mem_map.1 hu; rfl) (by have := HNM.out; unfold maxLen; omega) (by have := HNM.out; omega) (by simp; omega) (n + m) rfl ?_; intro g2 cap2 w2 hown2 hgrow2 hat2 hlt2; have b2 := (b1.alloc hts _).grown hgrow2 (by simp; omega) (fun q e => by injection (show some g1 = some q from e) with e1; omega); have bV2 : Below v6.heap.size v6 w2 := (by rw [HT.out]; exact b2); have hs2 := bV2.size; have hts2 : t ≤ w2.heap.size := (by have := bV2.size; have := HT.out; omega); rw [HLM.out] at hown2; have hI2 := IR.of_own hown2; have bz := BZ.grown (BZ.new w1) hgrow2 (by omega))
        | (go_at_call 7; have hO2 := O2 (W := w2) hI2; (with_reducible refine hO2.mono ?_); clear hO2; rintro e y1 ⟨rfl, q⟩; have qq := (bV2).trans (q.mono (bV2).size); (try (replace bz := bz.on q; obtain ⟨⟨bo_0, bo_1, bo_2, bo_3, bo_4, bo_5⟩, fo_0, fo_1, fo_2, fo_3, fo_4, fo_5⟩ := BZ.cells bz; have ol := BZ.lt bz)); clear q)
        | (go_at_call 7; have hO2 := O2 (W := (w2.alloc (.cells #[.int .i64 0, .int .i64 0, .int .i64 0, .int .i64 0, .int .i64 0, .slice none 0 0] 28))) (hI2.on (one_up _ _)); (with_reducible refine hO2.mono ?_); clear hO2; rintro e y1 ⟨rfl, q⟩; have qq := (bV2.alloc bV2.size _).trans (q.mono (bV2.alloc bV2.size _).size); have bz := (BZ.new w2).on q; obtain ⟨⟨bo_0, bo_1, bo_2, bo_3, bo_4, bo_5⟩, fo_0, fo_1, fo_2, fo_3, fo_4, fo_5⟩ := BZ.cells bz; have ol := BZ.lt bz; clear q))
    all_goals (go_wp2_with fail; go_meet)
    all_goals refine ⟨_, rfl, rfl, ?_⟩
    all_goals first
      | with_reducible exact loneTA qq _
      | with_reducible exact loneTB bz qq (by have := HT.out; first | omega | (simp; omega))
  case rest =>
    obtain ⟨gz, rfl, rfl, ⟨bz_0, bz_1, bz_2, bz_3, bz_4, bz_5⟩, b, bz_ge⟩ := hcut
    have bz_l := cell_lt bz_0
    simp only at bz_l
    have bz_qka : w.heap.size < gz := Nat.lt_of_lt_of_le kal bz_ge
    have bz_qbx : w3.heap.size < gz := Nat.lt_of_lt_of_le bxl bz_ge
    have bz_qby_ : w5.heap.size < gz := Nat.lt_of_lt_of_le by_l bz_ge
    replace hA := hA.on b
    replace hB := hB.on b
    replace ka0 := cK b ka0 kal
    replace ka1 := cK b ka1 kal
    replace ka2 := cK b ka2 kal
    replace ka3 := cK b ka3 kal
    replace kal := lK b kal
    replace bx0 := cK b bx0 bxl
    replace bx1 := cK b bx1 bxl
    replace bx2 := cK b bx2 bxl
    replace bx3 := cK b bx3 bxl
    replace bx4 := cK b bx4 bxl
    replace bx5 := cK b bx5 bxl
    replace bxl := lK b bxl
    replace by_0 := cK b by_0 by_l
    replace by_1 := cK b by_1 by_l
    replace by_2 := cK b by_2 by_l
    replace by_3 := cK b by_3 by_l
    replace by_4 := cK b by_4 by_l
    replace by_5 := cK b by_5 by_l
    replace by_l := lK b by_l
    replace cc := bK cc b
    clear b
    go_wp2_with fail
    refine (alive14_any _).mono ?_
    rintro e w7 ⟨rfl, b⟩
    replace hA := hA.on b
    replace hB := hB.on b
    replace ka0 := cK b ka0 kal
    replace ka1 := cK b ka1 kal
    replace ka2 := cK b ka2 kal
    replace ka3 := cK b ka3 kal
    replace kal := lK b kal
    replace bx0 := cK b bx0 bxl
    replace bx1 := cK b bx1 bxl
    replace bx2 := cK b bx2 bxl
    replace bx3 := cK b bx3 bxl
    replace bx4 := cK b bx4 bxl
    replace bx5 := cK b bx5 bxl
    replace bxl := lK b bxl
    replace by_0 := cK b by_0 by_l
    replace by_1 := cK b by_1 by_l
    replace by_2 := cK b by_2 by_l
    replace by_3 := cK b by_3 by_l
    replace by_4 := cK b by_4 by_l
    replace by_5 := cK b by_5 by_l
    replace by_l := lK b by_l
    replace bz_0 := cK b bz_0 bz_l
    replace bz_1 := cK b bz_1 bz_l
    replace bz_2 := cK b bz_2 bz_l
    replace bz_3 := cK b bz_3 bz_l
    replace bz_4 := cK b bz_4 bz_l
    replace bz_5 := cK b bz_5 bz_l
    replace bz_l := lK b bz_l
    replace cc := bK cc b
    clear b
    go_wp2_with fail
    go_ret
    exact ⟨rfl, cc⟩

end Go.Proofs.Ytpidpebgeblenaa
