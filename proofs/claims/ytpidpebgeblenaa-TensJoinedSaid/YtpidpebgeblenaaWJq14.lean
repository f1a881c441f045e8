/-
  TensJoined: where all three rows are kept.
-/
import Derived.Test.YtpidpebgeblenaaWJp14
import Derived.Test.YtpidpebgeblenaaA3
namespace Go.Proofs.Ytpidpebgeblenaa
set_option maxRecDepth 100000
open Go.RowKit
set_option linter.unusedVariables false
set_option linter.unusedSimpArgs false

theorem kf_join {t gx : Nat} {w W : World} {xs ys : List Value} {n m c : Nat} {p : Option Addr} {L M : List Bk} {e : TypeId} (vx : KV 0 (some gx) w xs n L) (vy : KV 0 (some gx) w ys m M) (lx : xs.length = n * 4) (hL : L.length = n) (hM : M.length = m) (ox : ∀ u ∈ xs, u.oneCell' = true) (oy : ∀ u ∈ ys, u.oneCell' = true)
    (hb : Below w.heap.size w W) (hO : W.ownsRow t e 4 (.slice p (n + m) c) (n + m) (xs ++ ys)) (hg : gx < t) (u : Value) : KF 0 (some gx) (W.setCell ⟨gx, 5, none⟩ u) p (n + m) c (L ++ M) := by
  have h := (kv_join (vx.on hb) (vy.on hb) lx hL).miss (o := 5) (u := u) (Or.inr rfl)
  have hO2 := own_lt (o := 5) (u := u) hO hg
  have hk := kv_own h (by rw [List.length_append, hL, hM]) hO2
  refine ⟨hk.1, hk.2.1, xs ++ ys, hO2.1, fun v hv => ?_, h, fun hp => ?_⟩
  · rcases List.mem_append.1 hv with e1 | e1
    · exact ox v e1
    · exact oy v e1
  · rcases hO2.2 with ⟨e1, h0⟩ | ⟨g', cap, cur, e1, _, _, hnc, _⟩
    · omega
    · injection e1 with e2 _ e3
      subst e2; subst e3
      have hlt := hO2.lt g' rfl
      refine ⟨g', 0, rfl, hlt.2, ⟨Nat.zero_le _, fun e2 => by injection e2 with e2; omega⟩, fun j v hv => ?_⟩
      have hj : j < (xs ++ ys).length := by
        rcases Nat.lt_or_ge j (xs ++ ys).length with h' | h'
        · exact h'
        · rw [List.getElem?_eq_none h'] at hv; cases hv
      rw [Nat.zero_add]
      exact (hO2.cellAt j (by have := hO2.1; omega)).trans hv

set_option maxRecDepth 100000 in
set_option maxHeartbeats 8000000 in
theorem TensJoined_yy {w : World} {kk ks km ko : Int} {A : Option Addr} {n c : Nat} {L : List Int} (hA : IR w A n c L) {B : Option Addr} {m d : Nat} {M : List Int} (hB : IR w B m d M) (h : n + m ≤ 24) (hK : OkK kk ks km ko) (hr : (n : Int) % ks = 0) (h3 : km ≤ (n : Int)) (h4 : km ≤ (m : Int)) {D E : List Bk} (hDl : D.length ≤ 24) (hEl : E.length ≤ 24) (O0 : ∀ {W : World} {A : Option Addr} {c : Nat}, IR W A n c L → Calls Try.prog 7 #[.agg #[.int .i64 kk, .int .i64 ks, .int .i64 km, .int .i64 ko], .slice A n c] W (GotStn W kk ks km ko (n : Int) D)) (O1 : ∀ {W : World} {A : Option Addr} {c : Nat}, IR W A m c M → Calls Try.prog 7 #[.agg #[.int .i64 kk, .int .i64 ks, .int .i64 km, .int .i64 ko], .slice A m c] W (GotStn W kk ks km ko (m : Int) E)) (O2 : ∀ {W : World} {A : Option Addr} {c : Nat}, IR W A (n + m) c (L ++ M) → Calls Try.prog 7 #[.agg #[.int .i64 kk, .int .i64 ks, .int .i64 km, .int .i64 ko], .slice A (n + m) c] W (GotStn W kk ks km ko ((n + m : Nat) : Int) (D ++ E))) :
    Calls Try.prog 5 #[.agg #[.int .i64 kk, .int .i64 ks, .int .i64 km, .int .i64 ko], .slice A n c, .slice B m d] w fun e w' => e = .returned (.bool true) ∧ Below w.heap.size w w' := by
  have k0_ : IntKind.i64.wrap ((n : Int) + (m : Int)) = (n : Int) + (m : Int) := IntWalk.i64_in _ (by omega)
  have t0 : decide ((24 : Int) < (n : Int) + (m : Int)) = false := decide_eq_false (by omega)
  have t1 : decide (24 < n + m) = false := decide_eq_false (by omega)
  have CM : ∀ V : World, Calls Try.prog 10 #[.agg #[.int .i64 kk, .int .i64 ks, .int .i64 km, .int .i64 ko]] V (GotV V (.bool true)) := fun V => by have h := rMay14_N V (kk := kk) (ks := ks) (km := km) (ko := ko); rw [decide_eq_true hK] at h; exact h
  have hks : 1 ≤ ks ∧ ks ≤ 4096 := by unfold OkK at hK; omega
  have k5 : (ks == 0) = false := beq_eq_false_iff_ne.2 (by omega)
  have k7 : ¬ ks = 0 := by omega
  have k3q : Int.tmod (n : Int) ks = 0 := by rw [Int.tmod_eq_emod_of_nonneg (by omega)]; exact hr
  have k4q : IntKind.i64.wrap 0 = 0 := IntWalk.i64_in _ (by omega)
  have t_n : decide ((n : Int) < km) = false := decide_eq_false (by omega)
  have t_m : decide ((m : Int) < km) = false := decide_eq_false (by omega)
  have hnm : n + m ≤ 24 := h
  clear h hK hr h3 h4 hks
  have HDl := Lib.hid hDl
  have HEl := Lib.hid hEl
  clear hDl hEl
  have cc := Below.refl w.heap.size w
  go_enter Try.func5, Try.ntmps5
  go_wp2_with fail
  have bA : Below w.heap.size w (w.alloc (.cells #[.int .i64 kk, .int .i64 ks, .int .i64 km, .int .i64 ko] 23)) := ((Below.refl _ w).alloc (by simp) _)
  replace hA := hA.on bA
  replace hB := hB.on bA
  replace cc := bK cc bA
  clear bA
  have ka0 : (w.alloc (.cells #[.int .i64 kk, .int .i64 ks, .int .i64 km, .int .i64 ko] 23)).cell? ⟨w.heap.size, 0, none⟩ = some (.int .i64 kk) := by simp [go_sem]
  have ka1 : (w.alloc (.cells #[.int .i64 kk, .int .i64 ks, .int .i64 km, .int .i64 ko] 23)).cell? ⟨w.heap.size, 1, none⟩ = some (.int .i64 ks) := by simp [go_sem]
  have ka2 : (w.alloc (.cells #[.int .i64 kk, .int .i64 ks, .int .i64 km, .int .i64 ko] 23)).cell? ⟨w.heap.size, 2, none⟩ = some (.int .i64 km) := by simp [go_sem]
  have ka3 : (w.alloc (.cells #[.int .i64 kk, .int .i64 ks, .int .i64 km, .int .i64 ko] 23)).cell? ⟨w.heap.size, 3, none⟩ = some (.int .i64 ko) := by simp [go_sem]
  have kal : w.heap.size < (w.alloc (.cells #[.int .i64 kk, .int .i64 ks, .int .i64 km, .int .i64 ko] 23)).heap.size := by simp <;> omega
  generalize w.alloc (.cells #[.int .i64 kk, .int .i64 ks, .int .i64 km, .int .i64 ko] 23) = v1 at *
  go_wp2_with fail
  refine (CM _).mono ?_
  rintro e w2 ⟨rfl, b⟩
  replace hA := hA.on b
  replace hB := hB.on b
  replace ka0 := cK b ka0 kal
  replace ka1 := cK b ka1 kal
  replace ka2 := cK b ka2 kal
  replace ka3 := cK b ka3 kal
  replace kal := lK b kal
  replace cc := bK cc b
  clear b
  go_wp2_with fail
  refine (O0 hA).mono ?_
  rintro e w3 ⟨Ax, nx, cx, rfl, hx, b⟩
  replace hA := hA.on b
  replace hB := hB.on b
  replace ka0 := cK b ka0 kal
  replace ka1 := cK b ka1 kal
  replace ka2 := cK b ka2 kal
  replace ka3 := cK b ka3 kal
  replace kal := lK b kal
  replace cc := bK cc b
  clear b
  replace hx := kf_old hx.kr (Nat.le_refl _)
  go_upto_region 4 with fail
  have bxqka : w.heap.size < w3.heap.size := kal
  have bA := below_one w3 (.cells #[.int .i64 kk, .int .i64 ks, .int .i64 km, .int .i64 ko, .int .i64 (n : Int), .slice Ax nx cx] 28)
  replace hA := hA.on bA
  replace hB := hB.on bA
  replace hx := hx.on bA
  replace ka0 := cK bA ka0 kal
  replace ka1 := cK bA ka1 kal
  replace ka2 := cK bA ka2 kal
  replace ka3 := cK bA ka3 kal
  replace kal := lK bA kal
  replace cc := bK cc bA
  clear bA
  have bx0 : (w3.alloc (.cells #[.int .i64 kk, .int .i64 ks, .int .i64 km, .int .i64 ko, .int .i64 (n : Int), .slice Ax nx cx] 28)).cell? ⟨w3.heap.size, 0, none⟩ = some (.int .i64 kk) := by simp [go_sem]
  have bx1 : (w3.alloc (.cells #[.int .i64 kk, .int .i64 ks, .int .i64 km, .int .i64 ko, .int .i64 (n : Int), .slice Ax nx cx] 28)).cell? ⟨w3.heap.size, 1, none⟩ = some (.int .i64 ks) := by simp [go_sem]
  have bx2 : (w3.alloc (.cells #[.int .i64 kk, .int .i64 ks, .int .i64 km, .int .i64 ko, .int .i64 (n : Int), .slice Ax nx cx] 28)).cell? ⟨w3.heap.size, 2, none⟩ = some (.int .i64 km) := by simp [go_sem]
  have bx3 : (w3.alloc (.cells #[.int .i64 kk, .int .i64 ks, .int .i64 km, .int .i64 ko, .int .i64 (n : Int), .slice Ax nx cx] 28)).cell? ⟨w3.heap.size, 3, none⟩ = some (.int .i64 ko) := by simp [go_sem]
  have bx4 : (w3.alloc (.cells #[.int .i64 kk, .int .i64 ks, .int .i64 km, .int .i64 ko, .int .i64 (n : Int), .slice Ax nx cx] 28)).cell? ⟨w3.heap.size, 4, none⟩ = some (.int .i64 (n : Int)) := by simp [go_sem]
  have bx5 : (w3.alloc (.cells #[.int .i64 kk, .int .i64 ks, .int .i64 km, .int .i64 ko, .int .i64 (n : Int), .slice Ax nx cx] 28)).cell? ⟨w3.heap.size, 5, none⟩ = some (.slice Ax nx cx) := by simp [go_sem]
  have bxr0 : (w3.alloc (.cells #[.int .i64 kk, .int .i64 ks, .int .i64 km, .int .i64 ko, .int .i64 (n : Int), .slice Ax nx cx] 28)).frozen? ⟨w3.heap.size, 0, none⟩ = false := by simp [go_sem]
  have bxr1 : (w3.alloc (.cells #[.int .i64 kk, .int .i64 ks, .int .i64 km, .int .i64 ko, .int .i64 (n : Int), .slice Ax nx cx] 28)).frozen? ⟨w3.heap.size, 1, none⟩ = false := by simp [go_sem]
  have bxr2 : (w3.alloc (.cells #[.int .i64 kk, .int .i64 ks, .int .i64 km, .int .i64 ko, .int .i64 (n : Int), .slice Ax nx cx] 28)).frozen? ⟨w3.heap.size, 2, none⟩ = false := by simp [go_sem]
  have bxr3 : (w3.alloc (.cells #[.int .i64 kk, .int .i64 ks, .int .i64 km, .int .i64 ko, .int .i64 (n : Int), .slice Ax nx cx] 28)).frozen? ⟨w3.heap.size, 3, none⟩ = false := by simp [go_sem]
  have bxr4 : (w3.alloc (.cells #[.int .i64 kk, .int .i64 ks, .int .i64 km, .int .i64 ko, .int .i64 (n : Int), .slice Ax nx cx] 28)).frozen? ⟨w3.heap.size, 4, none⟩ = false := by simp [go_sem]
  have bxr5 : (w3.alloc (.cells #[.int .i64 kk, .int .i64 ks, .int .i64 km, .int .i64 ko, .int .i64 (n : Int), .slice Ax nx cx] 28)).frozen? ⟨w3.heap.size, 5, none⟩ = false := by simp [go_sem]
  have bxl : w3.heap.size < (w3.alloc (.cells #[.int .i64 kk, .int .i64 ks, .int .i64 km, .int .i64 ko, .int .i64 (n : Int), .slice Ax nx cx] 28)).heap.size := by simp
  generalize w3.alloc (.cells #[.int .i64 kk, .int .i64 ks, .int .i64 km, .int .i64 ko, .int .i64 (n : Int), .slice Ax nx cx] 28) = v4 at *
  have HGX := Lib.hid bxl
  go_wp2_with fail
  refine (O1 hB).mono ?_
  rintro e w5 ⟨Ay, ny, cy, rfl, hy, b⟩
  replace hA := hA.on b
  replace hB := hB.on b
  replace hx := hx.on b
  replace bxr0 := fK b bxr0 bxl
  replace bxr1 := fK b bxr1 bxl
  replace bxr2 := fK b bxr2 bxl
  replace bxr3 := fK b bxr3 bxl
  replace bxr4 := fK b bxr4 bxl
  replace bxr5 := fK b bxr5 bxl
  replace ka0 := cK b ka0 kal
  replace ka1 := cK b ka1 kal
  replace ka2 := cK b ka2 kal
  replace ka3 := cK b ka3 kal
  replace kal := lK b kal
  replace bx0 := cK b bx0 bxl
  replace bx1 := cK b bx1 bxl
  replace bx2 := cK b bx2 bxl
  replace bx3 := cK b bx3 bxl
  replace bx4 := cK b bx4 bxl
  replace bx5 := cK b bx5 bxl
  replace bxl := lK b bxl
  replace cc := bK cc b
  clear b
  replace hy := hy.low (show v4.heap.size ≤ _ by first | exact Nat.le_refl _ | omega)
  go_upto_region 5 with fail
  have by_qka : w.heap.size < w5.heap.size := kal
  have by_qbx : w3.heap.size < w5.heap.size := bxl
  have bA := below_one w5 (.cells #[.int .i64 kk, .int .i64 ks, .int .i64 km, .int .i64 ko, .int .i64 (m : Int), .slice Ay ny cy] 28)
  replace hA := hA.on bA
  replace hB := hB.on bA
  replace hx := hx.on bA
  replace hy := hy.on bA
  replace bxr0 := fK bA bxr0 bxl
  replace bxr1 := fK bA bxr1 bxl
  replace bxr2 := fK bA bxr2 bxl
  replace bxr3 := fK bA bxr3 bxl
  replace bxr4 := fK bA bxr4 bxl
  replace bxr5 := fK bA bxr5 bxl
  replace ka0 := cK bA ka0 kal
  replace ka1 := cK bA ka1 kal
  replace ka2 := cK bA ka2 kal
  replace ka3 := cK bA ka3 kal
  replace kal := lK bA kal
  replace bx0 := cK bA bx0 bxl
  replace bx1 := cK bA bx1 bxl
  replace bx2 := cK bA bx2 bxl
  replace bx3 := cK bA bx3 bxl
  replace bx4 := cK bA bx4 bxl
  replace bx5 := cK bA bx5 bxl
  replace bxl := lK bA bxl
  replace cc := bK cc bA
  clear bA
  have by_0 : (w5.alloc (.cells #[.int .i64 kk, .int .i64 ks, .int .i64 km, .int .i64 ko, .int .i64 (m : Int), .slice Ay ny cy] 28)).cell? ⟨w5.heap.size, 0, none⟩ = some (.int .i64 kk) := by simp [go_sem]
  have by_1 : (w5.alloc (.cells #[.int .i64 kk, .int .i64 ks, .int .i64 km, .int .i64 ko, .int .i64 (m : Int), .slice Ay ny cy] 28)).cell? ⟨w5.heap.size, 1, none⟩ = some (.int .i64 ks) := by simp [go_sem]
  have by_2 : (w5.alloc (.cells #[.int .i64 kk, .int .i64 ks, .int .i64 km, .int .i64 ko, .int .i64 (m : Int), .slice Ay ny cy] 28)).cell? ⟨w5.heap.size, 2, none⟩ = some (.int .i64 km) := by simp [go_sem]
  have by_3 : (w5.alloc (.cells #[.int .i64 kk, .int .i64 ks, .int .i64 km, .int .i64 ko, .int .i64 (m : Int), .slice Ay ny cy] 28)).cell? ⟨w5.heap.size, 3, none⟩ = some (.int .i64 ko) := by simp [go_sem]
  have by_4 : (w5.alloc (.cells #[.int .i64 kk, .int .i64 ks, .int .i64 km, .int .i64 ko, .int .i64 (m : Int), .slice Ay ny cy] 28)).cell? ⟨w5.heap.size, 4, none⟩ = some (.int .i64 (m : Int)) := by simp [go_sem]
  have by_5 : (w5.alloc (.cells #[.int .i64 kk, .int .i64 ks, .int .i64 km, .int .i64 ko, .int .i64 (m : Int), .slice Ay ny cy] 28)).cell? ⟨w5.heap.size, 5, none⟩ = some (.slice Ay ny cy) := by simp [go_sem]
  have by_l : w5.heap.size < (w5.alloc (.cells #[.int .i64 kk, .int .i64 ks, .int .i64 km, .int .i64 ko, .int .i64 (m : Int), .slice Ay ny cy] 28)).heap.size := by simp
  generalize w5.alloc (.cells #[.int .i64 kk, .int .i64 ks, .int .i64 km, .int .i64 ko, .int .i64 (m : Int), .slice Ay ny cy] 28) = v6 at *
  have HG6 := Lib.hid bxl
  go_cut [11, 12] (fun ux ue wx => ∃ (gz : Nat) (Az : Option Addr) (nz cz : Nat), ux = .pointer (some ⟨gz, 0, none⟩) ∧ ue = .int .i64 0 ∧ KF v6.heap.size none wx Az nz cz (D ++ E) ∧ LoneT v6 wx gz (.int .i64 kk) (.int .i64 ks) (.int .i64 km) (.int .i64 ko) (.int .i64 ((n : Int) + (m : Int))) (.slice Az nz cz))
  case first =>
    obtain ⟨i0, hi, hz0, hz1, hz2⟩ := info_parts infoI
    obtain ⟨t, ht⟩ : ∃ t, v6.heap.size = t := ⟨_, rfl⟩
    have HT := Lib.hid ht
    have tw : t ≤ v6.heap.size := by omega
    have b00 : Below t v6 v6 := Below.refl t v6
    have o1 : ((v6.alloc (.cells #[] 2)).drew).ownsRow t 2 1 (.slice (some ⟨v6.heap.size, 0, none⟩) 0 0) 0 ([] : List Value) := (World.ownsRow_lit v6 #[] 0 tw (by unfold maxLen; omega) rfl).drew
    have o2 : (((v6.alloc (.cells #[] 2)).alloc (.cells #[.int .i64 0, .int .i64 0, .int .i64 0, .int .i64 0, .int .i64 0, .slice none 0 0] 28)).drew).ownsRow t 2 1 (.slice (some ⟨v6.heap.size, 0, none⟩) 0 0) 0 ([] : List Value) := ((World.ownsRow_lit v6 #[] 0 tw (by unfold maxLen; omega) rfl).alloc _).drew
    have o3 : (((v6.alloc (.cells #[.int .i64 0, .int .i64 0, .int .i64 0, .int .i64 0, .int .i64 0, .slice none 0 0] 28)).alloc (.cells #[] 2)).drew).ownsRow t 2 1 (.slice (some ⟨v6.heap.size + 1, 0, none⟩) 0 0) 0 ([] : List Value) := by have h := (World.ownsRow_lit (e := 2) (size := 1) (v6.alloc (.cells #[.int .i64 0, .int .i64 0, .int .i64 0, .int .i64 0, .int .i64 0, .slice none 0 0] 28)) #[] 0 (base := t) (by simp; omega) (by unfold maxLen; omega) rfl).drew; simpa using h
    have c1 : Below t v6 ((v6.alloc (.cells #[] 2)).drew) := below_drewN (b00.alloc tw _) 1
    have c2 : Below t v6 (((v6.alloc (.cells #[] 2)).alloc (.cells #[.int .i64 0, .int .i64 0, .int .i64 0, .int .i64 0, .int .i64 0, .slice none 0 0] 28)).drew) := below_drewN ((b00.alloc tw _).alloc (by simp; omega) _) 1
    have c3 : Below t v6 (((v6.alloc (.cells #[.int .i64 0, .int .i64 0, .int .i64 0, .int .i64 0, .int .i64 0, .slice none 0 0] 28)).alloc (.cells #[] 2)).drew) := below_drewN ((b00.alloc tw _).alloc (by simp; omega) _) 1
    have z2 : BZ (((v6.alloc (.cells #[] 2)).alloc (.cells #[.int .i64 0, .int .i64 0, .int .i64 0, .int .i64 0, .int .i64 0, .slice none 0 0] 28)).drew) (v6.heap.size + 1) := by have h := (BZ.new (v6.alloc (.cells #[] 2))).drew; simpa using h
    have z3 : BZ (((v6.alloc (.cells #[.int .i64 0, .int .i64 0, .int .i64 0, .int .i64 0, .int .i64 0, .slice none 0 0] 28)).alloc (.cells #[] 2)).drew) v6.heap.size := ((BZ.new v6).up _).drew
    have n1 := ir_any hA (show Below v6.heap.size v6 _ by rw [HT.out]; exact c1)
    have n2 := ir_any hA (show Below v6.heap.size v6 _ by rw [HT.out]; exact c2)
    have n3 := ir_any hA (show Below v6.heap.size v6 _ by rw [HT.out]; exact c3)
    have HL := Lib.hid hA.1
    have HM := Lib.hid hB.1
    have hlA : (L.map encI).length = n * 1 := by rw [List.length_map, ← hA.1]; omega
    have hlB : (M.map encI).length = m * 1 := by rw [List.length_map, ← hB.1]; omega
    have HLM : Hid (L.map encI ++ M.map encI = (L ++ M).map encI) := Lib.hid (by rw [List.map_append])
    have HNM := Lib.hid hnm
    clear ht hnm
    have bR : Below v6.heap.size v6 v6 := Below.refl _ _
    have kc0 : ∀ W : World, Below v6.heap.size v6 W → W.cell? ⟨w.heap.size, 0, none⟩ = some (.int .i64 kk) := fun W b => cK b ka0 kal
    have kc1 : ∀ W : World, Below v6.heap.size v6 W → W.cell? ⟨w.heap.size, 1, none⟩ = some (.int .i64 ks) := fun W b => cK b ka1 kal
    have kc2 : ∀ W : World, Below v6.heap.size v6 W → W.cell? ⟨w.heap.size, 2, none⟩ = some (.int .i64 km) := fun W b => cK b ka2 kal
    have kc3 : ∀ W : World, Below v6.heap.size v6 W → W.cell? ⟨w.heap.size, 3, none⟩ = some (.int .i64 ko) := fun W b => cK b ka3 kal
    clear ka0 ka1 ka2 ka3
    go_region_held3 (fun w' => Below v6.heap.size v6 w')
      (repeat' (first | with_reducible assumption | with_reducible refine below_al _ ?_ | with_reducible refine below_dr ?_ | with_reducible refine below_sc _ ?_ () ?_ | (first | omega | (simp; omega))))
      (first
        | (refine step_append_any rfl _ _ 24 rfl t 2 i0 (.int .i64 0) 1 8 Try.underlying24 hi hz0 hz1 hz2 rfl (by decide) v6.heap.size 0 0 [] rfl o1 A n c (L.map encI) rfl hlA n1 (fun u hu => by obtain ⟨x, _, rfl⟩ := List.mem_map.1 hu; rfl) (by have := HNM.out; unfold maxLen; omega) (by have := HNM.out; omega) (by have := HT.out; first | omega | (simp; omega)) n (Nat.zero_add n) ?_; intro g1 cap1 w1 hown1 hgrow1 hat1 hlt1; have b1 := c1.grown hgrow1 (by have := HT.out; first | omega | (simp; omega)) (fun q e => by injection (show some v6.heap.size = some q from e) with e1; have := HT.out; omega); have bV : Below v6.heap.size v6 w1 := (by rw [HT.out]; exact b1); have hs1 := bV.size; have hts : t ≤ w1.heap.size := (by have := bV.size; have := HT.out; omega); rw [List.nil_append] at hown1; have hg1 := (hown1.lt g1 rfl))
        | (refine step_append_any rfl _ _ 24 rfl t 2 i0 (.int .i64 0) 1 8 Try.underlying24 hi hz0 hz1 hz2 rfl (by decide) v6.heap.size 0 0 [] rfl o2 A n c (L.map encI) rfl hlA n2 (fun u hu => by obtain ⟨x, _, rfl⟩ := List.mem_map.1 hu; rfl) (by have := HNM.out; unfold maxLen; omega) (by have := HNM.out; omega) (by have := HT.out; first | omega | (simp; omega)) n (Nat.zero_add n) ?_; intro g1 cap1 w1 hown1 hgrow1 hat1 hlt1; have b1 := c2.grown hgrow1 (by have := HT.out; first | omega | (simp; omega)) (fun q e => by injection (show some v6.heap.size = some q from e) with e1; have := HT.out; omega); have bV : Below v6.heap.size v6 w1 := (by rw [HT.out]; exact b1); have hs1 := bV.size; have hts : t ≤ w1.heap.size := (by have := bV.size; have := HT.out; omega); rw [List.nil_append] at hown1; have hg1 := (hown1.lt g1 rfl); have nz_ : v6.heap.size + 1 ≠ g1 := (by rcases hat1 with e | e; (omega); (simp at e; omega)); have bz := BZ.grown z2 hgrow1 (by omega))
        | (refine step_append_any rfl _ _ 24 rfl t 2 i0 (.int .i64 0) 1 8 Try.underlying24 hi hz0 hz1 hz2 rfl (by decide) (v6.heap.size + 1) 0 0 [] rfl o3 A n c (L.map encI) rfl hlA n3 (fun u hu => by obtain ⟨x, _, rfl⟩ := List.mem_map.1 hu; rfl) (by have := HNM.out; unfold maxLen; omega) (by have := HNM.out; omega) (by have := HT.out; first | omega | (simp; omega)) n (Nat.zero_add n) ?_; intro g1 cap1 w1 hown1 hgrow1 hat1 hlt1; have b1 := c3.grown hgrow1 (by have := HT.out; first | omega | (simp; omega)) (fun q e => by injection (show some (v6.heap.size + 1) = some q from e) with e1; have := HT.out; omega); have bV : Below v6.heap.size v6 w1 := (by rw [HT.out]; exact b1); have hs1 := bV.size; have hts : t ≤ w1.heap.size := (by have := bV.size; have := HT.out; omega); rw [List.nil_append] at hown1; have hg1 := (hown1.lt g1 rfl); have nz_ : v6.heap.size ≠ g1 := (by rcases hat1 with e | e; (omega); (simp at e; omega)); have bz := BZ.grown z3 hgrow1 (by omega))
        | (refine step_append_any rfl _ _ 24 rfl t 2 i0 (.int .i64 0) 1 8 Try.underlying24 hi hz0 hz1 hz2 rfl (by decide) g1 n cap1 (L.map encI) rfl hown1 B m d (M.map encI) rfl hlB (ir_any hB bV) (fun u hu => by obtain ⟨x, _, rfl⟩ := List.mem_map.1 hu; rfl) (by have := HNM.out; unfold maxLen; omega) (by have := HNM.out; omega) hts (n + m) rfl ?_; intro g2 cap2 w2 hown2 hgrow2 hat2 hlt2; have b2 := b1.grown hgrow2 hts (fun q e => by injection (show some g1 = some q from e) with e1; omega); have bV2 : Below v6.heap.size v6 w2 := (by rw [HT.out]; exact b2); have hs2 := bV2.size; have hts2 : t ≤ w2.heap.size := (by have := bV2.size; have := HT.out; omega); rw [HLM.out] at hown2; have hI2 := IR.of_own hown2; (try replace bz := BZ.grown bz hgrow2 nz_))
        | (refine step_append_any rfl _ _ 24 rfl t 2 i0 (.int .i64 0) 1 8 Try.underlying24 hi hz0 hz1 hz2 rfl (by decide) g1 n cap1 (L.map encI) rfl (hown1.alloc _) B m d (M.map encI) rfl hlB (ir_any hB (bV.alloc bV.size _)) (fun u hu => by obtain ⟨x, _, rfl⟩ := List.mem_map.1 hu; rfl) (by have := HNM.out; unfold maxLen; omega) (by have := HNM.out; omega) (by simp; omega) (n + m) rfl ?_; intro g2 cap2 w2 hown2 hgrow2 hat2 hlt2; have b2 := (b1.alloc hts _).grown hgrow2 (by simp; omega) (fun q e => by injection (show some g1 = some q from e) with e1; omega); have bV2 : Below v6.heap.size v6 w2 := (by rw [HT.out]; exact b2); have hs2 := bV2.size; have hts2 : t ≤ w2.heap.size := (by have := bV2.size; have := HT.out; omega); rw [HLM.out] at hown2; have hI2 := IR.of_own hown2; have bz := BZ.grown (BZ.new w1) hgrow2 (by omega))
        | (go_at_call 7; have hO2 := O2 (W := w2) hI2; (with_reducible refine hO2.mono ?_); clear hO2; rintro e y1 ⟨Az, nz, cz, rfl, hz, q⟩; have qq := (bV2).trans (q.mono (bV2).size); (try (have bzl := BZ.lt bz; replace bz := bz.on q; obtain ⟨⟨bo_0, bo_1, bo_2, bo_3, bo_4, bo_5⟩, fo_0, fo_1, fo_2, fo_3, fo_4, fo_5⟩ := BZ.cells bz; have ol := BZ.lt bz)); clear q)
        | (go_at_call 7; have hO2 := O2 (W := (w2.alloc (.cells #[.int .i64 0, .int .i64 0, .int .i64 0, .int .i64 0, .int .i64 0, .slice none 0 0] 28))) (hI2.on (one_up _ _)); (with_reducible refine hO2.mono ?_); clear hO2; rintro e y1 ⟨Az, nz, cz, rfl, hz, q⟩; have qq := (bV2.alloc bV2.size _).trans (q.mono (bV2.alloc bV2.size _).size); have bzl : w2.heap.size < (w2.alloc (.cells #[.int .i64 0, .int .i64 0, .int .i64 0, .int .i64 0, .int .i64 0, .slice none 0 0] 28)).heap.size := (by simp); have bz := (BZ.new w2).on q; obtain ⟨⟨bo_0, bo_1, bo_2, bo_3, bo_4, bo_5⟩, fo_0, fo_1, fo_2, fo_3, fo_4, fo_5⟩ := BZ.cells bz; have ol := BZ.lt bz; clear q))
    all_goals (go_wp2_with fail; go_meet)
    all_goals refine ⟨_, Az, nz, cz, rfl, rfl, ?_, ?_⟩
    all_goals first
      | with_reducible exact loneTA qq _
      | with_reducible exact loneTB bz qq (by have := HT.out; first | omega | (simp; omega))
      | with_reducible exact (hz.alloc _).low (by have := HT.out; first | omega | (simp; done) | (simp; omega))
      | with_reducible exact (hz.putT (Or.inl (by have := HT.out; first | omega | (simp; done) | (simp; omega))) _ _ _ _ _ _).low (by have := HT.out; first | omega | (simp; done) | (simp; omega))
  case rest =>
    obtain ⟨gz, Az, nz, cz, rfl, rfl, hz, ⟨bz_0, bz_1, bz_2, bz_3, bz_4, bz_5⟩, b, bz_ge⟩ := hcut
    have bz_l := cell_lt bz_0
    simp only at bz_l
    have bz_qka : w.heap.size < gz := Nat.lt_of_lt_of_le kal bz_ge
    have bz_qbx : w3.heap.size < gz := Nat.lt_of_lt_of_le bxl bz_ge
    have bz_qby_ : w5.heap.size < gz := Nat.lt_of_lt_of_le by_l bz_ge
    replace hA := hA.on b
    replace hB := hB.on b
    replace hx := hx.on b
    replace hy := hy.on b
    replace bxr0 := fK b bxr0 bxl
    replace bxr1 := fK b bxr1 bxl
    replace bxr2 := fK b bxr2 bxl
    replace bxr3 := fK b bxr3 bxl
    replace bxr4 := fK b bxr4 bxl
    replace bxr5 := fK b bxr5 bxl
    replace ka0 := cK b ka0 kal
    replace ka1 := cK b ka1 kal
    replace ka2 := cK b ka2 kal
    replace ka3 := cK b ka3 kal
    replace kal := lK b kal
    replace bx0 := cK b bx0 bxl
    replace bx1 := cK b bx1 bxl
    replace bx2 := cK b bx2 bxl
    replace bx3 := cK b bx3 bxl
    replace bx4 := cK b bx4 bxl
    replace bx5 := cK b bx5 bxl
    replace bxl := lK b bxl
    replace by_0 := cK b by_0 by_l
    replace by_1 := cK b by_1 by_l
    replace by_2 := cK b by_2 by_l
    replace by_3 := cK b by_3 by_l
    replace by_4 := cK b by_4 by_l
    replace by_5 := cK b by_5 by_l
    replace by_l := lK b by_l
    replace cc := bK cc b
    clear b
    go_upto_region 8 with fail
    have HZG : Hid (w3.heap.size < gz) := Lib.hid (Nat.lt_of_lt_of_le HG6.out bz_ge)
    have HWX : Hid (w.heap.size ≤ w3.heap.size) := Lib.hid (by omega)
    have gxy : w3.heap.size < w5.heap.size := by omega
    go_cut [87] (fun u_ wx => ∃ (p : Option Addr) (cp : Nat), (wx.cell? ⟨w3.heap.size, 0, none⟩ = some (.int .i64 kk) ∧ wx.cell? ⟨w3.heap.size, 1, none⟩ = some (.int .i64 ks) ∧ wx.cell? ⟨w3.heap.size, 2, none⟩ = some (.int .i64 km) ∧ wx.cell? ⟨w3.heap.size, 3, none⟩ = some (.int .i64 ko) ∧ wx.cell? ⟨w3.heap.size, 4, none⟩ = some (.int .i64 (n : Int)) ∧ wx.cell? ⟨w3.heap.size, 5, none⟩ = some (.slice p (nx + ny) cp) ∧ wx.frozen? ⟨w3.heap.size, 4, none⟩ = false ∧ wx.cell? ⟨w5.heap.size, 4, none⟩ = some (.int .i64 (m : Int)) ∧ wx.cell? ⟨gz, 0, none⟩ = some (.int .i64 kk) ∧ wx.cell? ⟨gz, 1, none⟩ = some (.int .i64 ks) ∧ wx.cell? ⟨gz, 2, none⟩ = some (.int .i64 km) ∧ wx.cell? ⟨gz, 3, none⟩ = some (.int .i64 ko) ∧ wx.cell? ⟨gz, 4, none⟩ = some (.int .i64 ((n : Int) + (m : Int))) ∧ wx.cell? ⟨gz, 5, none⟩ = some (.slice Az nz cz)) ∧ KF 0 (some (w3.heap.size)) wx p (nx + ny) cp (D ++ E) ∧ KF (w3.heap.size + 1) none wx Az nz cz (D ++ E) ∧ Below w.heap.size w wx)
    case first =>
      obtain ⟨i0, hi, hz0, hz1, hz2⟩ := info_parts infoK
      obtain ⟨t, ht⟩ : ∃ t, wc.heap.size = t := ⟨_, rfl⟩
      have HT := Lib.hid ht
      have tw : t ≤ wc.heap.size := by omega
      have b00 : Below t wc wc := Below.refl t wc
      have nxl : nx ≤ 24 := by have := hx.1; have := HDl.out; omega
      have nyl : ny ≤ 24 := by have := hy.1; have := HEl.out; omega
      have hDx := hx.1.symm
      have zlow := hz.low (show w3.heap.size + 1 ≤ _ from HG6.out)
      obtain ⟨xs, lx, ox, vx, ax⟩ := kf_vals hx
      obtain ⟨ys, ly, oy, vy_, ay⟩ := kf_vals hy
      have vy := vy_.near HGX.out
      clear vy_
      have o1 : ((wc.alloc (.cells #[] 34)).drew).ownsRow t 34 4 (.slice (some ⟨wc.heap.size, 0, none⟩) 0 0) 0 ([] : List Value) := (World.ownsRow_lit wc #[] 0 tw (by unfold maxLen; omega) rfl).drew
      have c1 : Below t wc ((wc.alloc (.cells #[] 34)).drew) := below_drewN (b00.alloc tw _) 1
      have bc1 : Below wc.heap.size wc ((wc.alloc (.cells #[] 34)).drew) := by rw [HT.out]; exact c1
      have n1 := ax bc1
      have y5d : (wc.drew).cell? ⟨w5.heap.size, 5, none⟩ = some (.slice Ay ny cy) := by_5
      have y5a := cK bc1 by_5 by_l
      have x5a := cK bc1 bx5 bxl
      have xne : w5.heap.size ≠ w3.heap.size := by have := by_qbx; omega
      have xlt : w3.heap.size < t := by rw [← HT.out]; exact bxl
      have HK := Lib.hid (show wc.cell? ⟨w3.heap.size, 0, none⟩ = some (.int .i64 kk) ∧ wc.cell? ⟨w3.heap.size, 1, none⟩ = some (.int .i64 ks) ∧ wc.cell? ⟨w3.heap.size, 2, none⟩ = some (.int .i64 km) ∧ wc.cell? ⟨w3.heap.size, 3, none⟩ = some (.int .i64 ko) ∧ wc.cell? ⟨w3.heap.size, 4, none⟩ = some (.int .i64 (n : Int)) ∧ wc.frozen? ⟨w3.heap.size, 4, none⟩ = false ∧ wc.cell? ⟨w5.heap.size, 4, none⟩ = some (.int .i64 (m : Int)) ∧ wc.cell? ⟨gz, 0, none⟩ = some (.int .i64 kk) ∧ wc.cell? ⟨gz, 1, none⟩ = some (.int .i64 ks) ∧ wc.cell? ⟨gz, 2, none⟩ = some (.int .i64 km) ∧ wc.cell? ⟨gz, 3, none⟩ = some (.int .i64 ko) ∧ wc.cell? ⟨gz, 4, none⟩ = some (.int .i64 ((n : Int) + (m : Int))) ∧ wc.cell? ⟨gz, 5, none⟩ = some (.slice Az nz cz) from ⟨bx0, bx1, bx2, bx3, bx4, bxr4, by_4, bz_0, bz_1, bz_2, bz_3, bz_4, bz_5⟩)
      have HCC := Lib.hid cc
      have HYL := Lib.hid by_l
      have HZL := Lib.hid bz_l
      have HXB := Lib.hid bxl
      have hEy := hy.1.symm
      clear ht
      go_region_law (first | (refine step_append_any rfl _ _ 26 rfl t 34 i0 _ 4 64 Try.underlying26 hi hz0 hz1 hz2 rfl (by decide) wc.heap.size 0 0 [] rfl o1 Ax nx cx xs rfl lx n1 ox (by unfold maxLen; omega) (by omega) (by have := HT.out; first | omega | (simp; omega)) nx (Nat.zero_add nx) ?_; intro g1 cap1 w1 hown1 hgrow1 hat1 hlt1; have b1 := c1.grown hgrow1 (by have := HT.out; first | omega | (simp; omega)) (fun q e => by injection (show some wc.heap.size = some q from e) with e1; have := HT.out; omega); have bV : Below wc.heap.size wc w1 := (by rw [HT.out]; exact b1); have hts : t ≤ w1.heap.size := (by have := bV.size; have := HT.out; omega); rw [List.nil_append] at hown1; have hg1 := (hown1.lt g1 rfl); have y51 := (bV.cell (p := ⟨w5.heap.size, 5, none⟩) HYL.out).trans by_5; have a1 := ay bV) | (refine step_append_any rfl _ _ 26 rfl t 34 i0 _ 4 64 Try.underlying26 hi hz0 hz1 hz2 rfl (by decide) g1 nx cap1 xs rfl hown1 Ay ny cy ys rfl ly a1 oy (by unfold maxLen; omega) (by omega) hts (nx + ny) rfl ?_; intro g2 cap2 w2 hown2 hgrow2 hat2 hlt2; have b2 := b1.grown hgrow2 hts (fun q e => by injection (show some g1 = some q from e) with e1; omega); have bV2 : Below wc.heap.size wc w2 := (by rw [HT.out]; exact b2); have y52 := (bV2.cell (p := ⟨w5.heap.size, 5, none⟩) HYL.out).trans by_5; have x52 := (bV2.cell (p := ⟨w3.heap.size, 5, none⟩) HXB.out).trans bx5; have f52 := (bV2.frozen (p := ⟨w3.heap.size, 5, none⟩) HXB.out).trans bxr5; have y53 : (w2.setCell ⟨w3.heap.size, 5, none⟩ (.slice (some ⟨g2, 0, none⟩) (nx + ny) cap2)).cell? ⟨w5.heap.size, 5, none⟩ = some (.slice Ay ny cy) := (by rw [World.cell?_setCell_other (h := addr_ne' (Ne.symm xne))]; exact y52)))
      all_goals (go_wp2_with fail; go_meet)
      all_goals
        obtain ⟨k0_, k1_, k2_, k3_, k4_, kf_, ky_, kz0_, kz1_, kz2_, kz3_, kz4_, kz5_⟩ := HK.out
        have hgz := HZG.out
        have fr4 := (bV2.frozen (p := ⟨w3.heap.size, 4, none⟩) HXB.out).trans kf_
        have C5 : (w2.setCell ⟨w3.heap.size, 5, none⟩ (.slice (some ⟨g2, 0, none⟩) (nx + ny) cap2)).cell? ⟨w3.heap.size, 5, none⟩ = some (.slice (some ⟨g2, 0, none⟩) (nx + ny) cap2) := by simp [go_sem, x52]
        have F4 : (w2.setCell ⟨w3.heap.size, 5, none⟩ (.slice (some ⟨g2, 0, none⟩) (nx + ny) cap2)).frozen? ⟨w3.heap.size, 4, none⟩ = false := by simpa [go_sem] using fr4
        exact ⟨_, _, ⟨(World.cell?_setCell_other _ _ _ _ (fun e => by injection e with e1 e2; omega)).trans ((bV2.cell (p := ⟨w3.heap.size, 0, none⟩) HXB.out).trans k0_), (World.cell?_setCell_other _ _ _ _ (fun e => by injection e with e1 e2; omega)).trans ((bV2.cell (p := ⟨w3.heap.size, 1, none⟩) HXB.out).trans k1_), (World.cell?_setCell_other _ _ _ _ (fun e => by injection e with e1 e2; omega)).trans ((bV2.cell (p := ⟨w3.heap.size, 2, none⟩) HXB.out).trans k2_), (World.cell?_setCell_other _ _ _ _ (fun e => by injection e with e1 e2; omega)).trans ((bV2.cell (p := ⟨w3.heap.size, 3, none⟩) HXB.out).trans k3_), (World.cell?_setCell_other _ _ _ _ (fun e => by injection e with e1 e2; omega)).trans ((bV2.cell (p := ⟨w3.heap.size, 4, none⟩) HXB.out).trans k4_), C5, F4, (World.cell?_setCell_other _ _ _ _ (fun e => by injection e with e1 e2; omega)).trans ((bV2.cell (p := ⟨w5.heap.size, 4, none⟩) HYL.out).trans ky_), (World.cell?_setCell_other _ _ _ _ (fun e => by injection e with e1 e2; omega)).trans ((bV2.cell (p := ⟨gz, 0, none⟩) HZL.out).trans kz0_), (World.cell?_setCell_other _ _ _ _ (fun e => by injection e with e1 e2; omega)).trans ((bV2.cell (p := ⟨gz, 1, none⟩) HZL.out).trans kz1_), (World.cell?_setCell_other _ _ _ _ (fun e => by injection e with e1 e2; omega)).trans ((bV2.cell (p := ⟨gz, 2, none⟩) HZL.out).trans kz2_), (World.cell?_setCell_other _ _ _ _ (fun e => by injection e with e1 e2; omega)).trans ((bV2.cell (p := ⟨gz, 3, none⟩) HZL.out).trans kz3_), (World.cell?_setCell_other _ _ _ _ (fun e => by injection e with e1 e2; omega)).trans ((bV2.cell (p := ⟨gz, 4, none⟩) HZL.out).trans kz4_), (World.cell?_setCell_other _ _ _ _ (fun e => by injection e with e1 e2; omega)).trans ((bV2.cell (p := ⟨gz, 5, none⟩) HZL.out).trans kz5_)⟩, kf_join vx vy lx hDx hEy ox oy bV2 hown2 xlt _, (zlow.on bV2).set (Or.inl (by omega)), (HCC.out.trans (bV2.mono HCC.out.size)).setCell (p := ⟨w3.heap.size, 5, none⟩) HWX.out _⟩
    case rest =>
      clear hx hy hz cc bxl by_l bz_l bx0 bx1 bx2 bx3 bx4 bx5 by_0 by_1 by_2 by_3 by_4 by_5 bz_0 bz_1 bz_2 bz_3 bz_4 bz_5 bxr0 bxr1 bxr2 bxr3 bxr4 bxr5
      obtain ⟨p, cp, ⟨bx0, bx1, bx2, bx3, bx4, bx5, bxr4, by_4, bz_0, bz_1, bz_2, bz_3, bz_4, bz_5⟩, hx, hz, cc⟩ := hcut
      have bxl := cell_lt bx0
      have bz_l := cell_lt bz_0
      simp only at bxl bz_l
      have CS : ∀ {W : World} {A B : Option Addr} {a b c d : Nat}, KF 0 (some (w3.heap.size)) W A a c (D ++ E) → KF (w3.heap.size + 1) none W B b d (D ++ E) → Calls Try.prog 11 #[.agg #[.int .i64 kk, .int .i64 ks, .int .i64 km, .int .i64 ko, .int .i64 ((n : Int) + (m : Int)), .slice A a c], .agg #[.int .i64 kk, .int .i64 ks, .int .i64 km, .int .i64 ko, .int .i64 ((n : Int) + (m : Int)), .slice B b d]] W (GotV W (.bool true)) := fun h1 h2 => by have e := rSame14_N (kk := kk) (ks := ks) (km := km) (ko := ko) (lg := ((n : Int) + (m : Int))) (kk' := kk) (ks' := ks) (km' := km) (ko' := ko) (lg' := ((n : Int) + (m : Int))) h1.kr h2.kr (by have h5 := h1.1; rw [List.length_append] at h5; have := HDl.out; have := HEl.out; omega); rw [decide_eq_true ⟨⟨rfl, rfl, rfl, rfl⟩, rfl, rfl⟩] at e; exact e
      go_wp2_with fail
      replace hx := hx.set (g := w3.heap.size) (o := 4) (u := .int .i64 ((n : Int) + (m : Int))) (Or.inr rfl)
      replace hz := hz.set (g := w3.heap.size) (o := 4) (u := .int .i64 ((n : Int) + (m : Int))) (Or.inl (by omega))
      replace cc := cc.setCell (p := ⟨w3.heap.size, 4, none⟩) HWX.out (.int .i64 ((n : Int) + (m : Int)))
      have hgz := HZG.out
      replace bx0 : (wc.setCell ⟨w3.heap.size, 4, none⟩ (.int .i64 ((n : Int) + (m : Int)))).cell? ⟨w3.heap.size, 0, none⟩ = some (.int .i64 kk) := (World.cell?_setCell_other _ _ _ _ (fun e => by injection e with e1 e2; omega)).trans bx0
      replace bx1 : (wc.setCell ⟨w3.heap.size, 4, none⟩ (.int .i64 ((n : Int) + (m : Int)))).cell? ⟨w3.heap.size, 1, none⟩ = some (.int .i64 ks) := (World.cell?_setCell_other _ _ _ _ (fun e => by injection e with e1 e2; omega)).trans bx1
      replace bx2 : (wc.setCell ⟨w3.heap.size, 4, none⟩ (.int .i64 ((n : Int) + (m : Int)))).cell? ⟨w3.heap.size, 2, none⟩ = some (.int .i64 km) := (World.cell?_setCell_other _ _ _ _ (fun e => by injection e with e1 e2; omega)).trans bx2
      replace bx3 : (wc.setCell ⟨w3.heap.size, 4, none⟩ (.int .i64 ((n : Int) + (m : Int)))).cell? ⟨w3.heap.size, 3, none⟩ = some (.int .i64 ko) := (World.cell?_setCell_other _ _ _ _ (fun e => by injection e with e1 e2; omega)).trans bx3
      replace bx4 : (wc.setCell ⟨w3.heap.size, 4, none⟩ (.int .i64 ((n : Int) + (m : Int)))).cell? ⟨w3.heap.size, 4, none⟩ = some (.int .i64 ((n : Int) + (m : Int))) := by simp [go_sem, bx4]
      replace bx5 : (wc.setCell ⟨w3.heap.size, 4, none⟩ (.int .i64 ((n : Int) + (m : Int)))).cell? ⟨w3.heap.size, 5, none⟩ = some (.slice p (nx + ny) cp) := (World.cell?_setCell_other _ _ _ _ (fun e => by injection e with e1 e2; omega)).trans bx5
      replace bz_0 : (wc.setCell ⟨w3.heap.size, 4, none⟩ (.int .i64 ((n : Int) + (m : Int)))).cell? ⟨gz, 0, none⟩ = some (.int .i64 kk) := (World.cell?_setCell_other _ _ _ _ (fun e => by injection e with e1 e2; omega)).trans bz_0
      replace bz_1 : (wc.setCell ⟨w3.heap.size, 4, none⟩ (.int .i64 ((n : Int) + (m : Int)))).cell? ⟨gz, 1, none⟩ = some (.int .i64 ks) := (World.cell?_setCell_other _ _ _ _ (fun e => by injection e with e1 e2; omega)).trans bz_1
      replace bz_2 : (wc.setCell ⟨w3.heap.size, 4, none⟩ (.int .i64 ((n : Int) + (m : Int)))).cell? ⟨gz, 2, none⟩ = some (.int .i64 km) := (World.cell?_setCell_other _ _ _ _ (fun e => by injection e with e1 e2; omega)).trans bz_2
      replace bz_3 : (wc.setCell ⟨w3.heap.size, 4, none⟩ (.int .i64 ((n : Int) + (m : Int)))).cell? ⟨gz, 3, none⟩ = some (.int .i64 ko) := (World.cell?_setCell_other _ _ _ _ (fun e => by injection e with e1 e2; omega)).trans bz_3
      replace bz_4 : (wc.setCell ⟨w3.heap.size, 4, none⟩ (.int .i64 ((n : Int) + (m : Int)))).cell? ⟨gz, 4, none⟩ = some (.int .i64 ((n : Int) + (m : Int))) := (World.cell?_setCell_other _ _ _ _ (fun e => by injection e with e1 e2; omega)).trans bz_4
      replace bz_5 : (wc.setCell ⟨w3.heap.size, 4, none⟩ (.int .i64 ((n : Int) + (m : Int)))).cell? ⟨gz, 5, none⟩ = some (.slice Az nz cz) := (World.cell?_setCell_other _ _ _ _ (fun e => by injection e with e1 e2; omega)).trans bz_5
      replace bxl : w3.heap.size < (wc.setCell ⟨w3.heap.size, 4, none⟩ (.int .i64 ((n : Int) + (m : Int)))).heap.size := by simpa using bxl
      replace bz_l : gz < (wc.setCell ⟨w3.heap.size, 4, none⟩ (.int .i64 ((n : Int) + (m : Int)))).heap.size := by simpa using bz_l
      clear bxr4 by_4 hgz
      generalize wc.setCell ⟨w3.heap.size, 4, none⟩ (.int .i64 ((n : Int) + (m : Int))) = w9_ at *
      refine (alive14_any _).mono ?_
      rintro e w7 ⟨rfl, b⟩
      replace hx := hx.on b
      replace hz := hz.on b
      replace bx0 := cK b bx0 bxl
      replace bx1 := cK b bx1 bxl
      replace bx2 := cK b bx2 bxl
      replace bx3 := cK b bx3 bxl
      replace bx4 := cK b bx4 bxl
      replace bx5 := cK b bx5 bxl
      replace bxl := lK b bxl
      replace bz_0 := cK b bz_0 bz_l
      replace bz_1 := cK b bz_1 bz_l
      replace bz_2 := cK b bz_2 bz_l
      replace bz_3 := cK b bz_3 bz_l
      replace bz_4 := cK b bz_4 bz_l
      replace bz_5 := cK b bz_5 bz_l
      replace bz_l := lK b bz_l
      replace cc := bK cc b
      clear b
      go_wp2_with fail
      refine (CS hx hz).mono ?_
      rintro e w8 ⟨rfl, b⟩
      replace hx := hx.on b
      replace hz := hz.on b
      replace bx0 := cK b bx0 bxl
      replace bx1 := cK b bx1 bxl
      replace bx2 := cK b bx2 bxl
      replace bx3 := cK b bx3 bxl
      replace bx4 := cK b bx4 bxl
      replace bx5 := cK b bx5 bxl
      replace bxl := lK b bxl
      replace bz_0 := cK b bz_0 bz_l
      replace bz_1 := cK b bz_1 bz_l
      replace bz_2 := cK b bz_2 bz_l
      replace bz_3 := cK b bz_3 bz_l
      replace bz_4 := cK b bz_4 bz_l
      replace bz_5 := cK b bz_5 bz_l
      replace bz_l := lK b bz_l
      replace cc := bK cc b
      clear b
      go_wp2_with fail
      go_ret
      exact ⟨rfl, cc⟩

end Go.Proofs.Ytpidpebgeblenaa
