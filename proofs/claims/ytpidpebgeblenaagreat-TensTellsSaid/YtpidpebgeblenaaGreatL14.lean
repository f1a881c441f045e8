/-
  What the laws of tens lean on: alive.
-/
import Derived.Test.YtpidpebgeblenaaGreatA17
import Derived.Test.YtpidpebgeblenaaGreatA3
namespace Go.Proofs.YtpidpebgeblenaaGreat
set_option maxRecDepth 100000
open Go.RowKit
set_option linter.unusedVariables false
set_option linter.unusedSimpArgs false

instance (z : Int) : Decidable (I64 z) := by unfold I64; infer_instance
instance (km ko lg g : Int) : Decidable (Wd km ko lg g) := by unfold Wd; infer_instance
instance (kk ks km ko : Int) : Decidable (OkK kk ks km ko) := by unfold OkK; infer_instance
instance (kk km ko lg : Int) (s : Nat) (L : List Int) (i : Nat) : Decidable (OkO kk km ko lg s L i) := by unfold OkO; infer_instance
instance (kk ks km ko : Int) (L : List Int) : Decidable (OkT kk ks km ko L) := by unfold OkT; infer_instance
theorem ir_lit14 (w : World) (l : List Int) (T : TypeId) (h : 0 < l.length) : IR (w.alloc (.cells ((l.map encI).toArray) T)) (some ⟨w.heap.size, 0, none⟩) l.length l.length l :=
  ⟨rfl, Nat.le_refl _, fun _ => ⟨w.heap.size, 0, rfl, by simp, fun j hj => by rw [Nat.zero_add, World.cell?_alloc_new]; simp [encI, List.getElem?_eq_getElem hj]⟩⟩
def a5 : List Int := [255, -255, 0, 0, 3]
theorem a5_i64 : ∀ x ∈ a5, I64 x := by intro x hx; unfold a5 at hx; simp at hx; unfold I64; omega
theorem a5_ok : OkT 2 2 0 0 a5 := by decide +kernel
theorem a5_no : ¬ OkT 0 0 0 0 [] := fun h => by have := h.1.2.1; omega
theorem a5_len : (ofT 2 2 0 0 a5).length = 3 := by rw [ofT_len]; rfl
theorem near10_low : near10 2 (-1) 1 = 0 := near10_own (.inr (.inr (.inl rfl))) (by omega) (by omega) (by decide +kernel)
theorem a5_ld : (ldS (ofT 2 2 0 0 a5) 3).length = 5 ∧ (ldS (ofT 2 2 0 0 a5) 3)[1]?.getD 0 = -255 := by
  have h1 := ldS_len_of (kk := 2) (km := 0) (ko := 0) (lg := (a5.length : Int)) (s := 2) (L := a5) (by omega) (by omega) a5_ok.2
  have h2 := ldS_at_of (kk := 2) (km := 0) (ko := 0) (lg := (a5.length : Int)) (s := 2) (L := a5) (by omega) (by omega) a5_ok.2 (j := 1) (by decide)
  refine ⟨h1, h2.trans ?_⟩
  have hk : kdB 2 0 0 (a5.length : Int) (cutL 2 a5 (1 / 2)) = 2 := by decide +kernel
  have hg : gr (cutL 2 a5 (1 / 2)) = 255 := by decide +kernel
  have hc : cutL 2 a5 (1 / 2) = [255, -255] := by decide +kernel
  unfold ldX ofB ldB
  simp only
  rw [hk, if_neg (by omega)]
  unfold pkC pkS
  rw [if_neg (by omega), if_neg (by omega), hg, hc]
  show ld 2 255 (pk 2 255 (-255)) = -255
  rw [pk_low (by omega), near10_low]
  unfold ld
  have e : (255 : Int) * num10 2 0 = -255 * ((den9 2).natAbs : Int) := by decide +kernel
  rw [e]
  exact rn_self _ (by decide +kernel)
theorem a5_cost : fc (ofT 2 2 0 0 a5) 3 = 29 := by
  have h1 := cstS_of (kk := 2) (km := 0) (ko := 0) (lg := (a5.length : Int)) (s := 2) (L := a5) (by omega) 3
  have h2 : ∀ j, j < 3 → ¬ Wd 0 0 (a5.length : Int) (gr (cutL 2 a5 j)) := by decide +kernel
  have h3 : nbk (2 : Int).toNat a5.length = 3 := by decide
  have h4 := fc_eq (L := ofT 2 2 0 0 a5) (B := 100) (by omega) 3 (fun j hj => by
    unfold ofT
    have e : (2 : Int).toNat = 2 := rfl
    rw [ofL_at (by rw [h3]; exact hj), e, cst_of (by omega), if_neg (h2 j hj)]
    have := cutL_len 2 a5 j
    omega) (by omega)
  rw [h4.1]
  have h5 := (h1 3 (by omega)).2 h2
  have e : ofT 2 2 0 0 a5 = ofL 2 0 0 (a5.length : Int) 2 a5 3 := by unfold ofT; rw [h3]; rfl
  rw [e, h5]
  rfl

set_option maxHeartbeats 8000000 in
theorem alive14_any (w : World) :
    Calls Tryz.prog 7 #[] w (GotV w (.bool true)) := by
  have I4 : I64 2 ∧ I64 2 ∧ I64 0 ∧ I64 0 := ⟨by decide, by decide, by decide, by decide⟩
  have I5 : I64 2 ∧ I64 2 ∧ I64 0 ∧ I64 0 ∧ I64 5 := ⟨by decide, by decide, by decide, by decide, by decide⟩
  have C1 : ∀ {W : World} {A : Option Addr} {c : Nat}, IR W A 5 c a5 → Calls Tryz.prog 19 #[.agg #[.int .i64 2, .int .i64 2, .int .i64 0, .int .i64 0], .slice A 5 c] W (GotSto W 2 2 0 0 5 (ofT 2 2 0 0 a5)) := fun hh => tnOf_yes I4 hh a5_i64 (by omega) a5_ok
  have C3 : ∀ W : World, Calls Tryz.prog 19 #[.agg #[.int .i64 0, .int .i64 0, .int .i64 0, .int .i64 0], .slice none 0 0] W (GotV W (.tuple #[.agg #[.int .i64 0, .int .i64 0, .int .i64 0, .int .i64 0, .int .i64 0, .slice none 0 0], .int .i64 1])) := fun W => tnOf_no ⟨by decide, by decide, by decide, by decide⟩ (IR.nil W none 0) (fun x hx => by simp at hx) (by omega) a5_no
  obtain ⟨D, hD⟩ : ∃ D, ofT 2 2 0 0 a5 = D := ⟨_, rfl⟩
  obtain ⟨R, hR⟩ : ∃ R, ldS D 3 = R := ⟨_, rfl⟩
  have hRl : R.length = 5 ∧ R[1]?.getD 0 = -255 := by rw [← hR, ← hD]; exact a5_ld
  have hDl : D.length = 3 := by rw [← hD]; exact a5_len
  have C2 : ∀ {W : World} {A : Option Addr} {c : Nat}, KR W A 3 c D → Calls Tryz.prog 17 #[.agg #[.int .i64 2, .int .i64 2, .int .i64 0, .int .i64 0, .int .i64 5, .slice A 3 c]] W (GotI W R) := fun hh => by have h := tnLoad_N (lg := 5) hh (by rw [← hD]; exact okT_right a5_ok (by decide)); rw [hR] at h; exact h
  have C4 : ∀ W : World, Calls Tryz.prog 9 #[.agg #[.int .i64 2, .int .i64 2, .int .i64 0, .int .i64 0]] W (GotV W (.bool true)) := fun W => by have h := tnMay_N W I4; rw [decide_eq_true a5_ok.1] at h; exact h
  have C5 : ∀ {W : World} {A : Option Addr} {c : Nat}, KR W A 3 c D → Calls Tryz.prog 11 #[.agg #[.int .i64 2, .int .i64 2, .int .i64 0, .int .i64 0, .int .i64 5, .slice A 3 c]] W (GotV W (.bool true)) := fun hh => by have h := tnRight_N hh (by omega) I5; rw [decide_eq_true (by rw [← hD]; exact okT_right a5_ok (by decide))] at h; exact h
  have C6 : ∀ {W : World} {A : Option Addr} {c : Nat}, KR W A 3 c D → Calls Tryz.prog 14 #[.agg #[.int .i64 2, .int .i64 2, .int .i64 0, .int .i64 0, .int .i64 5, .slice A 3 c]] W (GotV W (.int .i64 29)) := fun hh => by have h := tnCost_N (kk := 2) (ks := 2) (km := 0) (ko := 0) (lg := 5) hh (by omega); rw [← hD, a5_cost] at h; exact h
  have C7 : ∀ {W : World} {A : Option Addr} {c : Nat}, KR W A 3 c D → Calls Tryz.prog 12 #[.agg #[.int .i64 2, .int .i64 2, .int .i64 0, .int .i64 0, .int .i64 5, .slice A 3 c], .agg #[.int .i64 2, .int .i64 2, .int .i64 0, .int .i64 0, .int .i64 5, .slice A 3 c]] W (GotV W (.bool true)) := fun hh => by have h := tnSame_N (kka := 2) (ksa := 2) (kma := 0) (koa := 0) (lga := 5) (kkb := 2) (ksb := 2) (kmb := 0) (kob := 0) (lgb := 5) hh (by omega) hh (by omega); rw [decide_eq_true ⟨⟨rfl, rfl, rfl, rfl⟩, rfl, rfl⟩] at h; exact h
  simp only [hD] at C1
  clear I4 I5 hD hR
  have HDL := Lib.hid hDl
  have HRL := Lib.hid hRl
  clear hDl hRl
  have cc := Below.refl w.heap.size w
  go_enter Tryz.func7, Tryz.ntmps7
  go_upto_region 2 with fail
  generalize hv_ : w.alloc (.cells #[.int .i64 2, .int .i64 2, .int .i64 0, .int .i64 0] 23) = v1
  have bA : Below w.heap.size w v1 := by rw [← hv_]; exact below_one _ _
  replace cc := bK cc bA
  clear bA
  have k0 : v1.cell? ⟨w.heap.size, 0, none⟩ = some (.int .i64 2) := by simp [← hv_, go_sem]
  have k1 : v1.cell? ⟨w.heap.size, 1, none⟩ = some (.int .i64 2) := by simp [← hv_, go_sem]
  have k2 : v1.cell? ⟨w.heap.size, 2, none⟩ = some (.int .i64 0) := by simp [← hv_, go_sem]
  have k3 : v1.cell? ⟨w.heap.size, 3, none⟩ = some (.int .i64 0) := by simp [← hv_, go_sem]
  have kl : w.heap.size < v1.heap.size := by simp [← hv_]
  clear hv_
  have R1 : IR (v1.alloc (.cells #[.int .i64 (255), .int .i64 (-255), .int .i64 (0), .int .i64 (0), .int .i64 (3)] 2)) (some ⟨v1.heap.size, 0, none⟩) 5 5 a5 := ir_lit14 v1 a5 2 (by decide)
  have C1a := C1 R1
  clear R1
  go_wp2_with fail
  have bA := below_one v1 (.cells #[.int .i64 (255), .int .i64 (-255), .int .i64 (0), .int .i64 (0), .int .i64 (3)] 2)
  rewrite [cR bA kl] at k0 k1 k2 k3
  replace kl := lK bA kl
  replace cc := bK cc bA
  clear bA
  generalize v1.alloc (.cells #[.int .i64 (255), .int .i64 (-255), .int .i64 (0), .int .i64 (0), .int .i64 (3)] 2) = v8 at *
  refine (C1a).mono ?_
  rintro e w2 ⟨As, n_, cs, rfl, hs, b⟩
  rewrite [cR b kl] at k0 k1 k2 k3
  replace kl := lK b kl
  replace cc := bK cc b
  clear b
  obtain rfl : n_ = 3 := hs.1.trans HDL.out
  clear C1a
  go_upto_region 3 with fail
  have sqk : w.heap.size < w2.heap.size := kl
  generalize hv_ : w2.alloc (.cells #[.int .i64 2, .int .i64 2, .int .i64 0, .int .i64 0, .int .i64 5, .slice As 3 cs] 26) = v3
  have bA : Below w2.heap.size w2 v3 := by rw [← hv_]; exact below_one _ _
  replace hs := hs.on bA
  rewrite [cR bA kl] at k0 k1 k2 k3
  replace kl := lK bA kl
  replace cc := bK cc bA
  clear bA
  obtain ⟨s0, s1, s2, s3, s4, s5⟩ : Cs6 v3 w2.heap.size (.int .i64 2) (.int .i64 2) (.int .i64 0) (.int .i64 0) (.int .i64 5) (.slice As 3 cs) := by simp [Cs6, ← hv_, go_sem]
  have sl : w2.heap.size < v3.heap.size := by simp [← hv_]
  clear hv_
  go_wp2_with fail
  refine (C2 hs).mono ?_
  rintro e w4 ⟨Al, nl, cl, rfl, hl, b⟩
  replace hs := hs.on b
  rewrite [cR b kl] at k0 k1 k2 k3
  replace kl := lK b kl
  rewrite [cR b sl] at s0 s1 s2 s3 s4 s5
  replace sl := lK b sl
  replace cc := bK cc b
  clear b
  obtain rfl : nl = 5 := hl.1.trans HRL.out.1
  go_wp2_with fail
  refine (C3 _).mono ?_
  rintro e w5 ⟨rfl, b⟩
  replace hs := hs.on b
  replace hl := hl.on b
  rewrite [cR b kl] at k0 k1 k2 k3
  replace kl := lK b kl
  rewrite [cR b sl] at s0 s1 s2 s3 s4 s5
  replace sl := lK b sl
  replace cc := bK cc b
  clear b
  go_upto_region 5 with fail
  have zqk : w.heap.size < w5.heap.size := kl
  have zqs : w2.heap.size < w5.heap.size := sl
  generalize hv_ : w5.alloc (.cells #[.int .i64 0, .int .i64 0, .int .i64 0, .int .i64 0, .int .i64 0, .slice none 0 0] 26) = v6
  have bA : Below w5.heap.size w5 v6 := by rw [← hv_]; exact below_one _ _
  replace hs := hs.on bA
  replace hl := hl.on bA
  rewrite [cR bA kl] at k0 k1 k2 k3
  replace kl := lK bA kl
  rewrite [cR bA sl] at s0 s1 s2 s3 s4 s5
  replace sl := lK bA sl
  replace cc := bK cc bA
  clear bA
  obtain ⟨z0, z1, z2, z3, z4, z5⟩ : Cs6 v6 w5.heap.size (.int .i64 0) (.int .i64 0) (.int .i64 0) (.int .i64 0) (.int .i64 0) (.slice none 0 0) := by simp [Cs6, ← hv_, go_sem]
  have zl : w5.heap.size < v6.heap.size := by simp [← hv_]
  clear hv_
  obtain ⟨bl, ol_, rfl, hbl, hcl⟩ := hl.2.2 (by omega)
  have l1 := hcl 1 (by omega)
  rw [HRL.out.2] at l1
  clear hcl
  go_wp2_with fail
  refine (C4 _).mono ?_
  rintro e w7 ⟨rfl, b⟩
  replace l1 := cK b l1 hbl
  replace hbl := lK b hbl
  replace hs := hs.on b
  rewrite [cR b kl] at k0 k1 k2 k3
  replace kl := lK b kl
  rewrite [cR b sl] at s0 s1 s2 s3 s4 s5
  replace sl := lK b sl
  rewrite [cR b zl] at z0 z1 z2 z3 z4 z5
  replace zl := lK b zl
  replace cc := bK cc b
  clear b
  go_wp2_with fail
  refine (C5 hs).mono ?_
  rintro e w8 ⟨rfl, b⟩
  replace l1 := cK b l1 hbl
  replace hbl := lK b hbl
  replace hs := hs.on b
  rewrite [cR b kl] at k0 k1 k2 k3
  replace kl := lK b kl
  rewrite [cR b sl] at s0 s1 s2 s3 s4 s5
  replace sl := lK b sl
  rewrite [cR b zl] at z0 z1 z2 z3 z4 z5
  replace zl := lK b zl
  replace cc := bK cc b
  clear b
  go_wp2_with fail
  refine (C6 hs).mono ?_
  rintro e w9 ⟨rfl, b⟩
  replace l1 := cK b l1 hbl
  replace hbl := lK b hbl
  replace hs := hs.on b
  rewrite [cR b kl] at k0 k1 k2 k3
  replace kl := lK b kl
  rewrite [cR b sl] at s0 s1 s2 s3 s4 s5
  replace sl := lK b sl
  rewrite [cR b zl] at z0 z1 z2 z3 z4 z5
  replace zl := lK b zl
  replace cc := bK cc b
  clear b
  go_wp2_with fail
  refine (C7 hs).mono ?_
  rintro e w10 ⟨rfl, b⟩
  replace l1 := cK b l1 hbl
  replace hbl := lK b hbl
  replace hs := hs.on b
  rewrite [cR b kl] at k0 k1 k2 k3
  replace kl := lK b kl
  rewrite [cR b sl] at s0 s1 s2 s3 s4 s5
  replace sl := lK b sl
  rewrite [cR b zl] at z0 z1 z2 z3 z4 z5
  replace zl := lK b zl
  replace cc := bK cc b
  clear b
  go_wp2_with fail
  go_ret
  exact ⟨rfl, cc⟩

end Go.Proofs.YtpidpebgeblenaaGreat
