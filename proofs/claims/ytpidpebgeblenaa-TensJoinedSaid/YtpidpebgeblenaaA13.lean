/-
  Several texts in one: L14, WTells14, WKeeps14, WRight14, WCost14.
-/
import Derived.Test.YtpidpebgeblenaaA12
import Derived.Test.YtpidpebgeblenaaA3

/-
  What the laws of tens lean on: alive.
-/
namespace Go.Proofs.Ytpidpebgeblenaa
set_option maxRecDepth 100000
open Go.RowKit
set_option linter.unusedVariables false
set_option linter.unusedSimpArgs false

instance (z : Int) : Decidable (I64 z) := by unfold I64; infer_instance
instance (km ko lg g : Int) : Decidable (Wd km ko lg g) := by unfold Wd; infer_instance
instance (kk ks km ko : Int) : Decidable (OkK kk ks km ko) := by unfold OkK; infer_instance
instance (kk km ko lg : Int) (s : Nat) (L : List Int) (i : Nat) : Decidable (OkO kk km ko lg s L i) := by unfold OkO; infer_instance
instance (kk ks km ko : Int) (L : List Int) : Decidable (OkT kk ks km ko L) := by unfold OkT; infer_instance
theorem ir_lit14 (w : World) (l : List Int) (T : TypeId) (h : 0 < l.length) : IR (w.alloc (.cells ((l.map encI).toArray) T)) (some ⟨w.heap.size, 0, none⟩) l.length l.length l :=
  ⟨rfl, Nat.le_refl _, fun _ => ⟨w.heap.size, 0, rfl, by simp, fun j hj => by rw [Nat.zero_add, World.cell?_alloc_new]; simp [encI, List.getElem?_eq_getElem hj]⟩⟩
def a5 : List Int := [255, -255, 0, 0, 3]
theorem a5_i64 : ∀ x ∈ a5, I64 x := by intro x hx; unfold a5 at hx; simp at hx; unfold I64; omega
theorem a5_ok : OkT 2 2 0 0 a5 := by decide +kernel
theorem a5_no : ¬ OkT 0 0 0 0 [] := fun h => by have := h.1.2.1; omega
theorem a5_len : (ofT 2 2 0 0 a5).length = 3 := by rw [ofT_len]; rfl
theorem near10_low : near10 2 (-1) 1 = 0 := near10_own (.inr (.inr (.inl rfl))) (by omega) (by omega) (by decide +kernel)
theorem a5_ld : (ldS (ofT 2 2 0 0 a5) 3).length = 5 ∧ (ldS (ofT 2 2 0 0 a5) 3)[1]?.getD 0 = -255 := by
  have h1 := ldS_len_of (kk := 2) (km := 0) (ko := 0) (lg := (a5.length : Int)) (s := 2) (L := a5) (by omega) (by omega) a5_ok.2
  have h2 := ldS_at_of (kk := 2) (km := 0) (ko := 0) (lg := (a5.length : Int)) (s := 2) (L := a5) (by omega) (by omega) a5_ok.2 (j := 1) (by decide)
  refine ⟨h1, h2.trans ?_⟩
  have hk : kdB 2 0 0 (a5.length : Int) (cutL 2 a5 (1 / 2)) = 2 := by decide +kernel
  have hg : gr (cutL 2 a5 (1 / 2)) = 255 := by decide +kernel
  have hc : cutL 2 a5 (1 / 2) = [255, -255] := by decide +kernel
  unfold ldX ofB ldB
  simp only
  rw [hk, if_neg (by omega)]
  unfold pkC pkS
  rw [if_neg (by omega), if_neg (by omega), hg, hc]
  show ld 2 255 (pk 2 255 (-255)) = -255
  rw [pk_low (by omega), near10_low]
  unfold ld
  have e : (255 : Int) * num10 2 0 = -255 * ((den9 2).natAbs : Int) := by decide +kernel
  rw [e]
  exact rn_self _ (by decide +kernel)
theorem a5_cost : fc (ofT 2 2 0 0 a5) 3 = 29 := by
  have h1 := cstS_of (kk := 2) (km := 0) (ko := 0) (lg := (a5.length : Int)) (s := 2) (L := a5) (by omega) 3
  have h2 : ∀ j, j < 3 → ¬ Wd 0 0 (a5.length : Int) (gr (cutL 2 a5 j)) := by decide +kernel
  have h3 : nbk (2 : Int).toNat a5.length = 3 := by decide
  have h4 := fc_eq (L := ofT 2 2 0 0 a5) (B := 100) (by omega) 3 (fun j hj => by
    unfold ofT
    have e : (2 : Int).toNat = 2 := rfl
    rw [ofL_at (by rw [h3]; exact hj), e, cst_of (by omega), if_neg (h2 j hj)]
    have := cutL_len 2 a5 j
    omega) (by omega)
  rw [h4.1]
  have h5 := (h1 3 (by omega)).2 h2
  have e : ofT 2 2 0 0 a5 = ofL 2 0 0 (a5.length : Int) 2 a5 3 := by unfold ofT; rw [h3]; rfl
  rw [e, h5]
  rfl

set_option maxRecDepth 100000 in
set_option maxHeartbeats 8000000 in
theorem alive14_any (w : World) :
    Calls Try.prog 6 #[] w (GotV w (.bool true)) := by
  have I4 : I64 2 ∧ I64 2 ∧ I64 0 ∧ I64 0 := ⟨by decide, by decide, by decide, by decide⟩
  have I5 : I64 2 ∧ I64 2 ∧ I64 0 ∧ I64 0 ∧ I64 5 := ⟨by decide, by decide, by decide, by decide, by decide⟩
  have C1 : ∀ {W : World} {A : Option Addr} {c : Nat}, IR W A 5 c a5 → Calls Try.prog 7 #[.agg #[.int .i64 2, .int .i64 2, .int .i64 0, .int .i64 0], .slice A 5 c] W (GotSto W 2 2 0 0 5 (ofT 2 2 0 0 a5)) := fun hh => tnOf_yes I4 hh a5_i64 (by omega) a5_ok
  have C3 : ∀ W : World, Calls Try.prog 7 #[.agg #[.int .i64 0, .int .i64 0, .int .i64 0, .int .i64 0], .slice none 0 0] W (GotV W (.tuple #[.agg #[.int .i64 0, .int .i64 0, .int .i64 0, .int .i64 0, .int .i64 0, .slice none 0 0], .int .i64 1])) := fun W => tnOf_no ⟨by decide, by decide, by decide, by decide⟩ (IR.nil W none 0) (fun x hx => by simp at hx) (by omega) a5_no
  obtain ⟨D, hD⟩ : ∃ D, ofT 2 2 0 0 a5 = D := ⟨_, rfl⟩
  obtain ⟨R, hR⟩ : ∃ R, ldS D 3 = R := ⟨_, rfl⟩
  have hRl : R.length = 5 ∧ R[1]?.getD 0 = -255 := by rw [← hR, ← hD]; exact a5_ld
  have hDl : D.length = 3 := by rw [← hD]; exact a5_len
  have C2 : ∀ {W : World} {A : Option Addr} {c : Nat}, KR W A 3 c D → Calls Try.prog 12 #[.agg #[.int .i64 2, .int .i64 2, .int .i64 0, .int .i64 0, .int .i64 5, .slice A 3 c]] W (GotI W R) := fun hh => by have h := tnLoad_N (lg := 5) hh (by rw [← hD]; exact okT_right a5_ok (by decide)); rw [hR] at h; exact h
  have C4 : ∀ W : World, Calls Try.prog 13 #[.agg #[.int .i64 2, .int .i64 2, .int .i64 0, .int .i64 0]] W (GotV W (.bool true)) := fun W => by have h := tnMay_N W I4; rw [decide_eq_true a5_ok.1] at h; exact h
  have C5 : ∀ {W : World} {A : Option Addr} {c : Nat}, KR W A 3 c D → Calls Try.prog 14 #[.agg #[.int .i64 2, .int .i64 2, .int .i64 0, .int .i64 0, .int .i64 5, .slice A 3 c]] W (GotV W (.bool true)) := fun hh => by have h := tnRight_N hh (by omega) I5; rw [decide_eq_true (by rw [← hD]; exact okT_right a5_ok (by decide))] at h; exact h
  have C6 : ∀ {W : World} {A : Option Addr} {c : Nat}, KR W A 3 c D → Calls Try.prog 8 #[.agg #[.int .i64 2, .int .i64 2, .int .i64 0, .int .i64 0, .int .i64 5, .slice A 3 c]] W (GotV W (.int .i64 29)) := fun hh => by have h := tnCost_N (kk := 2) (ks := 2) (km := 0) (ko := 0) (lg := 5) hh (by omega); rw [← hD, a5_cost] at h; exact h
  have C7 : ∀ {W : World} {A : Option Addr} {c : Nat}, KR W A 3 c D → Calls Try.prog 15 #[.agg #[.int .i64 2, .int .i64 2, .int .i64 0, .int .i64 0, .int .i64 5, .slice A 3 c], .agg #[.int .i64 2, .int .i64 2, .int .i64 0, .int .i64 0, .int .i64 5, .slice A 3 c]] W (GotV W (.bool true)) := fun hh => by have h := tnSame_N (kka := 2) (ksa := 2) (kma := 0) (koa := 0) (lga := 5) (kkb := 2) (ksb := 2) (kmb := 0) (kob := 0) (lgb := 5) hh (by omega) hh (by omega); rw [decide_eq_true ⟨⟨rfl, rfl, rfl, rfl⟩, rfl, rfl⟩] at h; exact h
  simp only [hD] at C1
  clear I4 I5 hD hR
  have HDL := Lib.hid hDl
  have HRL := Lib.hid hRl
  clear hDl hRl
  have cc := Below.refl w.heap.size w
  go_enter Try.func6, Try.ntmps6
  go_upto_region 2 with fail
  have bA := below_one w (.cells #[.int .i64 2, .int .i64 2, .int .i64 0, .int .i64 0] 23)
  replace cc := bK cc bA
  clear bA
  have k0 : (w.alloc (.cells #[.int .i64 2, .int .i64 2, .int .i64 0, .int .i64 0] 23)).cell? ⟨w.heap.size, 0, none⟩ = some (.int .i64 2) := by simp [go_sem]
  have k1 : (w.alloc (.cells #[.int .i64 2, .int .i64 2, .int .i64 0, .int .i64 0] 23)).cell? ⟨w.heap.size, 1, none⟩ = some (.int .i64 2) := by simp [go_sem]
  have k2 : (w.alloc (.cells #[.int .i64 2, .int .i64 2, .int .i64 0, .int .i64 0] 23)).cell? ⟨w.heap.size, 2, none⟩ = some (.int .i64 0) := by simp [go_sem]
  have k3 : (w.alloc (.cells #[.int .i64 2, .int .i64 2, .int .i64 0, .int .i64 0] 23)).cell? ⟨w.heap.size, 3, none⟩ = some (.int .i64 0) := by simp [go_sem]
  have kl : w.heap.size < (w.alloc (.cells #[.int .i64 2, .int .i64 2, .int .i64 0, .int .i64 0] 23)).heap.size := by simp
  generalize w.alloc (.cells #[.int .i64 2, .int .i64 2, .int .i64 0, .int .i64 0] 23) = v1 at *
  have R1 : IR (v1.alloc (.cells #[.int .i64 (255), .int .i64 (-255), .int .i64 (0), .int .i64 (0), .int .i64 (3)] 2)) (some ⟨v1.heap.size, 0, none⟩) 5 5 a5 := ir_lit14 v1 a5 2 (by decide)
  have C1a := C1 R1
  clear R1
  go_wp2_with fail
  have bA := below_one v1 (.cells #[.int .i64 (255), .int .i64 (-255), .int .i64 (0), .int .i64 (0), .int .i64 (3)] 2)
  replace k0 := cK bA k0 kl
  replace k1 := cK bA k1 kl
  replace k2 := cK bA k2 kl
  replace k3 := cK bA k3 kl
  replace kl := lK bA kl
  replace cc := bK cc bA
  clear bA
  generalize v1.alloc (.cells #[.int .i64 (255), .int .i64 (-255), .int .i64 (0), .int .i64 (0), .int .i64 (3)] 2) = v8 at *
  refine (C1a).mono ?_
  rintro e w2 ⟨As, n_, cs, rfl, hs, b⟩
  replace k0 := cK b k0 kl
  replace k1 := cK b k1 kl
  replace k2 := cK b k2 kl
  replace k3 := cK b k3 kl
  replace kl := lK b kl
  replace cc := bK cc b
  clear b
  obtain rfl : n_ = 3 := hs.1.trans HDL.out
  clear C1a
  go_upto_region 3 with fail
  have sqk : w.heap.size < w2.heap.size := kl
  have bA := below_one w2 (.cells #[.int .i64 2, .int .i64 2, .int .i64 0, .int .i64 0, .int .i64 5, .slice As 3 cs] 28)
  replace hs := hs.on bA
  replace k0 := cK bA k0 kl
  replace k1 := cK bA k1 kl
  replace k2 := cK bA k2 kl
  replace k3 := cK bA k3 kl
  replace kl := lK bA kl
  replace cc := bK cc bA
  clear bA
  have s0 : (w2.alloc (.cells #[.int .i64 2, .int .i64 2, .int .i64 0, .int .i64 0, .int .i64 5, .slice As 3 cs] 28)).cell? ⟨w2.heap.size, 0, none⟩ = some (.int .i64 2) := by simp [go_sem]
  have s1 : (w2.alloc (.cells #[.int .i64 2, .int .i64 2, .int .i64 0, .int .i64 0, .int .i64 5, .slice As 3 cs] 28)).cell? ⟨w2.heap.size, 1, none⟩ = some (.int .i64 2) := by simp [go_sem]
  have s2 : (w2.alloc (.cells #[.int .i64 2, .int .i64 2, .int .i64 0, .int .i64 0, .int .i64 5, .slice As 3 cs] 28)).cell? ⟨w2.heap.size, 2, none⟩ = some (.int .i64 0) := by simp [go_sem]
  have s3 : (w2.alloc (.cells #[.int .i64 2, .int .i64 2, .int .i64 0, .int .i64 0, .int .i64 5, .slice As 3 cs] 28)).cell? ⟨w2.heap.size, 3, none⟩ = some (.int .i64 0) := by simp [go_sem]
  have s4 : (w2.alloc (.cells #[.int .i64 2, .int .i64 2, .int .i64 0, .int .i64 0, .int .i64 5, .slice As 3 cs] 28)).cell? ⟨w2.heap.size, 4, none⟩ = some (.int .i64 5) := by simp [go_sem]
  have s5 : (w2.alloc (.cells #[.int .i64 2, .int .i64 2, .int .i64 0, .int .i64 0, .int .i64 5, .slice As 3 cs] 28)).cell? ⟨w2.heap.size, 5, none⟩ = some (.slice As 3 cs) := by simp [go_sem]
  have sl : w2.heap.size < (w2.alloc (.cells #[.int .i64 2, .int .i64 2, .int .i64 0, .int .i64 0, .int .i64 5, .slice As 3 cs] 28)).heap.size := by simp
  generalize w2.alloc (.cells #[.int .i64 2, .int .i64 2, .int .i64 0, .int .i64 0, .int .i64 5, .slice As 3 cs] 28) = v3 at *
  go_wp2_with fail
  refine (C2 hs).mono ?_
  rintro e w4 ⟨Al, nl, cl, rfl, hl, b⟩
  replace hs := hs.on b
  replace k0 := cK b k0 kl
  replace k1 := cK b k1 kl
  replace k2 := cK b k2 kl
  replace k3 := cK b k3 kl
  replace kl := lK b kl
  replace s0 := cK b s0 sl
  replace s1 := cK b s1 sl
  replace s2 := cK b s2 sl
  replace s3 := cK b s3 sl
  replace s4 := cK b s4 sl
  replace s5 := cK b s5 sl
  replace sl := lK b sl
  replace cc := bK cc b
  clear b
  obtain rfl : nl = 5 := hl.1.trans HRL.out.1
  go_wp2_with fail
  refine (C3 _).mono ?_
  rintro e w5 ⟨rfl, b⟩
  replace hs := hs.on b
  replace hl := hl.on b
  replace k0 := cK b k0 kl
  replace k1 := cK b k1 kl
  replace k2 := cK b k2 kl
  replace k3 := cK b k3 kl
  replace kl := lK b kl
  replace s0 := cK b s0 sl
  replace s1 := cK b s1 sl
  replace s2 := cK b s2 sl
  replace s3 := cK b s3 sl
  replace s4 := cK b s4 sl
  replace s5 := cK b s5 sl
  replace sl := lK b sl
  replace cc := bK cc b
  clear b
  go_upto_region 5 with fail
  have zqk : w.heap.size < w5.heap.size := kl
  have zqs : w2.heap.size < w5.heap.size := sl
  have bA := below_one w5 (.cells #[.int .i64 0, .int .i64 0, .int .i64 0, .int .i64 0, .int .i64 0, .slice none 0 0] 28)
  replace hs := hs.on bA
  replace hl := hl.on bA
  replace k0 := cK bA k0 kl
  replace k1 := cK bA k1 kl
  replace k2 := cK bA k2 kl
  replace k3 := cK bA k3 kl
  replace kl := lK bA kl
  replace s0 := cK bA s0 sl
  replace s1 := cK bA s1 sl
  replace s2 := cK bA s2 sl
  replace s3 := cK bA s3 sl
  replace s4 := cK bA s4 sl
  replace s5 := cK bA s5 sl
  replace sl := lK bA sl
  replace cc := bK cc bA
  clear bA
  have z0 : (w5.alloc (.cells #[.int .i64 0, .int .i64 0, .int .i64 0, .int .i64 0, .int .i64 0, .slice none 0 0] 28)).cell? ⟨w5.heap.size, 0, none⟩ = some (.int .i64 0) := by simp [go_sem]
  have z1 : (w5.alloc (.cells #[.int .i64 0, .int .i64 0, .int .i64 0, .int .i64 0, .int .i64 0, .slice none 0 0] 28)).cell? ⟨w5.heap.size, 1, none⟩ = some (.int .i64 0) := by simp [go_sem]
  have z2 : (w5.alloc (.cells #[.int .i64 0, .int .i64 0, .int .i64 0, .int .i64 0, .int .i64 0, .slice none 0 0] 28)).cell? ⟨w5.heap.size, 2, none⟩ = some (.int .i64 0) := by simp [go_sem]
  have z3 : (w5.alloc (.cells #[.int .i64 0, .int .i64 0, .int .i64 0, .int .i64 0, .int .i64 0, .slice none 0 0] 28)).cell? ⟨w5.heap.size, 3, none⟩ = some (.int .i64 0) := by simp [go_sem]
  have z4 : (w5.alloc (.cells #[.int .i64 0, .int .i64 0, .int .i64 0, .int .i64 0, .int .i64 0, .slice none 0 0] 28)).cell? ⟨w5.heap.size, 4, none⟩ = some (.int .i64 0) := by simp [go_sem]
  have z5 : (w5.alloc (.cells #[.int .i64 0, .int .i64 0, .int .i64 0, .int .i64 0, .int .i64 0, .slice none 0 0] 28)).cell? ⟨w5.heap.size, 5, none⟩ = some (.slice none 0 0) := by simp [go_sem]
  have zl : w5.heap.size < (w5.alloc (.cells #[.int .i64 0, .int .i64 0, .int .i64 0, .int .i64 0, .int .i64 0, .slice none 0 0] 28)).heap.size := by simp
  generalize w5.alloc (.cells #[.int .i64 0, .int .i64 0, .int .i64 0, .int .i64 0, .int .i64 0, .slice none 0 0] 28) = v6 at *
  obtain ⟨bl, ol_, rfl, hbl, hcl⟩ := hl.2.2 (by omega)
  have l1 := hcl 1 (by omega)
  rw [HRL.out.2] at l1
  clear hcl
  go_wp2_with fail
  refine (C4 _).mono ?_
  rintro e w7 ⟨rfl, b⟩
  replace l1 := cK b l1 hbl
  replace hbl := lK b hbl
  replace hs := hs.on b
  replace k0 := cK b k0 kl
  replace k1 := cK b k1 kl
  replace k2 := cK b k2 kl
  replace k3 := cK b k3 kl
  replace kl := lK b kl
  replace s0 := cK b s0 sl
  replace s1 := cK b s1 sl
  replace s2 := cK b s2 sl
  replace s3 := cK b s3 sl
  replace s4 := cK b s4 sl
  replace s5 := cK b s5 sl
  replace sl := lK b sl
  replace z0 := cK b z0 zl
  replace z1 := cK b z1 zl
  replace z2 := cK b z2 zl
  replace z3 := cK b z3 zl
  replace z4 := cK b z4 zl
  replace z5 := cK b z5 zl
  replace zl := lK b zl
  replace cc := bK cc b
  clear b
  go_wp2_with fail
  refine (C5 hs).mono ?_
  rintro e w8 ⟨rfl, b⟩
  replace l1 := cK b l1 hbl
  replace hbl := lK b hbl
  replace hs := hs.on b
  replace k0 := cK b k0 kl
  replace k1 := cK b k1 kl
  replace k2 := cK b k2 kl
  replace k3 := cK b k3 kl
  replace kl := lK b kl
  replace s0 := cK b s0 sl
  replace s1 := cK b s1 sl
  replace s2 := cK b s2 sl
  replace s3 := cK b s3 sl
  replace s4 := cK b s4 sl
  replace s5 := cK b s5 sl
  replace sl := lK b sl
  replace z0 := cK b z0 zl
  replace z1 := cK b z1 zl
  replace z2 := cK b z2 zl
  replace z3 := cK b z3 zl
  replace z4 := cK b z4 zl
  replace z5 := cK b z5 zl
  replace zl := lK b zl
  replace cc := bK cc b
  clear b
  go_wp2_with fail
  refine (C6 hs).mono ?_
  rintro e w9 ⟨rfl, b⟩
  replace l1 := cK b l1 hbl
  replace hbl := lK b hbl
  replace hs := hs.on b
  replace k0 := cK b k0 kl
  replace k1 := cK b k1 kl
  replace k2 := cK b k2 kl
  replace k3 := cK b k3 kl
  replace kl := lK b kl
  replace s0 := cK b s0 sl
  replace s1 := cK b s1 sl
  replace s2 := cK b s2 sl
  replace s3 := cK b s3 sl
  replace s4 := cK b s4 sl
  replace s5 := cK b s5 sl
  replace sl := lK b sl
  replace z0 := cK b z0 zl
  replace z1 := cK b z1 zl
  replace z2 := cK b z2 zl
  replace z3 := cK b z3 zl
  replace z4 := cK b z4 zl
  replace z5 := cK b z5 zl
  replace zl := lK b zl
  replace cc := bK cc b
  clear b
  go_wp2_with fail
  refine (C7 hs).mono ?_
  rintro e w10 ⟨rfl, b⟩
  replace l1 := cK b l1 hbl
  replace hbl := lK b hbl
  replace hs := hs.on b
  replace k0 := cK b k0 kl
  replace k1 := cK b k1 kl
  replace k2 := cK b k2 kl
  replace k3 := cK b k3 kl
  replace kl := lK b kl
  replace s0 := cK b s0 sl
  replace s1 := cK b s1 sl
  replace s2 := cK b s2 sl
  replace s3 := cK b s3 sl
  replace s4 := cK b s4 sl
  replace s5 := cK b s5 sl
  replace sl := lK b sl
  replace z0 := cK b z0 zl
  replace z1 := cK b z1 zl
  replace z2 := cK b z2 zl
  replace z3 := cK b z3 zl
  replace z4 := cK b z4 zl
  replace z5 := cK b z5 zl
  replace zl := lK b zl
  replace cc := bK cc b
  clear b
  go_wp2_with fail
  go_ret
  exact ⟨rfl, cc⟩

end Go.Proofs.Ytpidpebgeblenaa

/-
  The walk of TensTells.
-/
namespace Go.Proofs.Ytpidpebgeblenaa
set_option maxRecDepth 100000
open Go.RowKit
set_option linter.unusedVariables false
set_option linter.unusedSimpArgs false

theorem rsame9_self14 {w : World} {A B : Option Addr} {n c m d : Nat} {L : List Int} (hA : IR w A n c L) (hB : IR w B m d L) (hn : n ≤ 9223372036854775807) : Calls Try.prog 19 #[.slice A n c, .slice B m d] w (GotV w (.bool true)) := by
  have h := rsame9_any hA hB hn
  rw [decide_eq_true rfl] at h
  exact h
theorem okS_blocks {kk ks km ko lg : Int} {L : List Bk} (h : OkS kk ks km ko lg L) : L.length ≤ 4096 ∧ ∀ j, j < L.length → OkX (L[j]?.getD bk0) := by
  obtain ⟨hK, h1, h2, h3⟩ := h
  have hs := hK.2.1.1
  refine ⟨?_, fun j hj => ?_⟩
  · have h4 : (lg + ks - 1) / ks ≤ lg := by
      rcases Int.lt_or_le 0 lg with hp | hp
      · have h5 : lg + ks - 1 ≤ lg * ks + (ks - 1) := by
          have := Int.mul_le_mul_of_nonneg_left hs (Int.le_of_lt hp)
          rw [Int.mul_one] at this
          omega
        have h6 : lg + ks - 1 < (lg + 1) * ks := by rw [Int.add_mul, Int.one_mul]; omega
        have := Int.ediv_lt_of_lt_mul (by omega) h6
        omega
      · have : lg = 0 := by omega
        subst this
        rw [Int.zero_add, Int.ediv_eq_zero_of_lt (by omega) (by omega)]
        exact Int.le_refl _
    omega
  · exact (of_decide_eq_true (List.all_eq_true.1 h3 j (List.mem_range.2 hj))).1
theorem okS_load {kk ks km ko lg : Int} {L : List Bk} (h : OkS kk ks km ko lg L) : (ldS L L.length).length ≤ 9223372036854775807 := by
  have h1 := okS_blocks h
  have h2 := ldS_len h1.2 L.length (Nat.le_refl _)
  have : 4096 * L.length ≤ 4096 * 4096 := Nat.mul_le_mul_left _ h1.1
  omega






end Go.Proofs.Ytpidpebgeblenaa

/-
  The walk of TensKeeps.
-/
namespace Go.Proofs.Ytpidpebgeblenaa
set_option maxRecDepth 100000
open Go.RowKit
set_option linter.unusedVariables false
set_option linter.unusedSimpArgs false


theorem same14_self {w : World} {kk ks km ko lg : Int} {Ax Ay : Option Addr} {nx cx ny cy : Nat} {D : List Bk} (hx : KR w Ax nx cx D) (hy : KR w Ay ny cy D) (hl : D.length ≤ 9223372036854775807) (hn : nx ≤ 9223372036854775807) : Calls Try.prog 11 #[.agg #[.int .i64 kk, .int .i64 ks, .int .i64 km, .int .i64 ko, .int .i64 lg, .slice Ax nx cx], .agg #[.int .i64 kk, .int .i64 ks, .int .i64 km, .int .i64 ko, .int .i64 lg, .slice Ay ny cy]] w (GotV w (.bool true)) := by
  have h := rSame14_N (kk := kk) (ks := ks) (km := km) (ko := ko) (lg := lg) (kk' := kk) (ks' := ks) (km' := km) (ko' := ko) (lg' := lg) hx hy hn
  rw [decide_eq_true ⟨⟨rfl, rfl, rfl, rfl⟩, rfl, rfl⟩] at h
  exact h




end Go.Proofs.Ytpidpebgeblenaa

/-
  The walk of TensRight.
-/
namespace Go.Proofs.Ytpidpebgeblenaa
open Go.RowKit
set_option linter.unusedVariables false
set_option linter.unusedSimpArgs false





end Go.Proofs.Ytpidpebgeblenaa

/-
  The walk of TensCost.
-/
namespace Go.Proofs.Ytpidpebgeblenaa
set_option maxRecDepth 100000
open Go.RowKit
set_option linter.unusedVariables false
set_option linter.unusedSimpArgs false

set_option maxRecDepth 100000 in
set_option maxHeartbeats 8000000 in
theorem TensCost_few {w : World} {kk ks km ko : Int} {A : Option Addr} {n c : Nat} {L : List Int} (hA : IR w A n c L) (h : 24 < n) :
    Calls Try.prog 3 #[.agg #[.int .i64 kk, .int .i64 ks, .int .i64 km, .int .i64 ko], .slice A n c] w fun e w' => e = .returned (.bool true) ∧ Below w.heap.size w w' := by
  have t0 : decide (24 < n) = true := decide_eq_true (by omega)
  have t1 : decide ((24 : Int) < (n : Int)) = true := decide_eq_true (by omega)
  clear h hA
  have cc := Below.refl w.heap.size w
  go_enter Try.func3, Try.ntmps3
  go_wp2_with fail
  have bA : Below w.heap.size w (w.alloc (.cells #[.int .i64 kk, .int .i64 ks, .int .i64 km, .int .i64 ko] 23)) := ((Below.refl _ w).alloc (by simp) _)
  replace cc := bK cc bA
  clear bA
  have ka0 : (w.alloc (.cells #[.int .i64 kk, .int .i64 ks, .int .i64 km, .int .i64 ko] 23)).cell? ⟨w.heap.size, 0, none⟩ = some (.int .i64 kk) := by simp [go_sem]
  have ka1 : (w.alloc (.cells #[.int .i64 kk, .int .i64 ks, .int .i64 km, .int .i64 ko] 23)).cell? ⟨w.heap.size, 1, none⟩ = some (.int .i64 ks) := by simp [go_sem]
  have ka2 : (w.alloc (.cells #[.int .i64 kk, .int .i64 ks, .int .i64 km, .int .i64 ko] 23)).cell? ⟨w.heap.size, 2, none⟩ = some (.int .i64 km) := by simp [go_sem]
  have ka3 : (w.alloc (.cells #[.int .i64 kk, .int .i64 ks, .int .i64 km, .int .i64 ko] 23)).cell? ⟨w.heap.size, 3, none⟩ = some (.int .i64 ko) := by simp [go_sem]
  have kal : w.heap.size < (w.alloc (.cells #[.int .i64 kk, .int .i64 ks, .int .i64 km, .int .i64 ko] 23)).heap.size := by simp <;> omega
  generalize w.alloc (.cells #[.int .i64 kk, .int .i64 ks, .int .i64 km, .int .i64 ko] 23) = v1 at *
  go_wp2_with fail
  refine (alive14_any _).mono ?_
  rintro e w2 ⟨rfl, b⟩
  replace ka0 := cK b ka0 kal
  replace ka1 := cK b ka1 kal
  replace ka2 := cK b ka2 kal
  replace ka3 := cK b ka3 kal
  replace kal := lK b kal
  replace cc := bK cc b
  clear b
  go_wp2_with fail
  go_ret
  exact ⟨rfl, cc⟩

set_option maxRecDepth 100000 in
set_option maxHeartbeats 8000000 in
theorem TensCost_no {w : World} {kk ks km ko : Int} {A : Option Addr} {n c : Nat} {L : List Int} (hA : IR w A n c L) (h : n ≤ 24) (O0 : ∀ {W : World}, IR W A n c L → Calls Try.prog 7 #[.agg #[.int .i64 kk, .int .i64 ks, .int .i64 km, .int .i64 ko], .slice A n c] W (GotV W (.tuple #[.agg #[.int .i64 0, .int .i64 0, .int .i64 0, .int .i64 0, .int .i64 0, .slice none 0 0], .int .i64 1]))) :
    Calls Try.prog 3 #[.agg #[.int .i64 kk, .int .i64 ks, .int .i64 km, .int .i64 ko], .slice A n c] w fun e w' => e = .returned (.bool true) ∧ Below w.heap.size w w' := by
  have t0 : decide (24 < n) = false := decide_eq_false (by omega)
  have t1 : decide ((24 : Int) < (n : Int)) = false := decide_eq_false (by omega)
  clear h
  have cc := Below.refl w.heap.size w
  go_enter Try.func3, Try.ntmps3
  go_wp2_with fail
  have bA : Below w.heap.size w (w.alloc (.cells #[.int .i64 kk, .int .i64 ks, .int .i64 km, .int .i64 ko] 23)) := ((Below.refl _ w).alloc (by simp) _)
  replace hA := hA.on bA
  replace cc := bK cc bA
  clear bA
  have ka0 : (w.alloc (.cells #[.int .i64 kk, .int .i64 ks, .int .i64 km, .int .i64 ko] 23)).cell? ⟨w.heap.size, 0, none⟩ = some (.int .i64 kk) := by simp [go_sem]
  have ka1 : (w.alloc (.cells #[.int .i64 kk, .int .i64 ks, .int .i64 km, .int .i64 ko] 23)).cell? ⟨w.heap.size, 1, none⟩ = some (.int .i64 ks) := by simp [go_sem]
  have ka2 : (w.alloc (.cells #[.int .i64 kk, .int .i64 ks, .int .i64 km, .int .i64 ko] 23)).cell? ⟨w.heap.size, 2, none⟩ = some (.int .i64 km) := by simp [go_sem]
  have ka3 : (w.alloc (.cells #[.int .i64 kk, .int .i64 ks, .int .i64 km, .int .i64 ko] 23)).cell? ⟨w.heap.size, 3, none⟩ = some (.int .i64 ko) := by simp [go_sem]
  have kal : w.heap.size < (w.alloc (.cells #[.int .i64 kk, .int .i64 ks, .int .i64 km, .int .i64 ko] 23)).heap.size := by simp <;> omega
  generalize w.alloc (.cells #[.int .i64 kk, .int .i64 ks, .int .i64 km, .int .i64 ko] 23) = v1 at *
  go_wp2_with fail
  refine (O0 hA).mono ?_
  rintro e w2 ⟨rfl, b⟩
  replace hA := hA.on b
  replace ka0 := cK b ka0 kal
  replace ka1 := cK b ka1 kal
  replace ka2 := cK b ka2 kal
  replace ka3 := cK b ka3 kal
  replace kal := lK b kal
  replace cc := bK cc b
  clear b
  go_upto_region 4 with fail
  have bxqka : w.heap.size < w2.heap.size := kal
  have bA := below_one w2 (.cells #[.int .i64 0, .int .i64 0, .int .i64 0, .int .i64 0, .int .i64 0, .slice none 0 0] 28)
  replace hA := hA.on bA
  replace ka0 := cK bA ka0 kal
  replace ka1 := cK bA ka1 kal
  replace ka2 := cK bA ka2 kal
  replace ka3 := cK bA ka3 kal
  replace kal := lK bA kal
  replace cc := bK cc bA
  clear bA
  have bx0 : (w2.alloc (.cells #[.int .i64 0, .int .i64 0, .int .i64 0, .int .i64 0, .int .i64 0, .slice none 0 0] 28)).cell? ⟨w2.heap.size, 0, none⟩ = some (.int .i64 0) := by simp [go_sem]
  have bx1 : (w2.alloc (.cells #[.int .i64 0, .int .i64 0, .int .i64 0, .int .i64 0, .int .i64 0, .slice none 0 0] 28)).cell? ⟨w2.heap.size, 1, none⟩ = some (.int .i64 0) := by simp [go_sem]
  have bx2 : (w2.alloc (.cells #[.int .i64 0, .int .i64 0, .int .i64 0, .int .i64 0, .int .i64 0, .slice none 0 0] 28)).cell? ⟨w2.heap.size, 2, none⟩ = some (.int .i64 0) := by simp [go_sem]
  have bx3 : (w2.alloc (.cells #[.int .i64 0, .int .i64 0, .int .i64 0, .int .i64 0, .int .i64 0, .slice none 0 0] 28)).cell? ⟨w2.heap.size, 3, none⟩ = some (.int .i64 0) := by simp [go_sem]
  have bx4 : (w2.alloc (.cells #[.int .i64 0, .int .i64 0, .int .i64 0, .int .i64 0, .int .i64 0, .slice none 0 0] 28)).cell? ⟨w2.heap.size, 4, none⟩ = some (.int .i64 0) := by simp [go_sem]
  have bx5 : (w2.alloc (.cells #[.int .i64 0, .int .i64 0, .int .i64 0, .int .i64 0, .int .i64 0, .slice none 0 0] 28)).cell? ⟨w2.heap.size, 5, none⟩ = some (.slice none 0 0) := by simp [go_sem]
  have bxl : w2.heap.size < (w2.alloc (.cells #[.int .i64 0, .int .i64 0, .int .i64 0, .int .i64 0, .int .i64 0, .slice none 0 0] 28)).heap.size := by simp
  generalize w2.alloc (.cells #[.int .i64 0, .int .i64 0, .int .i64 0, .int .i64 0, .int .i64 0, .slice none 0 0] 28) = v3 at *
  go_wp2_with fail
  refine (alive14_any _).mono ?_
  rintro e w4 ⟨rfl, b⟩
  replace hA := hA.on b
  replace ka0 := cK b ka0 kal
  replace ka1 := cK b ka1 kal
  replace ka2 := cK b ka2 kal
  replace ka3 := cK b ka3 kal
  replace kal := lK b kal
  replace bx0 := cK b bx0 bxl
  replace bx1 := cK b bx1 bxl
  replace bx2 := cK b bx2 bxl
  replace bx3 := cK b bx3 bxl
  replace bx4 := cK b bx4 bxl
  replace bx5 := cK b bx5 bxl
  replace bxl := lK b bxl
  replace cc := bK cc b
  clear b
  go_wp2_with fail
  go_ret
  exact ⟨rfl, cc⟩

set_option maxRecDepth 100000 in
set_option maxHeartbeats 8000000 in
theorem TensCost_yes {w : World} {kk ks km ko : Int} {A : Option Addr} {n c : Nat} {L : List Int} (hA : IR w A n c L) (h : n ≤ 24) (hks : 1 ≤ ks ∧ ks ≤ 4096) {D : List Bk} {nb : Nat} {q : Int} (hnb : ((n : Int) + ks - 1) / ks = (nb : Int)) (hDl : D.length = nb) (hb24 : nb ≤ 24) (hq : q ≤ 8 * (n : Int) + 8 * (nb : Int)) (hqf : wdS D nb = false → q = (n : Int) + 8 * (nb : Int)) (hqt : wdS D nb = true → (n : Int) < km ∨ 0 < ko) (O0 : ∀ {W : World}, IR W A n c L → Calls Try.prog 7 #[.agg #[.int .i64 kk, .int .i64 ks, .int .i64 km, .int .i64 ko], .slice A n c] W (GotSto W kk ks km ko (n : Int) D)) (K0 : ∀ {W : World} {Ax : Option Addr} {cx : Nat}, KR W Ax nb cx D → Calls Try.prog 8 #[.agg #[.int .i64 kk, .int .i64 ks, .int .i64 km, .int .i64 ko, .int .i64 (n : Int), .slice Ax nb cx]] W (GotV W (.int .i64 q))) :
    Calls Try.prog 3 #[.agg #[.int .i64 kk, .int .i64 ks, .int .i64 km, .int .i64 ko], .slice A n c] w fun e w' => e = .returned (.bool true) ∧ Below w.heap.size w w' := by
  have t0 : decide (24 < n) = false := decide_eq_false (by omega)
  have t1 : decide ((24 : Int) < (n : Int)) = false := decide_eq_false (by omega)
  have HN := Lib.hid h
  have HDL := Lib.hid hDl
  have HQ := Lib.hid hq
  have HQF := Lib.hid hqf
  have HQT := Lib.hid hqt
  obtain ⟨a1, e1⟩ : ∃ a, (n : Int) + ks = a := ⟨_, rfl⟩
  have k1 : IntKind.i64.wrap ((n : Int) + ks) = a1 := by rw [IntWalk.i64_in _ (by omega)]; exact e1
  obtain ⟨a2, e2⟩ : ∃ a, a1 - 1 = a := ⟨_, rfl⟩
  have k2 : IntKind.i64.wrap (a1 - 1) = a2 := by rw [IntWalk.i64_in _ (by omega)]; exact e2
  have dq : a2 / ks = (nb : Int) := by rw [← e2, ← e1]; exact hnb
  have hnb24 : nb ≤ 24 := by omega
  have k3q : Int.tdiv a2 ks = (nb : Int) := by rw [Int.tdiv_eq_ediv_of_nonneg (by omega)]; exact dq
  have k4q : IntKind.i64.wrap (nb : Int) = (nb : Int) := IntWalk.i64_in _ (by omega)
  have k6q : IntKind.i64.wrap (a2 / ks) = (nb : Int) := by rw [dq]; exact k4q
  have k5 : (ks == 0) = false := beq_eq_false_iff_ne.2 (by omega)
  have k7 : ¬ ks = 0 := by omega
  obtain ⟨a3, e3⟩ : ∃ a, 8 * (nb : Int) = a := ⟨_, rfl⟩
  have k8 : IntKind.i64.wrap (8 * (nb : Int)) = a3 := by rw [IntWalk.i64_in _ (by omega)]; exact e3
  obtain ⟨a4, e4⟩ : ∃ a, 8 * (n : Int) = a := ⟨_, rfl⟩
  have k9 : IntKind.i64.wrap (8 * (n : Int)) = a4 := by rw [IntWalk.i64_in _ (by omega)]; exact e4
  obtain ⟨a5, e5⟩ : ∃ a, (n : Int) + a3 = a := ⟨_, rfl⟩
  have k10 : IntKind.i64.wrap ((n : Int) + a3) = a5 := by rw [IntWalk.i64_in _ (by omega)]; exact e5
  obtain ⟨a6, e6⟩ : ∃ a, a4 + a3 = a := ⟨_, rfl⟩
  have k11 : IntKind.i64.wrap (a4 + a3) = a6 := by rw [IntWalk.i64_in _ (by omega)]; exact e6
  have tq : decide (q ≤ a6) = true := decide_eq_true (by omega)
  have HE := Lib.hid (show a5 = (n : Int) + 8 * (nb : Int) by omega)
  obtain ⟨WD, hWD⟩ : ∃ WD, wdS D = WD := ⟨_, rfl⟩
  have HWD := Lib.hid hWD
  rw [hWD] at HQF HQT
  clear h hDl hq hqf hqt e1 e2 e3 e4 e5 e6 hnb dq hks hnb24 hWD
  have cc := Below.refl w.heap.size w
  go_enter Try.func3, Try.ntmps3
  go_wp2_with fail
  have bA : Below w.heap.size w (w.alloc (.cells #[.int .i64 kk, .int .i64 ks, .int .i64 km, .int .i64 ko] 23)) := ((Below.refl _ w).alloc (by simp) _)
  replace hA := hA.on bA
  replace cc := bK cc bA
  clear bA
  have ka0 : (w.alloc (.cells #[.int .i64 kk, .int .i64 ks, .int .i64 km, .int .i64 ko] 23)).cell? ⟨w.heap.size, 0, none⟩ = some (.int .i64 kk) := by simp [go_sem]
  have ka1 : (w.alloc (.cells #[.int .i64 kk, .int .i64 ks, .int .i64 km, .int .i64 ko] 23)).cell? ⟨w.heap.size, 1, none⟩ = some (.int .i64 ks) := by simp [go_sem]
  have ka2 : (w.alloc (.cells #[.int .i64 kk, .int .i64 ks, .int .i64 km, .int .i64 ko] 23)).cell? ⟨w.heap.size, 2, none⟩ = some (.int .i64 km) := by simp [go_sem]
  have ka3 : (w.alloc (.cells #[.int .i64 kk, .int .i64 ks, .int .i64 km, .int .i64 ko] 23)).cell? ⟨w.heap.size, 3, none⟩ = some (.int .i64 ko) := by simp [go_sem]
  have kal : w.heap.size < (w.alloc (.cells #[.int .i64 kk, .int .i64 ks, .int .i64 km, .int .i64 ko] 23)).heap.size := by simp <;> omega
  generalize w.alloc (.cells #[.int .i64 kk, .int .i64 ks, .int .i64 km, .int .i64 ko] 23) = v1 at *
  go_wp2_with fail
  refine (O0 hA).mono ?_
  rintro e w2 ⟨Ax, nx, cx, rfl, hx, b⟩
  replace hA := hA.on b
  replace ka0 := cK b ka0 kal
  replace ka1 := cK b ka1 kal
  replace ka2 := cK b ka2 kal
  replace ka3 := cK b ka3 kal
  replace kal := lK b kal
  replace cc := bK cc b
  clear b
  obtain rfl : nx = nb := hx.1.trans HDL.out
  go_upto_region 4 with fail
  have bxqka : w.heap.size < w2.heap.size := kal
  have bA := below_one w2 (.cells #[.int .i64 kk, .int .i64 ks, .int .i64 km, .int .i64 ko, .int .i64 (n : Int), .slice Ax nx cx] 28)
  replace hA := hA.on bA
  replace hx := hx.on bA
  replace ka0 := cK bA ka0 kal
  replace ka1 := cK bA ka1 kal
  replace ka2 := cK bA ka2 kal
  replace ka3 := cK bA ka3 kal
  replace kal := lK bA kal
  replace cc := bK cc bA
  clear bA
  have bx0 : (w2.alloc (.cells #[.int .i64 kk, .int .i64 ks, .int .i64 km, .int .i64 ko, .int .i64 (n : Int), .slice Ax nx cx] 28)).cell? ⟨w2.heap.size, 0, none⟩ = some (.int .i64 kk) := by simp [go_sem]
  have bx1 : (w2.alloc (.cells #[.int .i64 kk, .int .i64 ks, .int .i64 km, .int .i64 ko, .int .i64 (n : Int), .slice Ax nx cx] 28)).cell? ⟨w2.heap.size, 1, none⟩ = some (.int .i64 ks) := by simp [go_sem]
  have bx2 : (w2.alloc (.cells #[.int .i64 kk, .int .i64 ks, .int .i64 km, .int .i64 ko, .int .i64 (n : Int), .slice Ax nx cx] 28)).cell? ⟨w2.heap.size, 2, none⟩ = some (.int .i64 km) := by simp [go_sem]
  have bx3 : (w2.alloc (.cells #[.int .i64 kk, .int .i64 ks, .int .i64 km, .int .i64 ko, .int .i64 (n : Int), .slice Ax nx cx] 28)).cell? ⟨w2.heap.size, 3, none⟩ = some (.int .i64 ko) := by simp [go_sem]
  have bx4 : (w2.alloc (.cells #[.int .i64 kk, .int .i64 ks, .int .i64 km, .int .i64 ko, .int .i64 (n : Int), .slice Ax nx cx] 28)).cell? ⟨w2.heap.size, 4, none⟩ = some (.int .i64 (n : Int)) := by simp [go_sem]
  have bx5 : (w2.alloc (.cells #[.int .i64 kk, .int .i64 ks, .int .i64 km, .int .i64 ko, .int .i64 (n : Int), .slice Ax nx cx] 28)).cell? ⟨w2.heap.size, 5, none⟩ = some (.slice Ax nx cx) := by simp [go_sem]
  have bxl : w2.heap.size < (w2.alloc (.cells #[.int .i64 kk, .int .i64 ks, .int .i64 km, .int .i64 ko, .int .i64 (n : Int), .slice Ax nx cx] 28)).heap.size := by simp
  generalize w2.alloc (.cells #[.int .i64 kk, .int .i64 ks, .int .i64 km, .int .i64 ko, .int .i64 (n : Int), .slice Ax nx cx] 28) = v3 at *
  have HKA0 := Lib.hid ka0
  have HKA1 := Lib.hid ka1
  have HKA2 := Lib.hid ka2
  have HKA3 := Lib.hid ka3
  have HBX0 := Lib.hid bx0
  have HBX1 := Lib.hid bx1
  have HBX2 := Lib.hid bx2
  have HBX3 := Lib.hid bx3
  have HBX4 := Lib.hid bx4
  have HBX5 := Lib.hid bx5
  have HKAL := Lib.hid kal
  have HBXL := Lib.hid bxl
  have HXV := Lib.hid hx
  have CCV := Lib.hid cc
  clear cc hx hA O0 bxqka ka0 ka1 ka2 ka3 bx0 bx1 bx2 bx3 bx4 bx5 kal bxl
  go_wp2_with fail
  go_loopw [7, 8] (fun bv iv wr => ∃ i : Nat, i ≤ nx ∧ iv = .int .i64 (i : Int) ∧ bv = .bool (WD i) ∧ Below v3.heap.size v3 wr) (fun _ iv _ => nx - (intOf iv).toNat)
  case atStart => exact ⟨0, by omega, rfl, by rw [← HWD.out]; unfold wdS; rw [anyK_zero], Below.refl _ _⟩
  case round =>
    obtain ⟨i, hi, rfl, rfl, hbl⟩ := hrel
    have ka0 := (hbl.cell (p := ⟨w.heap.size, 0, none⟩) HKAL.out).trans HKA0.out
    have ka1 := (hbl.cell (p := ⟨w.heap.size, 1, none⟩) HKAL.out).trans HKA1.out
    have ka2 := (hbl.cell (p := ⟨w.heap.size, 2, none⟩) HKAL.out).trans HKA2.out
    have ka3 := (hbl.cell (p := ⟨w.heap.size, 3, none⟩) HKAL.out).trans HKA3.out
    have bx0 := (hbl.cell (p := ⟨w2.heap.size, 0, none⟩) HBXL.out).trans HBX0.out
    have bx1 := (hbl.cell (p := ⟨w2.heap.size, 1, none⟩) HBXL.out).trans HBX1.out
    have bx2 := (hbl.cell (p := ⟨w2.heap.size, 2, none⟩) HBXL.out).trans HBX2.out
    have bx3 := (hbl.cell (p := ⟨w2.heap.size, 3, none⟩) HBXL.out).trans HBX3.out
    have bx4 := (hbl.cell (p := ⟨w2.heap.size, 4, none⟩) HBXL.out).trans HBX4.out
    have bx5 := (hbl.cell (p := ⟨w2.heap.size, 5, none⟩) HBXL.out).trans HBX5.out
    have kal := Nat.lt_of_lt_of_le HKAL.out hbl.size
    have bxl := Nat.lt_of_lt_of_le HBXL.out hbl.size
    have cc := CCV.out.trans (hbl.mono CCV.out.size)
    by_cases hlt : i < nx
    · obtain ⟨bk, ok_, hxe, hbk⟩ := (HXV.out.on hbl).some (by omega)
      subst hxe
      obtain ⟨_, _, _, _, _, _, e1, _⟩ := kr_at (HXV.out.on hbl) hlt
      have k3_ : IntKind.i64.wrap ((i : Int) + 1) = ((i + 1 : Nat) : Int) := by rw [IntWalk.i64_in _ (by have := HN.out; omega)]; omega
      have hS : WD (i + 1) = (WD i || decide ((D[i]?.getD bk0).1 = 4)) := by rw [← HWD.out]; exact anyK_succ _ (d := bk0) (by rw [HDL.out]; exact hlt)
      obtain ⟨y, hy⟩ : ∃ y, (D[i]?.getD bk0).1 = y := ⟨_, rfl⟩
      rw [hy] at e1 hS
      obtain ⟨u, hu⟩ : ∃ u, WD (i + 1) = u := ⟨_, rfl⟩
      have HU := Lib.hid hu
      rw [hu] at hS
      clear hu hy
      obtain ⟨v, hv⟩ : ∃ v, WD i = v := ⟨_, rfl⟩
      rw [hv] at hS ⊢
      clear hv
      have REL : u = v ∧ v = true ∨ v = false ∧ (y == 4) = u := by
        rw [hS]
        cases v with
        | true => exact .inl ⟨Bool.true_or _, rfl⟩
        | false => exact .inr ⟨rfl, by rw [Bool.false_or]; rfl⟩
      clear hS
      rcases REL with ⟨rfl, rfl⟩ | ⟨rfl, ty⟩
      all_goals
        go_wp2_with fail
        go_roundw
        case rel => exact ⟨i + 1, by omega, by go_num, by rw [HU.out], hbl⟩
        case measure => simp [intOf] <;> omega
    · obtain rfl : i = nx := by omega
      have hx := HXV.out.on hbl
      clear hbl
      have hqf := HQF.out
      have hqt := HQT.out
      generalize WD i = b at *
      have WAY : (b = false ∧ (q == a5) = true) ∨ (b = true ∧ decide ((n : Int) < km) = true) ∨ (b = true ∧ decide ((n : Int) < km) = false ∧ decide (0 < ko) = true) := by
        cases b with
        | false => exact .inl ⟨rfl, by rw [HE.out]; exact beq_iff_eq.2 (hqf rfl)⟩
        | true =>
          rcases hqt rfl with e | e
          · exact .inr (.inl ⟨rfl, decide_eq_true e⟩)
          · by_cases e2 : (n : Int) < km
            · exact .inr (.inl ⟨rfl, decide_eq_true e2⟩)
            · exact .inr (.inr ⟨rfl, decide_eq_false e2, decide_eq_true e⟩)
      clear hqf hqt
      go_wp2_with fail
      refine (K0 hx).mono ?_
      rintro e w4 ⟨rfl, b⟩
      replace hx := hx.on b
      replace ka0 := cK b ka0 kal
      replace ka1 := cK b ka1 kal
      replace ka2 := cK b ka2 kal
      replace ka3 := cK b ka3 kal
      replace kal := lK b kal
      replace bx0 := cK b bx0 bxl
      replace bx1 := cK b bx1 bxl
      replace bx2 := cK b bx2 bxl
      replace bx3 := cK b bx3 bxl
      replace bx4 := cK b bx4 bxl
      replace bx5 := cK b bx5 bxl
      replace bxl := lK b bxl
      replace cc := bK cc b
      clear b
      go_wp2_with fail
      refine (alive14_any _).mono ?_
      rintro e w5 ⟨rfl, b⟩
      replace hx := hx.on b
      replace ka0 := cK b ka0 kal
      replace ka1 := cK b ka1 kal
      replace ka2 := cK b ka2 kal
      replace ka3 := cK b ka3 kal
      replace kal := lK b kal
      replace bx0 := cK b bx0 bxl
      replace bx1 := cK b bx1 bxl
      replace bx2 := cK b bx2 bxl
      replace bx3 := cK b bx3 bxl
      replace bx4 := cK b bx4 bxl
      replace bx5 := cK b bx5 bxl
      replace bxl := lK b bxl
      replace cc := bK cc b
      clear b
      rcases WAY with ⟨rfl, y1⟩ | ⟨rfl, y1⟩ | ⟨rfl, y1, y2⟩
      all_goals
        go_wp2_with fail
        go_ret
        exact ⟨rfl, cc⟩

theorem TensCost_walk {w : World} {kk ks km ko : Int} (hI : I64 kk ∧ I64 ks ∧ I64 km ∧ I64 ko) {A : Option Addr} {n c : Nat} {L : List Int} (hA : IR w A n c L) (hi6 : ∀ x ∈ L, I64 x) : Calls Try.prog 3 #[.agg #[.int .i64 kk, .int .i64 ks, .int .i64 km, .int .i64 ko], .slice A n c] w fun e w' => e = .returned (.bool true) ∧ Below w.heap.size w w' := by
  by_cases h : 24 < n
  · exact TensCost_few hA h
  by_cases ho : OkT kk ks km ko L
  · obtain ⟨s1, s2, s3, hk⟩ := okT_size ho
    have hl := hA.1
    have hnn := nbk_le (n := L.length) s1
    have hmin : min (nbk ks.toNat L.length * ks.toNat) L.length = L.length := by
      have := (nbk_lt (s := ks.toNat) (n := L.length) (i := nbk ks.toNat L.length) s1)
      omega
    have hcs := cstS_of (kk := kk) (km := km) (ko := ko) (lg := (L.length : Int)) (s := ks.toNat) (L := L) hk (nbk ks.toNat L.length) (nbk ks.toNat L.length) (Nat.le_refl _)
    have hwd := wdS_of (kk := kk) (km := km) (ko := ko) (lg := (L.length : Int)) (s := ks.toNat) (L := L) hk (nbk ks.toNat L.length)
    have hfc := fc_eq (L := ofT kk ks km ko L) (B := 1000) (by omega) (nbk ks.toNat L.length) (fun j hj => by
      have e1 : (ofT kk ks km ko L)[j]?.getD bk0 = ofB kk km ko L.length (cutL ks.toNat L j) := ofL_at hj
      rw [e1, cst_of hk]
      have := cutL_len ks.toNat L j
      split <;> omega) (by omega)
    have hq : fc (ofT kk ks km ko L) (nbk ks.toNat L.length) = ((cstS (ofT kk ks km ko L) (nbk ks.toNat L.length) : Nat) : Int) := hfc.1
    have hcs1 : cstS (ofT kk ks km ko L) (nbk ks.toNat L.length) ≤ 8 * min (nbk ks.toNat L.length * ks.toNat) L.length + 8 * nbk ks.toNat L.length := hcs.1
    rw [hmin] at hcs1
    refine TensCost_yes hA (by omega) (by omega) (D := ofT kk ks km ko L) (nb := nbk ks.toNat L.length) (q := fc (ofT kk ks km ko L) (nbk ks.toNat L.length)) (by rw [nbk_int s1, s3, hl]) (ofT_len _ _ _ _ _) (by omega) (by rw [hq]; omega) (fun hf => ?_) (fun ht => ?_) (fun g => tnOf_yes hI g hi6 (by omega) ho) (fun g => tnCost_N g (by omega))
    · have h2 : ∀ j, j < nbk ks.toNat L.length → ¬ Wd km ko (L.length : Int) (gr (cutL ks.toNat L j)) := fun j hj hw => by
        have h3 : wdS (ofT kk ks km ko L) (nbk ks.toNat L.length) = true := hwd.2 ⟨j, hj, hw⟩
        rw [hf] at h3; cases h3
      have h4 : cstS (ofT kk ks km ko L) (nbk ks.toNat L.length) = min (nbk ks.toNat L.length * ks.toNat) L.length + 8 * nbk ks.toNat L.length := hcs.2 h2
      rw [hmin] at h4
      rw [hq, h4]; omega
    · obtain ⟨j, _, hw⟩ := hwd.1 ht
      rcases hw with hw | hw
      · left; omega
      · right; exact hw.1
  · exact TensCost_no hA (by omega) (fun g => tnOf_no hI g hi6 (by omega) ho)

end Go.Proofs.Ytpidpebgeblenaa
