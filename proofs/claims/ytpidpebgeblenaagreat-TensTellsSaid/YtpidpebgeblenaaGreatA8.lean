/-
  Several texts in one: E11, J11a, J1, J2, J3, JB.
-/
import Derived.Test.YtpidpebgeblenaaGreatA7
import Derived.Test.YtpidpebgeblenaaGreatA3
import Derived.Lib.BytesEntry
import Derived.Lib.SliceRun
import Derived.Laws.Externs
import Derived.Laws.BytesArg
import Derived.RangeFuncNested
import Derived.RangeFuncBox
import Derived.RangeFuncBound
import Derived.RangeFuncCalls
import Derived.RangeFuncLeaves
import Derived.Shelf.Abstract
import Derived.Shelf.RegionOpen
import Derived.WalkKit
import Derived.WalkSpells
import Derived.OwnWalkIn
import Derived.TacticsInMore
import Derived.LoopNIn
import Derived.LoopIn
import Derived.Maps.AppendAt
import Derived.Lib.Hide
import Derived.Test.YtpidpebgeblenaaGreatA2

/-
  The contracts of the eleventh reference: Greatest, Load.
-/
namespace Go.Proofs.YtpidpebgeblenaaGreat
set_option maxRecDepth 100000
set_option maxHeartbeats 8000000
open Go.RowKit
set_option linter.unusedVariables false
set_option linter.unusedSimpArgs false

/-- The greatest of three, behind a name. -/
def mxT (a b : Int) : Int := max (max a b) (-b)
theorem mxT_run {P : Program} (w : World) (ts : Array TypeId) (t : TypeId) (x y z : Int) (h : z = -y) : (Builtin.max_ ts t #[.int .i64 x, .int .i64 y, .int .i64 z]).run P w = .ok (.int .i64 (mxT x y)) w := by
  rw [run_max_int3, h]
  congr 2
  unfold mxT
  split <;> split <;> omega
theorem map_take {k s : Int} {C : List Nat} {i : Nat} (h : i < C.length) : (C.take (i + 1)).map (ld k s) = (C.take i).map (ld k s) ++ [ld k s (C[i]?.getD 0)] := by
  rw [take_at 0 h, List.map_append]; rfl

attribute [local go_sem ↓] mxT_run
theorem rgreat_N {w : World} {A : Option Addr} {n c : Nat} {L : List Int} (hA : IR w A n c L) (hn : n ≤ 9223372036854775807) (hL : ∀ j : Nat, I64 (L[j]?.getD 0) ∧ L[j]?.getD 0 ≠ -9223372036854775808) :
    Calls Tryz.prog 21 #[.slice A n c] w (GotV w (.int .i64 (gr L))) := by
  have cc := Below.refl w.heap.size w
  go_enter Tryz.func21, Tryz.ntmps21
  go_wp2_with fail
  go_wp2_with fail
  go_loopw [3, 4] (fun nv iv wr => ∃ i : Nat, i ≤ n ∧ iv = .int .i64 (i : Int) ∧ nv = .int .i64 (grk L i) ∧ Below w.heap.size w wr) (fun _ iv _ => n - (intOf iv).toNat)
  case atStart => exact ⟨0, by omega, rfl, rfl, Below.refl _ _⟩
  case round =>
    obtain ⟨i, hi, rfl, rfl, hbl⟩ := hrel
    by_cases hlt : i < n
    · obtain ⟨bb, off, rfl, hb, hcell⟩ := (hA.on hbl).2.2 (by omega)
      have h1 := hcell i hlt
      have hx := hL i
      have k3 : IntKind.i64.wrap ((i : Int) + 1) = ((i + 1 : Nat) : Int) := by rw [IntWalk.i64_in _ (by omega)]; omega
      have hG : grk L (i + 1) = mxT (grk L i) (L[i]?.getD 0) := rfl
      obtain ⟨x, ex⟩ : ∃ x, L[i]?.getD 0 = x := ⟨_, rfl⟩
      rw [ex] at h1 hx hG
      have k4 : IntKind.i64.wrap (-x) = -x := IntWalk.i64_in _ (by unfold I64 at hx; omega)
      have HG := Lib.hid hG
      have MX := fun (ts : Array TypeId) (t : TypeId) (g : Int) (W : World) => mxT_run (P := Tryz.prog) W ts t g x (-x) rfl
      clear hcell hx ex hG
      generalize grk L i = g at *
      go_wp2_with fail
      go_region_held3 (fun w' => w'.cell? ⟨bb, off + i, none⟩ = some (.int .i64 x)) (exact h1) (fail)
      go_wp2_with fail
      go_roundw
      case rel => exact ⟨i + 1, by omega, rfl, by rw [HG.out], below_drewN hbl 1⟩
      case measure => simp [intOf] <;> omega
    · obtain rfl : i = n := by omega
      have hG : grk L i = gr L := by unfold gr; rw [← hA.1]
      rw [hG]
      go_wp2_with fail
      go_ret
      exact ⟨rfl, hbl⟩

theorem rLoad_c {w : World} {k s : Int} {A B : Option Addr} {n c m d : Nat} {C : List Nat} (hk : Kind9 k) (h0 : 0 ≤ s) (hs : I64 s) (hC : BR w A n c C) (hn : n ≤ 4096) :
    Calls Tryz.prog 33 #[.agg #[.int .i64 k, .int .i64 s, .slice A n c, .slice B m d]] w (GotI w (C.map (ld k s))) := by
  obtain ⟨i0, hi, hz0, hz1, hz2⟩ := info_parts infoI
  have k4 : (k == 4) = false := beq_eq_false_iff_ne.2 (by unfold Kind9 at hk; omega)
  have CB : ∀ W : World, Calls Tryz.prog 43 #[.int .i64 k] W (GotIp W (book9 k) 0) := fun W => by have h := rbook9_N W k; rw [kind9_code hk] at h; exact h
  have CD := fun W => rden9_N W k
  have hd := (facts10 hk).2.2.2.2.2.2
  have hlen := (facts10 hk).1
  have hnum : ∀ j, (book9 k)[j]?.getD 0 = num10 k j := fun _ => rfl
  have CS : ∀ (W : World) (x : Nat), x < 256 → Calls Tryz.prog 44 #[.int .i64 s, .int .i64 (num10 k x), .int .i64 (den9 k)] W (GotV W (.tuple #[.int .i64 (ld k s x), .int .i64 0])) := fun W x hx => by
    have h := rscale8_N (w := W) hs (num10_i64 k x) (den9_i64 k) (by omega)
    have hz := ld_i64 hk h0 hs (show x ≤ 255 by omega)
    unfold ld at hz ⊢
    rw [(nI_yes hz).1, (nI_yes hz).2] at h
    exact h
  have HM : Hid (∀ i, i < C.length → (C.take (i + 1)).map (ld k s) = (C.take i).map (ld k s) ++ [ld k s (C[i]?.getD 0)]) := Lib.hid (fun i h => map_take h)
  clear hd hk h0 hs
  generalize den9 k = D at *
  generalize num10 k = y at *
  generalize book9 k = L at *
  generalize ld k s = F at *
  have cc := Below.refl w.heap.size w
  go_enter Tryz.func33, Tryz.ntmps33
  go_wp2_with fail
  generalize hv_ : w.alloc (.cells #[.int .i64 k, .int .i64 s, .slice A n c, .slice B m d] 43) = v1
  have bA : Below w.heap.size w v1 := by rw [← hv_]; exact ((Below.refl _ w).alloc (by simp) _)
  replace hC := hC.on bA
  replace cc := bK cc bA
  clear bA
  have xa0 : v1.cell? ⟨w.heap.size, 0, none⟩ = some (.int .i64 k) := by simp [← hv_, go_sem]
  have xa1 : v1.cell? ⟨w.heap.size, 1, none⟩ = some (.int .i64 s) := by simp [← hv_, go_sem]
  have xa2 : v1.cell? ⟨w.heap.size, 2, none⟩ = some (.slice A n c) := by simp [← hv_, go_sem]
  have xa3 : v1.cell? ⟨w.heap.size, 3, none⟩ = some (.slice B m d) := by simp [← hv_, go_sem]
  have xal : w.heap.size < v1.heap.size := by simp [← hv_] <;> omega
  clear hv_
  go_wp2_with fail
  refine (CB _).mono ?_
  rintro e w2 ⟨Al, nl, cl, rfl, hl, b⟩
  replace hC := hC.on b
  rewrite [cR b xal] at xa0 xa1 xa2 xa3
  replace xal := lK b xal
  replace cc := bK cc b
  clear b
  have hn_ : nl = 256 := by rw [hl.1, hlen]
  subst hn_
  obtain ⟨bb, off, rfl, hb⟩ := hl.some (by omega)
  obtain ⟨t, ht⟩ : ∃ t, w2.heap.size = t := ⟨_, rfl⟩
  have HT := Lib.hid ht
  have hBV : Below t w2 w2 := Below.refl _ _
  have hown : ∀ W : World, t ≤ W.heap.size → (W.alloc (.cells #[] 2)).ownsRow t 2 1 (.slice (some ⟨W.heap.size, 0, none⟩) 0 0) 0 ([] : List Value) := fun W h => World.ownsRow_lit W #[] 0 h (by unfold maxLen; omega) rfl
  have X0 := Lib.hid xa0
  have X1 := Lib.hid xa1
  have X2 := Lib.hid xa2
  have XL := Lib.hid xal
  have HLV := Lib.hid hl
  have HCV := Lib.hid hC
  have HBB := Lib.hid hb
  have CCV := Lib.hid cc
  clear ht xa0 xa1 xa2 xa3 xal hl hC hb cc
  go_wp2_with fail
  go_loopw [5, 6] (fun ov iv wr => ∃ i : Nat, i ≤ n ∧ iv = .int .i64 (i : Int) ∧ Grown t w2 wr ov ((C.take i).map F)) (fun _ iv _ => n - (intOf iv).toNat)
  case atStart => exact ⟨0, by omega, rfl, w2.heap.size, 0, 0, rfl, hown w2 (by rw [HT.out]; omega), hBV.alloc (by rw [HT.out]; omega) _, by simp; rw [HT.out]; omega⟩
  case round =>
    obtain ⟨i, hi_, rfl, g, cap, N, rfl, hO, hbl, hts⟩ := hrel
    have hbV : Below w2.heap.size w2 wr := by rw [HT.out]; exact hbl
    have xa0 := (hbV.cell (p := ⟨w.heap.size, 0, none⟩) XL.out).trans X0.out
    have xa1 := (hbV.cell (p := ⟨w.heap.size, 1, none⟩) XL.out).trans X1.out
    have xa2 := (hbV.cell (p := ⟨w.heap.size, 2, none⟩) XL.out).trans X2.out
    have xal := Nat.lt_of_lt_of_le XL.out hbV.size
    have cc := CCV.out.trans (hbV.mono CCV.out.size)
    have hC := HCV.out.on hbV
    have hCl := hC.1
    have hNl := own_len hO
    rw [List.length_map, List.length_take] at hNl
    by_cases hlt : i < n
    · have hb := Nat.lt_of_lt_of_le HBB.out hbV.size
      have hl := HLV.out.on hbV
      obtain ⟨b2, o2, rfl, hb2, hc2⟩ := hC.2.2.2 (by omega)
      have e1 := hc2 i hlt
      have hx6 := hC.at hlt
      obtain ⟨x, hx⟩ : ∃ x, C[i]?.getD 0 = x := ⟨_, rfl⟩
      rw [hx] at e1 hx6
      have e2 : wr.cell? ⟨bb, off + x, none⟩ = some (.int .i64 (y x)) := by have h := hl.cell (j := x) hx6; rw [hnum x] at h; exact h
      have hM := HM.out i (by omega)
      rw [hx] at hM
      have CSx := fun W => CS W x hx6
      obtain ⟨z, hz⟩ : ∃ z, F x = z := ⟨_, rfl⟩
      obtain ⟨v, hv⟩ : ∃ v, y x = v := ⟨_, rfl⟩
      rw [hz] at CSx hM
      rw [hv] at CSx e2
      have HS := Lib.hid hM
      have HO := Lib.hid hO
      have hg := (hO.lt g rfl).1
      have hN6 : N < 4096 := by omega
      have x6 : (x : Int) < 256 := by omega
      have k3 : IntKind.i64.wrap ((i : Int) + 1) = ((i + 1 : Nat) : Int) := by rw [IntWalk.i64_in _ (by omega)]; omega
      clear hM hO hC hl hc2 hx hz hv hnum CS CB hCl hNl hown
      go_wp2_with fail
      have qq : Below wr.heap.size wr wr.drew := below_drewN (Below.refl _ wr) 1
      go_region_held3 (fun w' => w'.cell? ⟨b2, o2 + i, none⟩ = some (.int .u8 (x : Int)) ∧ w'.cell? ⟨bb, off + x, none⟩ = some (.int .i64 v) ∧ w'.cell? ⟨w.heap.size, 0, none⟩ = some (.int .i64 k) ∧ w'.cell? ⟨w.heap.size, 1, none⟩ = some (.int .i64 s) ∧ w'.cell? ⟨w.heap.size, 2, none⟩ = some (.slice (some ⟨b2, o2, none⟩) n c))
        (first | with_reducible exact ⟨cK qq e1 hb2, cK qq e2 hb, cK qq xa0 xal, cK qq xa1 xal, cK qq xa2 xal⟩ | go_keep)
        (first
          | (go_at_call 45; (with_reducible refine (CD _).mono ?_); rintro e wz ⟨rfl, q⟩; replace qq := bK qq q; clear q)
          | (go_at_call 44; (with_reducible refine (CSx _).mono ?_); rintro e wz ⟨rfl, q⟩; replace qq := bK qq q; clear q))
      obtain ⟨hO2, hbl2, hts2, hg2⟩ := own_after HO.out hbl hts qq
      have HO2 := Lib.hid hO2
      clear hO2
      replace e1 := cK qq e1 hb2
      replace e2 := cK qq e2 hb
      replace hb := lK qq hb
      replace hb2 := lK qq hb2
      rewrite [cR qq xal] at xa0 xa1 xa2
      replace xal := lK qq xal
      replace cc := bK cc qq
      clear qq
      go_wp2_with (at_builtin; refine wpList_append_lies _ rfl _ _ 34 rfl t 2 i0 (.int .i64 0) 1 8 Tryz.underlying34 hi hz0 hz1 hz2 rfl (by decide) _ _ _ rfl (HO2.out.alloc _) ⟨wz.heap.size, 0, none⟩ 1 1 [.int .i64 z] rfl rfl (cell_one_new _ _ _) (by simp [Value.oneCell']) (by omega) (by unfold maxLen; omega) (by omega) (by simp; omega) _ rfl ?_; intro g1 cap1 w3 hown1 hgrow1 hat hlt1)
      go_roundw
      case rel =>
        refine ⟨i + 1, by omega, by go_num, ?_⟩
        have hG := Grown.push hbl2 hts2 HT.out hg hown1 hgrow1
        rw [HS.out]
        exact hG
      case measure => simp [intOf] <;> omega
    · obtain rfl : i = n := by omega
      have hE : C.take i = C := List.take_of_length_le (by omega)
      rw [hE] at hO
      have HO := Lib.hid (IR.of_own hO)
      clear hO hown hC
      go_wp2_with fail
      go_ret
      exact ⟨_, _, _, rfl, HO.out, cc⟩

theorem rLoad_some {w : World} {k s : Int} {A B : Option Addr} {n c m d : Nat} {W : List Int} (hk : k = 4) (hW : IR w B m d W) (hm : 0 < m) (hm2 : m ≤ 4096) :
    Calls Tryz.prog 33 #[.agg #[.int .i64 k, .int .i64 s, .slice A n c, .slice B m d]] w (GotI w W) := by
  subst hk
  obtain ⟨i0, hi, hz0, hz1, hz2⟩ := info_parts infoI
  obtain ⟨t, ht⟩ : ∃ t, w.heap.size = t := ⟨_, rfl⟩
  have HT := Lib.hid ht
  have hB0 : Below t w w := Below.refl _ _
  have hown : ∀ W : World, t ≤ W.heap.size → (W.alloc (.cells #[] 2)).ownsRow t 2 1 (.slice (some ⟨W.heap.size, 0, none⟩) 0 0) 0 ([] : List Value) := fun W h => World.ownsRow_lit W #[] 0 h (by unfold maxLen; omega) rfl
  clear ht
  obtain ⟨bb, off, rfl, hb, hc⟩ := hW.2.2 hm
  have hl := hW.1
  have HNW : Hid (∀ (W2 : World), Below w.heap.size w W2 → ∀ j u, (W.map encI)[j]? = some u → W2.cell? ((⟨bb, off, none⟩ : Addr).add j) = some u) := Lib.hid (fun W2 h j u e => by
    rw [List.getElem?_map] at e
    rcases hj : W[j]? with _ | z
    · rw [hj] at e; cases e
    · rw [hj] at e; injection e with e
      have hlt : j < W.length := (List.getElem?_eq_some_iff.1 hj).1
      have := (h.cell (p := ⟨bb, off + j, none⟩) hb).trans (hc j (by omega))
      rw [hj] at this
      have ha : (⟨bb, off, none⟩ : Addr).add j = ⟨bb, off + j, none⟩ := by unfold Addr.add; split; (rename_i h0; subst h0; rfl); rfl
      rw [← e, ha]
      exact this)
  have HL : Hid (m = W.length) := Lib.hid hl
  clear hc hl
  have HO : Hid (((w.alloc (.cells #[.int .i64 4, .int .i64 s, .slice A n c, .slice (some ⟨bb, off, none⟩) m d] 43)).alloc (.cells #[] 2)).ownsRow t 2 1 (.slice (some ⟨w.heap.size + 1, 0, none⟩) 0 0) 0 ([] : List Value)) := Lib.hid (by have h := hown (w.alloc (.cells #[.int .i64 4, .int .i64 s, .slice A n c, .slice (some ⟨bb, off, none⟩) m d] 43)) (by rw [← HT.out]; simp); simpa using h)
  have HBT : Hid (Below t w ((w.alloc (.cells #[.int .i64 4, .int .i64 s, .slice A n c, .slice (some ⟨bb, off, none⟩) m d] 43)).alloc (.cells #[] 2))) := Lib.hid ((hB0.alloc (by rw [HT.out]; omega) _).alloc (by rw [← HT.out]; simp) _)
  have HNV := Lib.hid (HNW.out ((w.alloc (.cells #[.int .i64 4, .int .i64 s, .slice A n c, .slice (some ⟨bb, off, none⟩) m d] 43)).alloc (.cells #[] 2)) (((Below.refl _ w).alloc (Nat.le_refl _) _).alloc (by simp) _))
  clear hown hB0
  have t_le : t ≤ w.heap.size + 1 + 1 := by rw [← HT.out]; omega
  go_enter Tryz.func33, Tryz.ntmps33
  go_wp2_with (at_builtin; refine wpList_append_lies _ rfl _ _ 34 rfl t 2 i0 (.int .i64 0) 1 8 Tryz.underlying34 hi hz0 hz1 hz2 rfl (by decide) _ 0 [] rfl HO.out ⟨bb, off, none⟩ m d (W.map encI) rfl (by rw [List.length_map, HL.out]; simp) HNV.out (by simp [encI, Value.oneCell']) hm (by unfold maxLen; omega) (by omega) (by simp; omega) _ rfl ?_; intro g1 cap1 w3 hown1 hgrow1 hat hlt1)
  go_ret
  have h1 : Below t w w3 := HBT.out.grown hgrow1 (by simp; omega) (fun q e => by injection (show some (w.heap.size + 1) = some q from e) with e1; have := HT.out; omega)
  rw [← HT.out] at h1
  rw [List.nil_append] at hown1
  rw [Nat.zero_add] at hown1
  exact ⟨_, _, _, rfl, IR.of_own hown1, h1⟩

theorem rLoad_none {w : World} {k s : Int} {A B : Option Addr} {n c m d : Nat} {W : List Int} (hk : k = 4) (hW : IR w B m d W) (hm : m = 0) (hm2 : m ≤ 4096) :
    Calls Tryz.prog 33 #[.agg #[.int .i64 k, .int .i64 s, .slice A n c, .slice B m d]] w (GotI w W) := by
  subst hk
  obtain ⟨i0, hi, hz0, hz1, hz2⟩ := info_parts infoI
  obtain ⟨t, ht⟩ : ∃ t, w.heap.size = t := ⟨_, rfl⟩
  have HT := Lib.hid ht
  have hB0 : Below t w w := Below.refl _ _
  have hown : ∀ W : World, t ≤ W.heap.size → (W.alloc (.cells #[] 2)).ownsRow t 2 1 (.slice (some ⟨W.heap.size, 0, none⟩) 0 0) 0 ([] : List Value) := fun W h => World.ownsRow_lit W #[] 0 h (by unfold maxLen; omega) rfl
  clear ht
  have hW0 : W = [] := List.eq_nil_of_length_eq_zero (by rw [← hW.1]; exact hm)
  subst hm
  subst hW0
  rcases B with _ | pB
  all_goals
    have cc := Below.refl w.heap.size w
    go_enter Tryz.func33, Tryz.ntmps33
    go_wp2_with fail
    go_ret
    exact ⟨_, _, _, rfl, IR.nil _ _ _, (cc.alloc (Nat.le_refl _) _).alloc (by simp) _⟩

end Go.Proofs.YtpidpebgeblenaaGreat

/-
  What the landed block's calls of the library answer: one byte counted, found; rows cloned, compared.
-/
namespace Go.Proofs.YtpidpebgeblenaaGreat
set_option maxRecDepth 100000
set_option maxHeartbeats 8000000
open Go.RowKit
set_option linter.unusedVariables false
set_option linter.unusedSimpArgs false

/-- The bytes of a row as integers. -/
def ints8 (C : List Nat) : List Int := C.map fun (x : Nat) => (x : Int)
theorem ints8_len (C : List Nat) : (ints8 C).length = C.length := List.length_map _
theorem br_ints {w : World} {b off n c : Nat} {C : List Nat} (h : BR w (some ⟨b, off, none⟩) n c C) : ∀ i, i < n → w.cell? ⟨b, off + i, none⟩ = some (.int .u8 ((ints8 C).getD i 0)) := by
  intro i hi
  rw [h.cell hi]
  have hl : i < C.length := by rw [← h.1]; exact hi
  unfold ints8
  rw [List.getD_eq_getElem?_getD, List.getElem?_map, List.getElem?_eq_getElem hl]
  rfl
theorem ofNat8 {x y : Nat} (hx : x < 256) (hy : y < 256) : (UInt8.ofNat x = UInt8.ofNat y) ↔ x = y := by
  constructor
  · intro h
    have := congrArg UInt8.toNat h
    rw [UInt8.toNat_ofNat', UInt8.toNat_ofNat'] at this
    omega
  · rintro rfl; rfl
/-- The place of a byte; how often it stands there. -/
def ixB (C : List Nat) (c : Nat) : Int := Lib.indexByte (Lib.bytesOf (ints8 C)) (c : Int).toNat.toUInt8
def ctB (C : List Nat) (c : Nat) : Nat := Lib.countByte (Lib.bytesOf (ints8 C)) (c : Int).toNat.toUInt8
theorem bytesOf_ints8 (x : Nat) (C : List Nat) : Lib.bytesOf (ints8 (x :: C)) = UInt8.ofNat x :: Lib.bytesOf (ints8 C) := by simp [Lib.bytesOf, ints8]
theorem ixB_mem {C : List Nat} {c : Nat} (hC : ∀ x ∈ C, x < 256) (hc : c < 256) : 0 ≤ ixB C c ↔ c ∈ C := by
  unfold ixB
  have e : (c : Int).toNat.toUInt8 = UInt8.ofNat c := by simp
  rw [e]
  induction C with
  | nil => simp [Lib.bytesOf, ints8, Lib.indexByte]
  | cons x C ih =>
    have ih := ih (fun y hy => hC y (List.mem_cons_of_mem _ hy))
    have hx := hC x (List.mem_cons_self ..)
    have hg := Lib.indexByte_ge (Lib.bytesOf (ints8 C)) (UInt8.ofNat c)
    rw [bytesOf_ints8]
    unfold Lib.indexByte
    by_cases h : x = c
    · subst h; simp
    · have h1 : (UInt8.ofNat x == UInt8.ofNat c) = false := beq_eq_false_iff_ne.2 (fun e => h ((ofNat8 hx hc).1 e))
      rw [h1, List.mem_cons]
      simp only [Bool.false_eq_true, if_false]
      generalize Lib.indexByte (Lib.bytesOf (ints8 C)) (UInt8.ofNat c) = z at *
      by_cases h2 : z = -1
      · subst h2
        have h3 : ¬ c ∈ C := fun e => by have := ih.2 e; omega
        simp only [beq_self_eq_true, if_true]
        exact ⟨fun e => by omega, fun e => (by rcases e with e | e; exact absurd e.symm h; exact absurd e h3)⟩
      · have h3 : (z == -1) = false := beq_eq_false_iff_ne.2 h2
        rw [h3]
        simp only [Bool.false_eq_true, if_false]
        exact ⟨fun e => .inr (ih.1 (by omega)), fun e => (by rcases e with e | e; exact absurd e.symm h; have := ih.2 e; omega)⟩
theorem ctB_le (C : List Nat) (c : Nat) : ctB C c ≤ C.length := by
  unfold ctB Lib.countByte
  refine Nat.le_trans List.count_le_length ?_
  simp [Lib.bytesOf, ints8]
theorem ctB_all {C : List Nat} {c : Nat} (hC : ∀ x ∈ C, x < 256) (hc : c < 256) : ctB C c = C.length ↔ ∀ x ∈ C, x = c := by
  have e : (c : Int).toNat.toUInt8 = UInt8.ofNat c := by simp
  have hl : (Lib.bytesOf (ints8 C)).length = C.length := by simp [Lib.bytesOf, ints8]
  unfold ctB Lib.countByte
  rw [e, ← hl, List.count_eq_length]
  constructor
  · intro h x hx
    have hm : UInt8.ofNat x ∈ Lib.bytesOf (ints8 C) := by
      unfold Lib.bytesOf ints8
      rw [List.map_map]
      exact List.mem_map.2 ⟨x, hx, by simp⟩
    exact ((ofNat8 hc (hC x hx)).1 (h _ hm)).symm
  · intro h y hy
    unfold Lib.bytesOf ints8 at hy
    rw [List.map_map] at hy
    obtain ⟨x, hx, rfl⟩ := List.mem_map.1 hy
    rw [h x hx]
    simp
/-- The model's entry for the count of a byte, at a slice whose cells are known. -/
theorem run_countRow {P : Program} (w : World) (b off n c : Nat) (xs : List Int) (hx : xs.length = n) (hc : ∀ i, i < n → w.cell? ⟨b, off + i, none⟩ = some (.int .u8 (xs.getD i 0))) (cv : Int) :
    (Extern.BytealgCount.count #[.slice (some ⟨b, off, none⟩) n c, .int .u8 cv]).run P w = .ok (.int .i64 (Lib.countByte (Lib.bytesOf xs) cv.toNat.toUInt8)) w := by
  have hl := Lib.run_loadBytesX (P := P) w xs ⟨b, off, none⟩ .empty (fun j x hj => by
    have hjl : j < xs.length := (List.getElem?_eq_some_iff.1 hj).1
    rw [addr_add, hc j (by omega), List.getD_eq_getElem?_getD, hj]
    rfl)
  rw [hx] at hl
  have hs := Lib.run_countString (P := P) ⟨(Lib.bytesOf xs).toArray⟩ cv w
  have he : (⟨ByteArray.empty.data ++ (Lib.bytesOf xs).toArray⟩ : ByteArray) = ⟨(Lib.bytesOf xs).toArray⟩ := by
    apply ByteArray.ext
    show (#[] : Array UInt8) ++ (Lib.bytesOf xs).toArray = (Lib.bytesOf xs).toArray
    simp
  rw [he] at hl
  change Sem.run P (do
    let b ← Extern.Bytes.bytesOf (.slice (some ⟨b, off, none⟩) n c)
    let d ← Extern.Bytes.asByte (.int .u8 cv)
    pure (goInt (b.foldl (fun n x => if x == d then n + 1 else n) (0 : Nat)))) w = _
  change Sem.run P (do
    let b ← Extern.Bytes.bytesOf (.string ⟨(Lib.bytesOf xs).toArray⟩)
    let d ← Extern.Bytes.asByte (.int .u8 cv)
    pure (goInt (b.foldl (fun n x => if x == d then n + 1 else n) (0 : Nat)))) w = _ at hs
  simp only [Extern.Bytes.bytesOf, Sem.run_bind, Sem.run_pure, hl, Result.andThen] at hs ⊢
  simpa using hs
theorem run_countNone {P : Program} (w : World) (l c : Nat) (cv : Int) :
    (Extern.BytealgCount.count #[.slice none l c, .int .u8 cv]).run P w = .ok (.int .i64 0) w := by
  have hs := Lib.run_countString (P := P) .empty cv w
  exact hs
/-- No byte at an address: none is read. -/
theorem run_countZero {P : Program} (w : World) (a : Addr) (c : Nat) (cv : Int) :
    (Extern.BytealgCount.count #[.slice (some a) 0 c, .int .u8 cv]).run P w = .ok (.int .i64 0) w := by
  have hs := Lib.run_countString (P := P) .empty cv w
  have hl := Lib.run_loadBytesX (P := P) w [] a .empty (fun j x hj => by simp at hj)
  change Sem.run P (do
    let b ← Extern.Bytes.bytesOf (.slice (some a) 0 c)
    let d ← Extern.Bytes.asByte (.int .u8 cv)
    pure (goInt (b.foldl (fun n x => if x == d then n + 1 else n) (0 : Nat)))) w = _
  change Sem.run P (do
    let b ← Extern.Bytes.bytesOf (.string .empty)
    let d ← Extern.Bytes.asByte (.int .u8 cv)
    pure (goInt (b.foldl (fun n x => if x == d then n + 1 else n) (0 : Nat)))) w = _ at hs
  exact hs
theorem run_indexZero {P : Program} (w : World) (a : Addr) (c : Nat) (cv : Int) :
    (Extern.BytealgIndexByte.indexByte #[.slice (some a) 0 c, .int .u8 cv]).run P w = .ok (.int .i64 (-1)) w := by
  have hs := Lib.run_indexByteString (P := P) .empty cv w
  exact hs
set_option maxRecDepth 1000000 in
theorem bcount_N {w : World} {A : Option Addr} {n c d : Nat} {C : List Nat} (hC : BR w A n c C) {g y : Nat} (h2 : w.cell? ⟨g, 0, none⟩ = some (.int .u8 (y : Int))) (y6 : (y : Int) < 256) :
    Calls Tryz.prog 127 #[.slice A n c, .slice (some ⟨g, 0, none⟩) 1 d] w (GotV w (.int .i64 ((ctB C y : Nat) : Int))) := by
  have hr : (Extern.BytealgCount.count #[.slice A n c, .int .u8 (y : Int)]).run Tryz.prog w = .ok (.int .i64 ((ctB C y : Nat) : Int)) w := by
    rcases Nat.eq_zero_or_pos n with hn | hn
    · have hC0 : C = [] := List.eq_nil_of_length_eq_zero (by rw [← hC.1]; exact hn)
      subst hn; subst hC0
      rcases A with _ | a
      · exact run_countNone w 0 c _
      · exact run_countZero w a c _
    · obtain ⟨b, off, rfl, _⟩ := hC.some hn
      exact run_countRow w b off n c (ints8 C) (by rw [ints8_len, ← hC.1]) (br_ints hC) _
  have cc := Below.refl w.heap.size w
  generalize ctB C y = z at *
  clear hC
  go_enter Tryz.func127, Tryz.ntmps127
  go_wp2_with fail
  rw [run_callFunc_extern Tryz.func138 (by kernel_rfl) (by kernel_rfl) (by kernel_rfl) (e := Extern.BytealgCount.count) (by kernel_rfl), hr]
  simp only [Result.andThen]
  rw [Oper.upon_value]
  go_wp2_with fail
  go_ret
  exact ⟨rfl, cc⟩
set_option maxRecDepth 1000000 in
theorem bindex_N {w : World} {A : Option Addr} {n c : Nat} {C : List Nat} (hC : BR w A n c C) (y : Nat) (y6 : (y : Int) < 256) :
    Calls Tryz.prog 129 #[.slice A n c, .int .u8 (y : Int)] w (GotV w (.int .i64 (ixB C y))) := by
  have hr : (Extern.BytealgIndexByte.indexByte #[.slice A n c, .int .u8 (y : Int)]).run Tryz.prog w = .ok (.int .i64 (ixB C y)) w := by
    rcases Nat.eq_zero_or_pos n with hn | hn
    · have hC0 : C = [] := List.eq_nil_of_length_eq_zero (by rw [← hC.1]; exact hn)
      subst hn; subst hC0
      rcases A with _ | a
      · exact Lib.run_indexByteNil w 0 c _
      · exact run_indexZero w a c _
    · obtain ⟨b, off, rfl, _⟩ := hC.some hn
      exact Lib.run_indexByteSlice w b off n c (ints8 C) (by rw [ints8_len, ← hC.1]) (br_ints hC) _
  have cc := Below.refl w.heap.size w
  generalize ixB C y = z at *
  clear hC
  go_enter Tryz.func129, Tryz.ntmps129
  go_wp2_with fail
  rw [run_callFunc_extern Tryz.func140 (by kernel_rfl) (by kernel_rfl) (by kernel_rfl) (e := Extern.BytealgIndexByte.indexByte) (by kernel_rfl), hr]
  simp only [Result.andThen]
  rw [Oper.upon_value]
  go_wp2_with fail
  go_ret
  exact ⟨rfl, cc⟩
end Go.Proofs.YtpidpebgeblenaaGreat

/-
  The landed book: what its iterator tells (middles, and the function value that it answers).
-/
namespace Go.Proofs.YtpidpebgeblenaaGreat
set_option maxRecDepth 100000
open Go.RowKit Go.Shelf
set_option linter.unusedVariables false
set_option linter.unusedSimpArgs false

attribute [local go_sem] Oper.semAt_some

/-- A number that the iterator tells. -/
abbrev Mid := { x : Nat // x ≤ 400000000000 }
def mkM (x : Nat) : Mid := ⟨min x 400000000000, Nat.min_le_right _ _⟩
theorem mkM_val {x : Nat} (h : x ≤ 400000000000) : (mkM x).1 = x := Nat.min_eq_left h
/-- The first m numbers of decade i; the first i decades. -/
def toldk (n i m : Nat) : List Mid := (List.range m).map fun j => mkM (p9 n i j)
def told (s : Bool) (i : Nat) : List Mid := (List.range i).flatMap fun r => toldk (many9 s r) r (many9 s r)
theorem toldk_succ (n i m : Nat) : toldk n i (m + 1) = toldk n i m ++ [mkM (p9 n i m)] := by unfold toldk; rw [List.range_succ, List.map_append]; rfl
theorem toldk_zero (n i : Nat) : toldk n i 0 = [] := rfl
theorem toldk_len (n i m : Nat) : (toldk n i m).length = m := by unfold toldk; simp
theorem told_succ (s : Bool) (k : Nat) : told s (k + 1) = told s k ++ toldk (many9 s k) k (many9 s k) := by unfold told; rw [List.range_succ, List.flatMap_append]; simp
/-- How many it tells. -/
def N9 (s : Bool) : Nat := if s then 127 else 254
theorem told_room (s : Bool) {i : Nat} (hi : i ≤ 6) : (told s i).length + many9 s i ≤ N9 s := by
  have h : ∀ s : Bool, ∀ i : Fin 7, (told s i.1).length + many9 s i.1 ≤ N9 s := by decide +kernel
  exact h s ⟨i, by omega⟩
theorem many9_succ (s : Bool) (i : Nat) : many9 s i * 2 = many9 s (i + 1) := by unfold many9; cases s <;> simp [Nat.pow_succ]

/-- middles: its parameter lies in a box; the function value captures the box. -/
theorem middles_any (p : Int) (w : World) :
    Calls Tryz.prog 131 #[.int .i64 p] w fun e w' => e = .returned (.func (.func 141) #[] #[.pointer (some ⟨w.heap.size, 0, none⟩)]) ∧ w' = w.alloc (.cells #[.int .i64 p] 2) := by
  go_enter Tryz.func131, Tryz.ntmps131
  go_wp2
  go_ret
  exact ⟨rfl, rfl⟩

set_option maxHeartbeats 2000000 in
theorem mids_in (l Bq : Nat) (s : Bool) (J Jx : List Mid → World → Prop)
    (hY : ∀ pre x W, J pre W → pre.length < N9 s → YieldAt Fence.wide 8 Tryz.prog l #[.int .i64 (x.1 : Int)] W fun e W' =>
      (e = .returned (.bool true) ∧ J (pre ++ [x]) W' ∧ True) ∨ (e = .returned (.bool false) ∧ Jx (pre ++ [x]) W'))
    (W : World) (hq : Boxed W Bq 2 (.int .i64 ((many9 s 0 : Nat) : Int))) (h0 : J [] W) :
    CallsIn Fence.wide 9 Tryz.prog 141 #[.func (.yield l) #[] #[], .pointer (some ⟨Bq, 0, none⟩)] W fun e W' => (∃ v, e = .returned v) ∧
      ((∃ ys, ys = told s 7 ∧ J ys W') ∨ (∃ pre, True ∧ Jx pre W')) := by
  have hmo : Tryz.prog.follows .mixedOrders = true := by kernel_rfl
  have hq' := hq.cell
  obtain ⟨n0, en0⟩ : ∃ n0, many9 s 0 = n0 := ⟨_, rfl⟩
  rw [en0] at hq'
  have EN := Lib.hid en0
  clear en0 hq
  refine callsIn_of_wp Tryz.func141 rfl trivial ?_ rfl
  simp only [Tryz.ntmps141, List.size_toArray, List.length_cons, List.length_nil, Nat.reduceAdd, Nat.reduceSub, Array.replicate_succ, Array.replicate_zero, List.push_toArray, List.append_toArray, List.nil_append, List.cons_append]
  gi_wp2
  clear hq'
  gi_loopw [3, 4, 7] (fun nv tv iv wr => ∃ i : Nat, i ≤ 7 ∧ iv = .int .i64 (i : Int) ∧ nv = .int .i64 ((many9 s i : Nat) : Int) ∧ tv = .int .i64 ((10 ^ i : Nat) : Int) ∧ J (told s i) wr) (fun _ _ iv _ => 7 - (intOf iv).toNat)
  case atStart => exact ⟨0, by omega, rfl, by rw [EN.out], rfl, h0⟩
  case round =>
    clear h0
    obtain ⟨i, hi7, rfl, rfl, rfl, hJ0⟩ := hrel
    by_cases hlt : i < 7
    · have i6 : i ≤ 6 := by omega
      have hd7 : decide ((i : Int) < 7) = true := decide_eq_true (by omega)
      obtain ⟨n1, n128⟩ := many9_le s i6
      have hroom := told_room s i6
      have hsn := many9_succ s i
      have hts := told_succ s i
      have t6 : 10 ^ i ≤ 10 ^ 6 := Nat.pow_le_pow_right (by omega) i6
      have htn : 10 ^ i * 10 = 10 ^ (i + 1) := (Nat.pow_succ 10 i).symm
      have hp : ∀ j, j < many9 s i → (2 * many9 s i + 9 * (2 * j + 1)) * (128 / many9 s i) ≤ 400000 ∧ p9 (many9 s i) i j ≤ 400000000000 ∧ p9 (many9 s i) i j = (2 * many9 s i + 9 * (2 * j + 1)) * (128 / many9 s i) * 10 ^ i := fun j hj => ⟨(p9_le n1 n128 i6 hj).1, (p9_le n1 n128 i6 hj).2.2, rfl⟩
      obtain ⟨n, en⟩ : ∃ n, many9 s i = n := ⟨_, rfl⟩
      obtain ⟨ten, et⟩ : ∃ ten, 10 ^ i = ten := ⟨_, rfl⟩
      have hn2 : IntKind.i64.wrap ((n : Int) * 2) = ((n * 2 : Nat) : Int) := by rw [IntWalk.i64_in _ (by omega)]; omega
      have ht2 : IntKind.i64.wrap ((ten : Int) * 10) = ((ten * 10 : Nat) : Int) := by rw [IntWalk.i64_in _ (by omega)]; omega
      obtain ⟨n', en'⟩ : ∃ n', n * 2 = n' := ⟨_, rfl⟩
      obtain ⟨ten', et'⟩ : ∃ ten', ten * 10 = ten' := ⟨_, rfl⟩
      rw [en] at hroom hsn hts hp n1 n128 ⊢
      rw [et] at t6 htn hp ⊢
      rw [en'] at hn2 hsn
      rw [et'] at ht2 htn
      have q1 : 128 / n ≤ 128 := Nat.div_le_self _ _
      have hqv : ((128 : Int)).tdiv (n : Int) = ((128 / n : Nat) : Int) := by rw [Int.tdiv_eq_ediv_of_nonneg (by omega)]; simp
      have hqv' : ((128 : Int)) / (n : Int) = ((128 / n : Nat) : Int) := by simp
      obtain ⟨q, eq⟩ : ∃ q, 128 / n = q := ⟨_, rfl⟩
      rw [eq] at hp q1 hqv hqv'
      have nn : ¬ n = 0 := by omega
      have nb : ((n : Int) == 0) = false := by simp; omega
      have kq : IntKind.i64.wrap (q : Int) = (q : Int) := IntWalk.i64_in _ (by omega)
      obtain ⟨a, ea⟩ : ∃ a, 2 * n = a := ⟨_, rfl⟩
      have k1 : IntKind.i64.wrap ((2 : Int) * (n : Int)) = (a : Int) := by rw [IntWalk.i64_in _ (by omega)]; omega
      have EA := Lib.hid ea
      have HT6 := Lib.hid t6
      have HSN := Lib.hid hsn
      have HTS := Lib.hid hts
      have HTN := Lib.hid htn
      have HP := Lib.hid hp
      have HR := Lib.hid hroom
      clear en et en' et' eq hsn hts htn hp hroom ea t6
      gi_wp2
      gi_loopw [5, 10] (fun _ jv wr => ∃ j : Nat, j ≤ n ∧ jv = .int .i64 (j : Int) ∧ J (told s i ++ toldk n i j) wr) (fun _ jv _ => n - (intOf jv).toNat)
      case atStart => exact ⟨0, by omega, rfl, by rw [toldk_zero, List.append_nil]; exact hJ0⟩
      case round =>
        clear hJ0
        obtain ⟨j, hjn, rfl, hJj⟩ := hrel
        by_cases hj : j < n
        · obtain ⟨b1, b3, ep⟩ := HP.out j hj
          have hM := mkM_val b3
          obtain ⟨c, ec⟩ : ∃ c, 2 * j = c := ⟨_, rfl⟩
          obtain ⟨d, ed⟩ : ∃ d, c + 1 = d := ⟨_, rfl⟩
          obtain ⟨o, eo⟩ : ∃ o, 9 * d = o := ⟨_, rfl⟩
          have ea := EA.out
          rw [ea, ec, ed, eo] at b1 ep
          obtain ⟨u, eu⟩ : ∃ u, a + o = u := ⟨_, rfl⟩
          have ul : u ≤ 2570 := by omega
          rw [eu] at b1 ep
          obtain ⟨v, ev⟩ : ∃ v, u * q = v := ⟨_, rfl⟩
          rw [ev] at b1 ep
          obtain ⟨x, ex⟩ : ∃ x, p9 n i j = x := ⟨_, rfl⟩
          have hks := toldk_succ n i j
          rw [ex] at b3 ep hM hks
          have k2 : IntKind.i64.wrap ((2 : Int) * (j : Int)) = (c : Int) := by rw [IntWalk.i64_in _ (by omega)]; omega
          have k3 : IntKind.i64.wrap ((c : Int) + 1) = (d : Int) := by rw [IntWalk.i64_in _ (by omega)]; omega
          have k4 : IntKind.i64.wrap ((9 : Int) * (d : Int)) = (o : Int) := by rw [IntWalk.i64_in _ (by omega)]; omega
          have k5 : IntKind.i64.wrap ((a : Int) + (o : Int)) = (u : Int) := by rw [IntWalk.i64_in _ (by omega)]; omega
          have KV : IntKind.i64.wrap ((u : Int) * (q : Int)) = (v : Int) := by rw [← Int.natCast_mul, ev]; exact IntWalk.i64_in _ (by omega)
          have KX : IntKind.i64.wrap ((v : Int) * (ten : Int)) = (x : Int) := by rw [← Int.natCast_mul, ← ep]; exact IntWalk.i64_in _ (by omega)
          obtain ⟨M, eM⟩ : ∃ M, mkM x = M := ⟨_, rfl⟩
          rw [eM] at hM hks
          have hlen : (told s i ++ toldk n i j).length < N9 s := by rw [List.length_append, toldk_len]; have := HR.out; omega
          obtain ⟨fn, tmps, assign, body, hy, hR⟩ := hY _ M wr hJj hlen
          rw [hM] at hy
          have hR' : RoundIn Fence.wide 8 Tryz.prog l fn tmps assign body wr fun e W' => ∃ bv : Bool, e = .returned (.bool bv) ∧ Hid ((bv = true ∧ J (told s i ++ toldk n i (j + 1)) W') ∨ (bv = false ∧ ∃ pre, Jx pre W')) := hR.mono fun e W' h => by
            rw [hks, ← List.append_assoc]
            rcases h with ⟨rfl, h1, _⟩ | ⟨rfl, h1⟩
            · exact ⟨true, rfl, .inl ⟨rfl, h1⟩⟩
            · exact ⟨false, rfl, .inr ⟨rfl, _, h1⟩⟩
          clear hR hks eM hM ec ed eo ea eu ev ex b1 b3 ep hlen
          gi_wp2_with (refine hR'.mono ?_; rintro e W3 ⟨bv, rfl, hpost⟩)
          · have hb : bv = false := by cases bv with | false => rfl | true => exact absurd ‹(!true) = true› (by decide)
            subst hb
            rcases hpost.out with ⟨h, _⟩ | ⟨_, pre3, hJx3⟩
            · cases h
            · refine bodyPost_ret (results_none rfl _ _ _) rfl ?_
              exact ⟨⟨_, rfl⟩, .inr ⟨_, trivial, hJx3⟩⟩
          · have hb : bv = true := by cases bv with | true => rfl | false => exact absurd ‹(!false) = false› (by decide)
            subst hb
            rcases hpost.out with ⟨_, hJ3⟩ | ⟨h, _⟩
            · go_roundw
              case rel => exact ⟨j + 1, by omega, by go_num, hJ3⟩
              case measure => simp [intOf]; omega
            · cases h
        · obtain rfl : j = n := by omega
          gi_wp2
          go_roundw
          case rel => exact ⟨i + 1, by omega, by go_num, by rw [← HSN.out], by rw [← HTN.out], by rw [HTS.out]; exact hJj⟩
          case measure => simp [intOf]; omega
    · obtain rfl : i = 7 := by omega
      gi_wp2
      go_end0
      exact ⟨⟨_, rfl⟩, .inl ⟨_, rfl, hJ0⟩⟩
/-- The iterator's contract, as a loop over it wants it. -/
theorem mids_stops (Bq : Nat) (s : Bool) (w : World) (hq : Boxed w Bq 2 (.int .i64 ((many9 s 0 : Nat) : Int))) :
    SeqStopsK Fence.wide 9 Tryz.prog 141 #[.pointer (some ⟨Bq, 0, none⟩)] (fun x : Mid => #[Value.int .i64 (x.1 : Int)])
      (fun _ _ => True) (fun ys => ys = told s 7) (fun _ => True) (N9 s) w := fun l J Jx W hW hJa _ hY h0 =>
  mids_in l Bq s J Jx hY W ((hW.block Bq hq.lt).trans hq) h0
end Go.Proofs.YtpidpebgeblenaaGreat

/-
  The landed book: tree.
-/
namespace Go.Proofs.YtpidpebgeblenaaGreat
set_option maxRecDepth 100000
set_option maxHeartbeats 4000000
open Go.RowKit Go.Shelf
set_option linter.unusedVariables false
set_option linter.unusedSimpArgs false

attribute [local go_sem] Oper.semAt_some

/-- The place of nought. -/
def half9 (s : Bool) : Nat := if s then 127 else 0
/-- A number is laid down: the row, and the place. -/
def stepL (s : Bool) (st : List Int × Nat) (x : Mid) : List Int × Nat :=
  (if s then (st.1.set (st.2 + 1) (x.1 : Int)).set (254 - (st.2 + 1)) (-(x.1 : Int)) else st.1.set (st.2 + 1) (x.1 : Int), st.2 + 1)
def lay9 (s : Bool) (pre : List Mid) : List Int × Nat := pre.foldl (stepL s) (List.replicate 256 0, half9 s)
theorem lay9_snoc (s : Bool) (pre : List Mid) (x : Mid) : lay9 s (pre ++ [x]) = stepL s (lay9 s pre) x := by unfold lay9; rw [List.foldl_append]; rfl
theorem fold_place (s : Bool) : ∀ (pre : List Mid) (st : List Int × Nat), (pre.foldl (stepL s) st).2 = st.2 + pre.length
  | [], st => rfl
  | x :: pre, st => by rw [List.foldl_cons, fold_place s pre]; show st.2 + 1 + pre.length = _; rw [List.length_cons]; omega
theorem lay9_place (s : Bool) (pre : List Mid) : (lay9 s pre).2 = half9 s + pre.length := fold_place s pre _
theorem fold_len (s : Bool) : ∀ (pre : List Mid) (st : List Int × Nat), (pre.foldl (stepL s) st).1.length = st.1.length
  | [], st => rfl
  | x :: pre, st => by rw [List.foldl_cons, fold_len s pre]; unfold stepL; cases s <;> simp
theorem lay9_len (s : Bool) (pre : List Mid) : (lay9 s pre).1.length = 256 := by unfold lay9; rw [fold_len]; exact List.length_replicate
theorem lay9_done (s : Bool) : (lay9 s (told s 7)).1.set 255 2560000000 = tree9 s := by cases s <;> decide +kernel
theorem row_ownI {β : Type} (n₀ : Nat) (e : TypeId) (size : Nat) (v : β → Value) (k : β → Nat) (f : β → List Value) : Own (fun s W => W.ownsRow n₀ e size (v s) (k s) (f s)) := by
  rintro s X Y row hr hg hrow
  refine hr.kept hg ?_
  rcases hr.2 with ⟨h, _⟩ | ⟨g, cap, cur, h, _, hgb, _⟩
  · exact .inl (by rw [h]; rfl)
  · refine .inr fun e' => ?_
    obtain ⟨o, ho, hc⟩ := hrow g (by rw [← e', h]; rfl)
    rw [hgb] at ho; cases ho; cases hc
theorem atI {l : List Int} {j n : Nat} (h : l.length = n) (hj : j < n) : ∃ v, (l.map encI)[j]? = some (.int .i64 v) := by
  rw [List.getElem?_map, List.getElem?_eq_getElem (by omega)]
  exact ⟨_, rfl⟩
theorem made_zeroI (n : Nat) : (madeCells (Value.int .i64 0).cells (n * 1)).toList = (List.replicate n (0 : Int)).map encI := by
  rw [Nat.mul_one, show (Value.int .i64 0).cells = #[Value.int .i64 0] from rfl, toList_madeCells_one, List.map_replicate]
  rfl

theorem wpListIn_make_full9 {F : Fence} {n : Nat} {P : Program} (w : World) {ops : Array Oper} {rest : List Oper} {o : Oper} {a : Act} {Q : Exit → Act → World → Prop}
    (hg : o.guard = none) (l c : Operand) (t : TypeId) (hop : o.op = Op.makeSlice t l c)
    (base : Nat) (e : TypeId) (i : TypeInfo) (z : Value) (size : Nat) (h1 : P.underlying t = some (.slice e)) (h2 : P.info? e = some i) (h3 : i.zero = some z) (h4 : i.size = size)
    (kl kc : IntKind) (m : Nat) (hl : a.eval l = .int kl (m : Int)) (hc : a.eval c = .int kc (m : Int)) (b2 : i.bytes * m ≤ 281474976710656) (b3 : m ≤ maxLen) (b4 : base ≤ w.heap.size)
    (hK : ∀ w', w'.ownsRow base e size (.slice (some ⟨w.heap.size, 0, none⟩) m m) m (madeCells z.cells (m * size)).toList → w.grownBy w' none → wpListIn F n P ops Q rest (a.put o.dst (.slice (some ⟨w.heap.size, 0, none⟩) m m)) w') :
    wpListIn F n P ops Q (o :: rest) a w := by
  refine wpListIn_plain hg fun K hK' => ?_
  obtain ⟨w', hrun, r1, r2⟩ := run_make_full (P := P) w base t e i z size h1 h2 h3 h4 kl kc m b2 b3 b4
  unfold Oper.wpIn
  refine ⟨?_, ?_⟩
  · simp [Oper.about, hop]
  · rw [Oper.semAt_plain F _ _ (by rw [hop]; intro c hc'; cases hc')]
    simp [execOp, hop, hl, hc, hrun, Result.andThen]
    exact hK' _ _ (hK w' r1 r2)

theorem tree_t (Bq : Nat) (w : World) (hq : Boxed w Bq 2 (.int .i64 ((many9 true 0 : Nat) : Int))) :
    Calls Tryz.prog 130 #[.func (.func 141) #[] #[.pointer (some ⟨Bq, 0, none⟩)], .bool true] w (GotI w (tree9 true)) := by
  refine (callsIn_wide (n := 10)).1 ?_
  refine callsIn_of_wp_marks Tryz.func130 rfl trivial ?_ rfl
  simp only [Tryz.ntmps130, List.size_toArray, List.length_cons, List.length_nil, Nat.reduceAdd, Nat.reduceSub, Array.replicate_succ, Array.replicate_zero, List.push_toArray, List.append_toArray, List.nil_append, List.cons_append]
  obtain ⟨i0, hi, hz0, hz1, hz2⟩ := info_parts infoI
  obtain ⟨s, hs⟩ : ∃ s, w.heap.size = s := ⟨_, rfl⟩
  have HS := Lib.hid hs
  have bG := Boxed.new w 4 (.bool true)
  rw [hs] at bG
  have cG := bG.cell
  have hbw : Below s w (w.alloc (.cells #[.bool true] 4)) := (Below.refl s w).alloc (by omega) _
  obtain ⟨w0, hw0⟩ : ∃ w0, w.alloc (.cells #[.bool true] 4) = w0 := ⟨_, rfl⟩
  have hz0' : w0.heap.size = s + 1 := by rw [← hw0, World.size_alloc, hs]
  rw [hw0] at bG cG hbw
  gi_wp2_with (gi_at_make; refine wpListIn_make_full9 _ rfl _ _ 34 rfl s 2 i0 (.int .i64 0) 1 Tryz.underlying34 hi hz0 hz1 .i64 .i64 256 rfl rfl (by rw [hz2]; omega) (by unfold maxLen; omega) (by rw [hz0']; omega) ?_; intro w1 hown1 hgrow1; rw [made_zeroI] at hown1; have bG1 := bG.kept hgrow1 (by simp); have cG1 := ((bG1.alloc (.cells #[.slice (some ⟨s + 1, 0, none⟩) 256 256] 34)).alloc (.cells #[.int .i64 0] 3)).cell)
  rw [hz0'] at hown1
  obtain ⟨t, ht⟩ : ∃ t, w1.heap.size = t := ⟨_, rfl⟩
  rw [ht]
  have hst : s + 1 < t := by have := (hown1.lt (s + 1) rfl).2; omega
  have bL := Boxed.new w1 34 (.slice (some ⟨s + 1, 0, none⟩) 256 256)
  rw [ht] at bL
  have hB1 : Below s w w1 := hbw.grown hgrow1 (by omega) (fun k h => by cases h)
  have hown2 := hown1.alloc (.cells #[.slice (some ⟨s + 1, 0, none⟩) 256 256] 34)
  have bG2 := bG1.alloc (.cells #[.slice (some ⟨s + 1, 0, none⟩) 256 256] 34)
  have hB2 := hB1.alloc (by omega) (.cells #[.slice (some ⟨s + 1, 0, none⟩) 256 256] 34)
  obtain ⟨w2, hw2⟩ : ∃ w2, w1.alloc (.cells #[.slice (some ⟨s + 1, 0, none⟩) 256 256] 34) = w2 := ⟨_, rfl⟩
  have hz2' : w2.heap.size = t + 1 := by rw [← hw2, World.size_alloc, ht]
  rw [hw2] at bL hown2 bG2 hB2 ⊢
  have bH := Boxed.new w2 3 (.int .i64 127)
  rw [hz2'] at bH
  have hown3 := hown2.alloc (.cells #[.int .i64 127] 3)
  have bG3 := bG2.alloc (.cells #[.int .i64 127] 3)
  have bL3 := bL.alloc (.cells #[.int .i64 127] 3)
  have hB3 := hB2.alloc (by omega) (.cells #[.int .i64 127] 3)
  obtain ⟨w3, hw3⟩ : ∃ w3, w2.alloc (.cells #[.int .i64 127] 3) = w3 := ⟨_, rfl⟩
  have hz3' : w3.heap.size = t + 1 + 1 := by rw [← hw3, World.size_alloc, hz2']
  rw [hw3] at bH hown3 bG3 bL3 hB3 ⊢
  have bP := Boxed.new w3 3 (.int .i64 127)
  rw [hz3'] at bP
  have hown4 := hown3.alloc (.cells #[.int .i64 127] 3)
  have bG4 := bG3.alloc (.cells #[.int .i64 127] 3)
  have bL4 := bL3.alloc (.cells #[.int .i64 127] 3)
  have bH4 := bH.alloc (.cells #[.int .i64 127] 3)
  have hB4 := hB3.alloc (by omega) (.cells #[.int .i64 127] 3)
  obtain ⟨W0, hW0⟩ : ∃ W0, w3.alloc (.cells #[.int .i64 127] 3) = W0 := ⟨_, rfl⟩
  have hsz : W0.heap.size = t + 3 := by rw [← hW0, World.size_alloc, hz3']
  rw [hW0] at bP hown4 bG4 bL4 bH4 hB4 ⊢
  have hq0 : Boxed W0 Bq 2 (.int .i64 ((many9 true 0 : Nat) : Int)) := (hB4.block Bq (by have := hq.lt; omega)).trans hq
  clear hown1 hgrow1 hw2 hz2' hown2 bG2 hB2 hw3 hz3' hown3 bG3 bL3 hB3 hW0 ht bL bH bG bG1 cG cG1 hw0 hz0' hbw hB1 hq
  refine wpIn_rangeFunc_ownG rfl (by decide) (gf := 141) (lb := #[.pointer (some ⟨Bq, 0, none⟩)]) rfl trivial (enters_of Tryz.func141 (by kernel_rfl) rfl)
    (mids_stops Bq true W0 hq0)
    (fun _ _ => trivial) (fun _ _ _ _ _ _ _ _ => trivial) (Below.refl _ _) (fun _ => rfl)
    (fun pre W => (Boxed W s 4 (.bool true) ∧ Boxed W t 34 (.slice (some ⟨s + 1, 0, none⟩) 256 256) ∧ Boxed W (t + 1) 3 (.int .i64 127) ∧ Boxed W (t + 1 + 1) 3 (.int .i64 ((127 + pre.length : Nat) : Int)) ∧
      W.ownsRow s 2 1 (.slice (some ⟨s + 1, 0, none⟩) 256 256) 256 ((lay9 true pre).1.map encI)) ∧ Below s w W)
    (fun _ _ _ => False)
    (OwnFrom.and (OwnFrom.and (Own.from (boxed_own _ _ _) _) (OwnFrom.and (Own.from (boxed_own _ _ _) _) (OwnFrom.and (Own.from (boxed_own _ _ _) _) (OwnFrom.and (Own.from (boxed_own _ _ _) _) (Own.from (row_ownI _ _ _ _ _ _) _))))) (ownFrom_below (by have := HS.out; omega) (by omega)))
    (fun _ _ _ _ _ hs _ _ => hs)
    ⟨⟨bG4, bL4, bH4, bP, hown4⟩, hB4⟩
    (fun x => { tmps := #[.func (.func 141) #[] #[.pointer (some ⟨Bq, 0, none⟩)], .bool true, undef, .pointer (some ⟨s, 0, none⟩), .slice none 0 0, .pointer (some ⟨t, 0, none⟩), .pointer (some ⟨t + 1, 0, none⟩), .pointer (some ⟨t + 1 + 1, 0, none⟩), .int .i64 (x.1 : Int), .slice (some ⟨s + 1, 0, none⟩) 256 256, .bool true, .int .i64 127,
      .func (.func 141) #[] #[.pointer (some ⟨Bq, 0, none⟩)], .int .i64 (x.1 : Int), undef, undef, undef, undef, undef, undef, undef, undef, undef, undef, undef, undef, undef, undef, undef, undef, undef, undef], defers := [] }) ?assign ?body ?done ?stop
  case assign =>
    intro l x W K hK
    gi_wp2
    exact hK
  case body =>
    rintro l pre x W ⟨⟨hG, hL, hH, hP, hrow⟩, hBl⟩ hlt
    have hlt' : pre.length < 127 := hlt
    have hxl := x.2
    have hlen := lay9_len true pre
    have hpl := lay9_place true pre
    have hsn := lay9_snoc true pre x
    obtain ⟨r, er⟩ : ∃ r, lay9 true pre = r := ⟨_, rfl⟩
    obtain ⟨p, ep⟩ : ∃ p, 127 + pre.length = p := ⟨_, rfl⟩
    obtain ⟨p1, ep1⟩ : ∃ p1, p + 1 = p1 := ⟨_, rfl⟩
    have er2 : r.2 = p := by rw [← er, hpl]; exact ep
    have epl : 127 + (pre ++ [x]).length = p1 := by rw [List.length_append, ← ep1, ← ep]; rfl
    have hsn1 : (lay9 true (pre ++ [x])).1 = (r.1.set p1 (x.1 : Int)).set (254 - p1) (-(x.1 : Int)) := by rw [hsn, er]; unfold stepL; rw [er2, ep1]; rfl
    rw [er] at hrow hlen
    rw [ep] at hP
    have p1l : p1 ≤ 254 := by omega
    have k1 : IntKind.i64.wrap ((p : Int) + 1) = (p1 : Int) := by rw [IntWalk.i64_in _ (by omega)]; omega
    have p1i : (p1 : Int) < 256 := by omega
    have p1n : p1 < 256 := by omega
    obtain ⟨xv, ex⟩ : ∃ xv, ((x.1 : Nat) : Int) = xv := ⟨_, rfl⟩
    have hP1 := hP.set (.int .i64 (p1 : Int))
    have hG1 := hG.other (B' := t + 1 + 1) (by omega) (.int .i64 (p1 : Int))
    have hL1 := hL.other (B' := t + 1 + 1) (by omega) (.int .i64 (p1 : Int))
    have hH1 := hH.other (B' := t + 1 + 1) (by omega) (.int .i64 (p1 : Int))
    have hrow1 := hrow.kept (grownBy_setCell' W (t + 1 + 1) (.int .i64 (p1 : Int))) (.inr (by simp [Value.ownBlock]; omega))
    have cP0 := hP.cell
    have fP0 := hP.frozen
    obtain ⟨W1, eW1⟩ : ∃ W1, W.setCell ⟨t + 1 + 1, 0, none⟩ (.int .i64 (p1 : Int)) = W1 := ⟨_, rfl⟩
    rw [eW1] at hP1 hG1 hL1 hH1 hrow1
    have cL1 := hL1.cell
    have cP1 := hP1.cell
    have cR1 := hrow1.cellAt p1 (by omega)
    obtain ⟨v1, ev1⟩ := atI hlen p1n
    rw [ev1] at cR1
    have fR1 := hrow1.frozenAt p1
    obtain ⟨hrow2, hgr2⟩ := hrow1.stored p1 (.int .i64 xv)
    have hG2 := hG1.kept hgr2 (by simp)
    have hL2 := hL1.kept hgr2 (by simp; omega)
    have hH2 := hH1.kept hgr2 (by simp; omega)
    have hP2 := hP1.kept hgr2 (by simp; omega)
    obtain ⟨W2, eW2⟩ : ∃ W2, W1.setCell ⟨s + 1, p1, none⟩ (.int .i64 xv) = W2 := ⟨_, rfl⟩
    rw [eW2] at hrow2 hG2 hL2 hH2 hP2
    have cG2 := hG2.cell
    have cL2 := hL2.cell
    have cH2 := hH2.cell
    have cP2 := hP2.cell
    obtain ⟨q, eq⟩ : ∃ q, 254 - p1 = q := ⟨_, rfl⟩
    rw [eq] at hsn1
    have k2 : IntKind.i64.wrap ((254 : Int) - (p1 : Int)) = (q : Int) := by rw [IntWalk.i64_in _ (by omega)]; omega
    have k3 : IntKind.i64.wrap (-xv) = -xv := by rw [IntWalk.i64_in _ (by omega)]
    have qi : (q : Int) < 256 := by omega
    have qn : q < 256 := by omega
    obtain ⟨y, ey⟩ : ∃ y, -xv = y := ⟨_, rfl⟩
    have k4 : wrap64 (-xv) = y := (IntWalk.wrap64_in _ (by omega)).trans ey
    clear k3
    have cR2 := hrow2.cellAt q (by omega)
    obtain ⟨v2, ev2⟩ := atI (l := r.1.set p1 xv) (j := q) (by rw [List.length_set]; exact hlen) qn
    rw [List.map_set] at ev2
    rw [show (r.1.map encI).set p1 (.int .i64 xv) = (r.1.map encI).set p1 (encI xv) from rfl, ev2] at cR2
    have fR2 := hrow2.frozenAt q
    obtain ⟨hrow3, hgr3⟩ := hrow2.stored q (.int .i64 y)
    have hG3 := hG2.kept hgr3 (by simp)
    have hL3 := hL2.kept hgr3 (by simp; omega)
    have hH3 := hH2.kept hgr3 (by simp; omega)
    have hP3 := hP2.kept hgr3 (by simp; omega)
    have hKO : KeepsOthers W (W2.setCell ⟨s + 1, q, none⟩ (.int .i64 y)) := by rw [← eW2, ← eW1]; exact ((KeepsOthers.setCell _ _ _).trans (KeepsOthers.setCell _ _ _)).trans (KeepsOthers.setCell _ _ _)
    have hBW : Below s W (W2.setCell ⟨s + 1, q, none⟩ (.int .i64 y)) := by rw [← eW2, ← eW1]; exact (((Below.refl s W).setCell (p := ⟨t + 1 + 1, 0, none⟩) (by simp; omega) _).setCell (p := ⟨s + 1, p1, none⟩) (by simp) _).setCell (p := ⟨s + 1, q, none⟩) (by simp) _
    obtain ⟨W3, eW3⟩ : ∃ W3, W2.setCell ⟨s + 1, q, none⟩ (.int .i64 y) = W3 := ⟨_, rfl⟩
    rw [eW3] at hrow3 hG3 hL3 hH3 hP3 hKO hBW
    have HSN := Lib.hid hsn1
    have HEP := Lib.hid epl
    have HEX := Lib.hid ex
    have HEY := Lib.hid ey
    have hrow3' : W3.ownsRow s 2 1 (.slice (some ⟨s + 1, 0, none⟩) 256 256) 256 ((lay9 true (pre ++ [x])).1.map encI) := by
      rw [HSN.out, List.map_set, List.map_set, HEX.out, HEY.out]; exact hrow3
    rw [← HEP.out] at hP3
    have HRES := Lib.hid (And.intro (And.intro hG3 (And.intro hL3 (And.intro hH3 (And.intro hP3 hrow3')))) (hBl.trans hBW))
    clear ev1 ev2 hrow3' hrow3 hrow2 hrow1 hrow hG3 hL3 hH3 hP3 hG2 hL2 hH2 hP2 hG1 hL1 hH1 hP1 hG hL hH hP hgr2 hgr3 hsn1 epl ey eq ep1 ep er er2 hsn hpl hlen hBl
    rw [ex] at *
    clear ex
    gi_wp2
    exact ⟨hKO.from _, trivial, HRES.out⟩
  case done =>
    rintro D ys W hD hys ⟨⟨hG, hL, hH, hP, hrow⟩, hBl⟩ hK
    have hdone := lay9_done true
    rw [← hys] at hdone
    have hlen := lay9_len true ys
    obtain ⟨r, er⟩ : ∃ r, (lay9 true ys).1 = r := ⟨_, rfl⟩
    rw [er] at hrow hlen hdone
    have HD := Lib.hid hdone
    have hrl := (hrow.lt (s + 1) rfl).2
    have cL := hL.cell
    have cR := hrow.cellAt 255 (by omega)
    obtain ⟨v1, ev1⟩ := atI (j := 255) hlen (by omega)
    rw [ev1] at cR
    have fR := hrow.frozenAt 255
    obtain ⟨hrow2, hgr2⟩ := hrow.stored 255 (.int .i64 2560000000)
    have hL2 := hL.kept hgr2 (by simp; omega)
    have cL2 := hL2.cell
    have hBW : Below s W (W.setCell ⟨s + 1, 255, none⟩ (.int .i64 2560000000)) := (Below.refl s W).setCell (p := ⟨s + 1, 255, none⟩) (by simp) _
    have hK2 := (KeepsOthers.setCell W ⟨s + 1, 255, none⟩ (.int .i64 2560000000)).same D _ hK rfl
    obtain ⟨W2, eW2⟩ : ∃ W2, W.setCell ⟨s + 1, 255, none⟩ (.int .i64 2560000000) = W2 := ⟨_, rfl⟩
    rw [eW2] at hrow2 hL2 cL2 hBW hK2
    clear ev1 hdone er hys hrow hL hG hH hP hgr2
    gi_wp2
    refine ⟨by simp, .inl ⟨_, _, rfl, run_takeDeferred hK2, ?_⟩⟩
    have hrow' := ownsRow_putObj hrow2 (.deferred none) hK2 rfl
    refine ⟨_, results_tmp rfl _ _ _, _, _, _, rfl, ?_, ?_⟩
    · rw [← HD.out]
      refine IR.of_own (base := s) (e := 2) ?_
      rw [List.map_set]
      exact hrow'
    · rw [HS.out]; exact (hBl.trans hBW).trans (belowK_b (w := W0) (by omega) W2 D _ _ hD hK2 rfl rfl)
  case stop =>
    rintro D c pre W _ _ h _
    exact h.elim

theorem tree_f (Bq : Nat) (w : World) (hq : Boxed w Bq 2 (.int .i64 ((many9 false 0 : Nat) : Int))) :
    Calls Tryz.prog 130 #[.func (.func 141) #[] #[.pointer (some ⟨Bq, 0, none⟩)], .bool false] w (GotI w (tree9 false)) := by
  refine (callsIn_wide (n := 10)).1 ?_
  refine callsIn_of_wp_marks Tryz.func130 rfl trivial ?_ rfl
  simp only [Tryz.ntmps130, List.size_toArray, List.length_cons, List.length_nil, Nat.reduceAdd, Nat.reduceSub, Array.replicate_succ, Array.replicate_zero, List.push_toArray, List.append_toArray, List.nil_append, List.cons_append]
  obtain ⟨i0, hi, hz0, hz1, hz2⟩ := info_parts infoI
  obtain ⟨s, hs⟩ : ∃ s, w.heap.size = s := ⟨_, rfl⟩
  have HS := Lib.hid hs
  have bG := Boxed.new w 4 (.bool false)
  rw [hs] at bG
  have cG := bG.cell
  have hbw : Below s w (w.alloc (.cells #[.bool false] 4)) := (Below.refl s w).alloc (by omega) _
  obtain ⟨w0, hw0⟩ : ∃ w0, w.alloc (.cells #[.bool false] 4) = w0 := ⟨_, rfl⟩
  have hz0' : w0.heap.size = s + 1 := by rw [← hw0, World.size_alloc, hs]
  rw [hw0] at bG cG hbw
  gi_wp2_with (gi_at_make; refine wpListIn_make_full9 _ rfl _ _ 34 rfl s 2 i0 (.int .i64 0) 1 Tryz.underlying34 hi hz0 hz1 .i64 .i64 256 rfl rfl (by rw [hz2]; omega) (by unfold maxLen; omega) (by rw [hz0']; omega) ?_; intro w1 hown1 hgrow1; rw [made_zeroI] at hown1; have bG1 := bG.kept hgrow1 (by simp); have cG1 := ((bG1.alloc (.cells #[.slice (some ⟨s + 1, 0, none⟩) 256 256] 34)).alloc (.cells #[.int .i64 0] 3)).cell)
  rw [hz0'] at hown1
  obtain ⟨t, ht⟩ : ∃ t, w1.heap.size = t := ⟨_, rfl⟩
  rw [ht]
  have hst : s + 1 < t := by have := (hown1.lt (s + 1) rfl).2; omega
  have bL := Boxed.new w1 34 (.slice (some ⟨s + 1, 0, none⟩) 256 256)
  rw [ht] at bL
  have hB1 : Below s w w1 := hbw.grown hgrow1 (by omega) (fun k h => by cases h)
  have hown2 := hown1.alloc (.cells #[.slice (some ⟨s + 1, 0, none⟩) 256 256] 34)
  have bG2 := bG1.alloc (.cells #[.slice (some ⟨s + 1, 0, none⟩) 256 256] 34)
  have hB2 := hB1.alloc (by omega) (.cells #[.slice (some ⟨s + 1, 0, none⟩) 256 256] 34)
  obtain ⟨w2, hw2⟩ : ∃ w2, w1.alloc (.cells #[.slice (some ⟨s + 1, 0, none⟩) 256 256] 34) = w2 := ⟨_, rfl⟩
  have hz2' : w2.heap.size = t + 1 := by rw [← hw2, World.size_alloc, ht]
  rw [hw2] at bL hown2 bG2 hB2 ⊢
  have bH := Boxed.new w2 3 (.int .i64 0)
  rw [hz2'] at bH
  have hown3 := hown2.alloc (.cells #[.int .i64 0] 3)
  have bG3 := bG2.alloc (.cells #[.int .i64 0] 3)
  have bL3 := bL.alloc (.cells #[.int .i64 0] 3)
  have hB3 := hB2.alloc (by omega) (.cells #[.int .i64 0] 3)
  obtain ⟨w3, hw3⟩ : ∃ w3, w2.alloc (.cells #[.int .i64 0] 3) = w3 := ⟨_, rfl⟩
  have hz3' : w3.heap.size = t + 1 + 1 := by rw [← hw3, World.size_alloc, hz2']
  rw [hw3] at bH hown3 bG3 bL3 hB3 ⊢
  have bP := Boxed.new w3 3 (.int .i64 0)
  rw [hz3'] at bP
  have hown4 := hown3.alloc (.cells #[.int .i64 0] 3)
  have bG4 := bG3.alloc (.cells #[.int .i64 0] 3)
  have bL4 := bL3.alloc (.cells #[.int .i64 0] 3)
  have bH4 := bH.alloc (.cells #[.int .i64 0] 3)
  have hB4 := hB3.alloc (by omega) (.cells #[.int .i64 0] 3)
  obtain ⟨W0, hW0⟩ : ∃ W0, w3.alloc (.cells #[.int .i64 0] 3) = W0 := ⟨_, rfl⟩
  have hsz : W0.heap.size = t + 3 := by rw [← hW0, World.size_alloc, hz3']
  rw [hW0] at bP hown4 bG4 bL4 bH4 hB4 ⊢
  have hq0 : Boxed W0 Bq 2 (.int .i64 ((many9 false 0 : Nat) : Int)) := (hB4.block Bq (by have := hq.lt; omega)).trans hq
  clear hown1 hgrow1 hw2 hz2' hown2 bG2 hB2 hw3 hz3' hown3 bG3 bL3 hB3 hW0 ht bL bH bG bG1 cG cG1 hw0 hz0' hbw hB1 hq
  refine wpIn_rangeFunc_ownG rfl (by decide) (gf := 141) (lb := #[.pointer (some ⟨Bq, 0, none⟩)]) rfl trivial (enters_of Tryz.func141 (by kernel_rfl) rfl)
    (mids_stops Bq false W0 hq0)
    (fun _ _ => trivial) (fun _ _ _ _ _ _ _ _ => trivial) (Below.refl _ _) (fun _ => rfl)
    (fun pre W => (Boxed W s 4 (.bool false) ∧ Boxed W t 34 (.slice (some ⟨s + 1, 0, none⟩) 256 256) ∧ Boxed W (t + 1) 3 (.int .i64 0) ∧ Boxed W (t + 1 + 1) 3 (.int .i64 ((pre.length : Nat) : Int)) ∧
      W.ownsRow s 2 1 (.slice (some ⟨s + 1, 0, none⟩) 256 256) 256 ((lay9 false pre).1.map encI)) ∧ Below s w W)
    (fun _ _ _ => False)
    (OwnFrom.and (OwnFrom.and (Own.from (boxed_own _ _ _) _) (OwnFrom.and (Own.from (boxed_own _ _ _) _) (OwnFrom.and (Own.from (boxed_own _ _ _) _) (OwnFrom.and (Own.from (boxed_own _ _ _) _) (Own.from (row_ownI _ _ _ _ _ _) _))))) (ownFrom_below (by have := HS.out; omega) (by omega)))
    (fun _ _ _ _ _ hs _ _ => hs)
    ⟨⟨bG4, bL4, bH4, bP, hown4⟩, hB4⟩
    (fun x => { tmps := #[.func (.func 141) #[] #[.pointer (some ⟨Bq, 0, none⟩)], .bool false, undef, .pointer (some ⟨s, 0, none⟩), .slice none 0 0, .pointer (some ⟨t, 0, none⟩), .pointer (some ⟨t + 1, 0, none⟩), .pointer (some ⟨t + 1 + 1, 0, none⟩), .int .i64 (x.1 : Int), .slice (some ⟨s + 1, 0, none⟩) 256 256, .bool false, .int .i64 0,
      .func (.func 141) #[] #[.pointer (some ⟨Bq, 0, none⟩)], .int .i64 (x.1 : Int), undef, undef, undef, undef, undef, undef, undef, undef, undef, undef, undef, undef, undef, undef, undef, undef, undef, undef], defers := [] }) ?assign ?body ?done ?stop
  case assign =>
    intro l x W K hK
    gi_wp2
    exact hK
  case body =>
    rintro l pre x W ⟨⟨hG, hL, hH, hP, hrow⟩, hBl⟩ hlt
    have hlt' : pre.length < 254 := hlt
    have hxl := x.2
    have hlen := lay9_len false pre
    have hpl := lay9_place false pre
    have hsn := lay9_snoc false pre x
    obtain ⟨r, er⟩ : ∃ r, lay9 false pre = r := ⟨_, rfl⟩
    obtain ⟨p, ep⟩ : ∃ p, pre.length = p := ⟨_, rfl⟩
    obtain ⟨p1, ep1⟩ : ∃ p1, p + 1 = p1 := ⟨_, rfl⟩
    have er2 : r.2 = p := by rw [← er, hpl]; unfold half9; simpa using ep
    have epl : (pre ++ [x]).length = p1 := by rw [List.length_append, ← ep1, ← ep]; rfl
    have hsn1 : (lay9 false (pre ++ [x])).1 = r.1.set p1 (x.1 : Int) := by rw [hsn, er]; unfold stepL; rw [er2, ep1]; rfl
    rw [er] at hrow hlen
    rw [ep] at hP
    have p1l : p1 ≤ 254 := by omega
    have k1 : IntKind.i64.wrap ((p : Int) + 1) = (p1 : Int) := by rw [IntWalk.i64_in _ (by omega)]; omega
    have p1i : (p1 : Int) < 256 := by omega
    have p1n : p1 < 256 := by omega
    obtain ⟨xv, ex⟩ : ∃ xv, ((x.1 : Nat) : Int) = xv := ⟨_, rfl⟩
    have hP1 := hP.set (.int .i64 (p1 : Int))
    have hG1 := hG.other (B' := t + 1 + 1) (by omega) (.int .i64 (p1 : Int))
    have hL1 := hL.other (B' := t + 1 + 1) (by omega) (.int .i64 (p1 : Int))
    have hH1 := hH.other (B' := t + 1 + 1) (by omega) (.int .i64 (p1 : Int))
    have hrow1 := hrow.kept (grownBy_setCell' W (t + 1 + 1) (.int .i64 (p1 : Int))) (.inr (by simp [Value.ownBlock]; omega))
    have cP0 := hP.cell
    have fP0 := hP.frozen
    obtain ⟨W1, eW1⟩ : ∃ W1, W.setCell ⟨t + 1 + 1, 0, none⟩ (.int .i64 (p1 : Int)) = W1 := ⟨_, rfl⟩
    rw [eW1] at hP1 hG1 hL1 hH1 hrow1
    have cL1 := hL1.cell
    have cP1 := hP1.cell
    have cR1 := hrow1.cellAt p1 (by omega)
    obtain ⟨v1, ev1⟩ := atI hlen p1n
    rw [ev1] at cR1
    have fR1 := hrow1.frozenAt p1
    obtain ⟨hrow2, hgr2⟩ := hrow1.stored p1 (.int .i64 xv)
    have hG2 := hG1.kept hgr2 (by simp)
    have hL2 := hL1.kept hgr2 (by simp; omega)
    have hH2 := hH1.kept hgr2 (by simp; omega)
    have hP2 := hP1.kept hgr2 (by simp; omega)
    obtain ⟨W2, eW2⟩ : ∃ W2, W1.setCell ⟨s + 1, p1, none⟩ (.int .i64 xv) = W2 := ⟨_, rfl⟩
    rw [eW2] at hrow2 hG2 hL2 hH2 hP2
    have cG2 := hG2.cell
    have hKO : KeepsOthers W W2 := by rw [← eW2, ← eW1]; exact (KeepsOthers.setCell _ _ _).trans (KeepsOthers.setCell _ _ _)
    have hBW : Below s W W2 := by rw [← eW2, ← eW1]; exact ((Below.refl s W).setCell (p := ⟨t + 1 + 1, 0, none⟩) (by simp; omega) _).setCell (p := ⟨s + 1, p1, none⟩) (by simp) _
    have HSN := Lib.hid hsn1
    have HEP := Lib.hid epl
    have HEX := Lib.hid ex
    have hrow3' : W2.ownsRow s 2 1 (.slice (some ⟨s + 1, 0, none⟩) 256 256) 256 ((lay9 false (pre ++ [x])).1.map encI) := by
      rw [HSN.out, List.map_set, HEX.out]; exact hrow2
    rw [← HEP.out] at hP2
    have HRES := Lib.hid (And.intro (And.intro hG2 (And.intro hL2 (And.intro hH2 (And.intro hP2 hrow3')))) (hBl.trans hBW))
    clear ev1 hrow3' hrow2 hrow1 hrow hG2 hL2 hH2 hP2 hG1 hL1 hH1 hP1 hG hL hH hP hgr2 hsn1 epl ep1 ep er er2 hsn hpl hlen hBl
    rw [ex] at *
    clear ex
    gi_wp2
    exact ⟨hKO.from _, trivial, HRES.out⟩
  case done =>
    rintro D ys W hD hys ⟨⟨hG, hL, hH, hP, hrow⟩, hBl⟩ hK
    have hdone := lay9_done false
    rw [← hys] at hdone
    have hlen := lay9_len false ys
    obtain ⟨r, er⟩ : ∃ r, (lay9 false ys).1 = r := ⟨_, rfl⟩
    rw [er] at hrow hlen hdone
    have HD := Lib.hid hdone
    have hrl := (hrow.lt (s + 1) rfl).2
    have cL := hL.cell
    have cR := hrow.cellAt 255 (by omega)
    obtain ⟨v1, ev1⟩ := atI (j := 255) hlen (by omega)
    rw [ev1] at cR
    have fR := hrow.frozenAt 255
    obtain ⟨hrow2, hgr2⟩ := hrow.stored 255 (.int .i64 2560000000)
    have hL2 := hL.kept hgr2 (by simp; omega)
    have cL2 := hL2.cell
    have hBW : Below s W (W.setCell ⟨s + 1, 255, none⟩ (.int .i64 2560000000)) := (Below.refl s W).setCell (p := ⟨s + 1, 255, none⟩) (by simp) _
    have hK2 := (KeepsOthers.setCell W ⟨s + 1, 255, none⟩ (.int .i64 2560000000)).same D _ hK rfl
    obtain ⟨W2, eW2⟩ : ∃ W2, W.setCell ⟨s + 1, 255, none⟩ (.int .i64 2560000000) = W2 := ⟨_, rfl⟩
    rw [eW2] at hrow2 hL2 cL2 hBW hK2
    clear ev1 hdone er hys hrow hL hG hH hP hgr2
    gi_wp2
    refine ⟨by simp, .inl ⟨_, _, rfl, run_takeDeferred hK2, ?_⟩⟩
    have hrow' := ownsRow_putObj hrow2 (.deferred none) hK2 rfl
    refine ⟨_, results_tmp rfl _ _ _, _, _, _, rfl, ?_, ?_⟩
    · rw [← HD.out]
      refine IR.of_own (base := s) (e := 2) ?_
      rw [List.map_set]
      exact hrow'
    · rw [HS.out]; exact (hBl.trans hBW).trans (belowK_b (w := W0) (by omega) W2 D _ _ hD hK2 rfl rfl)
  case stop =>
    rintro D c pre W _ _ h _
    exact h.elim
end Go.Proofs.YtpidpebgeblenaaGreat

/-
  The landed book: line, Book.
-/
namespace Go.Proofs.YtpidpebgeblenaaGreat
set_option maxRecDepth 100000
set_option maxHeartbeats 4000000
open Go.RowKit
set_option linter.unusedVariables false
set_option linter.unusedSimpArgs false


/-- The first c numbers of a line are laid down. -/
def lin9 (f s : Int) : Nat → List Int
  | 0 => List.replicate 256 0
  | c + 1 => (lin9 f s c).set c (f + s * (c : Int))
theorem lin9_len (f s : Int) : ∀ c, (lin9 f s c).length = 256
  | 0 => List.length_replicate
  | c + 1 => by show ((lin9 f s c).set c _).length = 256; rw [List.length_set]; exact lin9_len f s c
theorem lin9_line : lin9 (-255) 2 256 = linek 256 := by decide +kernel
theorem lin9_uline : lin9 0 1 256 = ulinek 256 := by decide +kernel

theorem bline9 (w : World) : Calls Tryz.prog 132 #[.int .i64 (-255), .int .i64 2] w (GotI w (linek 256)) := by
  obtain ⟨i0, hi, hz0, hz1, hz2⟩ := info_parts infoI
  obtain ⟨s, hs⟩ : ∃ s, w.heap.size = s := ⟨_, rfl⟩
  have HS := Lib.hid hs
  clear hs
  go_enter Tryz.func132, Tryz.ntmps132
  go_wp2_with (at_make; refine wpList_make_full _ rfl _ _ 34 rfl s 2 i0 (.int .i64 0) 1 Tryz.underlying34 hi hz0 hz1 .i64 .i64 _ _ 256 rfl rfl (by omega) (by omega) (by rw [hz2]; omega) (by unfold maxLen; omega) (by rw [HS.out]; omega) ?_; intro w1 hown1 hgrow1; rw [made_zeroI] at hown1)
  rw [HS.out] at hown1 ⊢
  have hB1 : Below s w w1 := (Below.refl s w).grown hgrow1 (by have := HS.out; omega) (fun k h => by cases h)
  go_loopw [6, 10] (fun _ iv wr => ∃ c : Nat, c ≤ 256 ∧ iv = .int .i64 (c : Int) ∧ wr.ownsRow s 2 1 (.slice (some ⟨s, 0, none⟩) 256 256) 256 ((lin9 (-255) 2 c).map encI) ∧ Below s w wr) (fun _ iv _ => 256 - (intOf iv).toNat)
  case atStart => exact ⟨0, by omega, rfl, hown1, hB1⟩
  case round =>
    clear hown1 hgrow1 hB1
    obtain ⟨c, hc, rfl, hrow, hbl⟩ := hrel
    by_cases hlt : c < 256
    · have hlen := lin9_len (-255) 2 c
      have hci : (c : Int) < 256 := by omega
      have cR := hrow.cellAt c (by omega)
      obtain ⟨v1, ev1⟩ := atI (j := c) hlen (by omega)
      rw [ev1] at cR
      have fR := hrow.frozenAt c
      obtain ⟨u, eu⟩ : ∃ u : Int, 2 * (c : Int) = u := ⟨_, rfl⟩
      obtain ⟨x, ex⟩ : ∃ x : Int, (-255) + u = x := ⟨_, rfl⟩
      have k1 : IntKind.i64.wrap (2 * (c : Int)) = u := by rw [IntWalk.i64_in _ (by omega)]; exact eu
      have k2 : IntKind.i64.wrap ((-255) + u) = x := by rw [IntWalk.i64_in _ (by omega)]; exact ex
      obtain ⟨hrow2, hgr2⟩ := hrow.stored c (.int .i64 x)
      have hB2 : Below s w (wr.setCell ⟨s, c, none⟩ (.int .i64 x)) := hbl.setCell (p := ⟨s, c, none⟩) (by simp) _
      have hN : ((lin9 (-255) 2 c).map encI).set c (.int .i64 x) = (lin9 (-255) 2 (c + 1)).map encI := by show _ = ((lin9 (-255) 2 c).set c ((-255) + 2 * (c : Int))).map encI; rw [List.map_set, eu, ex]; rfl
      rw [hN] at hrow2
      have HR := Lib.hid hrow2
      have HB := Lib.hid hB2
      clear hN hrow2 hB2 hrow hbl hgr2 ev1 hlen eu ex
      go_wp2_with fail
      go_roundw
      case rel => exact ⟨c + 1, by omega, by go_num, HR.out, HB.out⟩
      case measure => simp [intOf] <;> omega
    · obtain rfl : c = 256 := by omega
      rw [lin9_line] at hrow
      go_wp2_with fail
      go_ret
      exact ⟨_, _, _, rfl, IR.of_own hrow, by rw [HS.out]; exact hbl⟩

theorem buline9 (w : World) : Calls Tryz.prog 132 #[.int .i64 0, .int .i64 1] w (GotI w (ulinek 256)) := by
  obtain ⟨i0, hi, hz0, hz1, hz2⟩ := info_parts infoI
  obtain ⟨s, hs⟩ : ∃ s, w.heap.size = s := ⟨_, rfl⟩
  have HS := Lib.hid hs
  clear hs
  go_enter Tryz.func132, Tryz.ntmps132
  go_wp2_with (at_make; refine wpList_make_full _ rfl _ _ 34 rfl s 2 i0 (.int .i64 0) 1 Tryz.underlying34 hi hz0 hz1 .i64 .i64 _ _ 256 rfl rfl (by omega) (by omega) (by rw [hz2]; omega) (by unfold maxLen; omega) (by rw [HS.out]; omega) ?_; intro w1 hown1 hgrow1; rw [made_zeroI] at hown1)
  rw [HS.out] at hown1 ⊢
  have hB1 : Below s w w1 := (Below.refl s w).grown hgrow1 (by have := HS.out; omega) (fun k h => by cases h)
  go_loopw [6, 10] (fun _ iv wr => ∃ c : Nat, c ≤ 256 ∧ iv = .int .i64 (c : Int) ∧ wr.ownsRow s 2 1 (.slice (some ⟨s, 0, none⟩) 256 256) 256 ((lin9 0 1 c).map encI) ∧ Below s w wr) (fun _ iv _ => 256 - (intOf iv).toNat)
  case atStart => exact ⟨0, by omega, rfl, hown1, hB1⟩
  case round =>
    clear hown1 hgrow1 hB1
    obtain ⟨c, hc, rfl, hrow, hbl⟩ := hrel
    by_cases hlt : c < 256
    · have hlen := lin9_len 0 1 c
      have hci : (c : Int) < 256 := by omega
      have cR := hrow.cellAt c (by omega)
      obtain ⟨v1, ev1⟩ := atI (j := c) hlen (by omega)
      rw [ev1] at cR
      have fR := hrow.frozenAt c
      obtain ⟨u, eu⟩ : ∃ u : Int, 1 * (c : Int) = u := ⟨_, rfl⟩
      obtain ⟨x, ex⟩ : ∃ x : Int, 0 + u = x := ⟨_, rfl⟩
      have k1 : IntKind.i64.wrap (1 * (c : Int)) = u := by rw [IntWalk.i64_in _ (by omega)]; exact eu
      have k2 : IntKind.i64.wrap (0 + u) = x := by rw [IntWalk.i64_in _ (by omega)]; exact ex
      have k3 : IntKind.i64.wrap (c : Int) = u := by rw [IntWalk.i64_in _ (by omega)]; omega
      have k4 : IntKind.i64.wrap u = x := by rw [IntWalk.i64_in _ (by omega)]; omega
      obtain ⟨hrow2, hgr2⟩ := hrow.stored c (.int .i64 x)
      have hB2 : Below s w (wr.setCell ⟨s, c, none⟩ (.int .i64 x)) := hbl.setCell (p := ⟨s, c, none⟩) (by simp) _
      have hN : ((lin9 0 1 c).map encI).set c (.int .i64 x) = (lin9 0 1 (c + 1)).map encI := by show _ = ((lin9 0 1 c).set c (0 + 1 * (c : Int))).map encI; rw [List.map_set, eu, ex]; rfl
      rw [hN] at hrow2
      have HR := Lib.hid hrow2
      have HB := Lib.hid hB2
      clear hN hrow2 hB2 hrow hbl hgr2 ev1 hlen eu ex
      go_wp2_with fail
      go_roundw
      case rel => exact ⟨c + 1, by omega, by go_num, HR.out, HB.out⟩
      case measure => simp [intOf] <;> omega
    · obtain rfl : c = 256 := by omega
      rw [lin9_uline] at hrow
      go_wp2_with fail
      go_ret
      exact ⟨_, _, _, rfl, IR.of_own hrow, by rw [HS.out]; exact hbl⟩

theorem bbook9_0 (w : World) : Calls Tryz.prog 123 #[.int .i64 0] w (GotIp w (tree9 true) 0) := by
  have hq : Boxed (w.alloc (.cells #[.int .i64 1] 2)) w.heap.size 2 (.int .i64 ((many9 true 0 : Nat) : Int)) := Boxed.new w _ _
  have hb : Below w.heap.size w (w.alloc (.cells #[.int .i64 1] 2)) := (Below.refl _ w).alloc (Nat.le_refl _) _
  go_enter Tryz.func123, Tryz.ntmps123
  go_wp2_with fail
  refine (middles_any 1 _).mono ?_
  rintro e w' ⟨rfl, rfl⟩
  obtain ⟨W, hW⟩ : ∃ W, w.alloc (.cells #[.int .i64 1] 2) = W := ⟨_, rfl⟩
  rw [hW] at hq hb
  try rw [hW]
  have CT := tree_t _ _ hq
  clear hq
  go_wp2_with fail
  refine CT.mono ?_
  rintro e w2 ⟨A, n, c, rfl, h, b⟩
  go_wp2_with fail
  go_ret2
  exact ⟨A, n, c, rfl, h, hb.trans (b.mono hb.size)⟩

theorem bbook9_1 (w : World) : Calls Tryz.prog 123 #[.int .i64 1] w (GotIp w (tree9 false) 0) := by
  have hq : Boxed (w.alloc (.cells #[.int .i64 2] 2)) w.heap.size 2 (.int .i64 ((many9 false 0 : Nat) : Int)) := Boxed.new w _ _
  have hb : Below w.heap.size w (w.alloc (.cells #[.int .i64 2] 2)) := (Below.refl _ w).alloc (Nat.le_refl _) _
  go_enter Tryz.func123, Tryz.ntmps123
  go_wp2_with fail
  refine (middles_any 2 _).mono ?_
  rintro e w' ⟨rfl, rfl⟩
  obtain ⟨W, hW⟩ : ∃ W, w.alloc (.cells #[.int .i64 2] 2) = W := ⟨_, rfl⟩
  rw [hW] at hq hb
  try rw [hW]
  have CT := tree_f _ _ hq
  clear hq
  go_wp2_with fail
  refine CT.mono ?_
  rintro e w2 ⟨A, n, c, rfl, h, b⟩
  go_wp2_with fail
  go_ret2
  exact ⟨A, n, c, rfl, h, hb.trans (b.mono hb.size)⟩

theorem bbook9_2 (w : World) : Calls Tryz.prog 123 #[.int .i64 2] w (GotIp w (linek 256) 0) := by
  go_enter Tryz.func123, Tryz.ntmps123
  go_wp2_with fail
  refine (bline9 _).mono ?_
  rintro e w' ⟨A, n, c, rfl, h, b⟩
  go_wp2_with fail
  go_ret2
  exact ⟨A, n, c, rfl, h, b⟩

theorem bbook9_3 (w : World) : Calls Tryz.prog 123 #[.int .i64 3] w (GotIp w (ulinek 256) 0) := by
  go_enter Tryz.func123, Tryz.ntmps123
  go_wp2_with fail
  refine (buline9 _).mono ?_
  rintro e w' ⟨A, n, c, rfl, h, b⟩
  go_wp2_with fail
  go_ret2
  exact ⟨A, n, c, rfl, h, b⟩

theorem bbook9_no (w : World) {k : Int} (h : ¬ Kind9 k) : Calls Tryz.prog 123 #[.int .i64 k] w (GotIp w [] 1) := by
  have k0 : (k == 0) = false := by simp; exact fun e => h (.inl e)
  have k1 : (k == 1) = false := by simp; exact fun e => h (.inr (.inl e))
  have k2 : (k == 2) = false := by simp; exact fun e => h (.inr (.inr (.inl e)))
  have k3 : (k == 3) = false := by simp; exact fun e => h (.inr (.inr (.inr e)))
  clear h
  go_enter Tryz.func123, Tryz.ntmps123
  go_wp2_with fail
  go_ret2
  exact ⟨_, _, _, rfl, IR.nil _ _ _, Below.refl _ _⟩
theorem bbook_N (w : World) (k : Int) : Calls Tryz.prog 123 #[.int .i64 k] w (GotIp w (book9 k) (code9 k)) := by
  by_cases h : Kind9 k
  · rcases h with rfl | rfl | rfl | rfl
    · exact bbook9_0 w
    · exact bbook9_1 w
    · exact bbook9_2 w
    · exact bbook9_3 w
  · have e1 : book9 k = [] := by unfold book9; unfold Kind9 at h; rw [if_neg (fun e => h (.inl e)), if_neg (fun e => h (.inr (.inl e))), if_neg (fun e => h (.inr (.inr (.inl e)))), if_neg (fun e => h (.inr (.inr (.inr e))))]
    rw [e1, show code9 k = 1 from if_neg h]
    exact bbook9_no w h
end Go.Proofs.YtpidpebgeblenaaGreat

/-
  The landed book: Den, Signed, Gap.
-/
namespace Go.Proofs.YtpidpebgeblenaaGreat
set_option maxRecDepth 100000
set_option maxHeartbeats 1000000
open Go.RowKit
set_option linter.unusedVariables false
set_option linter.unusedSimpArgs false


theorem bden_N (w : World) (k : Int) :
    Calls Tryz.prog 49 #[.int .i64 k] w (GotV w (.int .i64 (den9 k))) := by
  by_cases h : Kind9 k
  · rcases h with rfl | rfl | rfl | rfl
    · go_enter Tryz.func49, Tryz.ntmps49
      go_wp2_with fail
      go_ret
      exact ⟨rfl, Below.refl _ _⟩
    · go_enter Tryz.func49, Tryz.ntmps49
      go_wp2_with fail
      go_ret
      exact ⟨rfl, Below.refl _ _⟩
    · go_enter Tryz.func49, Tryz.ntmps49
      go_wp2_with fail
      go_ret
      exact ⟨rfl, Below.refl _ _⟩
    · go_enter Tryz.func49, Tryz.ntmps49
      go_wp2_with fail
      go_ret
      exact ⟨rfl, Below.refl _ _⟩
  · have k0 : (k == 0) = false := by simp; exact fun e => h (.inl e)
    have k1 : (k == 1) = false := by simp; exact fun e => h (.inr (.inl e))
    have k2 : (k == 2) = false := by simp; exact fun e => h (.inr (.inr (.inl e)))
    have k3 : (k == 3) = false := by simp; exact fun e => h (.inr (.inr (.inr e)))
    have e1 : den9 k = 0 := by unfold den9; simp at k0 k1 k2 k3; simp [k0, k1, k2, k3]
    rw [e1]
    clear h
    go_enter Tryz.func49, Tryz.ntmps49
    go_wp2_with fail
    go_ret
    exact ⟨rfl, Below.refl _ _⟩

theorem bsig_N (w : World) (k : Int) :
    Calls Tryz.prog 128 #[.int .i64 k] w (GotV w (.bool (sig9 k))) := by
  by_cases h : Kind9 k
  · rcases h with rfl | rfl | rfl | rfl
    · go_enter Tryz.func128, Tryz.ntmps128
      go_wp2_with fail
      go_ret
      exact ⟨rfl, Below.refl _ _⟩
    · go_enter Tryz.func128, Tryz.ntmps128
      go_wp2_with fail
      go_ret
      exact ⟨rfl, Below.refl _ _⟩
    · go_enter Tryz.func128, Tryz.ntmps128
      go_wp2_with fail
      go_ret
      exact ⟨rfl, Below.refl _ _⟩
    · go_enter Tryz.func128, Tryz.ntmps128
      go_wp2_with fail
      go_ret
      exact ⟨rfl, Below.refl _ _⟩
  · have k0 : (k == 0) = false := by simp; exact fun e => h (.inl e)
    have k1 : (k == 1) = false := by simp; exact fun e => h (.inr (.inl e))
    have k2 : (k == 2) = false := by simp; exact fun e => h (.inr (.inr (.inl e)))
    have k3 : (k == 3) = false := by simp; exact fun e => h (.inr (.inr (.inr e)))
    have e1 : sig9 k = false := by unfold sig9; simp at k0 k1 k2 k3; simp [k0, k2]
    rw [e1]
    clear h
    go_enter Tryz.func128, Tryz.ntmps128
    go_wp2_with fail
    go_ret
    exact ⟨rfl, Below.refl _ _⟩

attribute [local go_sem ↓] mxI_run
end Go.Proofs.YtpidpebgeblenaaGreat
