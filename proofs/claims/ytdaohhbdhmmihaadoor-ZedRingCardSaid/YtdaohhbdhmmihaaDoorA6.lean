/-
  Several texts in one: ZA, ZB, ZP, ZQ, ZR, ZS, ZT, L4, YC.
-/
import Derived.Test.YtdaohhbdhmmihaaDoorA5
import Derived.Test.YtdaohhbdhmmihaaDoorA4
import Derived.Lib.SmallJoins
import Derived.Lib.AppendIntMem
import Derived.Test.YtdaohhbdhmmihaaDoorShelf
import Derived.Test.YtdaohhbdhmmihaaDoorA1
import Derived.Test.YtdaohhbdhmmihaaDoorA2
import Derived.Deep.LoopGhost
import Derived.Lib.OthersKept
import Derived.Laws.RangeAny
import Derived.WalkSmall
import Derived.OpenShut
import Derived.Deep.DeepCutAuto

/-
  The contracts of zed: signed, Right, Of, Int, Neg, Cmp.
-/
namespace Go.Proofs.YtdaohhbdhmmihaaDoor
open Go.RowKit
set_option linter.unusedVariables false

set_option maxHeartbeats 1000000 in
theorem signed_N {w : World} {A : Option Addr} {n c x : Nat} (b : Bool) (ha : Num w A n c x) (hn : n ≤ 1000000) : Calls Tryd.prog 31 #[.bool b, .slice A n c] w (GotZ w (sgn b x)) := by
  have hl := ha.len
  by_cases h0 : n = 0
  · subst h0
    have hx : x = 0 := by
      have h2 := val_limbs x
      rw [List.eq_nil_of_length_eq_zero hl.symm] at h2
      exact h2.symm
    subst hx
    have hz : Zn w false A 0 c (sgn b 0) := by
      refine ⟨by rw [sgn_abs]; exact ha, ?_⟩
      unfold sgn; split <;> rfl
    clear hl
    cases b
    all_goals
      go_enter Tryd.func31, Tryd.ntmps31
      go_wp2_with fail
      refine bodyPost_ret (v := .agg #[.bool false, .slice A 0 c]) (by simp [results, Tryd.results31, go_sem]) rfl ⟨_, _, _, _, rfl, hz.on ?_, ?_⟩
      all_goals exact (Below.refl _ w).alloc (Nat.le_refl _) _
  · have hx : x ≠ 0 := fun h => by rw [h, limbs_zero] at hl; simp at hl; omega
    have hn0 : (0 : Int) < (n : Int) := by omega
    have hz : Zn w b A n c (sgn b x) := by
      refine ⟨by rw [sgn_abs]; exact ha, ?_⟩
      unfold sgn
      cases b
      · simp
      · simp; omega
    clear hl
    cases b
    all_goals
      go_enter Tryd.func31, Tryd.ntmps31
      go_wp2_with fail
    · refine bodyPost_ret (v := .agg #[.bool false, .slice A n c]) (by simp [results, Tryd.results31, go_sem]) rfl ⟨_, _, _, _, rfl, hz.on ?_, ?_⟩
      all_goals exact (Below.refl _ w).alloc (Nat.le_refl _) _
    · refine bodyPost_ret (v := .agg #[.bool true, .slice A n c]) (by simp [results, Tryd.results31, go_sem]; omega) rfl ⟨_, _, _, _, rfl, hz.on ?_, ?_⟩
      all_goals exact (Below.refl _ w).alloc (Nat.le_refl _) _

set_option maxHeartbeats 1000000 in
theorem zright_any {w : World} {b : Bool} {A : Option Addr} {n c : Nat} {l : List Nat} (r : Bool) (h : Lim w.heap.size w A n c l) (hn : n ≤ 9223372036854775807) (hr : okZ b n l = r) :
    Calls Tryd.prog 9 #[.agg #[.bool b, .slice A n c]] w (GotV w (.bool r)) := by
  have hB := below_one w (.cells #[.bool b, .slice A n c] 25)
  have h' := h.on hB
  cases hc : canon l with
  | false =>
    have hr2 : r = false := by rw [← hr]; simp [okZ, hc]
    subst hr2
    go_enter Tryd.func9, Tryd.ntmps9
    go_wp2_with (go_at_call 28; refine (right_any _ _ _ _ _ false _ h' hn hc).mono ?_; rintro e w' ⟨rfl, rfl⟩)
    go_ret
    exact ⟨rfl, hB⟩
  | true =>
    cases b with
    | false =>
      have hr2 : r = true := by rw [← hr]; simp [okZ, hc]
      subst hr2
      go_enter Tryd.func9, Tryd.ntmps9
      go_wp2_with (go_at_call 28; refine (right_any _ _ _ _ _ true _ h' hn hc).mono ?_; rintro e w' ⟨rfl, rfl⟩)
      go_ret
      exact ⟨rfl, hB⟩
    | true =>
      by_cases h0 : n = 0
      · have hr2 : r = false := by rw [← hr]; simp [okZ, hc, h0]
        subst hr2
        subst h0
        go_enter Tryd.func9, Tryd.ntmps9
        go_wp2_with (go_at_call 28; refine (right_any _ _ _ _ _ true _ h' hn hc).mono ?_; rintro e w' ⟨rfl, rfl⟩)
        go_ret
        exact ⟨rfl, hB⟩
      · have hr2 : r = true := by rw [← hr]; simp [okZ, hc]; omega
        subst hr2
        have hi : ((n : Int) == 0) = false := by simp; omega
        go_enter Tryd.func9, Tryd.ntmps9
        go_wp2_with (go_at_call 28; refine (right_any _ _ _ _ _ true _ h' hn hc).mono ?_; rintro e w' ⟨rfl, rfl⟩)
        go_ret
        exact ⟨rfl, hB⟩

set_option maxRecDepth 100000 in
set_option maxHeartbeats 2000000 in
theorem zof_N (w : World) (z : Int) (h : I64 z) : Calls Tryd.prog 12 #[.int .i64 z] w (GotZ w z) := by
  have hx := h.abs
  obtain ⟨x, hxe⟩ : ∃ x, z.natAbs = x := ⟨_, rfl⟩
  rw [hxe] at hx
  obtain ⟨W, hW⟩ : ∃ W, w.alloc (.cells #[.bool false, .slice none 0 0] 25) = W := ⟨_, rfl⟩
  have hB : Below w.heap.size w W := by rw [← hW]; exact below_one w _
  have hsz : W.heap.size = w.heap.size + 1 := by rw [← hW]; simp
  have c1 : W.cell? ⟨w.heap.size, 0, none⟩ = some (.bool false) := by rw [← hW]; simp [go_sem]
  have c2 : W.cell? ⟨w.heap.size, 1, none⟩ = some (.slice none 0 0) := by rw [← hW]; simp [go_sem]
  have c3 : W.frozen? ⟨w.heap.size, 0, none⟩ = false := by rw [← hW]; simp [go_sem]
  have c4 : W.frozen? ⟨w.heap.size, 1, none⟩ = false := by rw [← hW]; simp [go_sem]
  have HSZ := Lib.hid hsz
  clear hsz
  have hl := len_one hx
  by_cases hz : z < 0
  · have hs : sgn true x = z := by rw [← hxe]; exact sgn_of (by simp [hz])
    have e1 : IntKind.u64.wrap (-IntKind.u64.wrap z) = (x : Int) := by
      unfold I64 at h; rw [IntKind.wrap_u64, IntKind.wrap_u64]; omega
    have HS := Lib.hid hs
    clear hs hxe
    go_enter Tryd.func12, Tryd.ntmps12
    go_wp2_with fail
    clear hW e1
    refine (of_N W x hx).mono ?_
    rintro e w1 ⟨A1, n1, k1, rfl, hm, b1⟩
    go_wp2_with fail
    refine (signed_N _ hm (by rw [hm.len]; omega)).mono ?_
    rintro e w2 ⟨b2, A2, n2, k2, rfl, hz2, b2'⟩
    have b12 := b1.trans (b2'.mono b1.size)
    have hsz := HSZ.out
    have g1 := (b12.cell (p := ⟨w.heap.size, 0, none⟩) (by simp; omega)).trans c1
    have g2 := (b12.cell (p := ⟨w.heap.size, 1, none⟩) (by simp; omega)).trans c2
    have g3 := (b12.frozen (p := ⟨w.heap.size, 0, none⟩) (by simp; omega)).trans c3
    have g4 := (b12.frozen (p := ⟨w.heap.size, 1, none⟩) (by simp; omega)).trans c4
    rw [HS.out] at hz2
    have HZ := Lib.hid (hz2.stored g1 g2)
    have HB := hB.trans (b12.mono hB.size)
    clear hsz b12 b1 b2' hz2 hm
    go_wp2_with fail
    refine bodyPost_ret (v := .agg #[.bool b2, .slice A2 n2 k2]) (by simp [results, Tryd.results12, go_sem, g1, g2]) rfl ⟨_, _, _, _, rfl, HZ.out, ?_⟩
    exact (HB.setCell (p := ⟨w.heap.size, 0, none⟩) (Nat.le_refl _) _).setCell (p := ⟨w.heap.size, 1, none⟩) (Nat.le_refl _) _
  · have hs : sgn false x = z := by rw [← hxe]; exact sgn_of (by simp [hz])
    have e1 : IntKind.u64.wrap z = (x : Int) := by
      unfold I64 at h; rw [IntKind.wrap_u64]; omega
    have HS := Lib.hid hs
    clear hs hxe
    go_enter Tryd.func12, Tryd.ntmps12
    go_wp2_with fail
    clear hW e1
    refine (of_N W x hx).mono ?_
    rintro e w1 ⟨A1, n1, k1, rfl, hm, b1⟩
    go_wp2_with fail
    refine (signed_N _ hm (by rw [hm.len]; omega)).mono ?_
    rintro e w2 ⟨b2, A2, n2, k2, rfl, hz2, b2'⟩
    have b12 := b1.trans (b2'.mono b1.size)
    have hsz := HSZ.out
    have g1 := (b12.cell (p := ⟨w.heap.size, 0, none⟩) (by simp; omega)).trans c1
    have g2 := (b12.cell (p := ⟨w.heap.size, 1, none⟩) (by simp; omega)).trans c2
    have g3 := (b12.frozen (p := ⟨w.heap.size, 0, none⟩) (by simp; omega)).trans c3
    have g4 := (b12.frozen (p := ⟨w.heap.size, 1, none⟩) (by simp; omega)).trans c4
    rw [HS.out] at hz2
    have HZ := Lib.hid (hz2.stored g1 g2)
    have HB := hB.trans (b12.mono hB.size)
    clear hsz b12 b1 b2' hz2 hm
    go_wp2_with fail
    refine bodyPost_ret (v := .agg #[.bool b2, .slice A2 n2 k2]) (by simp [results, Tryd.results12, go_sem, g1, g2]) rfl ⟨_, _, _, _, rfl, HZ.out, ?_⟩
    exact (HB.setCell (p := ⟨w.heap.size, 0, none⟩) (Nat.le_refl _) _).setCell (p := ⟨w.heap.size, 1, none⟩) (Nat.le_refl _) _

set_option maxRecDepth 100000 in
set_option maxHeartbeats 2000000 in
theorem zint_yes {w : World} {b : Bool} {A : Option Addr} {n c : Nat} {z : Int} (ha : Zn w b A n c z) (h : I64 z) :
    Calls Tryd.prog 14 #[.agg #[.bool b, .slice A n c]] w (GotV w (.tuple #[.int .i64 z, .bool true])) := by
  have hx := h.abs
  obtain ⟨x, hxe⟩ : ∃ x, z.natAbs = x := ⟨_, rfl⟩
  rw [hxe] at hx
  have hB := below_one w (.cells #[.bool b, .slice A n c] 25)
  have ha' := ha.1.on hB
  rw [hxe] at ha'
  have hl := len_one hx
  have hn : n ≤ 9223372036854775807 := by rw [ha'.len]; omega
  have HC := Lib.hid (small_any A n c x _ ha' hn hx)
  have hs := ha.2
  by_cases hz : z < 0
  · have hbt := abs_sgn hs hz
    subst hbt
    have e2 : (x : Int) ≤ 9223372036854775808 := by unfold I64 at h; omega
    have e3 : IntKind.i64.wrap (IntKind.u64.wrap (-(x : Int))) = z := by
      rw [IntKind.wrap_u64, IntKind.wrap_i64]; omega
    have E3 := Lib.hid e3
    clear hxe hs ha hz
    go_enter Tryd.func14, Tryd.ntmps14
    go_wp2_with fail
    refine HC.out.mono ?_
    rintro e w' ⟨rfl, rfl⟩
    go_wp2_with fail
    go_ret2
    exact ⟨rfl, hB⟩
  · have hbt := abs_sgn' hs hz
    subst hbt
    have e2 : (x : Int) < 9223372036854775808 := by unfold I64 at h; omega
    have e3 : IntKind.i64.wrap (x : Int) = z := by rw [IntWalk.i64_in _ (by omega)]; omega
    clear hxe hs ha hz
    go_enter Tryd.func14, Tryd.ntmps14
    go_wp2_with fail
    refine HC.out.mono ?_
    rintro e w' ⟨rfl, rfl⟩
    go_wp2_with fail
    go_ret2
    exact ⟨rfl, hB⟩

set_option maxRecDepth 100000 in
set_option maxHeartbeats 2000000 in
theorem zint_no {w : World} {b : Bool} {A : Option Addr} {n c : Nat} {z : Int} (ha : Zn w b A n c z) (hx : (limbs z.natAbs).length ≤ 300) (h : ¬ I64 z) :
    Calls Tryd.prog 14 #[.agg #[.bool b, .slice A n c]] w (GotV w (.tuple #[.int .i64 0, .bool false])) := by
  obtain ⟨x, hxe⟩ : ∃ x, z.natAbs = x := ⟨_, rfl⟩
  rw [hxe] at hx
  have hB := below_one w (.cells #[.bool b, .slice A n c] 25)
  have ha' := ha.1.on hB
  rw [hxe] at ha'
  have hn : n ≤ 9223372036854775807 := by rw [ha'.len]; omega
  have hs := ha.2
  rcases Nat.lt_or_ge x B64 with hlt | hge
  · have HC := Lib.hid (small_any A n c x _ ha' hn hlt)
    by_cases hz : z < 0
    · have hbt := abs_sgn hs hz
      subst hbt
      have e2 : ¬ (x : Int) ≤ 9223372036854775808 := by unfold I64 at h; omega
      clear hxe hs ha hz
      go_enter Tryd.func14, Tryd.ntmps14
      go_wp2_with fail
      refine HC.out.mono ?_
      rintro e w' ⟨rfl, rfl⟩
      go_wp2_with fail
      go_ret2
      exact ⟨rfl, hB⟩
    · have hbt := abs_sgn' hs hz
      subst hbt
      have e2 : decide ((x : Int) < 9223372036854775808) = false := by simp; unfold I64 at h; omega
      clear hxe hs ha hz hn hlt
      go_enter Tryd.func14, Tryd.ntmps14
      go_wp2_with fail
      refine HC.out.mono ?_
      rintro e w' ⟨rfl, rfl⟩
      go_wp2_with fail
      go_ret2
      exact ⟨rfl, hB⟩
  · have HC := Lib.hid (small_great A n c x _ ha' hn hge)
    clear hxe hs ha
    go_enter Tryd.func14, Tryd.ntmps14
    go_wp2_with fail
    refine HC.out.mono ?_
    rintro e w' ⟨rfl, rfl⟩
    go_wp2_with fail
    go_ret2
    exact ⟨rfl, hB⟩

set_option maxHeartbeats 1000000 in
theorem zneg_N {w : World} {b : Bool} {A : Option Addr} {n c : Nat} {z : Int} (ha : Zn w b A n c z) (hx : (limbs z.natAbs).length ≤ 300) :
    Calls Tryd.prog 20 #[.agg #[.bool b, .slice A n c]] w (GotZ w (-z)) := by
  have hs := sgn_neg ha.2
  have hn : n ≤ 1000000 := by rw [ha.1.len]; omega
  obtain ⟨W, hW⟩ : ∃ W, (w.alloc (.cells #[.bool b, .slice A n c] 25)).alloc (.cells #[.bool false, .slice none 0 0] 25) = W := ⟨_, rfl⟩
  have hB : Below w.heap.size w W := by rw [← hW]; exact below_two w _ _
  have hsz : W.heap.size = w.heap.size + 2 := by rw [← hW]; simp
  have c1 : W.cell? ⟨w.heap.size, 0, none⟩ = some (.bool b) := by rw [← hW]; simp [go_sem]
  have c2 : W.cell? ⟨w.heap.size, 1, none⟩ = some (.slice A n c) := by rw [← hW]; simp [go_sem]
  have c5 : W.cell? ⟨w.heap.size + 1, 0, none⟩ = some (.bool false) := by rw [← hW]; simp [go_sem]
  have c6 : W.cell? ⟨w.heap.size + 1, 1, none⟩ = some (.slice none 0 0) := by rw [← hW]; simp [go_sem]
  have c7 : W.frozen? ⟨w.heap.size + 1, 0, none⟩ = false := by rw [← hW]; simp [go_sem]
  have c8 : W.frozen? ⟨w.heap.size + 1, 1, none⟩ = false := by rw [← hW]; simp [go_sem]
  have hBd : Below w.heap.size w W.drew := below_drewN hB 1
  have ha' : Num W.drew A n c z.natAbs := ha.1.on hBd
  have HS := Lib.hid hs
  have hcall : Calls Tryd.prog 44 #[.slice A n c] W.drew fun e w' => ∃ A1 n1 c1, e = .returned (.slice A1 n1 c1) ∧ Num w' A1 n1 c1 z.natAbs ∧ Below W.heap.size W w' := (clone_F ha' (by omega)).mono fun _ _ ⟨A1, n1, c1, he, hm, hb, _⟩ => ⟨A1, n1, c1, he, hm, below_undrew hb⟩
  have HC := Lib.hid hcall
  clear hs hcall
  go_enter Tryd.func20, Tryd.ntmps20
  go_wp2_with fail
  clear hW
  go_region_held3 (fun w' => w'.cell? ⟨w.heap.size, 0, none⟩ = some (.bool b) ∧ w'.cell? ⟨w.heap.size, 1, none⟩ = some (.slice A n c))
    (first | exact ⟨(cell_store (by omega)).trans ((hb1.cell (p := ⟨w.heap.size, 0, none⟩) (show w.heap.size < W.heap.size by omega)).trans c1), (cell_store (by omega)).trans ((hb1.cell (p := ⟨w.heap.size, 1, none⟩) (show w.heap.size < W.heap.size by omega)).trans c2)⟩ | go_keep | exact ⟨(hb1.cell (p := ⟨w.heap.size, 0, none⟩) (show w.heap.size < W.heap.size by omega)).trans c1, (hb1.cell (p := ⟨w.heap.size, 1, none⟩) (show w.heap.size < W.heap.size by omega)).trans c2⟩)
    (first
      | (go_at_call 44; (with_reducible refine HC.out.mono ?_); rintro e w1 ⟨A1, n1, k1, rfl, hm, hb1⟩)
      | (go_at_call 31; (with_reducible refine (signed_N _ hm (by rw [hm.len]; omega)).mono ?_); rintro e w2 ⟨b2, A2, n2, k2, rfl, hz2, hb2⟩; replace hb1 := hb1.trans (hb2.mono hb1.size); have e5 := (hb1.cell (p := ⟨w.heap.size + 1, 0, none⟩) (show w.heap.size + 1 < W.heap.size by omega)).trans c5; have e6 := (hb1.cell (p := ⟨w.heap.size + 1, 1, none⟩) (show w.heap.size + 1 < W.heap.size by omega)).trans c6; have e7 := (hb1.frozen (p := ⟨w.heap.size + 1, 0, none⟩) (show w.heap.size + 1 < W.heap.size by omega)).trans c7; have e8 := (hb1.frozen (p := ⟨w.heap.size + 1, 1, none⟩) (show w.heap.size + 1 < W.heap.size by omega)).trans c8))
  rw [HS.out] at hz2
  have HZ := Lib.hid (hz2.stored e5 e6)
  have HB : Below w.heap.size w w2 := hB.trans (hb1.mono hB.size)
  go_wp2_with fail
  refine bodyPost_ret (v := .agg #[.bool b2, .slice A2 n2 k2]) (by simp [results, Tryd.results20, go_sem, e5, e6]) rfl ⟨_, _, _, _, rfl, HZ.out, ?_⟩
  exact (HB.setCell (p := ⟨w.heap.size + 1, 0, none⟩) (show w.heap.size ≤ w.heap.size + 1 by omega) _).setCell (p := ⟨w.heap.size + 1, 1, none⟩) (show w.heap.size ≤ w.heap.size + 1 by omega) _

set_option maxHeartbeats 2000000 in
theorem zcmp_N {w : World} {b b' : Bool} {A B : Option Addr} {n c m d : Nat} {z z' : Int} (ha : Zn w b A n c z) (hb : Zn w b' B m d z') (hx : (limbs z.natAbs).length ≤ 300) (hy : (limbs z'.natAbs).length ≤ 300) :
    Calls Tryd.prog 22 #[.agg #[.bool b, .slice A n c], .agg #[.bool b', .slice B m d]] w (GotV w (.int .i64 (cmpZ z z'))) := by
  have hB := below_two w (.cells #[.bool b, .slice A n c] 25) (.cells #[.bool b', .slice B m d] 25)
  have ha' := ha.1.on hB
  have hb' := hb.1.on hB
  have s1 := ha.2
  have s2 := hb.2
  cases b with
  | true =>
    have hz : z < 0 := by simpa using s1.symm
    cases b' with
    | true =>
      have hz' : z' < 0 := by simpa using s2.symm
      have he : cmpZ z z' = cmpN z'.natAbs z.natAbs := by
        have h1 := cmpZ_neg hz hz'
        rw [h1]
        unfold cmpN
        by_cases h2 : z.natAbs < z'.natAbs
        · rw [if_pos h2, if_neg (by omega), if_pos (by omega)]; rfl
        · rw [if_neg h2]
          by_cases h3 : z'.natAbs < z.natAbs
          · rw [if_pos h3, if_pos (by omega)]
          · rw [if_neg h3, if_neg (by omega), if_neg (by omega)]; rfl
      have HE := Lib.hid he
      clear s1 s2 hz hz' ha hb he
      go_enter Tryd.func22, Tryd.ntmps22
      go_wp2_with fail
      refine (cmp_N hb' ha' (by omega) (by omega)).mono ?_
      rintro e w1 ⟨rfl, b1⟩
      go_wp2_with fail
      go_ret
      refine ⟨ret_i64 HE.out.symm, hB.trans (b1.mono hB.size)⟩
    | false =>
      have hz' : ¬ z' < 0 := by simpa using s2.symm
      have HE := Lib.hid (cmpZ_np hz hz')
      clear s1 s2 hz hz' ha hb
      go_enter Tryd.func22, Tryd.ntmps22
      go_wp2_with fail
      go_ret
      rw [HE.out]
      exact ⟨rfl, hB⟩
  | false =>
    have hz : ¬ z < 0 := by simpa using s1.symm
    cases b' with
    | true =>
      have hz' : z' < 0 := by simpa using s2.symm
      have HE := Lib.hid (cmpZ_pn hz hz')
      clear s1 s2 hz hz' ha hb
      go_enter Tryd.func22, Tryd.ntmps22
      go_wp2_with fail
      go_ret
      rw [HE.out]
      exact ⟨rfl, hB⟩
    | false =>
      have hz' : ¬ z' < 0 := by simpa using s2.symm
      have HE := Lib.hid (cmpZ_pos hz hz')
      clear s1 s2 hz hz' ha hb
      go_enter Tryd.func22, Tryd.ntmps22
      go_wp2_with fail
      refine (cmp_N ha' hb' (by omega) (by omega)).mono ?_
      rintro e w1 ⟨rfl, b1⟩
      go_wp2_with fail
      go_ret
      refine ⟨ret_i64 HE.out.symm, hB.trans (b1.mono hB.size)⟩

end Go.Proofs.YtdaohhbdhmmihaaDoor

/-
  The contracts of zed: Mul, Add.
-/
namespace Go.Proofs.YtdaohhbdhmmihaaDoor
open Go.RowKit
set_option linter.unusedVariables false

set_option maxRecDepth 100000 in
set_option maxHeartbeats 2000000 in
theorem zmul_N {w : World} {b b' : Bool} {A B : Option Addr} {n c m d : Nat} {z z' : Int} (ha : Zn w b A n c z) (hb : Zn w b' B m d z') (hx : (limbs z.natAbs).length ≤ 1000) (hy : (limbs z'.natAbs).length ≤ 1000) :
    Calls Tryd.prog 18 #[.agg #[.bool b, .slice A n c], .agg #[.bool b', .slice B m d]] w (GotZ w (z * z')) := by
  obtain ⟨W, hW⟩ : ∃ W, ((w.alloc (.cells #[.bool b, .slice A n c] 25)).alloc (.cells #[.bool b', .slice B m d] 25)).alloc (.cells #[.bool false, .slice none 0 0] 25) = W := ⟨_, rfl⟩
  have hB : Below w.heap.size w W := by rw [← hW]; exact (below_two w (.cells #[.bool b, .slice A n c] 25) (.cells #[.bool b', .slice B m d] 25)).alloc (by simp; omega) (.cells #[.bool false, .slice none 0 0] 25)
  have hsz : W.heap.size = w.heap.size + 3 := by rw [← hW]; simp
  have hBd : Below w.heap.size w W.drew := below_drewN hB 1
  have ha' : Num W.drew A n c z.natAbs := ha.1.on hBd
  have hb' : Num W.drew B m d z'.natAbs := hb.1.on hBd
  have c1 : W.cell? ⟨w.heap.size, 0, none⟩ = some (.bool b) := by rw [← hW]; simp [go_sem]
  have c2 : W.cell? ⟨w.heap.size, 1, none⟩ = some (.slice A n c) := by rw [← hW]; simp [go_sem]
  have c3 : W.cell? ⟨w.heap.size + 1, 0, none⟩ = some (.bool b') := by rw [← hW]; simp [go_sem]
  have c4 : W.cell? ⟨w.heap.size + 1, 1, none⟩ = some (.slice B m d) := by rw [← hW]; simp [go_sem]
  have c5 : W.cell? ⟨w.heap.size + 1 + 1, 0, none⟩ = some (.bool false) := by rw [← hW]; simp [go_sem]
  have c6 : W.cell? ⟨w.heap.size + 1 + 1, 1, none⟩ = some (.slice none 0 0) := by rw [← hW]; simp [go_sem]
  have c7 : W.frozen? ⟨w.heap.size + 1 + 1, 0, none⟩ = false := by rw [← hW]; simp [go_sem]
  have c8 : W.frozen? ⟨w.heap.size + 1 + 1, 1, none⟩ = false := by rw [← hW]; simp [go_sem]
  have HS : Hid (sgn (!(b == b')) (z.natAbs * z'.natAbs) = z * z') := Lib.hid (sgn_mul ha.2 hb.2)
  have hl := limbs_length_mul hx hy
  have hcall : Calls Tryd.prog 42 #[.slice A n c, .slice B m d] W.drew fun e w' => ∃ A1 n1 c1, e = .returned (.slice A1 n1 c1) ∧ Num w' A1 n1 c1 (z.natAbs * z'.natAbs) ∧ Below W.heap.size W w' := (mul_N ha' hb' (by omega) (by omega)).mono fun _ _ ⟨A1, n1, c1, he, hm, hb⟩ => ⟨A1, n1, c1, he, hm, ⟨hb.os, hb.tape, hb.output, hb.size, hb.block⟩⟩
  have HC := Lib.hid hcall
  have HW := Lib.hid hW
  clear hcall
  go_enter Tryd.func18, Tryd.ntmps18
  go_wp2_with fail
  clear hW HW
  go_region_held3 (fun w' => w'.cell? ⟨w.heap.size, 0, none⟩ = some (.bool b) ∧ w'.cell? ⟨w.heap.size, 1, none⟩ = some (.slice A n c) ∧ w'.cell? ⟨w.heap.size + 1, 0, none⟩ = some (.bool b') ∧ w'.cell? ⟨w.heap.size + 1, 1, none⟩ = some (.slice B m d))
    (first | exact ⟨(cell_store (by omega)).trans ((hb1.cell (p := ⟨w.heap.size, 0, none⟩) (by simp; omega)).trans c1), (cell_store (by omega)).trans ((hb1.cell (p := ⟨w.heap.size, 1, none⟩) (by simp; omega)).trans c2), (cell_store (by omega)).trans ((hb1.cell (p := ⟨w.heap.size + 1, 0, none⟩) (by simp; omega)).trans c3), (cell_store (by omega)).trans ((hb1.cell (p := ⟨w.heap.size + 1, 1, none⟩) (by simp; omega)).trans c4)⟩ | go_keep | exact ⟨(hb1.cell (p := ⟨w.heap.size, 0, none⟩) (by simp; omega)).trans c1, (hb1.cell (p := ⟨w.heap.size, 1, none⟩) (by simp; omega)).trans c2, (hb1.cell (p := ⟨w.heap.size + 1, 0, none⟩) (by simp; omega)).trans c3, (hb1.cell (p := ⟨w.heap.size + 1, 1, none⟩) (by simp; omega)).trans c4⟩)
    (first
      | (go_at_call 42; (with_reducible refine HC.out.mono ?_); rintro e w1 ⟨A1, n1, k1, rfl, hm, hb1⟩)
      | (go_at_call 31; (with_reducible refine (signed_N _ hm (by rw [hm.len]; omega)).mono ?_); rintro e w2 ⟨b2, A2, n2, k2, rfl, hz2, hb2⟩; replace hb1 := hb1.trans (hb2.mono hb1.size); have e5 := (hb1.cell (p := ⟨w.heap.size + 1 + 1, 0, none⟩) (by simp; omega)).trans c5; have e6 := (hb1.cell (p := ⟨w.heap.size + 1 + 1, 1, none⟩) (by simp; omega)).trans c6; have e7 := (hb1.frozen (p := ⟨w.heap.size + 1 + 1, 0, none⟩) (by simp; omega)).trans c7; have e8 := (hb1.frozen (p := ⟨w.heap.size + 1 + 1, 1, none⟩) (by simp; omega)).trans c8))
  rw [HS.out] at hz2
  have HZ := Lib.hid (hz2.stored e5 e6)
  have HB : Below w.heap.size w w2 := hB.trans (hb1.mono hB.size)
  go_wp2_with fail
  refine bodyPost_ret (v := .agg #[.bool b2, .slice A2 n2 k2]) (by simp [results, Tryd.results18, go_sem, e5, e6]) rfl ⟨_, _, _, _, rfl, HZ.out, ?_⟩
  exact (HB.setCell (p := ⟨w.heap.size + 1 + 1, 0, none⟩) (show w.heap.size ≤ w.heap.size + 1 + 1 by omega) _).setCell (p := ⟨w.heap.size + 1 + 1, 1, none⟩) (show w.heap.size ≤ w.heap.size + 1 + 1 by omega) _

set_option maxRecDepth 100000 in
set_option maxHeartbeats 2000000 in
theorem zadd_same {w : World} {b : Bool} {A B : Option Addr} {n c m d : Nat} {z z' : Int} (ha : Zn w b A n c z) (hb : Zn w b B m d z') (hx : (limbs z.natAbs).length ≤ 1000) (hy : (limbs z'.natAbs).length ≤ 1000) :
    Calls Tryd.prog 16 #[.agg #[.bool b, .slice A n c], .agg #[.bool b, .slice B m d]] w (GotZ w (z + z')) := by
  obtain ⟨W, hW⟩ : ∃ W, ((w.alloc (.cells #[.bool b, .slice A n c] 25)).alloc (.cells #[.bool b, .slice B m d] 25)).alloc (.cells #[.bool false, .slice none 0 0] 25) = W := ⟨_, rfl⟩
  have X := box3 hW
  have hBd : Below w.heap.size w W.drew := below_drewN X.hB 1
  have ha' : Num W.drew A n c z.natAbs := ha.1.on hBd
  have hb' : Num W.drew B m d z'.natAbs := hb.1.on hBd
  have HS := Lib.hid (sgn_same ha.2 hb.2)
  have hl := limbs_length_add hx hy
  have hcall : Calls Tryd.prog 37 #[.slice A n c, .slice B m d] W.drew fun e w' => ∃ A1 n1 c1, e = .returned (.slice A1 n1 c1) ∧ Num w' A1 n1 c1 (z.natAbs + z'.natAbs) ∧ Below W.heap.size W w' := (add_N ha' hb' (by omega) (by omega)).mono fun _ _ ⟨A1, n1, c1, he, hm, hb⟩ => ⟨A1, n1, c1, he, hm, below_undrew hb⟩
  have HC := Lib.hid hcall
  have hc1 := X.c1
  have hc2 := X.c2
  have hc3 := X.c3
  have hc4 := X.c4
  clear hcall
  go_enter Tryd.func16, Tryd.ntmps16
  go_wp2_with fail
  clear hW
  go_region_held3 (fun w' => w'.cell? ⟨w.heap.size, 0, none⟩ = some (.bool b) ∧ w'.cell? ⟨w.heap.size, 1, none⟩ = some (.slice A n c) ∧ w'.cell? ⟨w.heap.size + 1, 0, none⟩ = some (.bool b) ∧ w'.cell? ⟨w.heap.size + 1, 1, none⟩ = some (.slice B m d))
    (first | exact ⟨(cell_store (by omega)).trans (X.on hb1).2.2.1, (cell_store (by omega)).trans (X.on hb1).2.2.2.1, (cell_store (by omega)).trans (X.on hb1).2.2.2.2.1, (cell_store (by omega)).trans (X.on hb1).2.2.2.2.2.1⟩ | go_keep | exact ⟨(X.on hb1).2.2.1, (X.on hb1).2.2.2.1, (X.on hb1).2.2.2.2.1, (X.on hb1).2.2.2.2.2.1⟩)
    (first
      | (go_at_call 37; (with_reducible refine HC.out.mono ?_); rintro e w1 ⟨A1, n1, k1, rfl, hm, hb1⟩)
      | (go_at_call 31; (with_reducible refine (signed_N _ hm (by rw [hm.len]; omega)).mono ?_); rintro e w2 ⟨b2, A2, n2, k2, rfl, hz2, hb2⟩; replace hb1 := hb1.trans (hb2.mono hb1.size); have e5 := (X.on hb1).2.2.2.2.2.2.1; have e6 := (X.on hb1).2.2.2.2.2.2.2.1; have e7 := (X.on hb1).2.2.2.2.2.2.2.2.1; have e8 := (X.on hb1).2.2.2.2.2.2.2.2.2))
  rw [HS.out] at hz2
  have HZ := Lib.hid (hz2.stored e5 e6)
  have HB := (X.on hb1).1
  go_wp2_with fail
  refine bodyPost_ret (v := .agg #[.bool b2, .slice A2 n2 k2]) (by simp [results, Tryd.results16, go_sem, e5, e6]) rfl ⟨_, _, _, _, rfl, HZ.out, ?_⟩
  exact (HB.setCell (p := ⟨w.heap.size + 1 + 1, 0, none⟩) (show w.heap.size ≤ w.heap.size + 1 + 1 by omega) _).setCell (p := ⟨w.heap.size + 1 + 1, 1, none⟩) (show w.heap.size ≤ w.heap.size + 1 + 1 by omega) _

set_option maxRecDepth 100000 in
set_option maxHeartbeats 2000000 in
theorem zadd_first {w : World} {b b' : Bool} {A B : Option Addr} {n c m d : Nat} {z z' : Int} (ha : Zn w b A n c z) (hb : Zn w b' B m d z') (hx : (limbs z.natAbs).length ≤ 1000) (hy : (limbs z'.natAbs).length ≤ 1000) (hne : b ≠ b') (hle : z'.natAbs ≤ z.natAbs) :
    Calls Tryd.prog 16 #[.agg #[.bool b, .slice A n c], .agg #[.bool b', .slice B m d]] w (GotZ w (z + z')) := by
  obtain ⟨W, hW⟩ : ∃ W, ((w.alloc (.cells #[.bool b, .slice A n c] 25)).alloc (.cells #[.bool b', .slice B m d] 25)).alloc (.cells #[.bool false, .slice none 0 0] 25) = W := ⟨_, rfl⟩
  have X := box3 hW
  have ha' := ha.1.on X.hB
  have hb' := hb.1.on X.hB
  have HS := Lib.hid (sgn_diff ha.2 hb.2 hne hle)
  have hl : (limbs (z.natAbs - z'.natAbs)).length ≤ 1000 := Nat.le_trans (limbs_length_mono (Nat.sub_le _ _)) (by assumption)
  have hneb : (b == b') = false := by simp [hne]
  have hc1 := X.c1
  have hc2 := X.c2
  have hc3 := X.c3
  have hc4 := X.c4
  go_enter Tryd.func16, Tryd.ntmps16
  go_wp2_with fail
  clear hW
  refine (sub_N ha' hb' (by omega) (by omega) hle).mono ?_
  rintro e w2 ⟨A2, n2, c2, rfl, hm, b12⟩
  obtain ⟨-, -, f1, f2, f3, f4, -, -, -, -⟩ := X.on b12
  clear ha' hb' hc1 hc2 hc3 hc4
  go_wp2_with fail
  refine (signed_N _ hm (by rw [hm.len]; omega)).mono ?_
  rintro e w3 ⟨b3, A3, n3, k3, rfl, hz3, b3'⟩
  have b13 := b12.trans (b3'.mono b12.size)
  obtain ⟨HB, -, -, -, -, -, e5, e6, e7, e8⟩ := X.on b13
  rw [HS.out] at hz3
  have HZ := Lib.hid (hz3.stored e5 e6)
  clear b12 b13 b3' f1 f2 f3 f4 hz3
  go_wp2_with fail
  refine bodyPost_ret (v := .agg #[.bool b3, .slice A3 n3 k3]) (by simp [results, Tryd.results16, go_sem, e5, e6]) rfl ⟨_, _, _, _, rfl, HZ.out, ?_⟩
  exact (HB.setCell (p := ⟨w.heap.size + 1 + 1, 0, none⟩) (show w.heap.size ≤ w.heap.size + 1 + 1 by omega) _).setCell (p := ⟨w.heap.size + 1 + 1, 1, none⟩) (show w.heap.size ≤ w.heap.size + 1 + 1 by omega) _

set_option maxRecDepth 100000 in
set_option maxHeartbeats 2000000 in
theorem zadd_second {w : World} {b b' : Bool} {A B : Option Addr} {n c m d : Nat} {z z' : Int} (ha : Zn w b A n c z) (hb : Zn w b' B m d z') (hx : (limbs z.natAbs).length ≤ 1000) (hy : (limbs z'.natAbs).length ≤ 1000) (hne : b ≠ b') (hlt : z.natAbs < z'.natAbs) :
    Calls Tryd.prog 16 #[.agg #[.bool b, .slice A n c], .agg #[.bool b', .slice B m d]] w (GotZ w (z + z')) := by
  obtain ⟨W, hW⟩ : ∃ W, ((w.alloc (.cells #[.bool b, .slice A n c] 25)).alloc (.cells #[.bool b', .slice B m d] 25)).alloc (.cells #[.bool false, .slice none 0 0] 25) = W := ⟨_, rfl⟩
  have X := box3 hW
  have ha' := ha.1.on X.hB
  have hb' := hb.1.on X.hB
  have HS := Lib.hid ((sgn_diff hb.2 ha.2 (fun e => hne e.symm) (by omega)).trans (Int.add_comm z' z))
  have hl : (limbs (z'.natAbs - z.natAbs)).length ≤ 1000 := Nat.le_trans (limbs_length_mono (Nat.sub_le _ _)) (by assumption)
  have hneb : (b == b') = false := by simp [hne]
  have hc1 := X.c1
  have hc2 := X.c2
  have hc3 := X.c3
  have hc4 := X.c4
  go_enter Tryd.func16, Tryd.ntmps16
  go_wp2_with fail
  clear hW
  refine (sub_less_N ha' hb' (by omega) (by omega) hlt).mono ?_
  rintro e w1 ⟨rfl, b1⟩
  have ha1 := ha'.on b1
  have hb1' := hb'.on b1
  obtain ⟨-, -, d1, d2, d3, d4, -, -, -, -⟩ := X.on b1
  clear ha' hb' hc1 hc2 hc3 hc4
  go_wp2_with fail
  refine (sub_N hb1' ha1 (by omega) (by omega) (by omega)).mono ?_
  rintro e w2 ⟨A2, n2, c2, rfl, hm, b2⟩
  have b12 := b1.trans (b2.mono b1.size)
  obtain ⟨-, -, f1, f2, f3, f4, -, -, -, -⟩ := X.on b12
  clear ha1 hb1' d1 d2 d3 d4 b1 b2
  go_wp2_with fail
  refine (signed_N _ hm (by rw [hm.len]; omega)).mono ?_
  rintro e w3 ⟨b3, A3, n3, k3, rfl, hz3, b3'⟩
  have b13 := b12.trans (b3'.mono b12.size)
  obtain ⟨HB, -, -, -, -, -, e5, e6, e7, e8⟩ := X.on b13
  rw [HS.out] at hz3
  have HZ := Lib.hid (hz3.stored e5 e6)
  clear b12 b13 b3' f1 f2 f3 f4 hz3
  go_wp2_with fail
  refine bodyPost_ret (v := .agg #[.bool b3, .slice A3 n3 k3]) (by simp [results, Tryd.results16, go_sem, e5, e6]) rfl ⟨_, _, _, _, rfl, HZ.out, ?_⟩
  exact (HB.setCell (p := ⟨w.heap.size + 1 + 1, 0, none⟩) (show w.heap.size ≤ w.heap.size + 1 + 1 by omega) _).setCell (p := ⟨w.heap.size + 1 + 1, 1, none⟩) (show w.heap.size ≤ w.heap.size + 1 + 1 by omega) _

theorem zadd_N {w : World} {b b' : Bool} {A B : Option Addr} {n c m d : Nat} {z z' : Int} (ha : Zn w b A n c z) (hb : Zn w b' B m d z') (hx : (limbs z.natAbs).length ≤ 300) (hy : (limbs z'.natAbs).length ≤ 300) :
    Calls Tryd.prog 16 #[.agg #[.bool b, .slice A n c], .agg #[.bool b', .slice B m d]] w (GotZ w (z + z')) := by
  by_cases h : b = b'
  · subst h; exact zadd_same ha hb (by omega) (by omega)
  · rcases Nat.lt_or_ge z.natAbs z'.natAbs with h1 | h1
    · exact zadd_second ha hb (by omega) (by omega) h h1
    · exact zadd_first ha hb (by omega) (by omega) h h1

end Go.Proofs.YtdaohhbdhmmihaaDoor

/-
  The table of powers of ten; texts of numbers below 2^64: strconv.FormatUint, limbText, filled.
-/
namespace Go.Proofs.YtdaohhbdhmmihaaDoor
open Go.RowKit Go.Sort

/-- The table of powers of ten holds what the library lays there. -/
def Tab (w : World) : Prop := Lib.TabIs Tryd.prog w Tryd.powName .u64 Lib.pow10Tab
theorem pow_global : Tryd.prog.globalNamed Tryd.powName = some 2 := by kernel_rfl
theorem Tab.on {w w' : World} (h : Tab w) (hb : Below w.heap.size w w') : Tab w' := Joins.tab_stays pow_global h hb (Nat.le_refl _)
theorem Tab.upon {B : Nat} {w w' : World} (h : Tab w) (hb : Below B w w') (hB : w.heap.size ≤ B) : Tab w' := Joins.tab_stays pow_global h hb hB

theorem B64_lit : B64 = 18446744073709551616 := rfl

set_option maxHeartbeats 6400000 in
set_option maxRecDepth 100000 in
theorem ifmt_uint (u : Nat) (hu : u < B64) (w : World) (ht : Tab w) : Calls Tryd.prog 90 #[.int .u64 (u : Int), .int .i64 10] w fun e w' => e = .returned (.string ⟨(decL u).toArray⟩) ∧ Below w.heap.size w w' := by
  rw [B64_lit] at hu
  rw [← dec_decL]
  by_cases hs : u < 100
  · have hi : (u : Int) < 100 := by omega
    go_enter Tryd.func90, Tryd.ntmps90
    go_wp2_with (go_at_call 95; refine (Tryd.internal_strconv_small u hs _).mono ?_; rintro e w' ⟨rfl, rfl⟩)
    go_ret
    exact ⟨rfl, Below.refl _ _⟩
  · have hu1 : 1 ≤ u := by omega
    have hnd20 : Lib.nDigits u ≤ 20 := by have := Lib.numDigits_eq u hu1 hu; split at this <;> omega
    have hal : Tryd.prog.arrayLen 112 = 24 := by kernel_rfl
    have hsl : ∀ W, (Instr.sliceAt 112 (.pointer (some ⟨w.heap.size, 0, none⟩)) none (some (.int .i64 (Lib.nDigits u : Int))) none).run Tryd.prog W = .ok (.slice (some ⟨w.heap.size, 0, none⟩) (Lib.nDigits u) 24) W := fun W => by
      rw [run_sliceAt_array_h W 112 ⟨w.heap.size, 0, none⟩ (by simp [Program.arrayLen, Program.elem, Tryd.underlying112]) .i64 (Lib.nDigits u : Int) (by omega) (by rw [hal]; omega)]
      go_simp
    have hH0 := Lib.holds_zero0 w 112 (Lib.nDigits u) (by omega)
    have hfmt := Tryd.internal_strconv_formatBase10 w.heap.size 0 24 u (Array.replicate (Lib.nDigits u) 0) (w.alloc (.cells Lib.zeros24 112)) hH0 (by rw [Array.size_replicate]; exact Lib.lt_pow_nDigits u) hu (by rw [Array.size_replicate]; omega)
    rw [Array.size_replicate] at hfmt
    have HH0 := Lib.hid hH0
    have iu : ¬ (u : Int) < 100 := by omega
    clear hH0 hal
    go_enter Tryd.func90, Tryd.ntmps90
    go_wp2_with (first
      | (go_at_call 96; refine (Tryd.internal_strconv_numDigits u hu1 hu _ (Lib.tabIs_alloc ht _)).mono ?_; rintro e w' ⟨rfl, rfl⟩))
    go_at_call 97
    refine hfmt.mono ?_
    rintro e w' ⟨rfl, k, v', dk, rfl, hF⟩
    have hcv : (convert 92 9 (.slice (some ⟨w.heap.size, 0, none⟩) (Lib.nDigits u) 24)).run Tryd.prog ((putRow (fun (b : UInt8) => Value.int .u8 (b.toNat : Int)) (w.alloc (.cells Lib.zeros24 112)) w.heap.size 0 dk).drewN k) = .ok (.string ⟨(Lib.decDigits u).toArray⟩) ((putRow (fun (b : UInt8) => Value.int .u8 (b.toNat : Int)) (w.alloc (.cells Lib.zeros24 112)) w.heap.size 0 dk).drewN k) := by
      have h := run_convert_bytes_back (P := Tryd.prog) ((putRow (fun (b : UInt8) => Value.int .u8 (b.toNat : Int)) (w.alloc (.cells Lib.zeros24 112)) w.heap.size 0 dk).drewN k) 92 9 5 ⟨w.heap.size, 0, none⟩ 24 (Lib.decDigits u) Tryd.underlying92 Tryd.underlying5 Tryd.underlying9 (fun j hj => by
        rw [Lib.row_is_numeral hF j hj, Lib.add_plain, World.cell?_drewN]
        exact cell?_putRow (fun (b : UInt8) => Value.int .u8 (b.toNat : Int)) _ w.heap.size 0 _ dk HH0.out (by rw [hF.size, Array.size_replicate]) j (by rw [hF.size]; rw [Lib.decDigits_length] at hj; exact hj))
      rw [Lib.decDigits_length] at h
      exact h
    go_wp2
    go_ret
    obtain ⟨os, eo⟩ := Lib.fin_at w (.cells Lib.zeros24 112) dk k 0
    exact ⟨rfl, by rw [eo]; exact Lib.below_grow w.heap.size w (Nat.le_refl _) k os⟩

set_option maxHeartbeats 1000000 in
theorem fmt_uint (u : Nat) (hu : u < B64) (w : World) (ht : Tab w) : Calls Tryd.prog 78 #[.int .u64 (u : Int), .int .i64 10] w fun e w' => e = .returned (.string ⟨(decL u).toArray⟩) ∧ Below w.heap.size w w' := by
  go_enter Tryd.func78, Tryd.ntmps78
  go_wp2_with fail
  refine (ifmt_uint u hu w ht).mono ?_
  rintro e w1 ⟨rfl, b1⟩
  go_wp2_with fail
  go_ret
  exact ⟨rfl, b1⟩

set_option maxHeartbeats 1000000 in
theorem limb_text {w : World} {A : Option Addr} {n c x : Nat} (ha : Num w A n c x) (hx : x < B64) (ht : Tab w) : Calls Tryd.prog 65 #[.slice A n c] w fun e w' => e = .returned (.string ⟨(decL x).toArray⟩) ∧ Below w.heap.size w w' := by
  go_enter Tryd.func65, Tryd.ntmps65
  go_wp2_with fail
  refine (small_N ha hx).mono ?_
  rintro e w1 ⟨rfl, b1⟩
  go_wp2_with fail
  refine (fmt_uint x hx w1 (ht.on b1)).mono ?_
  rintro e w2 ⟨rfl, b2⟩
  go_wp2_with fail
  go_ret
  exact ⟨rfl, b1.trans (b2.mono b1.size)⟩

theorem size_arr (l : List UInt8) : (ByteArray.mk l.toArray).size = l.length := by simp [ByteArray.size]
theorem repeat_48 (c : Nat) : Lib.repeatL [48] c = List.replicate c 48 := by
  induction c with
  | zero => rfl
  | succ c ih => rw [show Lib.repeatL [48] (c + 1) = [48] ++ Lib.repeatL [48] c from rfl, ih, List.replicate_succ]; rfl

set_option maxHeartbeats 2000000 in
theorem filled_text {w : World} (x : Nat) (hx : x < 10000000000000000000) : Calls Tryd.prog 64 #[.string ⟨(decL x).toArray⟩] w fun e w' => e = .returned (.string ⟨(padL 19 x).toArray⟩) ∧ Below w.heap.size w w' := by
  have hl := decL_low hx
  have hp := decL_pos x
  obtain ⟨s, hs⟩ : ∃ s : ByteArray, ByteArray.mk (decL x).toArray = s := ⟨_, rfl⟩
  have hss : s.size = (decL x).length := by rw [← hs, size_arr]
  obtain ⟨c, hc⟩ : ∃ c : Nat, c = 19 - s.size := ⟨_, rfl⟩
  have hci : (19 : Int) - (s.size : Int) = (c : Int) := by omega
  have hrep := Tryd.strings_Repeat ⟨#[48]⟩ c w (by omega) (by simp [ByteArray.size]; omega)
  have hfin : (ByteArray.mk (Lib.repeatL (ByteArray.mk #[48]).data.toList c).toArray) ++ s = ⟨(padL 19 x).toArray⟩ := by
    rw [← hs]
    show (ByteArray.mk (Lib.repeatL [48] c).toArray) ++ (ByteArray.mk (decL x).toArray) = _
    rw [repeat_48, hc, hss]
    unfold padL
    apply ByteArray.ext
    simp [ByteArray.data_append]
  have HR := Lib.hid hrep
  have HF := Lib.hid hfin
  have hsz : s.size ≤ 19 := by omega
  clear hrep hfin hc hss hl hp
  rw [hs]
  clear hs
  go_enter Tryd.func64, Tryd.ntmps64
  go_wp2_with fail
  refine HR.out.mono ?_
  rintro e w1 ⟨rfl, b1⟩
  have hlong : ¬ 9223372036854775807 < (Lib.repeatL [48] c).length + s.size := by rw [Lib.repeatL_length]; simp; omega
  go_wp2_with fail
  go_ret
  exact ⟨by rw [HF.out]; rfl, b1⟩

end Go.Proofs.YtdaohhbdhmmihaaDoor

/-
  The contract of zed's decimal, and of Print.
-/
namespace Go.Proofs.YtdaohhbdhmmihaaDoor
open Go.RowKit
set_option linter.unusedVariables false

/-- The bytes of texts, put one behind the other. -/
def flatS (xs : List ByteArray) : List UInt8 := (xs.map fun s => s.data.toList).flatten
def encT (s : ByteArray) : Value := .string s
theorem infoS : (Tryd.prog.info? 9).map (fun i => (i.zero, i.size, i.bytes)) = some (some (.string ⟨#[]⟩), 1, 16) := by kernel_rfl

/-- Digits that are not in the row that is written. -/
theorem Lim.grownZ {B : Nat} {w w' : World} {A : Option Addr} {n c : Nat} {l : List Nat} {row : Option Nat} (h : Lim B w A n c l) (hg : w.grownBy w' row) (hr : 0 < n → ∀ b off, A = some ⟨b, off, none⟩ → row ≠ some b) (hB : B ≤ w.heap.size) : Lim B w' A n c l :=
  ⟨h.1, h.2.1, h.2.2.1, fun hn => by
    obtain ⟨b, o, e, hlt, hc⟩ := h.2.2.2 hn
    have hne := hr hn b o e
    exact ⟨b, o, e, hlt, fun j hj => (World.cell?_of_block (a := ⟨b, o + j, none⟩) (hg.block b (by omega) (fun h2 => hne h2.symm))).trans (hc j hj)⟩⟩

theorem below_cells {B b : Nat} {a : World} (hb : B ≤ b) : ∀ (vs : List Value) (o : Nat) (w : World), Below B a w → Below B a (w.setCells b o vs)
  | [], _, _, h => h
  | v :: r, o, _, h => below_cells hb r (o + 1) _ (h.setCell (p := ⟨b, o, none⟩) hb v)

theorem flatS_len {xs : List ByteArray} (h : ∀ s ∈ xs, s.size = 19) : (flatS xs).length = 19 * xs.length := by
  induction xs with
  | nil => rfl
  | cons s r ih =>
    have h1 := h s (by simp)
    have h2 := ih (fun t ht => h t (by simp [ht]))
    have e : (flatS (s :: r)).length = s.data.toList.length + (flatS r).length := by simp [flatS]
    rw [e, h2, Array.length_toList]
    have : s.data.size = 19 := h1
    simp
    omega
theorem flatS_cons (s : ByteArray) (xs : List ByteArray) : flatS (s :: xs) = s.data.toList ++ flatS xs := by simp [flatS]
theorem flatS_snoc (xs : List ByteArray) (s : ByteArray) : flatS (xs ++ [s]).reverse = s.data.toList ++ flatS xs.reverse := by simp [flatS]
theorem join_flat (xs : List ByteArray) : Lib.join (xs.map (·.data.toList)) [] = flatS xs := by
  unfold flatS
  induction xs with
  | nil => rfl
  | cons s r ih =>
    cases r with
    | nil => simp [Lib.join_one]
    | cons t r =>
      rw [List.map_cons, List.map_cons, Lib.join_cons, List.flatten_cons]
      congr 1
      simp [Lib.joinTail, Function.comp_def]
theorem decL_bound {x : Nat} (h : (limbs x).length ≤ 300) : (decL x).length ≤ 19201 := by
  have := decL_limbs x
  omega
/-- How many parts there are at most. -/
theorem parts_few {x k : Nat} {xs : List ByteArray} (hx : (limbs x).length ≤ 300) (hd : decL x = decL k ++ flatS xs.reverse) (h : ∀ s ∈ xs, s.size = 19) : xs.length ≤ 2000 := by
  have h1 := decL_bound hx
  rw [hd, List.length_append, flatS_len (xs := xs.reverse) (fun s hs => h s (List.mem_reverse.1 hs)), List.length_reverse] at h1
  omega

set_option maxRecDepth 100000 in
set_option maxHeartbeats 4000000 in
theorem decimal_text {w : World} {A : Option Addr} {n c x : Nat} (ha : Num w A n c x) (hx : (limbs x).length ≤ 300) (ht : Tab w) : Calls Tryd.prog 49 #[.slice A n c] w fun e w' => ∃ s : ByteArray, e = .returned (.string s) ∧ s.data.toList = decL x ∧ Below w.heap.size w w' := by
  obtain ⟨i0, hi, hz0, hz1, hz2⟩ := info_parts infoS
  have hP := len_one (x := 10000000000000000000) (by unfold B64; omega)
  have HXL := Lib.hid hx
  go_enter Tryd.func49, Tryd.ntmps49
  go_wp2_with fail
  refine (of_N _ 10000000000000000000 (by unfold B64; omega)).mono ?_
  rintro e w1 ⟨A1, n1, c1, rfl, h1, b1⟩
  go_wp2_with fail
  go_loopg [0, 3] x (fun k nv pv wr => ∃ (A' : Option Addr) (n' c' : Nat) (xs : List ByteArray), nv = .slice A' n' c' ∧ Num wr A' n' c' k ∧ Lim w1.heap.size wr A1 n1 c1 (limbs 10000000000000000000) ∧ wr.ownsRow w1.heap.size 9 1 pv xs.length (xs.map encT) ∧ (limbs k).length ≤ 300 ∧ Hid (decL x = decL k ++ flatS xs.reverse) ∧ Hid (∀ s ∈ xs, s.size = 19) ∧ w1.heap.size ≤ wr.heap.size ∧ Below w.heap.size w wr)
  case atStart => exact ⟨A, n, c, [], rfl, ha.on b1, h1, ⟨by simp, .inl ⟨rfl, rfl⟩⟩, hx, Lib.hid (by simp [flatS]), Lib.hid (by simp), Nat.le_refl _, b1⟩
  case round =>
    obtain ⟨A', n', c', xs, rfl, hN, hS, hown, hl, HD, HX, hsz, hb⟩ := hrel
    have hS' : Num wr A1 n1 c1 10000000000000000000 := Lim.more hS hsz
    have hfew := parts_few HXL.out HD.out HX.out
    rcases Nat.lt_or_ge gk 10000000000000000000 with hlt | hge
    · have hcm : ¬ 0 ≤ cmpN gk 10000000000000000000 := by rw [cmpN_lt hlt]; omega
      obtain ⟨z, hz⟩ : ∃ z, cmpN gk 10000000000000000000 = z := ⟨_, rfl⟩
      rw [hz] at hcm
      have HZ := Lib.hid hz
      have HLT := Lib.hid hlt
      clear hz hlt
      go_wp2_with fail
      refine (cmp_N hN hS' (by omega) (by omega)).mono ?_
      rintro e w2 ⟨rfl, b2⟩
      rw [HZ.out]
      go_wp2_with fail
      refine (limb_text (hN.on b2) (by have := HLT.out; unfold B64; omega) ((ht.on hb).on b2)).mono ?_
      rintro e w3 ⟨rfl, b3⟩
      have b13 : Below wr.heap.size wr w3 := b2.trans (b3.mono b2.size)
      have hown3 := ownsRow_below hown b13
      obtain ⟨t, hte⟩ : ∃ t : ByteArray, t = ⟨(decL gk).toArray⟩ := ⟨_, rfl⟩
      have htl : t.data.toList = decL gk := by rw [hte]
      rw [← hte]
      clear hte
      have hszr := b13.size
      go_wp2_with (at_builtin; go_must (refine wpList_append_own _ rfl _ _ 76 rfl w1.heap.size 9 i0 (.string ⟨#[]⟩) 1 16 Tryd.underlying76 hi hz0 hz1 hz2 rfl (by decide) _ _ _ rfl (hown3.alloc _) ⟨w3.heap.size, 0, none⟩ 1 1 [.string t] rfl rfl (by intro j u hj; cases j with | zero => (simp at hj; subst hj; simp [go_sem, Addr.add]) | succ j => simp at hj) (by intro u hu; simp at hu; subst hu; rfl) (by unfold maxLen; omega) (by omega) (by simp; omega) ?_); intro v' w4 hown4 hgrow4 _)
      have hvb : ∀ k, u3.ownBlock = some k → w1.heap.size ≤ k := fun k hk => (hown3.lt k hk).1
      have hB4 : Below w.heap.size w w4 := ((hb.trans (b13.mono hb.size)).alloc (by have := b1.size; omega) _).grown hgrow4 (by have := b1.size; simp; omega) (fun k hk => Nat.le_trans b1.size (hvb k hk))
      obtain ⟨hlen4, hrow4⟩ := hown4
      rcases hrow4 with ⟨_, h0⟩ | ⟨g, cap, cur, rfl, hbg, hheap, hncap, hcapm, hcur, htake⟩
      · omega
      · obtain ⟨ys, hys⟩ : ∃ ys : List ByteArray, ys = xs ++ [t] := ⟨_, rfl⟩
        have hyl : ys.length = xs.length + 1 := by rw [hys]; simp
        have hcells : ∀ i, i < xs.length + 1 → w4.cell? ⟨g, 0 + i, none⟩ = some (.string (ys[i]?.getD ⟨#[]⟩)) := by
          intro i hi
          have e1 : cur[i]? = some (.string (ys[i]?.getD ⟨#[]⟩)) := by
            have e2 : (cur.toList.take ((xs.length + 1) * 1))[i]? = (xs.map encT ++ [Value.string t])[i]? := by rw [htake]
            rw [List.getElem?_take_of_lt (by omega)] at e2
            rw [← Array.getElem?_toList, e2, show (xs.map encT ++ [Value.string t]) = ys.map encT by rw [hys]; simp [encT], List.getElem?_map, List.getElem?_eq_getElem (by omega)]
            simp [encT]
          rw [Nat.zero_add]
          simp [World.cell?, hheap, e1]
        have hfroz : ∀ j, j < xs.length + 1 → w4.frozen? ⟨g, 0 + j, none⟩ = false := by
          intro j hj
          simp [World.frozen?, hheap]
        have hrev := Tryd.slices_Reverse_string_cells g 0 (xs.length + 1) cap (fun i => ys[i]?.getD ⟨#[]⟩) w4 (by omega) hcells hfroz
        have HREV := Lib.hid hrev
        have HCE := Lib.hid hcells
        clear hrev hcells hfroz htake hcur
        go_wp2_with fail
        refine HREV.out.mono ?_
        rintro e w5 ⟨rfl, q, hw5⟩
        have hzl := Lib.strsOf_length (fun i => ys[i]?.getD ⟨#[]⟩) (xs.length + 1)
        have hvl : ((Lib.strsOf (fun i => ys[i]?.getD ⟨#[]⟩) (xs.length + 1)).reverse.map encStr).length = xs.length + 1 := by simp [hzl]
        have hzs : Lib.strsOf (fun i => ys[i]?.getD ⟨#[]⟩) (xs.length + 1) = ys.map fun s => s.data.toList := by
          unfold Lib.strsOf
          apply List.ext_getElem?
          intro i
          by_cases hi : i < xs.length + 1
          · simp [hi, List.getElem?_eq_getElem (show i < ys.length by omega)]
          · rw [List.getElem?_eq_none (by simp; omega), List.getElem?_eq_none (by simp; omega)]
        have hB5 : Below w.heap.size w w5 := by
          rw [hw5]
          exact below_cells (by have := b1.size; omega) _ 0 _ (below_drewN hB4 q)
        have hs45 : w4.heap.size ≤ w5.heap.size := by rw [hw5]; exact (below_cells (B := 0) (a := w4) (b := g) (by omega) _ 0 _ (below_drewN (Below.refl _ w4) q)).size
        have hg4 : g < w4.heap.size := by
          rcases Nat.lt_or_ge g w4.heap.size with h | h
          · exact h
          · rw [Array.getElem?_eq_none h] at hheap; cases hheap
        have hcells5 : ∀ (j : Nat) s, ys.reverse[j]? = some s → w5.cell? ⟨g, 0 + j, none⟩ = some (.string s) := by
          intro j s hj
          have hjl : j < xs.length + 1 := by
            have := (List.getElem?_eq_some_iff.1 hj).1
            simp at this; omega
          rw [hw5, World.cell?_setCells_in g _ 0 _ (fun i hi => by rw [World.cell?_drewN, HCE.out i (by omega)]; rfl) j (by omega)]
          have e1 : ((Lib.strsOf (fun i => ys[i]?.getD ⟨#[]⟩) (xs.length + 1)).reverse.map encStr)[j]? = some (.string s) := by
            rw [hzs, ← List.map_reverse, List.map_map, List.getElem?_map, hj]
            rfl
          rw [List.getElem?_eq_getElem (by omega)] at e1
          exact e1
        have hfin : flatS ys.reverse = decL x := by rw [hys, flatS_snoc, htl, HD.out]
        have hjn := Tryd.strings_Join g 0 cap ys.reverse ⟨#[]⟩ w5 hcells5 (by omega) (by simp; omega) (by simp; omega) (by
          rw [show (ByteArray.mk #[]).data.toList = [] from rfl, join_flat, hfin]
          have := decL_bound HXL.out
          omega)
        rw [show (ByteArray.mk #[]).data.toList = [] from rfl, join_flat, List.length_reverse, hyl] at hjn
        have HJ := Lib.hid hjn
        have HF := Lib.hid hfin
        clear hjn hcells5 hzs hvl hzl hw5 hfin hys
        go_wp2_with fail
        refine HJ.out.mono ?_
        rintro e w6 ⟨rfl, b6⟩
        go_wp2_with fail
        go_ret
        exact ⟨_, rfl, HF.out, hB5.trans (b6.mono hB5.size)⟩
    · have hcm : 0 ≤ cmpN gk 10000000000000000000 := by
        rcases Nat.lt_or_ge 10000000000000000000 gk with h | h
        · rw [cmpN_gt h]; omega
        · rw [cmpN_zero.2 (by omega)]; omega
      obtain ⟨z, hz⟩ : ∃ z, cmpN gk 10000000000000000000 = z := ⟨_, rfl⟩
      rw [hz] at hcm
      have HZ := Lib.hid hz
      have HGE := Lib.hid hge
      clear hz hge
      go_wp2_with fail
      refine (cmp_N hN hS' (by omega) (by omega)).mono ?_
      rintro e w2 ⟨rfl, b2⟩
      rw [HZ.out]
      obtain ⟨k1, rfl⟩ : ∃ k1, n1 = k1 + 1 := ⟨n1 - 1, by have := hS'.some_len (by omega); omega⟩
      go_wp2_with fail
      refine (ddiv_main_F (hN.on b2) (hS'.on b2) (by omega) (by omega) HGE.out).mono ?_
      rintro e w3 ⟨A3, n3, c3, A4, n4, c4, rfl, h3, h4, b3, f3⟩
      go_wp2_with fail
      have ht3 : Tab w3 := (ht.on hb).on (b2.trans (b3.mono b2.size))
      obtain ⟨y, hy⟩ : ∃ y, gk % 10000000000000000000 = y := ⟨_, rfl⟩
      obtain ⟨q, hq⟩ : ∃ q, gk / 10000000000000000000 = q := ⟨_, rfl⟩
      have hyl : y < 10000000000000000000 := by omega
      have hqg : q < gk := by have := HGE.out; omega
      have hql : (limbs q).length ≤ 300 := Nat.le_trans (limbs_length_mono (by omega)) hl
      have hdk := decL_part HGE.out
      rw [hy, hq] at hdk
      rw [hy] at h4
      rw [hq] at h3
      have HDK := Lib.hid hdk
      clear hy hq hdk
      refine (limb_text h4 (by unfold B64; omega) ht3).mono ?_
      rintro e w4 ⟨rfl, b4⟩
      go_wp2_with fail
      refine (filled_text y hyl).mono ?_
      rintro e w5 ⟨rfl, b5⟩
      have b35 : Below w3.heap.size w3 w5 := b4.trans (b5.mono b4.size)
      have b25 : Below wr.heap.size wr w5 := b2.trans ((b3.trans (b35.mono b3.size)).mono b2.size)
      have hown5 := ownsRow_below hown b25
      have hs25 := b25.size
      have hs02 := b2.size
      obtain ⟨t, hte⟩ : ∃ t : ByteArray, t = ⟨(padL 19 y).toArray⟩ := ⟨_, rfl⟩
      have htl : t.data.toList = padL 19 y := by rw [hte]
      have hts : t.size = 19 := by rw [hte, size_arr, padL_part hyl]
      rw [← hte]
      clear hte
      go_wp2_with (at_builtin; go_must (refine wpList_append_own _ rfl _ _ 76 rfl w1.heap.size 9 i0 (.string ⟨#[]⟩) 1 16 Tryd.underlying76 hi hz0 hz1 hz2 rfl (by decide) _ _ _ rfl (hown5.alloc _) ⟨w5.heap.size, 0, none⟩ 1 1 [.string t] rfl rfl (by intro j u hj; cases j with | zero => (simp at hj; subst hj; simp [go_sem, Addr.add]) | succ j => simp at hj) (by intro u hu; simp at hu; subst hu; rfl) (by unfold maxLen; omega) (by omega) (by simp; omega) ?_); intro v' w6 hown6 hgrow6 _)
      go_roundg q
      case measure => exact hqg
      case rel =>
        have hrow : ∀ k, u3.ownBlock = some k → w1.heap.size ≤ k ∧ k < wr.heap.size := fun k hk => hown.lt k hk
        have hbl := below_one w5 (.cells #[.string t] 9)
        refine ⟨A3, n3, c3, xs ++ [t], rfl, ?_, ?_, ?_, hql, Lib.hid ?_, Lib.hid ?_, ?_, ?_⟩
        · refine Lim.more (Lim.grownZ ((h3.on b35).on hbl) hgrow6 (fun h0 b off e => ?_) (by simp)) hgrow6.size
          obtain ⟨b', off', e', hb'⟩ := f3 h0
          rw [e] at e'
          injection e' with e'
          injection e' with e1 e2
          intro hrb
          have := (hrow b hrb).2
          omega
        · refine Lim.grownZ (Lim.below (Lim.below hS (b25.mono hsz)) (hbl.mono (by omega))) hgrow6 (fun h0 b off e hrb => ?_) (by simp; omega)
          obtain ⟨b', off', e', hb', _⟩ := hS.2.2.2 h0
          rw [e] at e'
          injection e' with e'
          injection e' with e1 e2
          have := (hrow b hrb).1
          omega
        · have e1 : (xs ++ [t]).length = xs.length + 1 := by simp
          have e2 : (xs ++ [t]).map encT = xs.map encT ++ [.string t] := by simp [encT]
          rw [e1, e2]
          exact hown6
        · rw [flatS_snoc, htl, HD.out, HDK.out, List.append_assoc]
        · intro s hs
          rcases List.mem_append.1 hs with h | h
          · exact HX.out s h
          · rw [List.mem_singleton.1 h]; exact hts
        · have := hgrow6.size; simp at this; omega
        · exact ((hb.trans (b25.mono hb.size)).alloc (by have := hb.size; omega) _).grown hgrow6 (by have := hb.size; simp; omega) (fun k hk => Nat.le_trans b1.size (hrow k hk).1)

set_option maxRecDepth 100000 in
set_option maxHeartbeats 2000000 in
theorem zprint_N {w : World} {b : Bool} {A : Option Addr} {n c : Nat} {z : Int} (ha : Zn w b A n c z) (hx : (limbs z.natAbs).length ≤ 300) (ht : Tab w) : Calls Tryd.prog 26 #[.agg #[.bool b, .slice A n c]] w fun e w' => ∃ s : ByteArray, e = .returned (.string s) ∧ s.data.toList = textZ z ∧ Below w.heap.size w w' := by
  have hB := below_one w (.cells #[.bool b, .slice A n c] 25)
  have ha' := ha.1.on hB
  have ht' := ht.on hB
  have hs := ha.2
  have hdl := decL_bound hx
  cases b with
  | true =>
    have hz : z < 0 := by simpa using hs.symm
    have HT := Lib.hid (show textZ z = 45 :: decL z.natAbs by unfold textZ; rw [if_pos hz])
    clear hs hz ha
    go_enter Tryd.func26, Tryd.ntmps26
    go_wp2_with fail
    refine (decimal_text ha' hx ht').mono ?_
    rintro e w1 ⟨s, rfl, hsd, b1⟩
    have hss : s.size ≤ 19201 := by
      have h1 : s.data.toList.length = s.size := Array.length_toList
      rw [hsd] at h1; omega
    have hlong : ¬ 9223372036854775807 < 1 + s.size := by omega
    go_wp2_with fail
    go_ret
    refine ⟨_, rfl, ?_, hB.trans (b1.mono hB.size)⟩
    rw [HT.out, ← hsd]
    simp [ByteArray.data_append]
  | false =>
    have hz : ¬ z < 0 := by simpa using hs.symm
    have HT := Lib.hid (show textZ z = decL z.natAbs by unfold textZ; rw [if_neg hz])
    clear hs hz ha
    go_enter Tryd.func26, Tryd.ntmps26
    go_wp2_with fail
    refine (decimal_text ha' hx ht').mono ?_
    rintro e w1 ⟨s, rfl, hsd, b1⟩
    go_wp2_with fail
    go_ret
    exact ⟨s, rfl, by rw [HT.out, hsd], hB.trans (b1.mono hB.size)⟩

end Go.Proofs.YtdaohhbdhmmihaaDoor

/-
  The contracts of zed's isFigure, goesOn, number.
-/
namespace Go.Proofs.YtdaohhbdhmmihaaDoor
open Go.RowKit
set_option linter.unusedVariables false

def figR (r : Int) : Bool := decide (48 ≤ r) && decide (r ≤ 57)
/-- May a text that begins with the first i bytes of l go on with the rune r? -/
def goesB (l : List UInt8) (i : Nat) (r : Int) : Bool :=
  if i = 0 then decide (r = 45) || figR r
  else if i = 1 ∧ (l[0]?.getD 0).toNat = 45 then decide (r ≠ 48) && figR r
  else if i = 1 ∧ (l[0]?.getD 0).toNat = 48 then false
  else figR r

theorem goesB_ok {l : List UInt8} {f pos : Nat} {r : Int} (hf : fromT l = f) (hp : pos < l.length) (hprev : ∀ k, f ≤ k → k < pos → okAt f l k = true) (hr : ((l[pos]?.getD 0).toNat < 128 ∧ r = ((l[pos]?.getD 0).toNat : Int)) ∨ (128 ≤ (l[pos]?.getD 0).toNat ∧ 128 ≤ r)) : goesB l pos r = (decide (pos < f) || okAt f l pos) := by
  obtain ⟨c, hc⟩ : ∃ c, (l[pos]?.getD 0).toNat = c := ⟨_, rfl⟩
  obtain ⟨a, ha⟩ : ∃ a, (l[0]?.getD 0).toNat = a := ⟨_, rfl⟩
  have hfig : figR r = (decide (48 ≤ c) && decide (c ≤ 57)) := by
    rw [hc] at hr
    unfold figR
    congr 1 <;> (apply decide_eq_decide.2; omega)
  rw [hc] at hr
  have hfa : f = if a = 45 then 1 else 0 := by rw [← hf, ← ha]; rfl
  unfold goesB okAt
  rw [hc, ha, hfig]
  by_cases h0 : pos = 0
  · subst h0
    have hca : a = c := by rw [← ha, ← hc]
    by_cases h45 : a = 45
    · have hf1 : f = 1 := by rw [hfa, if_pos h45]
      have hr45 : r = 45 := by omega
      simp [hf1, hr45]
    · have hf0 : f = 0 := by rw [hfa, if_neg h45]
      have hr45 : ¬ r = 45 := by omega
      simp [hf0, hr45]
  · rw [if_neg h0]
    by_cases h1 : pos = 1
    · subst h1
      by_cases h45 : a = 45
      · have hf1 : f = 1 := by rw [hfa, if_pos h45]
        subst hf1
        have hr48 : (decide (r ≠ 48) && (decide (48 ≤ c) && decide (c ≤ 57))) = ((decide (48 ≤ c) && decide (c ≤ 57)) && !decide (c = 48)) := by
          rw [Bool.and_comm]
          by_cases h : 48 ≤ c ∧ c ≤ 57
          · have : r = (c : Int) := by omega
            subst this
            by_cases h2 : c = 48
            · simp [h2]
            · have : ¬ ((c : Int) = 48) := by omega
              simp [h2, this]
          · have : (decide (48 ≤ c) && decide (c ≤ 57)) = false := by simp; omega
            simp [this]
        rw [if_pos ⟨rfl, h45⟩, hr48]
        simp
      · have hf0 : f = 0 := by rw [hfa, if_neg h45]
        subst hf0
        rw [if_neg (fun h => h45 h.2)]
        by_cases h48 : a = 48
        · rw [if_pos ⟨rfl, h48⟩]
          simp [ha, h48]
        · rw [if_neg (fun h => h48 h.2)]
          simp [ha, h48]
    · rw [if_neg (fun h => h1 h.1), if_neg (fun h => h1 h.1)]
      have hlf : ¬ (l[f]?.getD 0).toNat = 48 := by
        by_cases h45 : a = 45
        · have hf1 : f = 1 := by rw [hfa, if_pos h45]
          subst hf1
          exact (okAt_parts (hprev 1 (Nat.le_refl _) (by omega))).2.2.2 rfl rfl
        · have hf0 : f = 0 := by rw [hfa, if_neg h45]
          subst hf0
          exact (okAt_parts (hprev 1 (by omega) (by omega))).2.2.1 (by omega)
      have hpf : ¬ pos < f := by rw [hfa]; split <;> omega
      simp [hlf, hpf, h1]

set_option maxHeartbeats 1000000 in
theorem isfig_any (r : Int) (b : Bool) (w : World) (h : figR r = b) : Calls Tryd.prog 61 #[.int .i32 r] w fun e w' => e = .returned (.bool b) ∧ w = w' := by
  by_cases h1 : 48 ≤ r
  · by_cases h2 : r ≤ 57
    · have hb : b = true := by rw [← h]; simp [figR, h1, h2]
      subst hb
      clear h
      go_enter Tryd.func61, Tryd.ntmps61
      go_wp2
      go_ret
      exact ⟨rfl, rfl⟩
    · have hb : b = false := by rw [← h]; simp [figR, h2]
      subst hb
      clear h
      go_enter Tryd.func61, Tryd.ntmps61
      go_wp2
      go_ret
      exact ⟨rfl, rfl⟩
  · have hb : b = false := by rw [← h]; simp [figR, h1]
    subst hb
    clear h
    go_enter Tryd.func61, Tryd.ntmps61
    go_wp2
    go_ret
    exact ⟨rfl, rfl⟩

set_option maxHeartbeats 1000000 in
theorem goes_empty (r : Int) (b : Bool) (w : World) (h : (decide (r = 45) || figR r) = b) : Calls Tryd.prog 46 #[.string ⟨#[]⟩, .int .i32 r] w fun e w' => e = .returned (.bool b) ∧ w = w' := by
  by_cases h1 : r = 45
  · subst h1
    have hb : b = true := by rw [← h]; simp
    subst hb
    go_enter Tryd.func46, Tryd.ntmps46
    go_wp2
    go_ret
    exact ⟨rfl, rfl⟩
  · have hf : figR r = b := by rw [← h]; simp [h1]
    have he : (r == 45) = false := by simp [h1]
    have HF := Lib.hid hf
    clear h hf h1
    go_enter Tryd.func46, Tryd.ntmps46
    go_wp2_with (go_at_call 61; refine (isfig_any r b _ HF.out).mono ?_; rintro e w' ⟨rfl, rfl⟩)
    go_ret
    exact ⟨rfl, rfl⟩
set_option maxHeartbeats 1000000 in
theorem goes_minus (r : Int) (b : Bool) (w : World) (h : (decide (r ≠ 48) && figR r) = b) : Calls Tryd.prog 46 #[.string ⟨#[45]⟩, .int .i32 r] w fun e w' => e = .returned (.bool b) ∧ w = w' := by
  by_cases h1 : r = 48
  · subst h1
    have hb : b = false := by rw [← h]; simp
    subst hb
    go_enter Tryd.func46, Tryd.ntmps46
    go_wp2
    go_ret
    exact ⟨rfl, rfl⟩
  · have hf : figR r = b := by rw [← h]; simp [h1]
    have he : (r == 48) = false := by simp [h1]
    have he2 : (r != 48) = true := by simp [h1]
    have HF := Lib.hid hf
    clear h hf h1
    go_enter Tryd.func46, Tryd.ntmps46
    go_wp2_with (go_at_call 61; refine (isfig_any r b _ HF.out).mono ?_; rintro e w' ⟨rfl, rfl⟩)
    go_ret
    exact ⟨rfl, rfl⟩
set_option maxHeartbeats 1000000 in
theorem goes_nought (r : Int) (w : World) : Calls Tryd.prog 46 #[.string ⟨#[48]⟩, .int .i32 r] w fun e w' => e = .returned (.bool false) ∧ w = w' := by
  go_enter Tryd.func46, Tryd.ntmps46
  go_wp2
  go_ret
  exact ⟨rfl, rfl⟩
theorem str_eq {s t : ByteArray} (h : s.data.toList = t.data.toList) : s = t := by
  cases s with
  | mk a => cases t with
    | mk b => simp at h; rw [h]

set_option maxHeartbeats 1000000 in
theorem goes_else (s : ByteArray) (r : Int) (b : Bool) (w : World) (h0 : s ≠ ⟨#[]⟩) (h1 : s ≠ ⟨#[45]⟩) (h2 : s ≠ ⟨#[48]⟩) (h : figR r = b) : Calls Tryd.prog 46 #[.string s, .int .i32 r] w fun e w' => e = .returned (.bool b) ∧ w = w' := by
  have HF := Lib.hid h
  have k0 : s.toList.isEmpty = false := by
    rw [Lib.toList_data]
    cases hs : s.data.toList with
    | nil => exact absurd (str_eq (t := ⟨#[]⟩) hs) h0
    | cons a t => rfl
  have k1 : (s.toList == [45]) = false := by
    rw [Lib.toList_data]
    exact beq_eq_false_iff_ne.2 (fun e => h1 (str_eq (t := ⟨#[45]⟩) e))
  have k2 : (s.toList == [48]) = false := by
    rw [Lib.toList_data]
    exact beq_eq_false_iff_ne.2 (fun e => h2 (str_eq (t := ⟨#[48]⟩) e))
  clear h h0 h1 h2
  go_enter Tryd.func46, Tryd.ntmps46
  go_wp2_with (go_at_call 61; refine (isfig_any r b _ HF.out).mono ?_; rintro e w' ⟨rfl, rfl⟩)
  go_ret
  exact ⟨rfl, rfl⟩

theorem ext_list (s : ByteArray) (i : Nat) : (s.extract 0 i).data.toList = s.data.toList.take i := by
  rw [ByteArray.data_extract, Array.toList_extract]
  simp [List.extract]
theorem goes_any (s : ByteArray) (i : Nat) (hi : i < s.size) (r : Int) (b : Bool) (w : World) (h : goesB s.data.toList i r = b) : Calls Tryd.prog 46 #[.string (s.extract 0 i), .int .i32 r] w fun e w' => e = .returned (.bool b) ∧ w = w' := by
  have hl : s.data.toList.length = s.size := Array.length_toList
  unfold goesB at h
  by_cases h0 : i = 0
  · subst h0
    rw [if_pos rfl] at h
    rw [show s.extract 0 0 = ⟨#[]⟩ from str_eq (by rw [ext_list]; simp)]
    exact goes_empty r b w h
  · rw [if_neg h0] at h
    by_cases h1 : i = 1
    · subst h1
      obtain ⟨c, t, hct⟩ : ∃ c t, s.data.toList = c :: t := by
        cases hh : s.data.toList with
        | nil => rw [hh] at hl; simp at hl; omega
        | cons c t => exact ⟨c, t, rfl⟩
      have hex : s.extract 0 1 = ⟨#[c]⟩ := str_eq (by rw [ext_list, hct]; simp)
      rw [hct] at h
      simp only [List.getElem?_cons_zero, Option.getD_some] at h
      rw [hex]
      by_cases h45 : c.toNat = 45
      · rw [if_pos ⟨trivial, h45⟩] at h
        rw [show c = 45 from UInt8.toNat_inj.1 h45]
        exact goes_minus r b w h
      · rw [if_neg (fun e => h45 e.2)] at h
        by_cases h48 : c.toNat = 48
        · rw [if_pos ⟨trivial, h48⟩] at h
          subst h
          rw [show c = 48 from UInt8.toNat_inj.1 h48]
          exact goes_nought r w
        · rw [if_neg (fun e => h48 e.2)] at h
          refine goes_else _ r b w (fun e => by injection e with e; simp at e) (fun e => ?_) (fun e => ?_) h
          · injection e with e; simp at e; subst e; exact h45 rfl
          · injection e with e; simp at e; subst e; exact h48 rfl
    · rw [if_neg (fun e => h1 e.1), if_neg (fun e => h1 e.1)] at h
      have hsz : (s.extract 0 i).data.toList.length = i := by rw [ext_list, List.length_take]; omega
      refine goes_else _ r b w (fun e => ?_) (fun e => ?_) (fun e => ?_) h
      all_goals
        rw [e] at hsz
        simp at hsz
        omega

theorem Num.iterAt {w : World} {A : Option Addr} {n c x k pos : Nat} {s : ByteArray} (h : Num w A n c x) (hk : w.heap[k]? = some (.stringIter s pos)) (pos' : Nat) : Num (w.iterAt k s pos') A n c x := by
  refine ⟨h.1, h.2.1, h.2.2.1, fun h0 => ?_⟩
  obtain ⟨b, off, e, hb, hc⟩ := h.2.2.2 h0
  refine ⟨b, off, e, by rw [Lib.iterAt_size]; exact hb, fun j hj => ?_⟩
  have hne : b ≠ k := fun e2 => by
    have h2 := hc j hj
    subst e2
    simp [World.cell?, hk] at h2
  exact (World.cell?_of_block (w := w) (a := ⟨b, off + j, none⟩) (Lib.iterAt_other w k b s pos' hne)).trans (hc j hj)
theorem below_iterAt {B k pos : Nat} {w W : World} {s : ByteArray} (h : Below B w W) (hB : B ≤ k) : Below B w (W.iterAt k s pos) :=
  ⟨h.os, h.tape, h.output, by rw [Lib.iterAt_size]; exact h.size, fun i hi => (Lib.iterAt_other W k i s pos (by omega)).trans (h.block i hi)⟩
theorem below_iter (w : World) (s : ByteArray) : Below w.heap.size w (w.iter s 0) := (Below.refl _ w).alloc (Nat.le_refl _) _

theorem numT_take {l : List UInt8} {i : Nat} (h : i < l.length) : numT (l.take (i + 1)) = numT (l.take i) * 10 + ((l[i]?.getD 0).toNat - 48) := by
  have := numT_step (f := 0) (Nat.zero_le i) h
  simpa using this
theorem numT_take_limbs {l : List UInt8} {i m : Nat} (hf : Figs l) (h : l.length ≤ m) : (limbs (numT (l.take i))).length ≤ m := by
  refine limbs_length_le ?_
  have h1 := numT_lt (l.take i) (fun c hc => hf c (List.mem_of_mem_take hc))
  have h2 : 10 ^ (l.take i).length ≤ 10 ^ m := Nat.pow_le_pow_right (by omega) (by rw [List.length_take]; omega)
  have h3 : (10 : Nat) ^ m ≤ B64 ^ m := Nat.pow_le_pow_left (by unfold B64; omega) m
  omega

set_option maxRecDepth 100000 in
set_option maxHeartbeats 4000000 in
theorem number_text (s : ByteArray) (w : World) (hs : s.size ≤ 400) (hf : Figs s.data.toList) : Calls Tryd.prog 48 #[.string s] w (GotN w (numT s.data.toList)) := by
  have hl : s.data.toList.length = s.size := Array.length_toList
  have h10 := len_one (x := 10) (by unfold B64; omega)
  have HF := Lib.hid hf
  have HL := Lib.hid hl
  clear hf hl
  go_enter Tryd.func48, Tryd.ntmps48
  go_wp2_with fail
  refine (of_N _ 10 (by unfold B64; omega)).mono ?_
  rintro e w1 ⟨A1, n1, c1, rfl, h1, b1⟩
  go_wp2_with fail
  go_loopw [3] (fun nv wr => ∃ (pos : Nat) (A' : Option Addr) (n' c' : Nat), pos ≤ s.size ∧ nv = .slice A' n' c' ∧ Num wr A' n' c' (numT (s.data.toList.take pos)) ∧ wr.heap[w1.heap.size]? = some (.stringIter s pos) ∧ Below w1.heap.size w1 wr) (fun _ wr => s.size - wr.iterPos w1.heap.size)
  case atStart => exact ⟨0, none, 0, 0, Nat.zero_le _, rfl, num_zero _, World.iter_heap _ _ _, below_iter _ _⟩
  case round =>
    obtain ⟨pos, A', n', c', hpl, rfl, hN, hk, hb⟩ := hrel
    have hbig : w1.heap.size < wr.heap.size := (Array.getElem?_eq_some_iff.1 hk).1
    by_cases hp : pos < s.size
    · have hget := str_get s pos hp
      have hpl2 : pos < s.data.toList.length := by rw [HL.out]; exact hp
      have hfig : 48 ≤ (s.data.toList[pos]?.getD 0).toNat ∧ (s.data.toList[pos]?.getD 0).toNat ≤ 57 := by
        rw [List.getElem?_eq_getElem hpl2]
        exact HF.out _ (List.getElem_mem hpl2)
      rw [hget] at hfig
      obtain ⟨d, hd⟩ : ∃ d : Nat, s[pos].toNat - 48 = d := ⟨_, rfl⟩
      have hd2 : s[pos].toNat = 48 + d := by omega
      have hd9 : d ≤ 9 := by omega
      have hnx0 := fun ty => Lib.run_next_ascii_at (P := Tryd.prog) wr w1.heap.size s pos ty hk hp (by omega)
      obtain ⟨W2, hW2⟩ : ∃ W2, wr.iterAt w1.heap.size s (pos + 1) = W2 := ⟨_, rfl⟩
      rw [hW2, hd2] at hnx0
      have hN2 : Num W2 A' n' c' (numT (s.data.toList.take pos)) := by rw [← hW2]; exact hN.iterAt hk _
      have hb2 : Below w1.heap.size w1 W2 := by rw [← hW2]; exact below_iterAt hb (Nat.le_refl _)
      have hk2 : W2.heap[w1.heap.size]? = some (.stringIter s (pos + 1)) := by rw [← hW2]; exact Lib.iterAt_heap wr _ s pos (pos + 1) hk
      have hnx : ∀ ty, (Instr.next (.pointer (some ⟨w1.heap.size, 0, none⟩)) true ty).run Tryd.prog wr = .ok (.tuple #[.bool true, .int .i64 pos, .int .i32 (48 + (d : Int))]) W2 := fun ty => by
        have := hnx0 ty
        rwa [Int.natCast_add] at this
      have hst := numT_take (l := s.data.toList) (i := pos) (by rw [HL.out]; exact hp)
      rw [hget, hd] at hst
      have hlim := numT_take_limbs (i := pos) HF.out (m := 400) (by rw [HL.out]; exact hs)
      obtain ⟨v, hv⟩ : ∃ v, numT (s.data.toList.take pos) = v := ⟨_, rfl⟩
      rw [hv] at hN2 hst hlim
      have HST := Lib.hid hst
      have e1 : IntKind.u64.wrap (d : Int) = (d : Int) := by rw [IntKind.wrap_u64]; omega
      have hk3 := Lib.hid hk2
      have hmul := limbs_length_mul hlim h10
      have hdl := len_one (x := d) (by unfold B64; omega)
      have HIP := Lib.hid (show wr.iterPos w1.heap.size = pos from by simp [World.iterPos, hk])
      clear hN hk hb hW2 hnx0 hst hv hd hd2 hget hfig hbig hk2
      go_wp2_with fail
      refine (mul_N hN2 (h1.on hb2) (by omega) (by omega)).mono ?_
      rintro e w3 ⟨A3, n3, c3, rfl, h3, b3⟩
      have e2 : IntKind.i32.wrap (48 + (d : Int) - 48) = (d : Int) := by rw [show (48 + (d : Int) - 48) = (d : Int) by omega]; simp [IntKind.wrap, IntKind.bits, IntKind.signed]; omega
      have e3 : 48 + (d : Int) - 48 = (d : Int) := by omega
      go_wp2_with fail
      refine (of_N _ d (by unfold B64; omega)).mono ?_
      rintro e w4 ⟨A4, n4, c4, rfl, h4, b4⟩
      go_wp2_with fail
      refine (add_N (h3.on b4) h4 (by omega) (by omega)).mono ?_
      rintro e w5 ⟨A5, n5, c5, rfl, h5, b5⟩
      have b25 : Below W2.heap.size W2 w5 := b3.trans ((b4.trans (b5.mono b4.size)).mono b3.size)
      go_wp2_with fail
      go_roundw
      case rel =>
        refine ⟨pos + 1, A5, n5, c5, by omega, rfl, by rw [HST.out]; exact h5, ?_, hb2.trans (b25.mono hb2.size)⟩
        have hlt : w1.heap.size < W2.heap.size := (Array.getElem?_eq_some_iff.1 hk3.out).1
        rw [b25.block _ hlt]
        exact hk3.out
      case measure =>
        have hlt : w1.heap.size < W2.heap.size := (Array.getElem?_eq_some_iff.1 hk3.out).1
        have : w5.iterPos w1.heap.size = pos + 1 := by unfold World.iterPos; rw [b25.block _ hlt, hk3.out]
        rw [HIP.out, this]
        omega
    · have hnx := fun ty => Lib.run_next_end_at (P := Tryd.prog) wr w1.heap.size s pos ty hk hp
      have he : s.data.toList.take pos = s.data.toList := List.take_of_length_le (by rw [HL.out]; omega)
      rw [he] at hN
      clear he hk hbig
      go_wp2_with fail
      go_ret
      exact ⟨_, _, _, rfl, hN, b1.trans (hb.mono b1.size)⟩

end Go.Proofs.YtdaohhbdhmmihaaDoor

/-
  The contract of zed's Read.
-/
namespace Go.Proofs.YtdaohhbdhmmihaaDoor
open Go.RowKit
set_option linter.unusedVariables false

theorem fromT_01 (l : List UInt8) : fromT l = 0 ∨ fromT l = 1 := by unfold fromT; split <;> simp
theorem cut_minus {l : List UInt8} {f : Nat} (hf : fromT l = f) : Lib.trimPrefix l [45] = l.drop f ∧ Lib.hasPrefix l [45] = decide (f = 1) := by
  cases l with
  | nil =>
    have : f = 0 := by rw [← hf]; rfl
    subst this
    exact ⟨rfl, rfl⟩
  | cons c r =>
    by_cases hc : c = 45
    · subst hc
      have : f = 1 := by rw [← hf]; rfl
      subst this
      exact ⟨by simp [Lib.trimPrefix, Lib.hasPrefix], by simp [Lib.hasPrefix]⟩
    · have hne : ¬ c.toNat = 45 := fun e => hc (UInt8.toNat_inj.1 e)
      have : f = 0 := by rw [← hf]; unfold fromT; rw [if_neg]; simpa using hne
      subst this
      have h0 : ((45 : UInt8) == c) = false := beq_eq_false_iff_ne.2 (Ne.symm hc)
      have h1 : Lib.hasPrefix (c :: r) [45] = false := by simp [Lib.hasPrefix, List.isPrefixOf, h0]
      exact ⟨by simp [Lib.trimPrefix, h1], by simp [h1]⟩

set_option maxRecDepth 100000 in
set_option maxHeartbeats 1000000 in
theorem zread_large (s : ByteArray) (w : World) (h : 400 < s.size) (hs : s.size ≤ 9223372036854775807) : Calls Tryd.prog 25 #[.string s] w (GotR w (0, 0, 6)) := by
  have hi : (400 : Int) < (s.size : Int) := by omega
  go_enter Tryd.func25, Tryd.ntmps25
  go_wp2_with fail
  refine bodyPost_ret (v := .tuple #[.agg #[.bool false, .slice none 0 0], .int .i64 0, .int .i64 6]) (by simp [results, Tryd.results25, go_sem]) rfl ⟨_, _, _, _, rfl, zn_zero _, below_one w _⟩

set_option maxRecDepth 100000 in
set_option maxHeartbeats 4000000 in
theorem zread_small (s : ByteArray) (w : World) (h : s.size ≤ 400) : Calls Tryd.prog 25 #[.string s] w (GotR w (readT s.data.toList)) := by
  have hi : ¬ (400 : Int) < (s.size : Int) := by omega
  obtain ⟨l, hl⟩ : ∃ l, s.data.toList = l := ⟨_, rfl⟩
  have hll : l.length = s.size := by rw [← hl]; exact Array.length_toList
  have hnl : ¬ 400 < l.length := by rw [hll]; omega
  obtain ⟨f, hf⟩ : ∃ f, fromT l = f := ⟨_, rfl⟩
  have hfl : f ≤ s.size := by have := fromT_le l; rw [hf, hll] at this; exact this
  obtain ⟨W, hW⟩ : ∃ W, w.alloc (.cells #[.bool false, .slice none 0 0] 25) = W := ⟨_, rfl⟩
  have hB : Below w.heap.size w W := by rw [← hW]; exact below_one w _
  have hsz : W.heap.size = w.heap.size + 1 := by rw [← hW]; simp
  have c1 : W.cell? ⟨w.heap.size, 0, none⟩ = some (.bool false) := by rw [← hW]; simp [go_sem]
  have c2 : W.cell? ⟨w.heap.size, 1, none⟩ = some (.slice none 0 0) := by rw [← hW]; simp [go_sem]
  have c3 : W.frozen? ⟨w.heap.size, 0, none⟩ = false := by rw [← hW]; simp [go_sem]
  have c4 : W.frozen? ⟨w.heap.size, 1, none⟩ = false := by rw [← hW]; simp [go_sem]
  have HSZ := Lib.hid hsz
  have HL := Lib.hid hl
  have HLL := Lib.hid hll
  have HF := Lib.hid hf
  have HB := Lib.hid hB
  rw [hl]
  clear hsz hl hll hf hB
  go_enter Tryd.func25, Tryd.ntmps25
  go_wp2_with fail
  clear hW
  go_loopw [5] (fun iv wr => ∃ pos : Nat, pos ≤ s.size ∧ wr = W.iter s pos ∧ Hid (∀ k, f ≤ k → k < pos → okAt f l k = true)) (fun _ wr => s.size - wr.iterPos W.heap.size)
  case atStart => exact ⟨0, Nat.zero_le _, rfl, Lib.hid (fun k a b => by omega)⟩
  case round =>
    obtain ⟨pos, hpl, hwr, HOK⟩ := hrel
    have hbi : ∀ p, Below W.heap.size W (W.iter s p) := fun p => (Below.refl _ W).alloc (Nat.le_refl _) _
    have hsz := HSZ.out
    by_cases hp : pos < s.size
    · have hpl2 : pos < l.length := by rw [HLL.out]; exact hp
      have hget := str_get s pos hp
      rw [HL.out] at hget
      obtain ⟨r, p2, hr, hnx, hadv⟩ : ∃ (r : Int) (p2 : Nat), (((l[pos]?.getD 0).toNat < 128 ∧ r = ((l[pos]?.getD 0).toNat : Int)) ∨ (128 ≤ (l[pos]?.getD 0).toNat ∧ 128 ≤ r)) ∧ (∀ ty, (Instr.next (.pointer (some ⟨W.heap.size, 0, none⟩)) true ty).run Tryd.prog (W.iter s pos) = .ok (.tuple #[.bool true, .int .i64 pos, .int .i32 r]) (W.iter s p2)) ∧ ((l[pos]?.getD 0).toNat < 128 → p2 = pos + 1) := by
        by_cases ha : s[pos].toNat < 128
        · exact ⟨_, _, .inl ⟨by rw [hget]; exact ha, by rw [hget]⟩, fun ty => run_next_ascii W s pos ty hp ha, fun _ => rfl⟩
        · exact ⟨_, _, .inr ⟨by rw [hget]; omega, by have := (decode_high s pos hp (by omega)).1; omega⟩, fun ty => run_next_any W s pos ty hp, fun hc => by rw [hget] at hc; omega⟩
      have hgo := goesB_ok HF.out hpl2 HOK.out hr
      obtain ⟨W2, hW2⟩ : ∃ W2, W.iter s p2 = W2 := ⟨_, rfl⟩
      have b2 : Below W.heap.size W W2 := by rw [← hW2]; exact hbi p2
      have g1 := (b2.cell (p := ⟨w.heap.size, 0, none⟩) (show w.heap.size < W.heap.size by omega)).trans c1
      have g2 := (b2.cell (p := ⟨w.heap.size, 1, none⟩) (show w.heap.size < W.heap.size by omega)).trans c2
      have g3 := (b2.frozen (p := ⟨w.heap.size, 0, none⟩) (show w.heap.size < W.heap.size by omega)).trans c3
      have g4 := (b2.frozen (p := ⟨w.heap.size, 1, none⟩) (show w.heap.size < W.heap.size by omega)).trans c4
      have hpi : (0 : Int) ≤ (pos : Int) := by omega
      have hpi2 : (pos : Int) ≤ (s.size : Int) := by omega
      rw [hW2] at hnx
      subst hwr
      have HW2 := Lib.hid hW2
      have HR := Lib.hid hr
      have HADV := Lib.hid hadv
      have HGET := Lib.hid hget
      clear hW2 hr hadv hget c1 c2 c3 c4 hbi hsz
      cases hb : (decide (pos < f) || okAt f l pos) with
      | true =>
        rw [hb] at hgo
        have HGO := Lib.hid hgo
        have HBB := Lib.hid hb
        have hok := HBB.out
        have hpos : p2 = pos + 1 := by
          refine HADV.out ?_
          rcases HR.out with h1 | h1
          · exact h1.1
          · exfalso
            rw [Bool.or_eq_true] at hok
            rcases hok with h2 | h2
            · have h3 := of_decide_eq_true h2
              have h4 := HF.out
              unfold fromT at h4
              have h5 : pos = 0 := by split at h4 <;> omega
              subst h5
              split at h4 <;> omega
            · have := (okAt_parts h2).2.1
              omega
        have HPOS := Lib.hid hpos
        clear hpos hok
        clear hgo hb
        go_wp2_with (go_at_call 46; refine (goes_any s pos hp r true _ (by rw [HL.out]; exact HGO.out)).mono ?_; rintro e w' ⟨rfl, rfl⟩)
        go_roundw
        case rel =>
          refine ⟨pos + 1, by omega, by rw [← HW2.out, HPOS.out], Lib.hid (fun k a b => ?_)⟩
          by_cases hk : k = pos
          · subst hk
            have hok := HBB.out
            rw [Bool.or_eq_true] at hok
            rcases hok with h2 | h2
            · have := of_decide_eq_true h2; omega
            · exact h2
          · exact HOK.out k a (by omega)
        case measure =>
          rw [← HW2.out, World.iterPos_iter, World.iterPos_iter, HPOS.out]
          omega
      | false =>
        rw [hb] at hgo
        have HGO := Lib.hid hgo
        rw [Bool.or_eq_false_iff] at hb
        have HRD := Lib.hid (readT_bad hnl HF.out (by have := of_decide_eq_false hb.1; omega) hpl2 HOK.out hb.2)
        clear hgo hb
        go_wp2_with (go_at_call 46; refine (goes_any s pos hp r false _ (by rw [HL.out]; exact HGO.out)).mono ?_; rintro e w' ⟨rfl, rfl⟩)
        refine bodyPost_ret (v := .tuple #[.agg #[.bool false, .slice none 0 0], .int .i64 (pos : Int), .int .i64 3]) (by simp [results, Tryd.results25, go_sem, g1, g2]) rfl ?_
        rw [HRD.out]
        refine ⟨_, _, _, _, rfl, zn_zero _, ?_⟩
        exact ((HB.out.trans (b2.mono HB.out.size)).setCell (p := ⟨w.heap.size, 0, none⟩) (Nat.le_refl _) _).setCell (p := ⟨w.heap.size, 1, none⟩) (Nat.le_refl _) _
    · obtain rfl : pos = s.size := by omega
      have hnx : ∀ ty, (Instr.next (.pointer (some ⟨W.heap.size, 0, none⟩)) true ty).run Tryd.prog (W.iter s s.size) = _ := fun ty => run_next_end W s s.size ty hp
      obtain ⟨W2, hW2⟩ : ∃ W2, W.iter s s.size = W2 := ⟨_, rfl⟩
      have b2 : Below W.heap.size W W2 := by rw [← hW2]; exact hbi _
      have g1 := (b2.cell (p := ⟨w.heap.size, 0, none⟩) (show w.heap.size < W.heap.size by omega)).trans c1
      have g2 := (b2.cell (p := ⟨w.heap.size, 1, none⟩) (show w.heap.size < W.heap.size by omega)).trans c2
      have g3 := (b2.frozen (p := ⟨w.heap.size, 0, none⟩) (show w.heap.size < W.heap.size by omega)).trans c3
      have g4 := (b2.frozen (p := ⟨w.heap.size, 1, none⟩) (show w.heap.size < W.heap.size by omega)).trans c4
      rw [hW2] at hnx
      have hs2 : w.heap.size + 1 ≤ W2.heap.size := by have := b2.size; omega
      have hwr2 : wr = W2 := hwr.trans hW2
      subst hwr2
      obtain ⟨t, hte⟩ : ∃ t : ByteArray, t = ⟨(l.drop f).toArray⟩ := ⟨_, rfl⟩
      have htl : t.data.toList = l.drop f := by rw [hte]
      have htz : t.size = s.size - f := by
        have h1 : t.data.toList.length = t.size := Array.length_toList
        rw [htl, List.length_drop, HLL.out] at h1
        exact h1.symm
      obtain ⟨nb, hnb⟩ : ∃ nb : Bool, nb = decide (f = 1) := ⟨_, rfl⟩
      have hcp : Calls Tryd.prog 47 #[.string s, .string ⟨#[45]⟩] wr fun e w' => e = .returned (.tuple #[.string t, .bool nb]) ∧ w' = wr := by
        have h1 := Tryd.strings_CutPrefix s ⟨#[45]⟩ wr
        rw [HL.out, show (ByteArray.mk #[45]).data.toList = [45] from rfl, (cut_minus HF.out).1, (cut_minus HF.out).2, ← hte, ← hnb] at h1
        exact h1
      have HCP := Lib.hid hcp
      have HOK2 : Hid (∀ k, f ≤ k → k < l.length → okAt f l k = true) := Lib.hid (fun k a b => HOK.out k a (by rw [HLL.out] at b; exact b))
      have b02 : Below w.heap.size w wr := HB.out.trans (b2.mono HB.out.size)
      clear hcp hW2 hwr c1 c2 c3 c4 hbi hsz b2 hte
      by_cases he : s.size = f
      · have HR := Lib.hid (readT_end hnl HF.out (by rw [HLL.out]; exact he))
        have HE := Lib.hid he
        have k0 : t.toList.isEmpty = true := by
          rw [Lib.toList_data, htl]
          have : (l.drop f).length = 0 := by rw [List.length_drop, HLL.out]; omega
          rw [List.eq_nil_of_length_eq_zero this]; rfl
        clear he htl htz hnb
        go_wp2_with fail
        refine HCP.out.mono ?_
        rintro e w' ⟨rfl, rfl⟩
        go_wp2_with fail
        refine bodyPost_ret (v := .tuple #[.agg #[.bool false, .slice none 0 0], .int .i64 (s.size : Int), .int .i64 3]) (by simp [results, Tryd.results25, go_sem, g1, g2] <;> omega) rfl ?_
        rw [HR.out]
        refine ⟨_, _, _, _, by rw [HE.out], zn_zero _, ?_⟩
        exact (b02.setCell (p := ⟨w.heap.size, 0, none⟩) (Nat.le_refl _) _).setCell (p := ⟨w.heap.size, 1, none⟩) (Nat.le_refl _) _
      · have hfs : f < l.length := by rw [HLL.out]; omega
        have HR := Lib.hid (readT_ok hnl HF.out hfs HOK2.out)
        have hfig : Figs t.data.toList := by
          rw [htl]
          intro c hc
          obtain ⟨i, hi2, rfl⟩ := List.getElem_of_mem hc
          have hlt : f + i < l.length := by rw [List.length_drop] at hi2; omega
          have h1 := okAt_fig (HOK2.out (f + i) (by omega) hlt)
          rw [List.getElem?_eq_getElem hlt] at h1
          rw [List.getElem_drop]
          exact h1
        have hnum := number_text t wr (by rw [htz]; omega) hfig
        have hlim : (limbs (numT t.data.toList)).length ≤ 400 := by
          have := numT_take_limbs (i := t.data.toList.length) hfig (m := 400) (by rw [htl, List.length_drop, HLL.out]; omega)
          rwa [List.take_length] at this
        have k0 : t.toList.isEmpty = false := by
          rw [Lib.toList_data, htl]
          cases hd : l.drop f with
          | nil => have := congrArg List.length hd; rw [List.length_drop] at this; simp at this; omega
          | cons a r => rfl
        have hsg : sgn nb (numT t.data.toList) = (if f = 1 then -(numT (l.drop 1) : Int) else (numT l : Int)) := by
          rw [htl, hnb]
          have hf01 := fromT_01 l
          rw [HF.out] at hf01
          rcases hf01 with h1 | h1
          · subst h1; simp [sgn]
          · subst h1; simp [sgn]
        have HNM := Lib.hid hnum
        have HSG := Lib.hid hsg
        clear he htl htz hnb hnum hsg hfig hfs
        go_wp2_with fail
        refine HCP.out.mono ?_
        rintro e w' ⟨rfl, rfl⟩
        go_wp2_with fail
        refine HNM.out.mono ?_
        rintro e w3 ⟨A3, n3, c3, rfl, hm, b3⟩
        go_wp2_with fail
        refine (signed_N nb hm (by rw [hm.len]; omega)).mono ?_
        rintro e w4 ⟨b4, A4, n4, c4, rfl, hz4, b4'⟩
        have b24 := b3.trans (b4'.mono b3.size)
        have e1 := (b24.cell (p := ⟨w.heap.size, 0, none⟩) (show w.heap.size < w'.heap.size by omega)).trans g1
        have e2 := (b24.cell (p := ⟨w.heap.size, 1, none⟩) (show w.heap.size < w'.heap.size by omega)).trans g2
        have e3 := (b24.frozen (p := ⟨w.heap.size, 0, none⟩) (show w.heap.size < w'.heap.size by omega)).trans g3
        have e4 := (b24.frozen (p := ⟨w.heap.size, 1, none⟩) (show w.heap.size < w'.heap.size by omega)).trans g4
        rw [HSG.out] at hz4
        have HZ := Lib.hid (hz4.stored e1 e2)
        have HB4 := b02.trans (b24.mono b02.size)
        clear hz4 b24 b4' b3 hm g1 g2 g3 g4
        go_wp2_with fail
        refine bodyPost_ret (v := .tuple #[.agg #[.bool b4, .slice A4 n4 c4], .int .i64 0, .int .i64 0]) (by simp [results, Tryd.results25, go_sem, e1, e2]) rfl ?_
        rw [HR.out]
        refine ⟨_, _, _, _, rfl, HZ.out, ?_⟩
        exact (HB4.setCell (p := ⟨w.heap.size, 0, none⟩) (Nat.le_refl _) _).setCell (p := ⟨w.heap.size, 1, none⟩) (Nat.le_refl _) _

theorem zread_N (s : ByteArray) (w : World) (hs : s.size ≤ 9223372036854775807) : Calls Tryd.prog 25 #[.string s] w (GotR w (readT s.data.toList)) := by
  rcases Nat.lt_or_ge 400 s.size with h | h
  · rw [readT_large (by rw [str_len]; exact h)]
    exact zread_large s w h hs
  · exact zread_small s w h

end Go.Proofs.YtdaohhbdhmmihaaDoor

/-
  The contracts of package zed in one place.
-/
namespace Go.Proofs.YtdaohhbdhmmihaaDoor
open Go.RowKit
end Go.Proofs.YtdaohhbdhmmihaaDoor

/-
  What the laws of zed lean on: 'alive'.
-/
namespace Go.Proofs.YtdaohhbdhmmihaaDoor
open Go.RowKit

theorem read_12 : readT [45, 49, 50] = (-12, 0, 0) := by rfl
theorem read_05 : readT [45, 48, 53] = (0, 1, 3) := by rfl
theorem zread_12 (w : World) : Calls Tryd.prog 25 #[.string ⟨#[45, 49, 50]⟩] w fun e w' => ∃ b A n c, e = .returned (.tuple #[.agg #[.bool b, .slice A n c], .int .i64 0, .int .i64 0]) ∧ Zn w' b A n c (-12) ∧ Below w.heap.size w w' := by
  have h := zread_N ⟨#[45, 49, 50]⟩ w (by decide)
  rw [show (ByteArray.mk #[45, 49, 50]).data.toList = [45, 49, 50] from rfl, read_12] at h
  exact h
theorem zread_05 (w : World) : Calls Tryd.prog 25 #[.string ⟨#[45, 48, 53]⟩] w fun e w' => ∃ b A n c, e = .returned (.tuple #[.agg #[.bool b, .slice A n c], .int .i64 1, .int .i64 3]) ∧ Zn w' b A n c 0 ∧ Below w.heap.size w w' := by
  have h := zread_N ⟨#[45, 48, 53]⟩ w (by decide)
  rw [show (ByteArray.mk #[45, 48, 53]).data.toList = [45, 48, 53] from rfl, read_05] at h
  exact h
theorem len_z {z : Int} (h : z.natAbs < B64) : (limbs z.natAbs).length ≤ 300 := Nat.le_trans (len_one h) (by omega)

theorem str_of {s : ByteArray} {l : List UInt8} (h : s.data.toList = l) : s = ⟨l.toArray⟩ := by
  cases s with
  | mk d => cases d with
    | mk t => subst h; rfl
theorem Zn.ok {w : World} {b : Bool} {A : Option Addr} {n c : Nat} {z : Int} (h : Zn w b A n c z) : okZ b n (limbs z.natAbs) = true := by
  unfold okZ
  rw [limbs_canon, Bool.true_and]
  by_cases hz : z < 0
  · have h0 : 0 < n := by have := h.1.some_len (by omega); omega
    simp [h0]
  · rw [h.2]; simp [hz]
section
variable {w : World} {b b' : Bool} {A B : Option Addr} {n c m d : Nat} {z z' : Int}
theorem zright_N (ha : Zn w b A n c z) (hx : (limbs z.natAbs).length ≤ 300) : Calls Tryd.prog 9 #[.agg #[.bool b, .slice A n c]] w (GotV w (.bool true)) := zright_any true ha.1 (by rw [ha.1.len]; omega) ha.ok
theorem zmul_12 (ha : Zn w b A n c (-12)) (hb : Zn w b' B m d (-12)) : Calls Tryd.prog 18 #[.agg #[.bool b, .slice A n c], .agg #[.bool b', .slice B m d]] w (GotZ w 144) := zmul_N ha hb (Nat.le_trans (len_z (z := -12) (by unfold B64; omega)) (by omega)) (Nat.le_trans (len_z (z := -12) (by unfold B64; omega)) (by omega))
theorem zprint_144 (ha : Zn w b A n c 144) (ht : Tab w) : Calls Tryd.prog 26 #[.agg #[.bool b, .slice A n c]] w (GotV w (.string ⟨#[49, 52, 52]⟩)) := by
  refine (zprint_N ha (len_z (by unfold B64; omega)) ht).mono ?_
  rintro e w' ⟨s, rfl, hs, hb⟩
  have e1 : textZ 144 = [49, 52, 52] := by
    unfold textZ
    rw [if_neg (by omega), show (144 : Int).natAbs = 144 from rfl, decL_big (by omega), decL_big (by omega), decL_small (by omega)]
    rfl
  rw [str_of (hs.trans e1)]
  exact ⟨rfl, hb⟩
theorem zneg_12 (ha : Zn w b A n c (-12)) : Calls Tryd.prog 20 #[.agg #[.bool b, .slice A n c]] w (GotZ w 12) := zneg_N ha (len_z (by unfold B64; omega))
theorem zcmp_12 (ha : Zn w b A n c (-12)) (hb : Zn w b' B m d 12) : Calls Tryd.prog 22 #[.agg #[.bool b, .slice A n c], .agg #[.bool b', .slice B m d]] w (GotV w (.int .i64 (-1))) := zcmp_N (z := -12) (z' := 12) ha hb (len_z (z := -12) (by unfold B64; omega)) (len_z (z := 12) (by unfold B64; omega))
end

set_option maxRecDepth 100000 in
set_option maxHeartbeats 8000000 in
theorem alive_any (w : World) (ht : Tab w) : Calls Tryd.prog 8 #[] w (GotV w (.bool true)) := by
  go_enter Tryd.func8, Tryd.ntmps8
  go_wp2_with fail
  refine (zread_12 w).mono ?_
  rintro e w1 ⟨b1, A1, n1, k1, rfl, ha, hb1⟩
  go_wp2_with fail
  refine (zread_05 _).mono ?_
  rintro e w2 ⟨b2, A2, n2, k2, rfl, ha2, hb2⟩
  have hbl := below_one w1 (.cells #[.bool b1, .slice A1 n1 k1] 25)
  have ha' := (ha.on hbl).on hb2
  have c1 : w2.cell? ⟨w1.heap.size, 0, none⟩ = some (.bool b1) := (hb2.cell (p := ⟨w1.heap.size, 0, none⟩) (by simp)).trans (by simp [go_sem])
  have c2 : w2.cell? ⟨w1.heap.size, 1, none⟩ = some (.slice A1 n1 k1) := (hb2.cell (p := ⟨w1.heap.size, 1, none⟩) (by simp)).trans (by simp [go_sem])
  have hs2 : w1.heap.size < w2.heap.size := by have := hb2.size; simp at this; omega
  have cc : Below w.heap.size w w2 := (hb1.trans (hbl.mono hb1.size)).trans (hb2.mono (by have := hb1.size; simp; omega))
  go_wp2_with fail
  have hbv := below_one w2 (.cells #[.bool b2, .slice A2 n2 k2] 25)
  have haV := ha'.on hbv
  have d1 := (hbv.cell (p := ⟨w1.heap.size, 0, none⟩) hs2).trans c1
  have d2 := (hbv.cell (p := ⟨w1.heap.size, 1, none⟩) hs2).trans c2
  have ccV := cc.trans (hbv.mono cc.size)
  have hsV := Nat.lt_of_lt_of_le hs2 hbv.size
  clear hbv ha' c1 c2 cc hs2 ha ha2 hbl hb2 hb1
  generalize w2.alloc (.cells #[.bool b2, .slice A2 n2 k2] 25) = V at *
  have i7 : I64 7 := by unfold I64; omega
  have i5 : I64 (-5) := by unfold I64; omega
  have l12 := len_z (z := -12) (by unfold B64; omega)
  have l7 := len_z (z := 7) (by unfold B64; omega)
  have haD : Zn V.drew b1 A1 n1 k1 (-12) := haV.on (below_drewN (Below.refl _ V) 1)
  go_region_held3 (fun w' => w'.cell? ⟨w1.heap.size, 0, none⟩ = some (.bool b1) ∧ w'.cell? ⟨w1.heap.size, 1, none⟩ = some (.slice A1 n1 k1))
    (first | go_keep | exact ⟨(qq.cell (p := ⟨w1.heap.size, 0, none⟩) hsV).trans d1, (qq.cell (p := ⟨w1.heap.size, 1, none⟩) hsV).trans d2⟩)
    (first
      | (go_at_call 12; (with_reducible refine (zof_N _ 7 i7).mono ?_); rintro e v1 ⟨b3, A3, n3, k3, rfl, h7, q1⟩; have qq := below_undrew q1; replace haD := haD.on q1; clear q1)
      | (go_at_call 16; (with_reducible refine (zadd_N haD h7 l12 l7).mono ?_); rintro e v2 ⟨b4, A4, n4, k4, rfl, h5, q2⟩; replace qq := qq.trans (q2.mono qq.size); clear q2)
      | (go_at_call 14; (with_reducible refine (zint_yes (z := -5) h5 i5).mono ?_); rintro e v3 ⟨rfl, q3⟩; replace qq := qq.trans (q3.mono qq.size); clear q3))
  have haW : Zn v3 b1 A1 n1 k1 (-12) := haV.on qq
  have f1 := (qq.cell (p := ⟨w1.heap.size, 0, none⟩) hsV).trans d1
  have f2 := (qq.cell (p := ⟨w1.heap.size, 1, none⟩) hsV).trans d2
  have ccW := ccV.trans (qq.mono ccV.size)
  have hsW := Nat.lt_of_lt_of_le hsV qq.size
  clear qq haV d1 d2 ccV hsV haD h5 h7
  go_wp2_with fail
  have haE : Zn v3.drew b1 A1 n1 k1 (-12) := haW.on (below_drewN (Below.refl _ v3) 1)
  have htE : Tab v3.drew := (ht.on ccW).on (below_drewN (Below.refl _ v3) 1)
  go_region_held3 (fun w' => w'.cell? ⟨w1.heap.size, 0, none⟩ = some (.bool b1) ∧ w'.cell? ⟨w1.heap.size, 1, none⟩ = some (.slice A1 n1 k1))
    (first | go_keep | exact ⟨(qq.cell (p := ⟨w1.heap.size, 0, none⟩) hsW).trans f1, (qq.cell (p := ⟨w1.heap.size, 1, none⟩) hsW).trans f2⟩)
    (first
      | (go_at_call 18; (with_reducible refine (zmul_12 haE haE).mono ?_); rintro e u1 ⟨b5, A5, n5, k5, rfl, hm, q1⟩; have qq := below_undrew q1; replace haE := haE.on q1; replace htE := htE.on q1; clear q1)
      | (go_at_call 26; (with_reducible refine (zprint_144 hm htE).mono ?_); rintro e u2 ⟨rfl, q2⟩; replace qq := qq.trans (q2.mono qq.size); replace haE := haE.on q2; clear q2)
      | (go_at_call 9; (with_reducible refine (zright_N haE l12).mono ?_); rintro e u3 ⟨rfl, q3⟩; replace qq := qq.trans (q3.mono qq.size); replace haE := haE.on q3; clear q3)
      | (go_at_call 20; (with_reducible refine (zneg_12 haE).mono ?_); rintro e u4 ⟨b6, A6, n6, k6, rfl, hng, q4⟩; replace qq := qq.trans (q4.mono qq.size); replace haE := haE.on q4; clear q4)
      | (go_at_call 22; (with_reducible refine (zcmp_12 haE hng).mono ?_); rintro e u5 ⟨rfl, q5⟩; replace qq := qq.trans (q5.mono qq.size); clear q5))
  go_wp2_with fail
  go_ret
  exact ⟨rfl, ccW.trans (qq.mono ccW.size)⟩
end Go.Proofs.YtdaohhbdhmmihaaDoor

/-
  Small helps for the laws of zed.
-/
namespace Go.Proofs.YtdaohhbdhmmihaaDoor
open Go.RowKit
set_option linter.unusedVariables false

theorem okZ_zn {w : World} {b : Bool} {A : Option Addr} {n c : Nat} {l : List Nat} (h : Lim w.heap.size w A n c l) (hk : okZ b n l = true) : Zn w b A n c (sgn b (val l)) := by
  unfold okZ at hk
  rw [Bool.and_eq_true] at hk
  have hN := h.num hk.1
  refine ⟨by rw [sgn_abs]; exact hN, ?_⟩
  unfold sgn
  cases b
  · simp
  · have h0 : 0 < n := by simpa using hk.2
    have hl := hN.len
    have hv : val l ≠ 0 := fun e => by rw [e, limbs_zero] at hl; simp at hl; omega
    simp; omega
theorem str_size (l : List UInt8) : (ByteArray.mk l.toArray).size = l.length := by simp [ByteArray.size]
theorem len_z0 : (limbs (0 : Int).natAbs).length ≤ 1000000 := by rw [show (0 : Int).natAbs = 0 from rfl, limbs_zero]; simp
theorem decL_lt (x : Nat) : x < 10 ^ (decL x).length := by
  have h := numT_lt (decL x) (decL_figs x)
  rwa [numT_decL] at h
theorem textZ_limbs {z : Int} {k : Nat} (h : (textZ z).length ≤ 16 * k) : (limbs z.natAbs).length ≤ k := by
  have h1 : (decL z.natAbs).length ≤ 16 * k := by
    unfold textZ at h
    split at h
    · simp at h; omega
    · exact h
  refine limbs_length_le ?_
  have h2 := decL_lt z.natAbs
  have h3 : 10 ^ (decL z.natAbs).length ≤ 10 ^ (16 * k) := Nat.pow_le_pow_right (by omega) h1
  have h4 : 10 ^ (16 * k) ≤ 16 ^ (16 * k) := Nat.pow_le_pow_left (by omega) _
  have h5 : 16 ^ (16 * k) = B64 ^ k := by
    rw [Nat.pow_mul]
    congr 1
  omega
theorem GotR_of {w w' : World} {r r' : Int × Nat × Int} {e : Ending} (h : GotR w r e w') (hr : r = r') : GotR w r' e w' := by rw [← hr]; exact h

/-- A cell that is there stays behind a new block. -/
theorem keep_alloc {w : World} {o : Obj} {p : Addr} {v : Value} (h : w.cell? p = some v) : (w.alloc o).cell? p = some v := by
  have hlt : p.block < w.heap.size := by
    rcases Nat.lt_or_ge p.block w.heap.size with h1 | h1
    · exact h1
    · simp [World.cell?, Array.getElem?_eq_none h1] at h
  rw [World.cell?_of_block (w := w) (Below.heap_alloc w o p.block hlt)]
  exact h

theorem zlen_add {z z' : Int} {k : Nat} (h : (limbs z.natAbs).length ≤ k) (h' : (limbs z'.natAbs).length ≤ k) : (limbs (z + z').natAbs).length ≤ k + 1 :=
  Nat.le_trans (limbs_length_mono (Int.natAbs_add_le z z')) (limbs_length_add h h')
theorem zlen_mul {z z' : Int} {k m : Nat} (h : (limbs z.natAbs).length ≤ k) (h' : (limbs z'.natAbs).length ≤ m) : (limbs (z * z').natAbs).length ≤ k + m := by
  rw [Int.natAbs_mul]
  exact limbs_length_mul h h'
theorem zlen_neg {z : Int} {k : Nat} (h : (limbs z.natAbs).length ≤ k) : (limbs (-z).natAbs).length ≤ k := by
  rw [Int.natAbs_neg]
  exact h

theorem cell_lt {w : World} {p : Addr} {v : Value} (h : w.cell? p = some v) : p.block < w.heap.size := by
  rcases Nat.lt_or_ge p.block w.heap.size with h1 | h1
  · exact h1
  · simp [World.cell?, Array.getElem?_eq_none h1] at h
/-- A struct of two cells in memory. -/
def Box (W : World) (g : Nat) (b : Bool) (A : Option Addr) (n k : Nat) : Prop := W.cell? ⟨g, 0, none⟩ = some (.bool b) ∧ W.cell? ⟨g, 1, none⟩ = some (.slice A n k)
theorem Box.new (W : World) (b : Bool) (A : Option Addr) (n k : Nat) (T : TypeId) : Box (W.alloc (.cells #[.bool b, .slice A n k] T)) W.heap.size b A n k := ⟨by simp [go_sem], by simp [go_sem]⟩
theorem Box.alloc {W : World} {g : Nat} {b : Bool} {A : Option Addr} {n k : Nat} (h : Box W g b A n k) (o : Obj) : Box (W.alloc o) g b A n k := ⟨keep_alloc h.1, keep_alloc h.2⟩
theorem Box.other {W : World} {g g' : Nat} {b : Bool} {A : Option Addr} {n k : Nat} {u v : Value} (h : Box W g b A n k) (hne : g ≠ g') : Box ((W.setCell ⟨g', 0, none⟩ u).setCell ⟨g', 1, none⟩ v) g b A n k := ⟨(cell_store hne).trans h.1, (cell_store hne).trans h.2⟩
theorem Box.put {W : World} {g : Nat} {b0 : Bool} {A0 : Option Addr} {n0 k0 : Nat} (h : Box W g b0 A0 n0 k0) (b : Bool) (A : Option Addr) (n k : Nat) : Box ((W.setCell ⟨g, 0, none⟩ (.bool b)).setCell ⟨g, 1, none⟩ (.slice A n k)) g b A n k := by
  have h1 : (⟨g, 0, none⟩ : Addr) ≠ ⟨g, 1, none⟩ := fun e => by injection e with _ e2; omega
  have h2 : (⟨g, 1, none⟩ : Addr) ≠ ⟨g, 0, none⟩ := fun e => by injection e with _ e2; omega
  refine ⟨?_, ?_⟩
  · rw [World.cell?_setCell_other (h := h2)]
    exact World.cell?_setCell_same _ _ _ h.1
  · exact World.cell?_setCell_same _ _ _ ((World.cell?_setCell_other W _ _ _ h1).trans h.2)
theorem Zn.put {W : World} {g : Nat} {b b0 : Bool} {A A0 : Option Addr} {n c n0 c0 : Nat} {z : Int} (h : Zn W b A n c z) (hb : Box W g b0 A0 n0 c0) (u v : Value) : Zn ((W.setCell ⟨g, 0, none⟩ u).setCell ⟨g, 1, none⟩ v) b A n c z := by
  refine ⟨(h.1.set_other hb.1 (fun _ _ e => by cases e)).set_other (u := .slice A0 n0 c0) ?_ (fun _ _ e => by cases e), h.2⟩
  have hne : (⟨g, 0, none⟩ : Addr) ≠ ⟨g, 1, none⟩ := fun e => by injection e with _ e2; omega
  rw [World.cell?_setCell_other (h := hne)]
  exact hb.2
theorem Zn.alloc {W : World} {b : Bool} {A : Option Addr} {n c : Nat} {z : Int} (h : Zn W b A n c z) (o : Obj) : Zn (W.alloc o) b A n c z := h.on (below_one _ _)
theorem below_put {B g : Nat} {V W : World} (h : Below B V W) (hg : B ≤ g) (u v : Value) : Below B V ((W.setCell ⟨g, 0, none⟩ u).setCell ⟨g, 1, none⟩ v) := (h.setCell (p := ⟨g, 0, none⟩) hg u).setCell (p := ⟨g, 1, none⟩) hg v

/-- Behind 'x, y := f(..), g(..)': two boxes, and what they hold. -/
def Both (V U : World) (gx gy : Nat) (bx : Bool) (Ax : Option Addr) (nx kx : Nat) (bY : Bool) (Ay : Option Addr) (ny ky : Nat) (zx zy : Int) : Prop :=
  Box U gx bx Ax nx kx ∧ Box U gy bY Ay ny ky ∧ Zn U bx Ax nx kx zx ∧ Zn U bY Ay ny ky zy ∧ Below V.heap.size V U
section
variable {V wz : World} {gx gy : Nat} {bx bY : Bool} {Ax Ay : Option Addr} {nx kx ny ky : Nat} {zx zy : Int}
theorem pairA (hx : Zn wz bx Ax nx kx zx) (hy : Zn wz bY Ay ny ky zy) (qq : Below V.heap.size V wz) (T : TypeId) : Both V ((wz.alloc (.cells #[.bool bx, .slice Ax nx kx] T)).alloc (.cells #[.bool bY, .slice Ay ny ky] T)) wz.heap.size (wz.heap.size + 1) bx Ax nx kx bY Ay ny ky zx zy :=
  ⟨(Box.new wz bx Ax nx kx T).alloc _, by have := Box.new (wz.alloc (.cells #[.bool bx, .slice Ax nx kx] T)) bY Ay ny ky T; simpa using this, (hx.alloc _).alloc _, (hy.alloc _).alloc _, (qq.alloc qq.size _).alloc (by have := qq.size; simp; omega) _⟩
theorem pairA' (hx : Zn wz bx Ax nx kx zx) (hy : Zn wz bY Ay ny ky zy) (qq : Below V.heap.size V wz) (T : TypeId) : Both V ((wz.alloc (.cells #[.bool bY, .slice Ay ny ky] T)).alloc (.cells #[.bool bx, .slice Ax nx kx] T)) (wz.heap.size + 1) wz.heap.size bx Ax nx kx bY Ay ny ky zx zy :=
  ⟨by have := Box.new (wz.alloc (.cells #[.bool bY, .slice Ay ny ky] T)) bx Ax nx kx T; simpa using this, (Box.new wz bY Ay ny ky T).alloc _, (hx.alloc _).alloc _, (hy.alloc _).alloc _, (qq.alloc qq.size _).alloc (by have := qq.size; simp; omega) _⟩
theorem pairB (c0 : wz.cell? ⟨gx, 0, none⟩ = some (.bool false)) (c1 : wz.cell? ⟨gx, 1, none⟩ = some (.slice none 0 0)) (hx : Zn wz bx Ax nx kx zx) (hy : Zn wz bY Ay ny ky zy) (qq : Below V.heap.size V wz) (lx : V.heap.size ≤ gx) (T : TypeId) :
    Both V (((wz.setCell ⟨gx, 0, none⟩ (.bool bx)).setCell ⟨gx, 1, none⟩ (.slice Ax nx kx)).alloc (.cells #[.bool bY, .slice Ay ny ky] T)) gx wz.heap.size bx Ax nx kx bY Ay ny ky zx zy :=
  have B : Box wz gx false none 0 0 := ⟨c0, c1⟩
  ⟨(B.put bx Ax nx kx).alloc _, by have := Box.new ((wz.setCell ⟨gx, 0, none⟩ (.bool bx)).setCell ⟨gx, 1, none⟩ (.slice Ax nx kx)) bY Ay ny ky T; simpa using this, (hx.put B _ _).alloc _, (hy.put B _ _).alloc _, (below_put qq lx _ _).alloc (by have := qq.size; simp; omega) _⟩
theorem pairB' (c0 : wz.cell? ⟨gy, 0, none⟩ = some (.bool false)) (c1 : wz.cell? ⟨gy, 1, none⟩ = some (.slice none 0 0)) (hx : Zn wz bx Ax nx kx zx) (hy : Zn wz bY Ay ny ky zy) (qq : Below V.heap.size V wz) (ly : V.heap.size ≤ gy) (T : TypeId) :
    Both V (((wz.setCell ⟨gy, 0, none⟩ (.bool bY)).setCell ⟨gy, 1, none⟩ (.slice Ay ny ky)).alloc (.cells #[.bool bx, .slice Ax nx kx] T)) wz.heap.size gy bx Ax nx kx bY Ay ny ky zx zy :=
  have B : Box wz gy false none 0 0 := ⟨c0, c1⟩
  ⟨by have := Box.new ((wz.setCell ⟨gy, 0, none⟩ (.bool bY)).setCell ⟨gy, 1, none⟩ (.slice Ay ny ky)) bx Ax nx kx T; simpa using this, (B.put bY Ay ny ky).alloc _, (hx.put B _ _).alloc _, (hy.put B _ _).alloc _, (below_put qq ly _ _).alloc (by have := qq.size; simp; omega) _⟩
theorem pairC (c0 : wz.cell? ⟨gx, 0, none⟩ = some (.bool false)) (c1 : wz.cell? ⟨gx, 1, none⟩ = some (.slice none 0 0)) (d0 : wz.cell? ⟨gy, 0, none⟩ = some (.bool false)) (d1 : wz.cell? ⟨gy, 1, none⟩ = some (.slice none 0 0)) (hx : Zn wz bx Ax nx kx zx) (hy : Zn wz bY Ay ny ky zy) (qq : Below V.heap.size V wz) (lx : V.heap.size ≤ gx) (ly : V.heap.size ≤ gy) (hne : gx ≠ gy) :
    Both V ((((wz.setCell ⟨gx, 0, none⟩ (.bool bx)).setCell ⟨gx, 1, none⟩ (.slice Ax nx kx)).setCell ⟨gy, 0, none⟩ (.bool bY)).setCell ⟨gy, 1, none⟩ (.slice Ay ny ky)) gx gy bx Ax nx kx bY Ay ny ky zx zy :=
  have B : Box wz gx false none 0 0 := ⟨c0, c1⟩
  have D : Box ((wz.setCell ⟨gx, 0, none⟩ (.bool bx)).setCell ⟨gx, 1, none⟩ (.slice Ax nx kx)) gy false none 0 0 := Box.other ⟨d0, d1⟩ (Ne.symm hne)
  ⟨(B.put bx Ax nx kx).other hne, D.put bY Ay ny ky, (hx.put B _ _).put D _ _, (hy.put B _ _).put D _ _, below_put (below_put qq lx _ _) ly _ _⟩
end

theorem rzright_N {w : World} {b : Bool} {A : Option Addr} {n c : Nat} {z : Int} (ha : Zn w b A n c z) (hx : (limbs z.natAbs).length ≤ 300) : Calls Tryd.prog 10 #[.agg #[.bool b, .slice A n c]] w (GotV w (.bool true)) := rzright_any true ha.1 (by rw [ha.1.len]; omega) ha.ok

/-- An integer that is right and of few limbs. -/
theorem few_zn {w : World} {b : Bool} {A : Option Addr} {n c : Nat} {l : List Nat} (m : Nat) (h : Lim w.heap.size w A n c l) (hr : (decide ((n : Int) ≤ (m : Int)) && okZ b n l) = true) : Zn w b A n c (sgn b (val l)) ∧ (limbs (sgn b (val l)).natAbs).length ≤ m := by
  rw [Bool.and_eq_true] at hr
  have h0 := okZ_zn h hr.2
  refine ⟨h0, ?_⟩
  rw [← h0.1.len]
  have := of_decide_eq_true hr.1
  omega

theorem zsame_self {w : World} {b b' : Bool} {A B : Option Addr} {n c m d : Nat} {z : Int} (ha : Zn w b A n c z) (hb : Zn w b' B m d z) (hx : (limbs z.natAbs).length ≤ 300) : Calls Tryd.prog 11 #[.agg #[.bool b, .slice A n c], .agg #[.bool b', .slice B m d]] w (GotV w (.bool true)) := zsame_N true ha hb (by omega) (by omega) (decide_eq_true rfl)

theorem i64_wf {n : Int} (h : (Lit.int .i64 n).wf = true) : I64 n := bounds_i64 h
theorem i32_wf {n : Int} (h : (Lit.int .i32 n).wf = true) : -2147483648 ≤ n ∧ n ≤ 2147483647 := bounds_i32 h

end Go.Proofs.YtdaohhbdhmmihaaDoor
