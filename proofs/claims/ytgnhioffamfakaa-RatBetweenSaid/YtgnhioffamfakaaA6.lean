/-
  Several texts in one: ZA, ZB, YB, MathF, MathJ, E5.
-/
import Derived.Test.YtgnhioffamfakaaA5
import Derived.Test.YtgnhioffamfakaaA4
import Derived.OpenShut
import Derived.Deep.DeepCutAuto
import Derived.Test.YtgnhioffamfakaaA3
import Derived.Deep.RegionHeld3

/-
  The contracts of zed: signed, Right, Of, Int, Neg, Cmp.
-/
namespace Go.Proofs.Ytgnhioffamfakaa
open Go.RowKit
set_option linter.unusedVariables false

set_option maxHeartbeats 1000000 in
theorem signed_N {w : World} {A : Option Addr} {n c x : Nat} (b : Bool) (ha : Num w A n c x) (hn : n ≤ 1000000) : Calls Try.prog 78 #[.bool b, .slice A n c] w (GotZ w (sgn b x)) := by
  have hl := ha.len
  by_cases h0 : n = 0
  · subst h0
    have hx : x = 0 := by
      have h2 := val_limbs x
      rw [List.eq_nil_of_length_eq_zero hl.symm] at h2
      exact h2.symm
    subst hx
    have hz : Zn w false A 0 c (sgn b 0) := by
      refine ⟨by rw [sgn_abs]; exact ha, ?_⟩
      unfold sgn; split <;> rfl
    clear hl
    cases b
    all_goals
      go_enter Try.func78, Try.ntmps78
      go_wp2_with fail
      refine bodyPost_ret (v := .agg #[.bool false, .slice A 0 c]) (by simp [results, Try.results78, go_sem]) rfl ⟨_, _, _, _, rfl, hz.on ?_, ?_⟩
      all_goals exact (Below.refl _ w).alloc (Nat.le_refl _) _
  · have hx : x ≠ 0 := fun h => by rw [h, limbs_zero] at hl; simp at hl; omega
    have hn0 : (0 : Int) < (n : Int) := by omega
    have hz : Zn w b A n c (sgn b x) := by
      refine ⟨by rw [sgn_abs]; exact ha, ?_⟩
      unfold sgn
      cases b
      · simp
      · simp; omega
    clear hl
    cases b
    all_goals
      go_enter Try.func78, Try.ntmps78
      go_wp2_with fail
    · refine bodyPost_ret (v := .agg #[.bool false, .slice A n c]) (by simp [results, Try.results78, go_sem]) rfl ⟨_, _, _, _, rfl, hz.on ?_, ?_⟩
      all_goals exact (Below.refl _ w).alloc (Nat.le_refl _) _
    · refine bodyPost_ret (v := .agg #[.bool true, .slice A n c]) (by simp [results, Try.results78, go_sem]; omega) rfl ⟨_, _, _, _, rfl, hz.on ?_, ?_⟩
      all_goals exact (Below.refl _ w).alloc (Nat.le_refl _) _

set_option maxHeartbeats 1000000 in
theorem zright_any {w : World} {b : Bool} {A : Option Addr} {n c : Nat} {l : List Nat} (r : Bool) (h : Lim w.heap.size w A n c l) (hn : n ≤ 9223372036854775807) (hr : okZ b n l = r) :
    Calls Try.prog 42 #[.agg #[.bool b, .slice A n c]] w (GotV w (.bool r)) := by
  have hB := below_one w (.cells #[.bool b, .slice A n c] 25)
  have h' := h.on hB
  cases hc : canon l with
  | false =>
    have hr2 : r = false := by rw [← hr]; simp [okZ, hc]
    subst hr2
    go_enter Try.func42, Try.ntmps42
    go_wp2_with (go_at_call 43; refine (right_any _ _ _ _ _ false _ h' hn hc).mono ?_; rintro e w' ⟨rfl, rfl⟩)
    go_ret
    exact ⟨rfl, hB⟩
  | true =>
    cases b with
    | false =>
      have hr2 : r = true := by rw [← hr]; simp [okZ, hc]
      subst hr2
      go_enter Try.func42, Try.ntmps42
      go_wp2_with (go_at_call 43; refine (right_any _ _ _ _ _ true _ h' hn hc).mono ?_; rintro e w' ⟨rfl, rfl⟩)
      go_ret
      exact ⟨rfl, hB⟩
    | true =>
      by_cases h0 : n = 0
      · have hr2 : r = false := by rw [← hr]; simp [okZ, hc, h0]
        subst hr2
        subst h0
        go_enter Try.func42, Try.ntmps42
        go_wp2_with (go_at_call 43; refine (right_any _ _ _ _ _ true _ h' hn hc).mono ?_; rintro e w' ⟨rfl, rfl⟩)
        go_ret
        exact ⟨rfl, hB⟩
      · have hr2 : r = true := by rw [← hr]; simp [okZ, hc]; omega
        subst hr2
        have hi : ((n : Int) == 0) = false := by simp; omega
        go_enter Try.func42, Try.ntmps42
        go_wp2_with (go_at_call 43; refine (right_any _ _ _ _ _ true _ h' hn hc).mono ?_; rintro e w' ⟨rfl, rfl⟩)
        go_ret
        exact ⟨rfl, hB⟩

set_option maxRecDepth 100000 in
set_option maxHeartbeats 2000000 in
theorem zof_N (w : World) (z : Int) (h : I64 z) : Calls Try.prog 49 #[.int .i64 z] w (GotZ w z) := by
  have hx := h.abs
  obtain ⟨x, hxe⟩ : ∃ x, z.natAbs = x := ⟨_, rfl⟩
  rw [hxe] at hx
  obtain ⟨W, hW⟩ : ∃ W, w.alloc (.cells #[.bool false, .slice none 0 0] 25) = W := ⟨_, rfl⟩
  have hB : Below w.heap.size w W := by rw [← hW]; exact below_one w _
  have hsz : W.heap.size = w.heap.size + 1 := by rw [← hW]; simp
  have c1 : W.cell? ⟨w.heap.size, 0, none⟩ = some (.bool false) := by rw [← hW]; simp [go_sem]
  have c2 : W.cell? ⟨w.heap.size, 1, none⟩ = some (.slice none 0 0) := by rw [← hW]; simp [go_sem]
  have c3 : W.frozen? ⟨w.heap.size, 0, none⟩ = false := by rw [← hW]; simp [go_sem]
  have c4 : W.frozen? ⟨w.heap.size, 1, none⟩ = false := by rw [← hW]; simp [go_sem]
  have HSZ := Lib.hid hsz
  clear hsz
  have hl := len_one hx
  by_cases hz : z < 0
  · have hs : sgn true x = z := by rw [← hxe]; exact sgn_of (by simp [hz])
    have e1 : IntKind.u64.wrap (-IntKind.u64.wrap z) = (x : Int) := by
      unfold I64 at h; rw [IntKind.wrap_u64, IntKind.wrap_u64]; omega
    have HS := Lib.hid hs
    clear hs hxe
    go_enter Try.func49, Try.ntmps49
    go_wp2_with fail
    clear hW e1
    refine (of_N W x hx).mono ?_
    rintro e w1 ⟨A1, n1, k1, rfl, hm, b1⟩
    go_wp2_with fail
    refine (signed_N _ hm (by rw [hm.len]; omega)).mono ?_
    rintro e w2 ⟨b2, A2, n2, k2, rfl, hz2, b2'⟩
    have b12 := b1.trans (b2'.mono b1.size)
    have hsz := HSZ.out
    have g1 := (b12.cell (p := ⟨w.heap.size, 0, none⟩) (by simp; omega)).trans c1
    have g2 := (b12.cell (p := ⟨w.heap.size, 1, none⟩) (by simp; omega)).trans c2
    have g3 := (b12.frozen (p := ⟨w.heap.size, 0, none⟩) (by simp; omega)).trans c3
    have g4 := (b12.frozen (p := ⟨w.heap.size, 1, none⟩) (by simp; omega)).trans c4
    rw [HS.out] at hz2
    have HZ := Lib.hid (hz2.stored g1 g2)
    have HB := hB.trans (b12.mono hB.size)
    clear hsz b12 b1 b2' hz2 hm
    go_wp2_with fail
    refine bodyPost_ret (v := .agg #[.bool b2, .slice A2 n2 k2]) (by simp [results, Try.results49, go_sem, g1, g2]) rfl ⟨_, _, _, _, rfl, HZ.out, ?_⟩
    exact (HB.setCell (p := ⟨w.heap.size, 0, none⟩) (Nat.le_refl _) _).setCell (p := ⟨w.heap.size, 1, none⟩) (Nat.le_refl _) _
  · have hs : sgn false x = z := by rw [← hxe]; exact sgn_of (by simp [hz])
    have e1 : IntKind.u64.wrap z = (x : Int) := by
      unfold I64 at h; rw [IntKind.wrap_u64]; omega
    have HS := Lib.hid hs
    clear hs hxe
    go_enter Try.func49, Try.ntmps49
    go_wp2_with fail
    clear hW e1
    refine (of_N W x hx).mono ?_
    rintro e w1 ⟨A1, n1, k1, rfl, hm, b1⟩
    go_wp2_with fail
    refine (signed_N _ hm (by rw [hm.len]; omega)).mono ?_
    rintro e w2 ⟨b2, A2, n2, k2, rfl, hz2, b2'⟩
    have b12 := b1.trans (b2'.mono b1.size)
    have hsz := HSZ.out
    have g1 := (b12.cell (p := ⟨w.heap.size, 0, none⟩) (by simp; omega)).trans c1
    have g2 := (b12.cell (p := ⟨w.heap.size, 1, none⟩) (by simp; omega)).trans c2
    have g3 := (b12.frozen (p := ⟨w.heap.size, 0, none⟩) (by simp; omega)).trans c3
    have g4 := (b12.frozen (p := ⟨w.heap.size, 1, none⟩) (by simp; omega)).trans c4
    rw [HS.out] at hz2
    have HZ := Lib.hid (hz2.stored g1 g2)
    have HB := hB.trans (b12.mono hB.size)
    clear hsz b12 b1 b2' hz2 hm
    go_wp2_with fail
    refine bodyPost_ret (v := .agg #[.bool b2, .slice A2 n2 k2]) (by simp [results, Try.results49, go_sem, g1, g2]) rfl ⟨_, _, _, _, rfl, HZ.out, ?_⟩
    exact (HB.setCell (p := ⟨w.heap.size, 0, none⟩) (Nat.le_refl _) _).setCell (p := ⟨w.heap.size, 1, none⟩) (Nat.le_refl _) _

set_option maxHeartbeats 1000000 in
theorem zneg_N {w : World} {b : Bool} {A : Option Addr} {n c : Nat} {z : Int} (ha : Zn w b A n c z) (hx : (limbs z.natAbs).length ≤ 300) :
    Calls Try.prog 81 #[.agg #[.bool b, .slice A n c]] w (GotZ w (-z)) := by
  have hs := sgn_neg ha.2
  have hn : n ≤ 1000000 := by rw [ha.1.len]; omega
  obtain ⟨W, hW⟩ : ∃ W, (w.alloc (.cells #[.bool b, .slice A n c] 25)).alloc (.cells #[.bool false, .slice none 0 0] 25) = W := ⟨_, rfl⟩
  have hB : Below w.heap.size w W := by rw [← hW]; exact below_two w _ _
  have hsz : W.heap.size = w.heap.size + 2 := by rw [← hW]; simp
  have c1 : W.cell? ⟨w.heap.size, 0, none⟩ = some (.bool b) := by rw [← hW]; simp [go_sem]
  have c2 : W.cell? ⟨w.heap.size, 1, none⟩ = some (.slice A n c) := by rw [← hW]; simp [go_sem]
  have c5 : W.cell? ⟨w.heap.size + 1, 0, none⟩ = some (.bool false) := by rw [← hW]; simp [go_sem]
  have c6 : W.cell? ⟨w.heap.size + 1, 1, none⟩ = some (.slice none 0 0) := by rw [← hW]; simp [go_sem]
  have c7 : W.frozen? ⟨w.heap.size + 1, 0, none⟩ = false := by rw [← hW]; simp [go_sem]
  have c8 : W.frozen? ⟨w.heap.size + 1, 1, none⟩ = false := by rw [← hW]; simp [go_sem]
  have hBd : Below w.heap.size w W.drew := below_drewN hB 1
  have ha' : Num W.drew A n c z.natAbs := ha.1.on hBd
  have HS := Lib.hid hs
  have hcall : Calls Try.prog 77 #[.slice A n c] W.drew fun e w' => ∃ A1 n1 c1, e = .returned (.slice A1 n1 c1) ∧ Num w' A1 n1 c1 z.natAbs ∧ Below W.heap.size W w' := (clone_F ha' (by omega)).mono fun _ _ ⟨A1, n1, c1, he, hm, hb, _⟩ => ⟨A1, n1, c1, he, hm, below_undrew hb⟩
  have HC := Lib.hid hcall
  clear hs hcall
  go_enter Try.func81, Try.ntmps81
  go_wp2_with fail
  clear hW
  go_region_held3 (fun w' => w'.cell? ⟨w.heap.size, 0, none⟩ = some (.bool b) ∧ w'.cell? ⟨w.heap.size, 1, none⟩ = some (.slice A n c))
    (first | exact ⟨(cell_store (by omega)).trans ((hb1.cell (p := ⟨w.heap.size, 0, none⟩) (show w.heap.size < W.heap.size by omega)).trans c1), (cell_store (by omega)).trans ((hb1.cell (p := ⟨w.heap.size, 1, none⟩) (show w.heap.size < W.heap.size by omega)).trans c2)⟩ | go_keep | exact ⟨(hb1.cell (p := ⟨w.heap.size, 0, none⟩) (show w.heap.size < W.heap.size by omega)).trans c1, (hb1.cell (p := ⟨w.heap.size, 1, none⟩) (show w.heap.size < W.heap.size by omega)).trans c2⟩)
    (first
      | (go_at_call 77; (with_reducible refine HC.out.mono ?_); rintro e w1 ⟨A1, n1, k1, rfl, hm, hb1⟩)
      | (go_at_call 78; (with_reducible refine (signed_N _ hm (by rw [hm.len]; omega)).mono ?_); rintro e w2 ⟨b2, A2, n2, k2, rfl, hz2, hb2⟩; replace hb1 := hb1.trans (hb2.mono hb1.size); have e5 := (hb1.cell (p := ⟨w.heap.size + 1, 0, none⟩) (show w.heap.size + 1 < W.heap.size by omega)).trans c5; have e6 := (hb1.cell (p := ⟨w.heap.size + 1, 1, none⟩) (show w.heap.size + 1 < W.heap.size by omega)).trans c6; have e7 := (hb1.frozen (p := ⟨w.heap.size + 1, 0, none⟩) (show w.heap.size + 1 < W.heap.size by omega)).trans c7; have e8 := (hb1.frozen (p := ⟨w.heap.size + 1, 1, none⟩) (show w.heap.size + 1 < W.heap.size by omega)).trans c8))
  rw [HS.out] at hz2
  have HZ := Lib.hid (hz2.stored e5 e6)
  have HB : Below w.heap.size w w2 := hB.trans (hb1.mono hB.size)
  go_wp2_with fail
  refine bodyPost_ret (v := .agg #[.bool b2, .slice A2 n2 k2]) (by simp [results, Try.results81, go_sem, e5, e6]) rfl ⟨_, _, _, _, rfl, HZ.out, ?_⟩
  exact (HB.setCell (p := ⟨w.heap.size + 1, 0, none⟩) (show w.heap.size ≤ w.heap.size + 1 by omega) _).setCell (p := ⟨w.heap.size + 1, 1, none⟩) (show w.heap.size ≤ w.heap.size + 1 by omega) _

set_option maxHeartbeats 2000000 in
theorem zcmp_N {w : World} {b b' : Bool} {A B : Option Addr} {n c m d : Nat} {z z' : Int} (ha : Zn w b A n c z) (hb : Zn w b' B m d z') (hx : (limbs z.natAbs).length ≤ 300) (hy : (limbs z'.natAbs).length ≤ 300) :
    Calls Try.prog 59 #[.agg #[.bool b, .slice A n c], .agg #[.bool b', .slice B m d]] w (GotV w (.int .i64 (cmpZ z z'))) := by
  have hB := below_two w (.cells #[.bool b, .slice A n c] 25) (.cells #[.bool b', .slice B m d] 25)
  have ha' := ha.1.on hB
  have hb' := hb.1.on hB
  have s1 := ha.2
  have s2 := hb.2
  cases b with
  | true =>
    have hz : z < 0 := by simpa using s1.symm
    cases b' with
    | true =>
      have hz' : z' < 0 := by simpa using s2.symm
      have he : cmpZ z z' = cmpN z'.natAbs z.natAbs := by
        have h1 := cmpZ_neg hz hz'
        rw [h1]
        unfold cmpN
        by_cases h2 : z.natAbs < z'.natAbs
        · rw [if_pos h2, if_neg (by omega), if_pos (by omega)]; rfl
        · rw [if_neg h2]
          by_cases h3 : z'.natAbs < z.natAbs
          · rw [if_pos h3, if_pos (by omega)]
          · rw [if_neg h3, if_neg (by omega), if_neg (by omega)]; rfl
      have HE := Lib.hid he
      clear s1 s2 hz hz' ha hb he
      go_enter Try.func59, Try.ntmps59
      go_wp2_with fail
      refine (cmp_N hb' ha' (by omega) (by omega)).mono ?_
      rintro e w1 ⟨rfl, b1⟩
      go_wp2_with fail
      go_ret
      refine ⟨ret_i64 HE.out.symm, hB.trans (b1.mono hB.size)⟩
    | false =>
      have hz' : ¬ z' < 0 := by simpa using s2.symm
      have HE := Lib.hid (cmpZ_np hz hz')
      clear s1 s2 hz hz' ha hb
      go_enter Try.func59, Try.ntmps59
      go_wp2_with fail
      go_ret
      rw [HE.out]
      exact ⟨rfl, hB⟩
  | false =>
    have hz : ¬ z < 0 := by simpa using s1.symm
    cases b' with
    | true =>
      have hz' : z' < 0 := by simpa using s2.symm
      have HE := Lib.hid (cmpZ_pn hz hz')
      clear s1 s2 hz hz' ha hb
      go_enter Try.func59, Try.ntmps59
      go_wp2_with fail
      go_ret
      rw [HE.out]
      exact ⟨rfl, hB⟩
    | false =>
      have hz' : ¬ z' < 0 := by simpa using s2.symm
      have HE := Lib.hid (cmpZ_pos hz hz')
      clear s1 s2 hz hz' ha hb
      go_enter Try.func59, Try.ntmps59
      go_wp2_with fail
      refine (cmp_N ha' hb' (by omega) (by omega)).mono ?_
      rintro e w1 ⟨rfl, b1⟩
      go_wp2_with fail
      go_ret
      refine ⟨ret_i64 HE.out.symm, hB.trans (b1.mono hB.size)⟩

end Go.Proofs.Ytgnhioffamfakaa

/-
  The contracts of zed: Mul, Add.
-/
namespace Go.Proofs.Ytgnhioffamfakaa
open Go.RowKit
set_option linter.unusedVariables false

set_option maxRecDepth 100000 in
set_option maxHeartbeats 2000000 in
theorem zmul_N {w : World} {b b' : Bool} {A B : Option Addr} {n c m d : Nat} {z z' : Int} (ha : Zn w b A n c z) (hb : Zn w b' B m d z') (hx : (limbs z.natAbs).length ≤ 1000) (hy : (limbs z'.natAbs).length ≤ 1000) :
    Calls Try.prog 57 #[.agg #[.bool b, .slice A n c], .agg #[.bool b', .slice B m d]] w (GotZ w (z * z')) := by
  obtain ⟨W, hW⟩ : ∃ W, ((w.alloc (.cells #[.bool b, .slice A n c] 25)).alloc (.cells #[.bool b', .slice B m d] 25)).alloc (.cells #[.bool false, .slice none 0 0] 25) = W := ⟨_, rfl⟩
  have hB : Below w.heap.size w W := by rw [← hW]; exact (below_two w (.cells #[.bool b, .slice A n c] 25) (.cells #[.bool b', .slice B m d] 25)).alloc (by simp; omega) (.cells #[.bool false, .slice none 0 0] 25)
  have hsz : W.heap.size = w.heap.size + 3 := by rw [← hW]; simp
  have hBd : Below w.heap.size w W.drew := below_drewN hB 1
  have ha' : Num W.drew A n c z.natAbs := ha.1.on hBd
  have hb' : Num W.drew B m d z'.natAbs := hb.1.on hBd
  have c1 : W.cell? ⟨w.heap.size, 0, none⟩ = some (.bool b) := by rw [← hW]; simp [go_sem]
  have c2 : W.cell? ⟨w.heap.size, 1, none⟩ = some (.slice A n c) := by rw [← hW]; simp [go_sem]
  have c3 : W.cell? ⟨w.heap.size + 1, 0, none⟩ = some (.bool b') := by rw [← hW]; simp [go_sem]
  have c4 : W.cell? ⟨w.heap.size + 1, 1, none⟩ = some (.slice B m d) := by rw [← hW]; simp [go_sem]
  have c5 : W.cell? ⟨w.heap.size + 1 + 1, 0, none⟩ = some (.bool false) := by rw [← hW]; simp [go_sem]
  have c6 : W.cell? ⟨w.heap.size + 1 + 1, 1, none⟩ = some (.slice none 0 0) := by rw [← hW]; simp [go_sem]
  have c7 : W.frozen? ⟨w.heap.size + 1 + 1, 0, none⟩ = false := by rw [← hW]; simp [go_sem]
  have c8 : W.frozen? ⟨w.heap.size + 1 + 1, 1, none⟩ = false := by rw [← hW]; simp [go_sem]
  have HS : Hid (sgn (!(b == b')) (z.natAbs * z'.natAbs) = z * z') := Lib.hid (sgn_mul ha.2 hb.2)
  have hl := limbs_length_mul hx hy
  have hcall : Calls Try.prog 58 #[.slice A n c, .slice B m d] W.drew fun e w' => ∃ A1 n1 c1, e = .returned (.slice A1 n1 c1) ∧ Num w' A1 n1 c1 (z.natAbs * z'.natAbs) ∧ Below W.heap.size W w' := (mul_N ha' hb' (by omega) (by omega)).mono fun _ _ ⟨A1, n1, c1, he, hm, hb⟩ => ⟨A1, n1, c1, he, hm, ⟨hb.os, hb.tape, hb.output, hb.size, hb.block⟩⟩
  have HC := Lib.hid hcall
  have HW := Lib.hid hW
  clear hcall
  go_enter Try.func57, Try.ntmps57
  go_wp2_with fail
  clear hW HW
  go_region_held3 (fun w' => w'.cell? ⟨w.heap.size, 0, none⟩ = some (.bool b) ∧ w'.cell? ⟨w.heap.size, 1, none⟩ = some (.slice A n c) ∧ w'.cell? ⟨w.heap.size + 1, 0, none⟩ = some (.bool b') ∧ w'.cell? ⟨w.heap.size + 1, 1, none⟩ = some (.slice B m d))
    (first | exact ⟨(cell_store (by omega)).trans ((hb1.cell (p := ⟨w.heap.size, 0, none⟩) (by simp; omega)).trans c1), (cell_store (by omega)).trans ((hb1.cell (p := ⟨w.heap.size, 1, none⟩) (by simp; omega)).trans c2), (cell_store (by omega)).trans ((hb1.cell (p := ⟨w.heap.size + 1, 0, none⟩) (by simp; omega)).trans c3), (cell_store (by omega)).trans ((hb1.cell (p := ⟨w.heap.size + 1, 1, none⟩) (by simp; omega)).trans c4)⟩ | go_keep | exact ⟨(hb1.cell (p := ⟨w.heap.size, 0, none⟩) (by simp; omega)).trans c1, (hb1.cell (p := ⟨w.heap.size, 1, none⟩) (by simp; omega)).trans c2, (hb1.cell (p := ⟨w.heap.size + 1, 0, none⟩) (by simp; omega)).trans c3, (hb1.cell (p := ⟨w.heap.size + 1, 1, none⟩) (by simp; omega)).trans c4⟩)
    (first
      | (go_at_call 58; (with_reducible refine HC.out.mono ?_); rintro e w1 ⟨A1, n1, k1, rfl, hm, hb1⟩)
      | (go_at_call 78; (with_reducible refine (signed_N _ hm (by rw [hm.len]; omega)).mono ?_); rintro e w2 ⟨b2, A2, n2, k2, rfl, hz2, hb2⟩; replace hb1 := hb1.trans (hb2.mono hb1.size); have e5 := (hb1.cell (p := ⟨w.heap.size + 1 + 1, 0, none⟩) (by simp; omega)).trans c5; have e6 := (hb1.cell (p := ⟨w.heap.size + 1 + 1, 1, none⟩) (by simp; omega)).trans c6; have e7 := (hb1.frozen (p := ⟨w.heap.size + 1 + 1, 0, none⟩) (by simp; omega)).trans c7; have e8 := (hb1.frozen (p := ⟨w.heap.size + 1 + 1, 1, none⟩) (by simp; omega)).trans c8))
  rw [HS.out] at hz2
  have HZ := Lib.hid (hz2.stored e5 e6)
  have HB : Below w.heap.size w w2 := hB.trans (hb1.mono hB.size)
  go_wp2_with fail
  refine bodyPost_ret (v := .agg #[.bool b2, .slice A2 n2 k2]) (by simp [results, Try.results57, go_sem, e5, e6]) rfl ⟨_, _, _, _, rfl, HZ.out, ?_⟩
  exact (HB.setCell (p := ⟨w.heap.size + 1 + 1, 0, none⟩) (show w.heap.size ≤ w.heap.size + 1 + 1 by omega) _).setCell (p := ⟨w.heap.size + 1 + 1, 1, none⟩) (show w.heap.size ≤ w.heap.size + 1 + 1 by omega) _

set_option maxRecDepth 100000 in
set_option maxHeartbeats 2000000 in
theorem zadd_same {w : World} {b : Bool} {A B : Option Addr} {n c m d : Nat} {z z' : Int} (ha : Zn w b A n c z) (hb : Zn w b B m d z') (hx : (limbs z.natAbs).length ≤ 1000) (hy : (limbs z'.natAbs).length ≤ 1000) :
    Calls Try.prog 51 #[.agg #[.bool b, .slice A n c], .agg #[.bool b, .slice B m d]] w (GotZ w (z + z')) := by
  obtain ⟨W, hW⟩ : ∃ W, ((w.alloc (.cells #[.bool b, .slice A n c] 25)).alloc (.cells #[.bool b, .slice B m d] 25)).alloc (.cells #[.bool false, .slice none 0 0] 25) = W := ⟨_, rfl⟩
  have X := box3 hW
  have hBd : Below w.heap.size w W.drew := below_drewN X.hB 1
  have ha' : Num W.drew A n c z.natAbs := ha.1.on hBd
  have hb' : Num W.drew B m d z'.natAbs := hb.1.on hBd
  have HS := Lib.hid (sgn_same ha.2 hb.2)
  have hl := limbs_length_add hx hy
  have hcall : Calls Try.prog 79 #[.slice A n c, .slice B m d] W.drew fun e w' => ∃ A1 n1 c1, e = .returned (.slice A1 n1 c1) ∧ Num w' A1 n1 c1 (z.natAbs + z'.natAbs) ∧ Below W.heap.size W w' := (add_N ha' hb' (by omega) (by omega)).mono fun _ _ ⟨A1, n1, c1, he, hm, hb⟩ => ⟨A1, n1, c1, he, hm, below_undrew hb⟩
  have HC := Lib.hid hcall
  have hc1 := X.c1
  have hc2 := X.c2
  have hc3 := X.c3
  have hc4 := X.c4
  clear hcall
  go_enter Try.func51, Try.ntmps51
  go_wp2_with fail
  clear hW
  go_region_held3 (fun w' => w'.cell? ⟨w.heap.size, 0, none⟩ = some (.bool b) ∧ w'.cell? ⟨w.heap.size, 1, none⟩ = some (.slice A n c) ∧ w'.cell? ⟨w.heap.size + 1, 0, none⟩ = some (.bool b) ∧ w'.cell? ⟨w.heap.size + 1, 1, none⟩ = some (.slice B m d))
    (first | exact ⟨(cell_store (by omega)).trans (X.on hb1).2.2.1, (cell_store (by omega)).trans (X.on hb1).2.2.2.1, (cell_store (by omega)).trans (X.on hb1).2.2.2.2.1, (cell_store (by omega)).trans (X.on hb1).2.2.2.2.2.1⟩ | go_keep | exact ⟨(X.on hb1).2.2.1, (X.on hb1).2.2.2.1, (X.on hb1).2.2.2.2.1, (X.on hb1).2.2.2.2.2.1⟩)
    (first
      | (go_at_call 79; (with_reducible refine HC.out.mono ?_); rintro e w1 ⟨A1, n1, k1, rfl, hm, hb1⟩)
      | (go_at_call 78; (with_reducible refine (signed_N _ hm (by rw [hm.len]; omega)).mono ?_); rintro e w2 ⟨b2, A2, n2, k2, rfl, hz2, hb2⟩; replace hb1 := hb1.trans (hb2.mono hb1.size); have e5 := (X.on hb1).2.2.2.2.2.2.1; have e6 := (X.on hb1).2.2.2.2.2.2.2.1; have e7 := (X.on hb1).2.2.2.2.2.2.2.2.1; have e8 := (X.on hb1).2.2.2.2.2.2.2.2.2))
  rw [HS.out] at hz2
  have HZ := Lib.hid (hz2.stored e5 e6)
  have HB := (X.on hb1).1
  go_wp2_with fail
  refine bodyPost_ret (v := .agg #[.bool b2, .slice A2 n2 k2]) (by simp [results, Try.results51, go_sem, e5, e6]) rfl ⟨_, _, _, _, rfl, HZ.out, ?_⟩
  exact (HB.setCell (p := ⟨w.heap.size + 1 + 1, 0, none⟩) (show w.heap.size ≤ w.heap.size + 1 + 1 by omega) _).setCell (p := ⟨w.heap.size + 1 + 1, 1, none⟩) (show w.heap.size ≤ w.heap.size + 1 + 1 by omega) _

set_option maxRecDepth 100000 in
set_option maxHeartbeats 2000000 in
theorem zadd_first {w : World} {b b' : Bool} {A B : Option Addr} {n c m d : Nat} {z z' : Int} (ha : Zn w b A n c z) (hb : Zn w b' B m d z') (hx : (limbs z.natAbs).length ≤ 1000) (hy : (limbs z'.natAbs).length ≤ 1000) (hne : b ≠ b') (hle : z'.natAbs ≤ z.natAbs) :
    Calls Try.prog 51 #[.agg #[.bool b, .slice A n c], .agg #[.bool b', .slice B m d]] w (GotZ w (z + z')) := by
  obtain ⟨W, hW⟩ : ∃ W, ((w.alloc (.cells #[.bool b, .slice A n c] 25)).alloc (.cells #[.bool b', .slice B m d] 25)).alloc (.cells #[.bool false, .slice none 0 0] 25) = W := ⟨_, rfl⟩
  have X := box3 hW
  have ha' := ha.1.on X.hB
  have hb' := hb.1.on X.hB
  have HS := Lib.hid (sgn_diff ha.2 hb.2 hne hle)
  have hl : (limbs (z.natAbs - z'.natAbs)).length ≤ 1000 := Nat.le_trans (limbs_length_mono (Nat.sub_le _ _)) (by assumption)
  have hneb : (b == b') = false := by simp [hne]
  have hc1 := X.c1
  have hc2 := X.c2
  have hc3 := X.c3
  have hc4 := X.c4
  go_enter Try.func51, Try.ntmps51
  go_wp2_with fail
  clear hW
  refine (sub_N ha' hb' (by omega) (by omega) hle).mono ?_
  rintro e w2 ⟨A2, n2, c2, rfl, hm, b12⟩
  obtain ⟨-, -, f1, f2, f3, f4, -, -, -, -⟩ := X.on b12
  clear ha' hb' hc1 hc2 hc3 hc4
  go_wp2_with fail
  refine (signed_N _ hm (by rw [hm.len]; omega)).mono ?_
  rintro e w3 ⟨b3, A3, n3, k3, rfl, hz3, b3'⟩
  have b13 := b12.trans (b3'.mono b12.size)
  obtain ⟨HB, -, -, -, -, -, e5, e6, e7, e8⟩ := X.on b13
  rw [HS.out] at hz3
  have HZ := Lib.hid (hz3.stored e5 e6)
  clear b12 b13 b3' f1 f2 f3 f4 hz3
  go_wp2_with fail
  refine bodyPost_ret (v := .agg #[.bool b3, .slice A3 n3 k3]) (by simp [results, Try.results51, go_sem, e5, e6]) rfl ⟨_, _, _, _, rfl, HZ.out, ?_⟩
  exact (HB.setCell (p := ⟨w.heap.size + 1 + 1, 0, none⟩) (show w.heap.size ≤ w.heap.size + 1 + 1 by omega) _).setCell (p := ⟨w.heap.size + 1 + 1, 1, none⟩) (show w.heap.size ≤ w.heap.size + 1 + 1 by omega) _

set_option maxRecDepth 100000 in
set_option maxHeartbeats 2000000 in
theorem zadd_second {w : World} {b b' : Bool} {A B : Option Addr} {n c m d : Nat} {z z' : Int} (ha : Zn w b A n c z) (hb : Zn w b' B m d z') (hx : (limbs z.natAbs).length ≤ 1000) (hy : (limbs z'.natAbs).length ≤ 1000) (hne : b ≠ b') (hlt : z.natAbs < z'.natAbs) :
    Calls Try.prog 51 #[.agg #[.bool b, .slice A n c], .agg #[.bool b', .slice B m d]] w (GotZ w (z + z')) := by
  obtain ⟨W, hW⟩ : ∃ W, ((w.alloc (.cells #[.bool b, .slice A n c] 25)).alloc (.cells #[.bool b', .slice B m d] 25)).alloc (.cells #[.bool false, .slice none 0 0] 25) = W := ⟨_, rfl⟩
  have X := box3 hW
  have ha' := ha.1.on X.hB
  have hb' := hb.1.on X.hB
  have HS := Lib.hid ((sgn_diff hb.2 ha.2 (fun e => hne e.symm) (by omega)).trans (Int.add_comm z' z))
  have hl : (limbs (z'.natAbs - z.natAbs)).length ≤ 1000 := Nat.le_trans (limbs_length_mono (Nat.sub_le _ _)) (by assumption)
  have hneb : (b == b') = false := by simp [hne]
  have hc1 := X.c1
  have hc2 := X.c2
  have hc3 := X.c3
  have hc4 := X.c4
  go_enter Try.func51, Try.ntmps51
  go_wp2_with fail
  clear hW
  refine (sub_less_N ha' hb' (by omega) (by omega) hlt).mono ?_
  rintro e w1 ⟨rfl, b1⟩
  have ha1 := ha'.on b1
  have hb1' := hb'.on b1
  obtain ⟨-, -, d1, d2, d3, d4, -, -, -, -⟩ := X.on b1
  clear ha' hb' hc1 hc2 hc3 hc4
  go_wp2_with fail
  refine (sub_N hb1' ha1 (by omega) (by omega) (by omega)).mono ?_
  rintro e w2 ⟨A2, n2, c2, rfl, hm, b2⟩
  have b12 := b1.trans (b2.mono b1.size)
  obtain ⟨-, -, f1, f2, f3, f4, -, -, -, -⟩ := X.on b12
  clear ha1 hb1' d1 d2 d3 d4 b1 b2
  go_wp2_with fail
  refine (signed_N _ hm (by rw [hm.len]; omega)).mono ?_
  rintro e w3 ⟨b3, A3, n3, k3, rfl, hz3, b3'⟩
  have b13 := b12.trans (b3'.mono b12.size)
  obtain ⟨HB, -, -, -, -, -, e5, e6, e7, e8⟩ := X.on b13
  rw [HS.out] at hz3
  have HZ := Lib.hid (hz3.stored e5 e6)
  clear b12 b13 b3' f1 f2 f3 f4 hz3
  go_wp2_with fail
  refine bodyPost_ret (v := .agg #[.bool b3, .slice A3 n3 k3]) (by simp [results, Try.results51, go_sem, e5, e6]) rfl ⟨_, _, _, _, rfl, HZ.out, ?_⟩
  exact (HB.setCell (p := ⟨w.heap.size + 1 + 1, 0, none⟩) (show w.heap.size ≤ w.heap.size + 1 + 1 by omega) _).setCell (p := ⟨w.heap.size + 1 + 1, 1, none⟩) (show w.heap.size ≤ w.heap.size + 1 + 1 by omega) _

theorem zadd_N {w : World} {b b' : Bool} {A B : Option Addr} {n c m d : Nat} {z z' : Int} (ha : Zn w b A n c z) (hb : Zn w b' B m d z') (hx : (limbs z.natAbs).length ≤ 300) (hy : (limbs z'.natAbs).length ≤ 300) :
    Calls Try.prog 51 #[.agg #[.bool b, .slice A n c], .agg #[.bool b', .slice B m d]] w (GotZ w (z + z')) := by
  by_cases h : b = b'
  · subst h; exact zadd_same ha hb (by omega) (by omega)
  · rcases Nat.lt_or_ge z.natAbs z'.natAbs with h1 | h1
    · exact zadd_second ha hb (by omega) (by omega) h h1
    · exact zadd_first ha hb (by omega) (by omega) h h1

end Go.Proofs.Ytgnhioffamfakaa

/-
  Small helps for the laws of integers: boxes, and what is kept.
-/
namespace Go.Proofs.Ytgnhioffamfakaa
open Go.RowKit
set_option linter.unusedVariables false

theorem Zn.ok {w : World} {b : Bool} {A : Option Addr} {n c : Nat} {z : Int} (h : Zn w b A n c z) : okZ b n (limbs z.natAbs) = true := by
  unfold okZ
  rw [limbs_canon, Bool.true_and]
  by_cases hz : z < 0
  · have h0 : 0 < n := by have := h.1.some_len (by omega); omega
    simp [h0]
  · rw [h.2]; simp [hz]
theorem len_z {z : Int} (h : z.natAbs < B64) : (limbs z.natAbs).length ≤ 300 := Nat.le_trans (len_one h) (by omega)
theorem okZ_zn {w : World} {b : Bool} {A : Option Addr} {n c : Nat} {l : List Nat} (h : Lim w.heap.size w A n c l) (hk : okZ b n l = true) : Zn w b A n c (sgn b (val l)) := by
  unfold okZ at hk
  rw [Bool.and_eq_true] at hk
  have hN := h.num hk.1
  refine ⟨by rw [sgn_abs]; exact hN, ?_⟩
  unfold sgn
  cases b
  · simp
  · have h0 : 0 < n := by simpa using hk.2
    have hl := hN.len
    have hv : val l ≠ 0 := fun e => by rw [e, limbs_zero] at hl; simp at hl; omega
    simp; omega
theorem len_z0 : (limbs (0 : Int).natAbs).length ≤ 1000000 := by rw [show (0 : Int).natAbs = 0 from rfl, limbs_zero]; simp
/-- A cell that is there stays behind a new block. -/
theorem keep_alloc {w : World} {o : Obj} {p : Addr} {v : Value} (h : w.cell? p = some v) : (w.alloc o).cell? p = some v := by
  have hlt : p.block < w.heap.size := by
    rcases Nat.lt_or_ge p.block w.heap.size with h1 | h1
    · exact h1
    · simp [World.cell?, Array.getElem?_eq_none h1] at h
  rw [World.cell?_of_block (w := w) (Below.heap_alloc w o p.block hlt)]
  exact h

theorem zlen_add {z z' : Int} {k : Nat} (h : (limbs z.natAbs).length ≤ k) (h' : (limbs z'.natAbs).length ≤ k) : (limbs (z + z').natAbs).length ≤ k + 1 :=
  Nat.le_trans (limbs_length_mono (Int.natAbs_add_le z z')) (limbs_length_add h h')
theorem zlen_mul {z z' : Int} {k m : Nat} (h : (limbs z.natAbs).length ≤ k) (h' : (limbs z'.natAbs).length ≤ m) : (limbs (z * z').natAbs).length ≤ k + m := by
  rw [Int.natAbs_mul]
  exact limbs_length_mul h h'
theorem zlen_neg {z : Int} {k : Nat} (h : (limbs z.natAbs).length ≤ k) : (limbs (-z).natAbs).length ≤ k := by
  rw [Int.natAbs_neg]
  exact h

theorem cell_lt {w : World} {p : Addr} {v : Value} (h : w.cell? p = some v) : p.block < w.heap.size := by
  rcases Nat.lt_or_ge p.block w.heap.size with h1 | h1
  · exact h1
  · simp [World.cell?, Array.getElem?_eq_none h1] at h
/-- A struct of two cells in memory. -/
def Box (W : World) (g : Nat) (b : Bool) (A : Option Addr) (n k : Nat) : Prop := W.cell? ⟨g, 0, none⟩ = some (.bool b) ∧ W.cell? ⟨g, 1, none⟩ = some (.slice A n k)
theorem Box.new (W : World) (b : Bool) (A : Option Addr) (n k : Nat) (T : TypeId) : Box (W.alloc (.cells #[.bool b, .slice A n k] T)) W.heap.size b A n k := ⟨by simp [go_sem], by simp [go_sem]⟩
theorem Box.alloc {W : World} {g : Nat} {b : Bool} {A : Option Addr} {n k : Nat} (h : Box W g b A n k) (o : Obj) : Box (W.alloc o) g b A n k := ⟨keep_alloc h.1, keep_alloc h.2⟩
theorem Box.other {W : World} {g g' : Nat} {b : Bool} {A : Option Addr} {n k : Nat} {u v : Value} (h : Box W g b A n k) (hne : g ≠ g') : Box ((W.setCell ⟨g', 0, none⟩ u).setCell ⟨g', 1, none⟩ v) g b A n k := ⟨(cell_store hne).trans h.1, (cell_store hne).trans h.2⟩
theorem Box.put {W : World} {g : Nat} {b0 : Bool} {A0 : Option Addr} {n0 k0 : Nat} (h : Box W g b0 A0 n0 k0) (b : Bool) (A : Option Addr) (n k : Nat) : Box ((W.setCell ⟨g, 0, none⟩ (.bool b)).setCell ⟨g, 1, none⟩ (.slice A n k)) g b A n k := by
  have h1 : (⟨g, 0, none⟩ : Addr) ≠ ⟨g, 1, none⟩ := fun e => by injection e with _ e2; omega
  have h2 : (⟨g, 1, none⟩ : Addr) ≠ ⟨g, 0, none⟩ := fun e => by injection e with _ e2; omega
  refine ⟨?_, ?_⟩
  · rw [World.cell?_setCell_other (h := h2)]
    exact World.cell?_setCell_same _ _ _ h.1
  · exact World.cell?_setCell_same _ _ _ ((World.cell?_setCell_other W _ _ _ h1).trans h.2)
theorem Zn.put {W : World} {g : Nat} {b b0 : Bool} {A A0 : Option Addr} {n c n0 c0 : Nat} {z : Int} (h : Zn W b A n c z) (hb : Box W g b0 A0 n0 c0) (u v : Value) : Zn ((W.setCell ⟨g, 0, none⟩ u).setCell ⟨g, 1, none⟩ v) b A n c z := by
  refine ⟨(h.1.set_other hb.1 (fun _ _ e => by cases e)).set_other (u := .slice A0 n0 c0) ?_ (fun _ _ e => by cases e), h.2⟩
  have hne : (⟨g, 0, none⟩ : Addr) ≠ ⟨g, 1, none⟩ := fun e => by injection e with _ e2; omega
  rw [World.cell?_setCell_other (h := hne)]
  exact hb.2
theorem Zn.alloc {W : World} {b : Bool} {A : Option Addr} {n c : Nat} {z : Int} (h : Zn W b A n c z) (o : Obj) : Zn (W.alloc o) b A n c z := h.on (below_one _ _)
theorem below_put {B g : Nat} {V W : World} (h : Below B V W) (hg : B ≤ g) (u v : Value) : Below B V ((W.setCell ⟨g, 0, none⟩ u).setCell ⟨g, 1, none⟩ v) := (h.setCell (p := ⟨g, 0, none⟩) hg u).setCell (p := ⟨g, 1, none⟩) hg v

/-- Behind 'x, y := f(..), g(..)': two boxes, and what they hold. -/
def Both (V U : World) (gx gy : Nat) (bx : Bool) (Ax : Option Addr) (nx kx : Nat) (bY : Bool) (Ay : Option Addr) (ny ky : Nat) (zx zy : Int) : Prop :=
  Box U gx bx Ax nx kx ∧ Box U gy bY Ay ny ky ∧ Zn U bx Ax nx kx zx ∧ Zn U bY Ay ny ky zy ∧ Below V.heap.size V U
section
variable {V wz : World} {gx gy : Nat} {bx bY : Bool} {Ax Ay : Option Addr} {nx kx ny ky : Nat} {zx zy : Int}
theorem pairA (hx : Zn wz bx Ax nx kx zx) (hy : Zn wz bY Ay ny ky zy) (qq : Below V.heap.size V wz) (T : TypeId) : Both V ((wz.alloc (.cells #[.bool bx, .slice Ax nx kx] T)).alloc (.cells #[.bool bY, .slice Ay ny ky] T)) wz.heap.size (wz.heap.size + 1) bx Ax nx kx bY Ay ny ky zx zy :=
  ⟨(Box.new wz bx Ax nx kx T).alloc _, by have := Box.new (wz.alloc (.cells #[.bool bx, .slice Ax nx kx] T)) bY Ay ny ky T; simpa using this, (hx.alloc _).alloc _, (hy.alloc _).alloc _, (qq.alloc qq.size _).alloc (by have := qq.size; simp; omega) _⟩
theorem pairA' (hx : Zn wz bx Ax nx kx zx) (hy : Zn wz bY Ay ny ky zy) (qq : Below V.heap.size V wz) (T : TypeId) : Both V ((wz.alloc (.cells #[.bool bY, .slice Ay ny ky] T)).alloc (.cells #[.bool bx, .slice Ax nx kx] T)) (wz.heap.size + 1) wz.heap.size bx Ax nx kx bY Ay ny ky zx zy :=
  ⟨by have := Box.new (wz.alloc (.cells #[.bool bY, .slice Ay ny ky] T)) bx Ax nx kx T; simpa using this, (Box.new wz bY Ay ny ky T).alloc _, (hx.alloc _).alloc _, (hy.alloc _).alloc _, (qq.alloc qq.size _).alloc (by have := qq.size; simp; omega) _⟩
theorem pairB (c0 : wz.cell? ⟨gx, 0, none⟩ = some (.bool false)) (c1 : wz.cell? ⟨gx, 1, none⟩ = some (.slice none 0 0)) (hx : Zn wz bx Ax nx kx zx) (hy : Zn wz bY Ay ny ky zy) (qq : Below V.heap.size V wz) (lx : V.heap.size ≤ gx) (T : TypeId) :
    Both V (((wz.setCell ⟨gx, 0, none⟩ (.bool bx)).setCell ⟨gx, 1, none⟩ (.slice Ax nx kx)).alloc (.cells #[.bool bY, .slice Ay ny ky] T)) gx wz.heap.size bx Ax nx kx bY Ay ny ky zx zy :=
  have B : Box wz gx false none 0 0 := ⟨c0, c1⟩
  ⟨(B.put bx Ax nx kx).alloc _, by have := Box.new ((wz.setCell ⟨gx, 0, none⟩ (.bool bx)).setCell ⟨gx, 1, none⟩ (.slice Ax nx kx)) bY Ay ny ky T; simpa using this, (hx.put B _ _).alloc _, (hy.put B _ _).alloc _, (below_put qq lx _ _).alloc (by have := qq.size; simp; omega) _⟩
theorem pairB' (c0 : wz.cell? ⟨gy, 0, none⟩ = some (.bool false)) (c1 : wz.cell? ⟨gy, 1, none⟩ = some (.slice none 0 0)) (hx : Zn wz bx Ax nx kx zx) (hy : Zn wz bY Ay ny ky zy) (qq : Below V.heap.size V wz) (ly : V.heap.size ≤ gy) (T : TypeId) :
    Both V (((wz.setCell ⟨gy, 0, none⟩ (.bool bY)).setCell ⟨gy, 1, none⟩ (.slice Ay ny ky)).alloc (.cells #[.bool bx, .slice Ax nx kx] T)) wz.heap.size gy bx Ax nx kx bY Ay ny ky zx zy :=
  have B : Box wz gy false none 0 0 := ⟨c0, c1⟩
  ⟨by have := Box.new ((wz.setCell ⟨gy, 0, none⟩ (.bool bY)).setCell ⟨gy, 1, none⟩ (.slice Ay ny ky)) bx Ax nx kx T; simpa using this, (B.put bY Ay ny ky).alloc _, (hx.put B _ _).alloc _, (hy.put B _ _).alloc _, (below_put qq ly _ _).alloc (by have := qq.size; simp; omega) _⟩
theorem pairC (c0 : wz.cell? ⟨gx, 0, none⟩ = some (.bool false)) (c1 : wz.cell? ⟨gx, 1, none⟩ = some (.slice none 0 0)) (d0 : wz.cell? ⟨gy, 0, none⟩ = some (.bool false)) (d1 : wz.cell? ⟨gy, 1, none⟩ = some (.slice none 0 0)) (hx : Zn wz bx Ax nx kx zx) (hy : Zn wz bY Ay ny ky zy) (qq : Below V.heap.size V wz) (lx : V.heap.size ≤ gx) (ly : V.heap.size ≤ gy) (hne : gx ≠ gy) :
    Both V ((((wz.setCell ⟨gx, 0, none⟩ (.bool bx)).setCell ⟨gx, 1, none⟩ (.slice Ax nx kx)).setCell ⟨gy, 0, none⟩ (.bool bY)).setCell ⟨gy, 1, none⟩ (.slice Ay ny ky)) gx gy bx Ax nx kx bY Ay ny ky zx zy :=
  have B : Box wz gx false none 0 0 := ⟨c0, c1⟩
  have D : Box ((wz.setCell ⟨gx, 0, none⟩ (.bool bx)).setCell ⟨gx, 1, none⟩ (.slice Ax nx kx)) gy false none 0 0 := Box.other ⟨d0, d1⟩ (Ne.symm hne)
  ⟨(B.put bx Ax nx kx).other hne, D.put bY Ay ny ky, (hx.put B _ _).put D _ _, (hy.put B _ _).put D _ _, below_put (below_put qq lx _ _) ly _ _⟩
end

theorem rzright_N {w : World} {b : Bool} {A : Option Addr} {n c : Nat} {z : Int} (ha : Zn w b A n c z) (hx : (limbs z.natAbs).length ≤ 300) : Calls Try.prog 35 #[.agg #[.bool b, .slice A n c]] w (GotV w (.bool true)) := rzright_any true ha.1 (by rw [ha.1.len]; omega) ha.ok

/-- An integer that is right and of few limbs. -/
theorem few_zn {w : World} {b : Bool} {A : Option Addr} {n c : Nat} {l : List Nat} (m : Nat) (h : Lim w.heap.size w A n c l) (hr : (decide ((n : Int) ≤ (m : Int)) && okZ b n l) = true) : Zn w b A n c (sgn b (val l)) ∧ (limbs (sgn b (val l)).natAbs).length ≤ m := by
  rw [Bool.and_eq_true] at hr
  have h0 := okZ_zn h hr.2
  refine ⟨h0, ?_⟩
  rw [← h0.1.len]
  have := of_decide_eq_true hr.1
  omega

theorem zsame_self {w : World} {b b' : Bool} {A B : Option Addr} {n c m d : Nat} {z : Int} (ha : Zn w b A n c z) (hb : Zn w b' B m d z) (hx : (limbs z.natAbs).length ≤ 300) : Calls Try.prog 34 #[.agg #[.bool b, .slice A n c], .agg #[.bool b', .slice B m d]] w (GotV w (.bool true)) := zsame_N true ha hb (by omega) (by omega) (decide_eq_true rfl)

theorem i64_wf {n : Int} (h : (Lit.int .i64 n).wf = true) : I64 n := bounds_i64 h
theorem i32_wf {n : Int} (h : (Lit.int .i32 n).wf = true) : -2147483648 ≤ n ∧ n ≤ 2147483647 := bounds_i32 h

end Go.Proofs.Ytgnhioffamfakaa

/-
  Rationals: one number by another one, reduced; how many limbs they have; which is greater.
-/
namespace Go.Proofs.Ytgnhioffamfakaa
open Go.RowKit

/-- Which of two rationals is greater. -/
def cmpQ (a b : Rat) : Int := if a < b then -1 else if b < a then 1 else 0
theorem cmpQ_eq (a b : Rat) : cmpZ (a.num * (b.den : Int)) (b.num * (a.den : Int)) = cmpQ a b := by
  unfold cmpQ cmpZ; simp only [Rat.lt_iff]
theorem cmpQ_bd (a b : Rat) : -1 ≤ cmpQ a b ∧ cmpQ a b ≤ 1 := by unfold cmpQ; split <;> (try split) <;> omega

theorem mkRat_den (p : Int) (q : Nat) (hq : q ≠ 0) : (mkRat p q).den = q / Nat.gcd p.natAbs q := by
  rw [Rat.den_mkRat, if_neg hq, Nat.gcd_comm]
theorem mkRat_num (p : Int) (q : Nat) (hq : q ≠ 0) : (mkRat p q).num = p / ((Nat.gcd p.natAbs q : Nat) : Int) := by
  rw [Rat.num_mkRat, if_neg hq, Nat.gcd_comm]
theorem natAbs_ediv (p : Int) (g : Nat) (hg : g ∣ p.natAbs) : (p / (g : Int)).natAbs = p.natAbs / g := by
  rcases Nat.eq_zero_or_pos g with h0 | h0
  · subst h0; simp
  · obtain ⟨k, hk⟩ := hg
    have h1 : p = (g : Int) * (k : Int) ∨ p = (g : Int) * (-(k : Int)) := by
      rcases Int.natAbs_eq p with h | h
      · left; rw [h, hk]; simp
      · right; rw [h, hk]; simp [Int.mul_neg]
    have hg0 : (g : Int) ≠ 0 := by omega
    rw [hk, Nat.mul_div_cancel_left _ h0]
    rcases h1 with h | h
    · rw [h, Int.mul_ediv_cancel_left _ hg0]; simp
    · rw [h, Int.mul_ediv_cancel_left _ hg0]; simp
theorem mkRat_abs (p : Int) (q : Nat) (hq : q ≠ 0) : (mkRat p q).num.natAbs = p.natAbs / Nat.gcd p.natAbs q := by
  rw [mkRat_num p q hq, natAbs_ediv _ _ (Nat.gcd_dvd_left _ _)]
theorem mkRat_neg (p : Int) (q : Nat) (hq : q ≠ 0) : decide ((mkRat p q).num < 0) = decide (p < 0) := by
  have hg : 0 < Nat.gcd p.natAbs q := Nat.gcd_pos_of_pos_right _ (by omega)
  have h1 := mkRat_num p q hq
  have h2 : (mkRat p q).num * ((Nat.gcd p.natAbs q : Nat) : Int) = p := by
    rw [h1]
    refine Int.ediv_mul_cancel ?_
    exact Int.ofNat_dvd_left.2 (Nat.gcd_dvd_left _ _)
  have h3 : (mkRat p q).num < 0 ↔ p < 0 := by
    constructor
    · intro h
      rw [← h2]
      exact Int.mul_neg_of_neg_of_pos h (by omega)
    · intro h
      rcases Int.lt_or_le (mkRat p q).num 0 with h4 | h4
      · exact h4
      · exfalso
        have := Int.mul_nonneg h4 (show (0 : Int) ≤ ((Nat.gcd p.natAbs q : Nat) : Int) by omega)
        omega
  simp only [h3]

/-- A rational both of whose sides have at most k limbs. -/
def Sz (r : Rat) (k : Nat) : Prop := (limbs r.num.natAbs).length ≤ k ∧ (limbs r.den).length ≤ k
theorem Sz.le {r : Rat} {k m : Nat} (h : Sz r k) (hk : k ≤ m) : Sz r m := ⟨Nat.le_trans h.1 hk, Nat.le_trans h.2 hk⟩
theorem sz_mk {p : Int} {q k : Nat} (hq : q ≠ 0) (hp : (limbs p.natAbs).length ≤ k) (hd : (limbs q).length ≤ k) : Sz (mkRat p q) k := by
  refine ⟨?_, ?_⟩
  · rw [mkRat_abs p q hq]; exact Nat.le_trans (limbs_length_mono (Nat.div_le_self _ _)) hp
  · rw [mkRat_den p q hq]; exact Nat.le_trans (limbs_length_mono (Nat.div_le_self _ _)) hd
theorem natAbs_over (a : Int) (b : Nat) : (a * (b : Int)).natAbs = a.natAbs * b := by rw [Int.natAbs_mul, Int.natAbs_natCast]
theorem den_mul_ne (a b : Rat) : a.den * b.den ≠ 0 := Nat.mul_ne_zero a.den_nz b.den_nz
theorem Sz.add {a b : Rat} {j k : Nat} (ha : Sz a j) (hb : Sz b k) : Sz (a + b) (j + k + 1) := by
  rw [Rat.add_def']
  refine sz_mk (den_mul_ne a b) ?_ (Nat.le_trans (limbs_length_mul ha.2 hb.2) (by omega))
  refine Nat.le_trans (limbs_length_mono (Int.natAbs_add_le _ _)) (limbs_length_add ?_ ?_)
  · rw [natAbs_over]; exact limbs_length_mul ha.1 hb.2
  · rw [natAbs_over, Nat.add_comm j k]; exact limbs_length_mul hb.1 ha.2
theorem Sz.neg {a : Rat} {j : Nat} (ha : Sz a j) : Sz (-a) j := ⟨by rw [Rat.neg_num, Int.natAbs_neg]; exact ha.1, ha.2⟩
theorem Sz.sub {a b : Rat} {j k : Nat} (ha : Sz a j) (hb : Sz b k) : Sz (a - b) (j + k + 1) := by
  rw [Rat.sub_eq_add_neg]; exact ha.add hb.neg
theorem Sz.mul {a b : Rat} {j k : Nat} (ha : Sz a j) (hb : Sz b k) : Sz (a * b) (j + k) := by
  rw [Rat.mul_def']
  refine sz_mk (den_mul_ne a b) ?_ (limbs_length_mul ha.2 hb.2)
  rw [Int.natAbs_mul]; exact limbs_length_mul ha.1 hb.1
theorem Sz.inv {a : Rat} {j : Nat} (ha : Sz a j) (h0 : a.num ≠ 0) : Sz a⁻¹ j := by
  refine ⟨?_, ?_⟩
  · rw [Rat.num_inv, Int.natAbs_mul, Int.natAbs_sign_of_ne_zero h0, Nat.one_mul, Int.natAbs_natCast]; exact ha.2
  · rw [Rat.den_inv, if_neg h0]; exact ha.1
theorem Sz.div {a b : Rat} {j k : Nat} (ha : Sz a j) (hb : Sz b k) (h0 : b.num ≠ 0) : Sz (a / b) (j + k) := by
  rw [Rat.div_def]; exact ha.mul (hb.inv h0)
/-- A quotient, as it is made. -/
def dnum (a b : Rat) : Int := if b.num < 0 then -(a.num * (b.den : Int)) else a.num * (b.den : Int)
theorem div_mk (a b : Rat) (h0 : b.num ≠ 0) : a / b = mkRat (a.num * sgn (decide (b.num < 0)) b.den) (a.den * b.num.natAbs) := by
  rw [Rat.div_def, Rat.mul_def', Rat.num_inv, Rat.den_inv, if_neg h0]
  congr 2
  unfold sgn
  by_cases h : b.num < 0
  · simp [h, Int.sign_eq_neg_one_of_neg h]
  · have : 0 < b.num := by omega
    simp [h, Int.sign_eq_one_of_pos this]
/-- Two sides that nothing divides are a rational's. -/
theorem rat_of (p : Int) (q : Nat) (hq : q ≠ 0) (hg : Nat.gcd p.natAbs q = 1) : ∃ r : Rat, r.num = p ∧ r.den = q := ⟨⟨p, q, hq, hg⟩, rfl, rfl⟩
theorem of_num (n : Int) : ((n : Int) : Rat).num = n := rfl
theorem of_den (n : Int) : ((n : Int) : Rat).den = 1 := rfl
theorem sz_of {n : Int} (h : (limbs n.natAbs).length ≤ 1) : Sz ((n : Int) : Rat) 1 := ⟨h, by rw [of_den]; exact limbs_length_le (by decide)⟩
theorem rat_inj (a b : Rat) : decide (a.num = b.num ∧ a.den = b.den) = decide (a = b) := by
  have : (a.num = b.num ∧ a.den = b.den) ↔ a = b := ⟨fun h => Rat.ext h.1 h.2, fun h => h ▸ ⟨rfl, rfl⟩⟩
  simp only [this]
end Go.Proofs.Ytgnhioffamfakaa

/-
  Rationals: a product whose sides are reduced crosswise, and a sum over the least number that both divide, as they are.
-/
namespace Go.Proofs.Ytgnhioffamfakaa

/-- Two sides that nothing divides are those of their quotient. -/
theorem mk_sides {p : Int} {q : Nat} {r : Rat} (hq : q ≠ 0) (hg : Nat.gcd p.natAbs q = 1) (h : mkRat p q = r) : r.num = p ∧ r.den = q := by
  subst h
  rw [Rat.num_mkRat, Rat.den_mkRat, if_neg hq, if_neg hq, Nat.gcd_comm, hg]
  simp

theorem num_dvd (p : Int) (q : Nat) (hq : q ≠ 0) : (mkRat p q).num.natAbs ∣ p.natAbs := by
  rw [Rat.num_mkRat, if_neg hq]
  have h : ((Nat.gcd q p.natAbs : Nat) : Int) ∣ p := Int.ofNat_dvd_left.2 (Nat.gcd_dvd_right _ _)
  exact Int.natAbs_dvd_natAbs.2 ⟨_, (Int.ediv_mul_cancel h).symm⟩
theorem den_dvd (p : Int) (q : Nat) (hq : q ≠ 0) : (mkRat p q).den ∣ q := by
  rw [Rat.den_mkRat, if_neg hq]
  exact Nat.div_dvd_of_dvd (Nat.gcd_dvd_left _ _)

theorem mul_sides (a b : Rat) : (a * b).num = (mkRat a.num b.den).num * (mkRat b.num a.den).num ∧ (a * b).den = (mkRat a.num b.den).den * (mkRat b.num a.den).den := by
  refine mk_sides (Nat.mul_ne_zero (Rat.den_nz _) (Rat.den_nz _)) ?_ ?_
  · rw [Int.natAbs_mul]
    have h1 := num_dvd a.num b.den b.den_nz
    have h2 := den_dvd a.num b.den b.den_nz
    have h3 := num_dvd b.num a.den a.den_nz
    have h4 := den_dvd b.num a.den a.den_nz
    refine Nat.Coprime.mul_left (Nat.Coprime.mul_right (Rat.reduced _) ?_) (Nat.Coprime.mul_right ?_ (Rat.reduced _))
    · exact (a.reduced.coprime_dvd_left h1).coprime_dvd_right h4
    · exact (b.reduced.coprime_dvd_left h3).coprime_dvd_right h2
  · rw [← Rat.mkRat_mul_mkRat, Rat.mkRat_self, Rat.mkRat_self, Rat.mkRat_mul_mkRat, Nat.mul_comm b.den a.den, ← Rat.mul_def']

theorem cop_part {t u : Int} {l : Nat} (h : Nat.Coprime u.natAbs l) (hd : (l : Int) ∣ t - u) : Nat.Coprime t.natAbs l := by
  have h1 : Nat.gcd t.natAbs l ∣ l := Nat.gcd_dvd_right _ _
  have h2 : ((Nat.gcd t.natAbs l : Nat) : Int) ∣ t := Int.ofNat_dvd_left.2 (Nat.gcd_dvd_left _ _)
  have h3 : ((Nat.gcd t.natAbs l : Nat) : Int) ∣ t - u := Int.dvd_trans (Int.ofNat_dvd.2 h1) hd
  have h4 : ((Nat.gcd t.natAbs l : Nat) : Int) ∣ u := by
    have := Int.dvd_sub h2 h3
    rwa [show t - (t - u) = u by omega] at this
  have h5 := Nat.dvd_gcd (Int.ofNat_dvd_left.1 h4) h1
  rw [h] at h5
  exact Nat.eq_one_of_dvd_one h5

theorem add_sides (a b : Rat) {g l r : Nat} {t : Int} (hg : Nat.gcd a.den b.den = g) (hl : b.den / g = l) (hr : a.den / g = r) (ht : a.num * (l : Int) + b.num * (r : Int) = t) :
    (a + b).num = (mkRat t g).num ∧ (a + b).den = (mkRat t g).den * (l * r) := by
  have hg0 : g ≠ 0 := by rw [← hg]; exact Nat.ne_of_gt (Nat.gcd_pos_of_pos_left _ (Nat.pos_of_ne_zero a.den_nz))
  have ha : a.den = g * r := by rw [← hr, Nat.mul_div_cancel' (by rw [← hg]; exact Nat.gcd_dvd_left _ _)]
  have hb : b.den = g * l := by rw [← hl, Nat.mul_div_cancel' (by rw [← hg]; exact Nat.gcd_dvd_right _ _)]
  have hlr : Nat.Coprime r l := by
    rw [← hl, ← hr, ← hg]
    exact Nat.coprime_div_gcd_div_gcd (Nat.gcd_pos_of_pos_left _ (Nat.pos_of_ne_zero a.den_nz))
  have hr0 : r ≠ 0 := fun e => a.den_nz (by rw [ha, e, Nat.mul_zero])
  have hl0 : l ≠ 0 := fun e => b.den_nz (by rw [hb, e, Nat.mul_zero])
  have h1 := num_dvd t g hg0
  have hal : Nat.Coprime t.natAbs l := by
    have hbl : Nat.Coprime b.num.natAbs l := b.reduced.coprime_dvd_right ⟨g, by rw [hb, Nat.mul_comm]⟩
    have h2 : Nat.Coprime (b.num * (r : Int)).natAbs l := by rw [Int.natAbs_mul, Int.natAbs_natCast]; exact hbl.mul_left hlr
    refine cop_part h2 ⟨a.num, ?_⟩
    rw [← ht, Int.mul_comm (l : Int)]; omega
  have har : Nat.Coprime t.natAbs r := by
    have hbl : Nat.Coprime a.num.natAbs r := a.reduced.coprime_dvd_right ⟨g, by rw [ha, Nat.mul_comm]⟩
    have h2 : Nat.Coprime (a.num * (l : Int)).natAbs r := by rw [Int.natAbs_mul, Int.natAbs_natCast]; exact hbl.mul_left hlr.symm
    refine cop_part h2 ⟨b.num, ?_⟩
    rw [← ht, Int.mul_comm (r : Int)]; omega
  refine mk_sides (Nat.mul_ne_zero (Rat.den_nz _) (Nat.mul_ne_zero hl0 hr0)) ?_ ?_
  · refine Nat.Coprime.mul_right (Rat.reduced _) (Nat.Coprime.mul_right ?_ ?_)
    · exact hal.coprime_dvd_left h1
    · exact har.coprime_dvd_left h1
  · rw [Rat.add_def', Rat.mkRat_eq_iff (Nat.mul_ne_zero (Rat.den_nz _) (Nat.mul_ne_zero hl0 hr0)) (Nat.mul_ne_zero a.den_nz b.den_nz)]
    have h2 : mkRat t g = mkRat (mkRat t g).num (mkRat t g).den := (Rat.mkRat_self _).symm
    rw [Rat.mkRat_eq_iff hg0 (Rat.den_nz _)] at h2
    generalize (mkRat t g).num = pn at h2 ⊢
    generalize (mkRat t g).den = pd at h2 ⊢
    rw [ha, hb]
    simp only [Int.natCast_mul]
    have e1 : pn * ((g : Int) * r * (g * l)) = (pn * g) * (r * (g * l)) := by ac_rfl
    have e2 : (a.num * ((g : Int) * l) + b.num * (g * r)) * (pd * (l * r)) = (a.num * l + b.num * r) * pd * (r * (g * l)) := by
      rw [Int.add_mul, Int.add_mul, Int.add_mul]
      congr 1 <;> ac_rfl
    rw [e1, e2, ht, h2]
theorem inv_num (x : Rat) (h : x.num ≠ 0) : (x⁻¹).num = Go.Proofs.Ytgnhioffamfakaa.sgn (decide (x.num < 0)) x.den := by
  rw [Rat.num_inv]
  unfold sgn
  by_cases h1 : x.num < 0
  · simp [h1, Int.sign_eq_neg_one_of_neg h1]
  · have : 0 < x.num := by omega
    simp [h1, Int.sign_eq_one_of_pos this]
theorem inv_den (x : Rat) (h : x.num ≠ 0) : (x⁻¹).den = x.num.natAbs := by rw [Rat.den_inv, if_neg h]
theorem cmpN_nil (x : Nat) : (cmpN x 0 == 0) = decide (x = 0) := by
  unfold cmpN
  by_cases h : x = 0
  · subst h; simp
  · have : 0 < x := by omega
    simp [h, this]
theorem cmpN_unit (x : Nat) : (cmpN x 1 == 0) = decide (x = 1) := by
  unfold cmpN
  rcases Nat.lt_trichotomy x 1 with h | h | h
  · have : x ≠ 1 := by omega
    simp [h, this]
  · subst h; simp
  · have h2 : x ≠ 1 := by omega
    have h3 : ¬ x < 1 := by omega
    simp only [if_neg h3, if_pos h, h2, decide_false]
    rfl
end Go.Proofs.Ytgnhioffamfakaa

/-
  The contracts of the fifth reference: Make, Of, Right.
-/
namespace Go.Proofs.Ytgnhioffamfakaa
open Go.RowKit

/-- The value '.agg #[.bool b, .slice A n c, .slice B m d]' has the sides p and q. -/
def Rw (w : World) (b : Bool) (A : Option Addr) (n c : Nat) (B : Option Addr) (m d : Nat) (p : Int) (q : Nat) : Prop := Zn w b A n c p ∧ Num w B m d q
theorem Rw.on {w w' : World} {b : Bool} {A B : Option Addr} {n c m d : Nat} {p : Int} {q : Nat} (h : Rw w b A n c B m d p q) (hb : Below w.heap.size w w') : Rw w' b A n c B m d p q := ⟨h.1.on hb, h.2.on hb⟩
/-- It is the rational r. -/
def Rt (w : World) (b : Bool) (A : Option Addr) (n c : Nat) (B : Option Addr) (m d : Nat) (r : Rat) : Prop := Rw w b A n c B m d r.num r.den
theorem Rt.on {w w' : World} {b : Bool} {A B : Option Addr} {n c m d : Nat} {r : Rat} (h : Rt w b A n c B m d r) (hb : Below w.heap.size w w') : Rt w' b A n c B m d r := Rw.on h hb
/-- A call has answered a rational; and one with a code. -/
def GotRt (w : World) (r : Rat) (e : Ending) (w' : World) : Prop := ∃ b A n c B m d, e = .returned (.agg #[.bool b, .slice A n c, .slice B m d]) ∧ Rt w' b A n c B m d r ∧ Below w.heap.size w w'
def GotRp (w : World) (r : Rat) (k : Int) (e : Ending) (w' : World) : Prop := ∃ b A n c B m d, e = .returned (.tuple #[.agg #[.bool b, .slice A n c, .slice B m d], .int .i64 k]) ∧ Rt w' b A n c B m d r ∧ Below w.heap.size w w'

/-- A struct of three cells in memory. -/
def BoxR (W : World) (g : Nat) (b : Bool) (A : Option Addr) (n k : Nat) (B : Option Addr) (m d : Nat) : Prop := W.cell? ⟨g, 0, none⟩ = some (.bool b) ∧ W.cell? ⟨g, 1, none⟩ = some (.slice A n k) ∧ W.cell? ⟨g, 2, none⟩ = some (.slice B m d)
/-- What is written into it. -/
@[reducible] def putR (W : World) (g : Nat) (u v x : Value) : World := ((W.setCell ⟨g, 0, none⟩ u).setCell ⟨g, 1, none⟩ v).setCell ⟨g, 2, none⟩ x
theorem addr_ne {g i j : Nat} (h : i ≠ j) : (⟨g, i, none⟩ : Addr) ≠ ⟨g, j, none⟩ := fun e => by injection e with _ e2; omega
theorem addr_ne' {g g' i j : Nat} (h : g ≠ g') : (⟨g, i, none⟩ : Addr) ≠ ⟨g', j, none⟩ := fun e => by injection e with e1; omega
theorem cell_putR {w : World} {s b o : Nat} {u v x : Value} (h : b ≠ s) : (putR w s u v x).cell? ⟨b, o, none⟩ = w.cell? ⟨b, o, none⟩ := by
  unfold putR
  rw [World.cell?_setCell_other (h := addr_ne' (Ne.symm h)), World.cell?_setCell_other (h := addr_ne' (Ne.symm h)), World.cell?_setCell_other (h := addr_ne' (Ne.symm h))]
section
variable {W : World} {g g' : Nat} {b b0 : Bool} {A A0 B B0 : Option Addr} {n k m d n0 k0 m0 d0 : Nat}
theorem BoxR.new (W : World) (b : Bool) (A : Option Addr) (n k : Nat) (B : Option Addr) (m d : Nat) (T : TypeId) : BoxR (W.alloc (.cells #[.bool b, .slice A n k, .slice B m d] T)) W.heap.size b A n k B m d := ⟨by simp [go_sem], by simp [go_sem], by simp [go_sem]⟩
theorem BoxR.alloc (h : BoxR W g b A n k B m d) (o : Obj) : BoxR (W.alloc o) g b A n k B m d := ⟨keep_alloc h.1, keep_alloc h.2.1, keep_alloc h.2.2⟩
theorem BoxR.otherZ {u v : Value} (h : BoxR W g b A n k B m d) (hne : g ≠ g') : BoxR ((W.setCell ⟨g', 0, none⟩ u).setCell ⟨g', 1, none⟩ v) g b A n k B m d := ⟨(cell_store hne).trans h.1, (cell_store hne).trans h.2.1, (cell_store hne).trans h.2.2⟩
theorem BoxR.other {u v x : Value} (h : BoxR W g b A n k B m d) (hne : g ≠ g') : BoxR (putR W g' u v x) g b A n k B m d := ⟨(cell_putR hne).trans h.1, (cell_putR hne).trans h.2.1, (cell_putR hne).trans h.2.2⟩
theorem Box.otherR {u v x : Value} (h : Box W g b A n k) (hne : g ≠ g') : Box (putR W g' u v x) g b A n k := ⟨(cell_putR hne).trans h.1, (cell_putR hne).trans h.2⟩
theorem BoxR.put (h : BoxR W g b0 A0 n0 k0 B0 m0 d0) (b : Bool) (A : Option Addr) (n k : Nat) (B : Option Addr) (m d : Nat) : BoxR (putR W g (.bool b) (.slice A n k) (.slice B m d)) g b A n k B m d := by
  have e1 : (W.setCell ⟨g, 0, none⟩ (.bool b)).cell? ⟨g, 1, none⟩ = some (.slice A0 n0 k0) := (World.cell?_setCell_other W _ _ _ (addr_ne (by omega))).trans h.2.1
  have e2 : ((W.setCell ⟨g, 0, none⟩ (.bool b)).setCell ⟨g, 1, none⟩ (.slice A n k)).cell? ⟨g, 2, none⟩ = some (.slice B0 m0 d0) := (World.cell?_setCell_other _ _ _ _ (addr_ne (by omega))).trans ((World.cell?_setCell_other W _ _ _ (addr_ne (by omega))).trans h.2.2)
  unfold putR
  refine ⟨?_, ?_, ?_⟩
  · rw [World.cell?_setCell_other (h := addr_ne (by omega)), World.cell?_setCell_other (h := addr_ne (by omega))]
    exact World.cell?_setCell_same _ _ _ h.1
  · rw [World.cell?_setCell_other (h := addr_ne (by omega))]
    exact World.cell?_setCell_same _ _ _ e1
  · exact World.cell?_setCell_same _ _ _ e2
theorem Num.putR {A : Option Addr} {n c x : Nat} (h : Num W A n c x) (hb : BoxR W g b0 A0 n0 k0 B0 m0 d0) (u v y : Value) : Num (putR W g u v y) A n c x := by
  have e1 : (W.setCell ⟨g, 0, none⟩ u).cell? ⟨g, 1, none⟩ = some (.slice A0 n0 k0) := (World.cell?_setCell_other W _ _ _ (addr_ne (by omega))).trans hb.2.1
  have e2 : ((W.setCell ⟨g, 0, none⟩ u).setCell ⟨g, 1, none⟩ v).cell? ⟨g, 2, none⟩ = some (.slice B0 m0 d0) := (World.cell?_setCell_other _ _ _ _ (addr_ne (by omega))).trans ((World.cell?_setCell_other W _ _ _ (addr_ne (by omega))).trans hb.2.2)
  exact ((h.set_other hb.1 (fun _ _ e => by cases e)).set_other e1 (fun _ _ e => by cases e)).set_other e2 (fun _ _ e => by cases e)
theorem Zn.putR {z : Int} {c : Nat} (h : Zn W b A n c z) (hb : BoxR W g b0 A0 n0 k0 B0 m0 d0) (u v y : Value) : Zn (putR W g u v y) b A n c z := ⟨h.1.putR hb u v y, h.2⟩
theorem Rw.putR {p : Int} {q : Nat} (h : Rw W b A n k B m d p q) (hb : BoxR W g b0 A0 n0 k0 B0 m0 d0) (u v y : Value) : Rw (putR W g u v y) b A n k B m d p q := ⟨h.1.putR hb u v y, h.2.putR hb u v y⟩
theorem Rt.putR {r : Rat} (h : Rt W b A n k B m d r) (hb : BoxR W g b0 A0 n0 k0 B0 m0 d0) (u v y : Value) : Rt (putR W g u v y) b A n k B m d r := Rw.putR h hb u v y
theorem Rt.alloc {r : Rat} (h : Rt W b A n k B m d r) (o : Obj) : Rt (W.alloc o) b A n k B m d r := h.on (below_one _ _)
theorem below_putR {C g : Nat} {V W : World} (h : Below C V W) (hg : C ≤ g) (u v y : Value) : Below C V (putR W g u v y) := ((h.setCell (p := ⟨g, 0, none⟩) hg u).setCell (p := ⟨g, 1, none⟩) hg v).setCell (p := ⟨g, 2, none⟩) hg y
end

/-- Behind 'x, e := f(..)': a box, and what it holds. -/
def Lone (V U : World) (g : Nat) (b : Bool) (A : Option Addr) (n k : Nat) (B : Option Addr) (m d : Nat) (r : Rat) : Prop := BoxR U g b A n k B m d ∧ Rt U b A n k B m d r ∧ Below V.heap.size V U
section
variable {V wz : World} {g : Nat} {b : Bool} {A B : Option Addr} {n k m d : Nat} {r : Rat}
theorem loneA (h : Rt wz b A n k B m d r) (qq : Below V.heap.size V wz) (T : TypeId) : Lone V (wz.alloc (.cells #[.bool b, .slice A n k, .slice B m d] T)) wz.heap.size b A n k B m d r := ⟨BoxR.new wz b A n k B m d T, h.alloc _, qq.alloc qq.size _⟩
theorem loneB (o0 : wz.cell? ⟨g, 0, none⟩ = some (.bool false)) (o1 : wz.cell? ⟨g, 1, none⟩ = some (.slice none 0 0)) (o2 : wz.cell? ⟨g, 2, none⟩ = some (.slice none 0 0)) (h : Rt wz b A n k B m d r) (qq : Below V.heap.size V wz) (l : V.heap.size ≤ g) : Lone V (putR wz g (.bool b) (.slice A n k) (.slice B m d)) g b A n k B m d r := have o : BoxR wz g false none 0 0 none 0 0 := ⟨o0, o1, o2⟩; ⟨o.put b A n k B m d, h.putR o _ _ _, below_putR qq l _ _ _⟩
end

theorem gcd_len {p q k : Nat} (hq : q ≠ 0) (h : (limbs q).length ≤ k) : (limbs (Nat.gcd p q)).length ≤ k := Nat.le_trans (limbs_length_mono (Nat.le_of_dvd (by omega) (Nat.gcd_dvd_right p q))) h

set_option maxRecDepth 100000 in
set_option maxHeartbeats 2000000 in
theorem rtmake_N {w : World} {b : Bool} {A B : Option Addr} {n c m d q : Nat} {p : Int} (ha : Zn w b A n c p) (hb : Num w B m d q) (hq : q ≠ 0) (hx : (limbs p.natAbs).length ≤ 100) (hy : (limbs q).length ≤ 100) :
    Calls Try.prog 14 #[.agg #[.bool b, .slice A n c], .slice B m d] w (GotRp w (mkRat p q) 0) := by
  have hm := hb.some_len hq
  have hm0 : ((m : Int) == 0) = false := beq_eq_false_iff_ne.2 (by omega)
  have hg := Nat.gcd_pos_of_pos_right p.natAbs (show 0 < q by omega)
  have HQ := Lib.hid hg
  have HN : Hid ((mkRat p q).num.natAbs = p.natAbs / Nat.gcd p.natAbs q) := Lib.hid (mkRat_abs p q hq)
  have HD : Hid ((mkRat p q).den = q / Nat.gcd p.natAbs q) := Lib.hid (mkRat_den p q hq)
  have HS : Hid (decide ((mkRat p q).num < 0) = decide (p < 0)) := Lib.hid (mkRat_neg p q hq)
  have hgl := gcd_len (p := p.natAbs) hq hy
  obtain ⟨W, hW⟩ : ∃ W, (w.alloc (.cells #[.bool b, .slice A n c] 25)).alloc (.cells #[.bool false, .slice none 0 0, .slice none 0 0] 27) = W := ⟨_, rfl⟩
  have hB : Below w.heap.size w W := by rw [← hW]; exact below_two w _ _
  have hsz : W.heap.size = w.heap.size + 2 := by rw [← hW]; simp
  have c1 : W.cell? ⟨w.heap.size, 0, none⟩ = some (.bool b) := by rw [← hW]; simp [go_sem]
  have c2 : W.cell? ⟨w.heap.size, 1, none⟩ = some (.slice A n c) := by rw [← hW]; simp [go_sem]
  have d1 : W.cell? ⟨w.heap.size + 1, 0, none⟩ = some (.bool false) := by rw [← hW]; simp [go_sem]
  have d2 : W.cell? ⟨w.heap.size + 1, 1, none⟩ = some (.slice none 0 0) := by rw [← hW]; simp [go_sem]
  have d3 : W.cell? ⟨w.heap.size + 1, 2, none⟩ = some (.slice none 0 0) := by rw [← hW]; simp [go_sem]
  have f1 : W.frozen? ⟨w.heap.size + 1, 0, none⟩ = false := by rw [← hW]; simp [go_sem]
  have f2 : W.frozen? ⟨w.heap.size + 1, 1, none⟩ = false := by rw [← hW]; simp [go_sem]
  have f3 : W.frozen? ⟨w.heap.size + 1, 2, none⟩ = false := by rw [← hW]; simp [go_sem]
  have ha' := ha.1.on hB
  have hb' := hb.on hB
  have HSZ := Lib.hid hsz
  clear hsz hg
  go_enter Try.func14, Try.ntmps14
  go_wp2_with fail
  clear hW
  refine (rgcd_N ha' hb' (by omega) (by omega)).mono ?_
  rintro e w1 ⟨A1, n1, k1, rfl, hm1, b1⟩
  have hsz := HSZ.out
  have c1' := (b1.cell (p := ⟨w.heap.size, 0, none⟩) (by simp; omega)).trans c1
  have c2' := (b1.cell (p := ⟨w.heap.size, 1, none⟩) (by simp; omega)).trans c2
  clear hsz
  go_wp2_with fail
  refine (rdiv_N (ha'.on b1) hm1 (by omega) (by omega) (by have := HQ.out; omega)).mono ?_
  rintro e w2 ⟨A2, n2, k2, A3, n3, k3, rfl, hm2, hm3, b2⟩
  have b12 := b1.trans (b2.mono b1.size)
  go_wp2_with fail
  refine (rdiv_N (hb'.on b12) (hm1.on b2) (by omega) (by omega) (by have := HQ.out; omega)).mono ?_
  rintro e w3 ⟨A4, n4, k4, A5, n5, k5, rfl, hm4, hm5, b3⟩
  have b13 := b12.trans (b3.mono b12.size)
  have hsz := HSZ.out
  have g1 := (b13.cell (p := ⟨w.heap.size, 0, none⟩) (by simp; omega)).trans c1
  have e1 := (b13.cell (p := ⟨w.heap.size + 1, 0, none⟩) (by simp; omega)).trans d1
  have e2 := (b13.cell (p := ⟨w.heap.size + 1, 1, none⟩) (by simp; omega)).trans d2
  have e3 := (b13.cell (p := ⟨w.heap.size + 1, 2, none⟩) (by simp; omega)).trans d3
  have e4 := (b13.frozen (p := ⟨w.heap.size + 1, 0, none⟩) (by simp; omega)).trans f1
  have e5 := (b13.frozen (p := ⟨w.heap.size + 1, 1, none⟩) (by simp; omega)).trans f2
  have e6 := (b13.frozen (p := ⟨w.heap.size + 1, 2, none⟩) (by simp; omega)).trans f3
  have HB := hB.trans (b13.mono hB.size)
  have hz : Rt w3 b A2 n2 k2 A4 n4 k4 (mkRat p q) := by
    refine ⟨⟨?_, ?_⟩, ?_⟩
    · rw [HN.out]; exact hm2.on b3
    · rw [HS.out]; exact ha.2
    · rw [HD.out]; exact hm4
  have HZ := Lib.hid hz
  clear hsz hz
  go_wp2_with fail
  have eb : BoxR w3 (w.heap.size + 1) false none 0 0 none 0 0 := ⟨e1, e2, e3⟩
  refine bodyPost_ret (v := .tuple #[.agg #[.bool b, .slice A2 n2 k2, .slice A4 n4 k4], .int .i64 0]) (by simp [results, Try.results14, go_sem, e1, e2, e3]) rfl ⟨_, _, _, _, _, _, _, rfl, HZ.out.putR eb _ _ _, below_putR HB (by omega) _ _ _⟩
end Go.Proofs.Ytgnhioffamfakaa
