/-
  Several texts in one: Z4, Z5, Z6, Z7.
-/
import Derived.Test.YtchbhmcaalkfdaaA3
import Derived.Deep.RegionHeld3
import Derived.Test.YtchbhmcaalkfdaaA2

/-
  Integers in memory, and the contracts of the fourth reference: made, Right, Same, Neg, Cmp.
-/
namespace Go.Proofs.Ytchbhmcaalkfdaa
open Go.RowKit

/-- The value '.agg #[.bool b, .slice A n c]' stands for the integer z. -/
def Zn (w : World) (b : Bool) (A : Option Addr) (n c : Nat) (z : Int) : Prop := Num w A n c z.natAbs ∧ b = decide (z < 0)
theorem Zn.on {w w' : World} {b : Bool} {A : Option Addr} {n c : Nat} {z : Int} (h : Zn w b A n c z) (hb : Below w.heap.size w w') : Zn w' b A n c z := ⟨h.1.on hb, h.2⟩
/-- A number with a side. -/
def sgn (b : Bool) (x : Nat) : Int := if b then -(x : Int) else (x : Int)
theorem sgn_abs (b : Bool) (x : Nat) : (sgn b x).natAbs = x := by unfold sgn; split <;> omega
theorem Zn.eq {w : World} {b : Bool} {A : Option Addr} {n c : Nat} {z : Int} (h : Zn w b A n c z) : z = sgn b z.natAbs := by
  rw [h.2]; unfold sgn
  by_cases hz : z < 0
  · simp [hz]; omega
  · simp [hz]; omega
/-- A call has answered an integer. -/
def GotZ (w : World) (z : Int) (e : Ending) (w' : World) : Prop := ∃ b A n c, e = .returned (.agg #[.bool b, .slice A n c]) ∧ Zn w' b A n c z ∧ Below w.heap.size w w'
theorem bcell {W w1 : World} (hb : Below W.heap.size W w1) : (∀ b o, b < W.heap.size → w1.cell? ⟨b, o, none⟩ = W.cell? ⟨b, o, none⟩) ∧ (∀ b o, b < W.heap.size → w1.frozen? ⟨b, o, none⟩ = W.frozen? ⟨b, o, none⟩) :=
  ⟨fun b o h => hb.cell (p := ⟨b, o, none⟩) h, fun b o h => hb.frozen (p := ⟨b, o, none⟩) h⟩

set_option maxHeartbeats 1000000 in
theorem made_N {w : World} {A : Option Addr} {n c x : Nat} (b : Bool) (ha : Num w A n c x) (hn : n ≤ 1000000) : Calls Try.prog 53 #[.bool b, .slice A n c] w (GotZ w (sgn b x)) := by
  have hl := ha.len
  by_cases h0 : n = 0
  · subst h0
    have hx : x = 0 := by
      have h2 := val_limbs x
      rw [List.eq_nil_of_length_eq_zero hl.symm] at h2
      exact h2.symm
    subst hx
    have hz : Zn w false A 0 c (sgn b 0) := by
      refine ⟨by rw [sgn_abs]; exact ha, ?_⟩
      unfold sgn; split <;> rfl
    clear hl
    cases b
    all_goals
      go_enter Try.func53, Try.ntmps53
      go_wp2_with fail
      refine bodyPost_ret (v := .agg #[.bool false, .slice A 0 c]) (by simp [results, Try.results53, go_sem]) rfl ⟨_, _, _, _, rfl, hz.on ?_, ?_⟩
      all_goals exact (Below.refl _ w).alloc (Nat.le_refl _) _
  · have hx : x ≠ 0 := fun h => by rw [h, limbs_zero] at hl; simp at hl; omega
    have hn0 : (0 : Int) < (n : Int) := by omega
    have hz : Zn w b A n c (sgn b x) := by
      refine ⟨by rw [sgn_abs]; exact ha, ?_⟩
      unfold sgn
      cases b
      · simp
      · simp; omega
    clear hl
    cases b
    all_goals
      go_enter Try.func53, Try.ntmps53
      go_wp2_with fail
    · refine bodyPost_ret (v := .agg #[.bool false, .slice A n c]) (by simp [results, Try.results53, go_sem]) rfl ⟨_, _, _, _, rfl, hz.on ?_, ?_⟩
      all_goals exact (Below.refl _ w).alloc (Nat.le_refl _) _
    · refine bodyPost_ret (v := .agg #[.bool true, .slice A n c]) (by simp [results, Try.results53, go_sem]; omega) rfl ⟨_, _, _, _, rfl, hz.on ?_, ?_⟩
      all_goals exact (Below.refl _ w).alloc (Nat.le_refl _) _

/-- The boxes of two structs that came in. -/
theorem below_two (w : World) (o o' : Obj) : Below w.heap.size w ((w.alloc o).alloc o') := ((Below.refl _ w).alloc (Nat.le_refl _) _).alloc (by simp) _
theorem below_one (w : World) (o : Obj) : Below w.heap.size w (w.alloc o) := (Below.refl _ w).alloc (Nat.le_refl _) _

/-- An integer's form is right. -/
def okZ (b : Bool) (n : Nat) (l : List Nat) : Bool := canon l && (decide (0 < n) || !b)

set_option maxHeartbeats 1000000 in
theorem rzright_any {w : World} {b : Bool} {A : Option Addr} {n c : Nat} {l : List Nat} (r : Bool) (h : Lim w.heap.size w A n c l) (hn : n ≤ 9223372036854775807) (hr : okZ b n l = r) :
    Calls Try.prog 33 #[.agg #[.bool b, .slice A n c]] w (GotV w (.bool r)) := by
  have hB := below_one w (.cells #[.bool b, .slice A n c] 25)
  have h' := h.on hB
  cases hc : canon l with
  | false =>
    have hr2 : r = false := by rw [← hr]; simp [okZ, hc]
    subst hr2
    go_enter Try.func33, Try.ntmps33
    go_wp2_with (go_at_call 57; refine (rright_any _ _ _ _ _ false _ h' hn hc).mono ?_; rintro e w' ⟨rfl, rfl⟩)
    go_ret
    exact ⟨rfl, hB⟩
  | true =>
    by_cases h0 : 0 < n
    · have hr2 : r = true := by rw [← hr]; simp [okZ, hc, h0]
      subst hr2
      have hi : (0 : Int) < (n : Int) := by omega
      go_enter Try.func33, Try.ntmps33
      go_wp2_with (go_at_call 57; refine (rright_any _ _ _ _ _ true _ h' hn hc).mono ?_; rintro e w' ⟨rfl, rfl⟩)
      go_ret
      exact ⟨rfl, hB⟩
    · have hr2 : r = !b := by rw [← hr]; simp [okZ, hc, h0]
      subst hr2
      have hi : ¬ (0 : Int) < (n : Int) := by omega
      go_enter Try.func33, Try.ntmps33
      go_wp2_with (go_at_call 57; refine (rright_any _ _ _ _ _ true _ h' hn hc).mono ?_; rintro e w' ⟨rfl, rfl⟩)
      go_ret
      exact ⟨rfl, hB⟩

theorem zn_inj {w w' : World} {b b' : Bool} {A B : Option Addr} {n c m d : Nat} {z z' : Int} (ha : Zn w b A n c z) (hb : Zn w' b' B m d z') : (z = z' ↔ b = b' ∧ z.natAbs = z'.natAbs) := by
  constructor
  · intro h; subst h; exact ⟨ha.2.trans hb.2.symm, rfl⟩
  · intro ⟨h1, h2⟩
    rw [ha.eq, hb.eq, h1, h2]

set_option maxHeartbeats 1000000 in
theorem zsame_N {w : World} {b b' : Bool} {A B : Option Addr} {n c m d : Nat} {z z' : Int} (r : Bool) (ha : Zn w b A n c z) (hb : Zn w b' B m d z') (hx : (limbs z.natAbs).length ≤ 1000000) (hy : (limbs z'.natAbs).length ≤ 1000000) (hr : decide (z = z') = r) :
    Calls Try.prog 20 #[.agg #[.bool b, .slice A n c], .agg #[.bool b', .slice B m d]] w (GotV w (.bool r)) := by
  have hB := below_two w (.cells #[.bool b, .slice A n c] 25) (.cells #[.bool b', .slice B m d] 25)
  have ha' := ha.1.on hB
  have hb' := hb.1.on hB
  have hi := zn_inj ha hb
  by_cases h1 : b = b'
  · have h1b : (b == b') = true := by simp [h1]
    by_cases h2 : z.natAbs = z'.natAbs
    · have hr2 : r = true := by rw [← hr]; simp [hi, h1, h2]
      subst hr2
      have HE := Lib.hid h2
      clear hr hi h1 h2
      go_enter Try.func20, Try.ntmps20
      go_wp2_with fail
      refine (same_N ha' hb' (by omega) (by omega) HE.out).mono ?_
      rintro e w1 ⟨rfl, b1⟩
      go_wp2_with fail
      go_ret
      exact ⟨rfl, hB.trans (b1.mono hB.size)⟩
    · have hr2 : r = false := by rw [← hr]; simp [hi, h2]
      subst hr2
      have HE := Lib.hid h2
      clear hr hi h1 h2
      go_enter Try.func20, Try.ntmps20
      go_wp2_with fail
      refine (same_not_N ha' hb' (by omega) (by omega) HE.out).mono ?_
      rintro e w1 ⟨rfl, b1⟩
      go_wp2_with fail
      go_ret
      exact ⟨rfl, hB.trans (b1.mono hB.size)⟩
  · have h1b : (b == b') = false := by simp [h1]
    have hr2 : r = false := by rw [← hr]; simp [hi, h1]
    subst hr2
    clear hr hi h1
    go_enter Try.func20, Try.ntmps20
    go_wp2_with fail
    go_ret
    exact ⟨rfl, hB⟩

theorem Zn.stored {w : World} {s : Nat} {b b0 : Bool} {A A0 : Option Addr} {n c n0 c0 : Nat} {z : Int} (h : Zn w b A n c z) (h0 : w.cell? ⟨s, 0, none⟩ = some (.bool b0)) (h1 : w.cell? ⟨s, 1, none⟩ = some (.slice A0 n0 c0)) :
    Zn ((w.setCell ⟨s, 0, none⟩ (.bool b)).setCell ⟨s, 1, none⟩ (.slice A n c)) b A n c z := by
  refine ⟨(h.1.set_other h0 (fun _ _ e => by cases e)).set_other (u := .slice A0 n0 c0) ?_ (fun _ _ e => by cases e), h.2⟩
  have hne : (⟨s, 0, none⟩ : Addr) ≠ ⟨s, 1, none⟩ := fun e => by injection e with _ e2; omega
  rw [World.cell?_setCell_other (h := hne)]
  exact h1

theorem sgn_neg {b : Bool} {z : Int} (hb : b = decide (z < 0)) : sgn (!b) z.natAbs = -z := by
  subst hb; unfold sgn
  by_cases h : z < 0
  · simp [h]; omega
  · simp [h]; omega

set_option maxHeartbeats 1000000 in
theorem rzneg_N {w : World} {b : Bool} {A : Option Addr} {n c : Nat} {z : Int} (ha : Zn w b A n c z) (hx : (limbs z.natAbs).length ≤ 1000000) :
    Calls Try.prog 28 #[.agg #[.bool b, .slice A n c]] w (GotZ w (-z)) := by
  have hs := sgn_neg ha.2
  have hn : n ≤ 1000000 := by rw [ha.1.len]; exact hx
  obtain ⟨W, hW⟩ : ∃ W, (w.alloc (.cells #[.bool b, .slice A n c] 25)).alloc (.cells #[.bool false, .slice none 0 0] 25) = W := ⟨_, rfl⟩
  have hB := below_two w (.cells #[.bool b, .slice A n c] 25) (.cells #[.bool false, .slice none 0 0] 25)
  have ha' := ha.1.on hB
  have HS := Lib.hid hs
  clear hs hW
  go_enter Try.func28, Try.ntmps28
  go_wp2_with fail
  refine (made_N (!b) ha' hn).mono ?_
  rintro e w1 ⟨b1, A1, n1, c1, rfl, hz, hb1⟩
  rw [HS.out] at hz
  obtain ⟨hc, hf⟩ := bcell hb1
  have hsz := hb1.size
  simp at hsz
  have e0 := (hc (w.heap.size + 1) 0 (by simp)).trans (show _ = some (.bool false) by simp)
  have e1 := (hc (w.heap.size + 1) 1 (by simp)).trans (show _ = some (.slice none 0 0) by simp)
  have HZ := Lib.hid (hz.stored e0 e1)
  have HB : Below w.heap.size w w1 := hB.trans (hb1.mono hB.size)
  go_wp2_with fail
  refine bodyPost_ret (v := .agg #[.bool b1, .slice A1 n1 c1]) (by simp [results, Try.results28, go_sem, e0, e1]) rfl ⟨_, _, _, _, rfl, HZ.out, ?_⟩
  exact (HB.setCell (p := ⟨w.heap.size + 1, 0, none⟩) (Nat.le_succ _) _).setCell (p := ⟨w.heap.size + 1, 1, none⟩) (Nat.le_succ _) _


end Go.Proofs.Ytchbhmcaalkfdaa

/-
  The contracts of the fourth reference: Cmp, Mul, Add, Of, Int, Few.
-/
namespace Go.Proofs.Ytchbhmcaalkfdaa
open Go.RowKit

/-- Which of two integers is greater. -/
def cmpZ (a b : Int) : Int := if a < b then -1 else if b < a then 1 else 0
theorem cmpN_bd (a b : Nat) : -1 ≤ cmpN a b ∧ cmpN a b ≤ 1 := by unfold cmpN; split <;> (try split) <;> omega
theorem cmpZ_neg {z z' : Int} (h : z < 0) (h' : z' < 0) : cmpZ z z' = -cmpN z.natAbs z'.natAbs := by
  unfold cmpZ cmpN
  by_cases h1 : z < z'
  · rw [if_pos h1, if_neg (by omega), if_pos (by omega)]
  · rw [if_neg h1]
    by_cases h2 : z' < z
    · rw [if_pos h2, if_pos (by omega)]; rfl
    · rw [if_neg h2, if_neg (by omega), if_neg (by omega)]; rfl
theorem cmpZ_pos {z z' : Int} (h : ¬ z < 0) (h' : ¬ z' < 0) : cmpZ z z' = cmpN z.natAbs z'.natAbs := by
  have e1 : (z < z') ↔ (z.natAbs < z'.natAbs) := by omega
  have e2 : (z' < z) ↔ (z'.natAbs < z.natAbs) := by omega
  unfold cmpZ cmpN
  simp only [e1, e2]
theorem cmpZ_np {z z' : Int} (h : z < 0) (h' : ¬ z' < 0) : cmpZ z z' = -1 := by unfold cmpZ; rw [if_pos (by omega)]
theorem cmpZ_pn {z z' : Int} (h : ¬ z < 0) (h' : z' < 0) : cmpZ z z' = 1 := by unfold cmpZ; rw [if_neg (by omega), if_pos (by omega)]

set_option maxHeartbeats 2000000 in
theorem rzcmp_N {w : World} {b b' : Bool} {A B : Option Addr} {n c m d : Nat} {z z' : Int} (ha : Zn w b A n c z) (hb : Zn w b' B m d z') (hx : (limbs z.natAbs).length ≤ 1000000) (hy : (limbs z'.natAbs).length ≤ 1000000) :
    Calls Try.prog 29 #[.agg #[.bool b, .slice A n c], .agg #[.bool b', .slice B m d]] w (GotV w (.int .i64 (cmpZ z z'))) := by
  have hB := below_two w (.cells #[.bool b, .slice A n c] 25) (.cells #[.bool b', .slice B m d] 25)
  have ha' := ha.1.on hB
  have hb' := hb.1.on hB
  have s1 := ha.2
  have s2 := hb.2
  obtain ⟨r, hr⟩ : ∃ r, cmpN z.natAbs z'.natAbs = r := ⟨_, rfl⟩
  have hbd := cmpN_bd z.natAbs z'.natAbs
  rw [hr] at hbd
  have hcall := rcmp_N ha' hb' (by omega) (by omega)
  rw [hr] at hcall
  have HC := Lib.hid hcall
  have HR := Lib.hid hr
  obtain ⟨r1, r2⟩ := hbd
  clear hcall hr ha' hb'
  cases b with
  | true =>
    have hz : z < 0 := by simpa using s1.symm
    cases b' with
    | true =>
      have hz' : z' < 0 := by simpa using s2.symm
      have HE := Lib.hid (cmpZ_neg hz hz')
      clear s1 s2 hz hz' ha hb
      go_enter Try.func29, Try.ntmps29
      go_wp2_with fail
      refine HC.out.mono ?_
      rintro e w1 ⟨rfl, b1⟩
      obtain ⟨hc, hf⟩ := bcell b1
      have hsz := b1.size
      simp at hsz
      go_wp2_with fail
      go_ret
      refine ⟨ret_i64 ?_, hB.trans (b1.mono hB.size)⟩
      rw [HE.out, HR.out]
    | false =>
      have hz' : ¬ z' < 0 := by simpa using s2.symm
      have HE := Lib.hid (cmpZ_np hz hz')
      clear s1 s2 hz hz' ha hb
      go_enter Try.func29, Try.ntmps29
      go_wp2_with fail
      go_ret
      rw [HE.out]
      exact ⟨rfl, hB⟩
  | false =>
    have hz : ¬ z < 0 := by simpa using s1.symm
    cases b' with
    | true =>
      have hz' : z' < 0 := by simpa using s2.symm
      have HE := Lib.hid (cmpZ_pn hz hz')
      clear s1 s2 hz hz' ha hb
      go_enter Try.func29, Try.ntmps29
      go_wp2_with fail
      go_ret
      rw [HE.out]
      exact ⟨rfl, hB⟩
    | false =>
      have hz' : ¬ z' < 0 := by simpa using s2.symm
      have HE := Lib.hid (cmpZ_pos hz hz')
      clear s1 s2 hz hz' ha hb
      go_enter Try.func29, Try.ntmps29
      go_wp2_with fail
      refine HC.out.mono ?_
      rintro e w1 ⟨rfl, b1⟩
      obtain ⟨hc, hf⟩ := bcell b1
      have hsz := b1.size
      simp at hsz
      go_wp2_with fail
      go_ret
      refine ⟨ret_i64 ?_, hB.trans (b1.mono hB.size)⟩
      rw [HE.out, HR.out]

set_option maxHeartbeats 1000000 in
theorem rzfew_any {w : World} {b : Bool} {A : Option Addr} {n c : Nat} {l : List Nat} (most : Int) (r : Bool) (h : Lim w.heap.size w A n c l) (hn : n ≤ 9223372036854775807) (hr : (decide ((n : Int) ≤ most) && okZ b n l) = r) :
    Calls Try.prog 10 #[.agg #[.bool b, .slice A n c], .int .i64 most] w (GotV w (.bool r)) := by
  have hB := below_one w (.cells #[.bool b, .slice A n c] 25)
  by_cases h1 : (n : Int) ≤ most
  · have hr2 : okZ b n l = r := by rw [← hr]; simp [h1]
    clear hr
    have HC := Lib.hid (rzright_any (b := b) r (h.on hB) hn hr2)
    clear hr2
    go_enter Try.func10, Try.ntmps10
    go_wp2_with fail
    refine HC.out.mono ?_
    rintro e w1 ⟨rfl, b1⟩
    go_wp2_with fail
    go_ret
    exact ⟨rfl, hB.trans (b1.mono hB.size)⟩
  · have hr2 : r = false := by rw [← hr]; simp [h1]
    subst hr2
    clear hr
    go_enter Try.func10, Try.ntmps10
    go_wp2_with fail
    go_ret
    exact ⟨rfl, hB⟩

theorem sgn_mul {b b' : Bool} {z z' : Int} (hb : b = decide (z < 0)) (hb' : b' = decide (z' < 0)) : sgn (b != b') (z.natAbs * z'.natAbs) = z * z' := by
  subst hb; subst hb'
  obtain ⟨x, hx⟩ : ∃ x : Nat, z.natAbs = x := ⟨_, rfl⟩
  obtain ⟨y, hy⟩ : ∃ y : Nat, z'.natAbs = y := ⟨_, rfl⟩
  unfold sgn
  by_cases h1 : z < 0
  · have e1 : z = -(x : Int) := by omega
    by_cases h2 : z' < 0
    · have e2 : z' = -(y : Int) := by omega
      simp only [h1, h2, hx, hy]
      simp [e1, e2, Int.neg_mul_neg]
    · have e2 : z' = (y : Int) := by omega
      simp only [h1, h2, hx, hy]
      simp [e1, e2, Int.neg_mul]
  · have e1 : z = (x : Int) := by omega
    by_cases h2 : z' < 0
    · have e2 : z' = -(y : Int) := by omega
      simp only [h1, h2, hx, hy]
      simp [e1, e2, Int.mul_neg]
    · have e2 : z' = (y : Int) := by omega
      simp only [h1, h2, hx, hy]
      simp [e1, e2]

theorem cell_store {w : World} {s b o : Nat} {u v : Value} (h : b ≠ s) : ((w.setCell ⟨s, 0, none⟩ u).setCell ⟨s, 1, none⟩ v).cell? ⟨b, o, none⟩ = w.cell? ⟨b, o, none⟩ := by
  have h0 : (⟨s, 0, none⟩ : Addr) ≠ ⟨b, o, none⟩ := fun e => by injection e with e1; omega
  have h1 : (⟨s, 1, none⟩ : Addr) ≠ ⟨b, o, none⟩ := fun e => by injection e with e1; omega
  rw [World.cell?_setCell_other (h := h1), World.cell?_setCell_other (h := h0)]

set_option maxRecDepth 100000 in
set_option maxHeartbeats 2000000 in
theorem rzmul_N {w : World} {b b' : Bool} {A B : Option Addr} {n c m d : Nat} {z z' : Int} (ha : Zn w b A n c z) (hb : Zn w b' B m d z') (hx : (limbs z.natAbs).length ≤ 1000) (hy : (limbs z'.natAbs).length ≤ 1000) :
    Calls Try.prog 77 #[.agg #[.bool b, .slice A n c], .agg #[.bool b', .slice B m d]] w (GotZ w (z * z')) := by
  obtain ⟨W, hW⟩ : ∃ W, ((w.alloc (.cells #[.bool b, .slice A n c] 25)).alloc (.cells #[.bool b', .slice B m d] 25)).alloc (.cells #[.bool false, .slice none 0 0] 25) = W := ⟨_, rfl⟩
  have hB : Below w.heap.size w W := by rw [← hW]; exact (below_two w (.cells #[.bool b, .slice A n c] 25) (.cells #[.bool b', .slice B m d] 25)).alloc (by simp; omega) (.cells #[.bool false, .slice none 0 0] 25)
  have hsz : W.heap.size = w.heap.size + 3 := by rw [← hW]; simp
  have hBd : Below w.heap.size w W.drew := below_drewN hB 1
  have ha' : Num W.drew A n c z.natAbs := ha.1.on hBd
  have hb' : Num W.drew B m d z'.natAbs := hb.1.on hBd
  have c1 : W.cell? ⟨w.heap.size, 0, none⟩ = some (.bool b) := by rw [← hW]; simp [go_sem]
  have c2 : W.cell? ⟨w.heap.size, 1, none⟩ = some (.slice A n c) := by rw [← hW]; simp [go_sem]
  have c3 : W.cell? ⟨w.heap.size + 1, 0, none⟩ = some (.bool b') := by rw [← hW]; simp [go_sem]
  have c4 : W.cell? ⟨w.heap.size + 1, 1, none⟩ = some (.slice B m d) := by rw [← hW]; simp [go_sem]
  have c5 : W.cell? ⟨w.heap.size + 1 + 1, 0, none⟩ = some (.bool false) := by rw [← hW]; simp [go_sem]
  have c6 : W.cell? ⟨w.heap.size + 1 + 1, 1, none⟩ = some (.slice none 0 0) := by rw [← hW]; simp [go_sem]
  have c7 : W.frozen? ⟨w.heap.size + 1 + 1, 0, none⟩ = false := by rw [← hW]; simp [go_sem]
  have c8 : W.frozen? ⟨w.heap.size + 1 + 1, 1, none⟩ = false := by rw [← hW]; simp [go_sem]
  have HS : Hid (sgn (!(b == b')) (z.natAbs * z'.natAbs) = z * z') := Lib.hid (sgn_mul ha.2 hb.2)
  have hl := limbs_length_mul hx hy
  have hcall : Calls Try.prog 55 #[.slice A n c, .slice B m d] W.drew fun e w' => ∃ A1 n1 c1, e = .returned (.slice A1 n1 c1) ∧ Num w' A1 n1 c1 (z.natAbs * z'.natAbs) ∧ Below W.heap.size W w' := (rmul_N ha' hb' (by omega) (by omega)).mono fun _ _ ⟨A1, n1, c1, he, hm, hb⟩ => ⟨A1, n1, c1, he, hm, ⟨hb.os, hb.tape, hb.output, hb.size, hb.block⟩⟩
  have HC := Lib.hid hcall
  have HW := Lib.hid hW
  clear hcall
  go_enter Try.func77, Try.ntmps77
  go_wp2_with fail
  clear hW HW
  go_region_held3 (fun w' => w'.cell? ⟨w.heap.size, 0, none⟩ = some (.bool b) ∧ w'.cell? ⟨w.heap.size, 1, none⟩ = some (.slice A n c) ∧ w'.cell? ⟨w.heap.size + 1, 0, none⟩ = some (.bool b') ∧ w'.cell? ⟨w.heap.size + 1, 1, none⟩ = some (.slice B m d))
    (first | exact ⟨(cell_store (by omega)).trans ((hb1.cell (p := ⟨w.heap.size, 0, none⟩) (by simp; omega)).trans c1), (cell_store (by omega)).trans ((hb1.cell (p := ⟨w.heap.size, 1, none⟩) (by simp; omega)).trans c2), (cell_store (by omega)).trans ((hb1.cell (p := ⟨w.heap.size + 1, 0, none⟩) (by simp; omega)).trans c3), (cell_store (by omega)).trans ((hb1.cell (p := ⟨w.heap.size + 1, 1, none⟩) (by simp; omega)).trans c4)⟩ | go_keep | exact ⟨(hb1.cell (p := ⟨w.heap.size, 0, none⟩) (by simp; omega)).trans c1, (hb1.cell (p := ⟨w.heap.size, 1, none⟩) (by simp; omega)).trans c2, (hb1.cell (p := ⟨w.heap.size + 1, 0, none⟩) (by simp; omega)).trans c3, (hb1.cell (p := ⟨w.heap.size + 1, 1, none⟩) (by simp; omega)).trans c4⟩)
    (first
      | (go_at_call 55; (with_reducible refine HC.out.mono ?_); rintro e w1 ⟨A1, n1, k1, rfl, hm, hb1⟩)
      | (go_at_call 53; (with_reducible refine (made_N _ hm (by rw [hm.len]; omega)).mono ?_); rintro e w2 ⟨b2, A2, n2, k2, rfl, hz2, hb2⟩; replace hb1 := bK hb1 hb2; have e5 := (hb1.cell (p := ⟨w.heap.size + 1 + 1, 0, none⟩) (by simp; omega)).trans c5; have e6 := (hb1.cell (p := ⟨w.heap.size + 1 + 1, 1, none⟩) (by simp; omega)).trans c6; have e7 := (hb1.frozen (p := ⟨w.heap.size + 1 + 1, 0, none⟩) (by simp; omega)).trans c7; have e8 := (hb1.frozen (p := ⟨w.heap.size + 1 + 1, 1, none⟩) (by simp; omega)).trans c8))
  rw [HS.out] at hz2
  have HZ := Lib.hid (hz2.stored e5 e6)
  have HB : Below w.heap.size w w2 := hB.trans (hb1.mono hB.size)
  go_wp2_with fail
  refine bodyPost_ret (v := .agg #[.bool b2, .slice A2 n2 k2]) (by simp [results, Try.results77, go_sem, e5, e6]) rfl ⟨_, _, _, _, rfl, HZ.out, ?_⟩
  exact (HB.setCell (p := ⟨w.heap.size + 1 + 1, 0, none⟩) (show w.heap.size ≤ w.heap.size + 1 + 1 by omega) _).setCell (p := ⟨w.heap.size + 1 + 1, 1, none⟩) (show w.heap.size ≤ w.heap.size + 1 + 1 by omega) _

end Go.Proofs.Ytchbhmcaalkfdaa

/-
  The contracts of the fourth reference: Add, Of, Int.
-/
namespace Go.Proofs.Ytchbhmcaalkfdaa
open Go.RowKit

theorem sgn_same {b : Bool} {z z' : Int} (hb : b = decide (z < 0)) (hb' : b = decide (z' < 0)) : sgn b (z.natAbs + z'.natAbs) = z + z' := by
  by_cases h1 : z < 0
  · have h2 : z' < 0 := by simpa [h1] using hb.symm.trans hb'
    subst hb; unfold sgn; simp [h1]; omega
  · have h2 : ¬ z' < 0 := by have := hb.symm.trans hb'; simpa [h1] using this.symm
    subst hb; unfold sgn; simp [h1]; omega
theorem sgn_diff {b b' : Bool} {z z' : Int} (hb : b = decide (z < 0)) (hb' : b' = decide (z' < 0)) (hne : b ≠ b') (hle : z'.natAbs ≤ z.natAbs) : sgn b (z.natAbs - z'.natAbs) = z + z' := by
  subst hb; subst hb'
  unfold sgn
  by_cases h1 : z < 0
  · have h2 : ¬ z' < 0 := fun h => hne (by simp [h1, h])
    simp [h1]; omega
  · have h2 : z' < 0 := by
      by_cases h : z' < 0
      · exact h
      · exact absurd (by simp [h1, h]) hne
    simp [h1]; omega

/-- The boxes of two integers that came in, and of the one that goes out. -/
structure Box3 (w W : World) (b b' : Bool) (A B : Option Addr) (n c m d : Nat) : Prop where
  hB : Below w.heap.size w W
  sz : W.heap.size = w.heap.size + 3
  c1 : W.cell? ⟨w.heap.size, 0, none⟩ = some (.bool b)
  c2 : W.cell? ⟨w.heap.size, 1, none⟩ = some (.slice A n c)
  c3 : W.cell? ⟨w.heap.size + 1, 0, none⟩ = some (.bool b')
  c4 : W.cell? ⟨w.heap.size + 1, 1, none⟩ = some (.slice B m d)
  c5 : W.cell? ⟨w.heap.size + 1 + 1, 0, none⟩ = some (.bool false)
  c6 : W.cell? ⟨w.heap.size + 1 + 1, 1, none⟩ = some (.slice none 0 0)
  c7 : W.frozen? ⟨w.heap.size + 1 + 1, 0, none⟩ = false
  c8 : W.frozen? ⟨w.heap.size + 1 + 1, 1, none⟩ = false
theorem box3 {w W : World} {b b' : Bool} {A B : Option Addr} {n c m d : Nat} (hW : ((w.alloc (.cells #[.bool b, .slice A n c] 25)).alloc (.cells #[.bool b', .slice B m d] 25)).alloc (.cells #[.bool false, .slice none 0 0] 25) = W) : Box3 w W b b' A B n c m d := by
  refine ⟨?_, ?_, ?_, ?_, ?_, ?_, ?_, ?_, ?_, ?_⟩ <;> rw [← hW]
  · exact (below_two w (.cells #[.bool b, .slice A n c] 25) (.cells #[.bool b', .slice B m d] 25)).alloc (by simp; omega) (.cells #[.bool false, .slice none 0 0] 25)
  all_goals simp [go_sem]
theorem Box3.on {w W W' : World} {b b' : Bool} {A B : Option Addr} {n c m d : Nat} (h : Box3 w W b b' A B n c m d) (hb : Below W.heap.size W W') : Below w.heap.size w W' ∧ w.heap.size + 3 ≤ W'.heap.size ∧ W'.cell? ⟨w.heap.size, 0, none⟩ = some (.bool b) ∧ W'.cell? ⟨w.heap.size, 1, none⟩ = some (.slice A n c) ∧ W'.cell? ⟨w.heap.size + 1, 0, none⟩ = some (.bool b') ∧ W'.cell? ⟨w.heap.size + 1, 1, none⟩ = some (.slice B m d) ∧
    W'.cell? ⟨w.heap.size + 1 + 1, 0, none⟩ = some (.bool false) ∧ W'.cell? ⟨w.heap.size + 1 + 1, 1, none⟩ = some (.slice none 0 0) ∧ W'.frozen? ⟨w.heap.size + 1 + 1, 0, none⟩ = false ∧ W'.frozen? ⟨w.heap.size + 1 + 1, 1, none⟩ = false := by
  have hs := h.sz
  have hs' := hb.size
  refine ⟨h.hB.trans (hb.mono h.hB.size), by omega, ?_, ?_, ?_, ?_, ?_, ?_, ?_, ?_⟩
  · exact (hb.cell (p := ⟨w.heap.size, 0, none⟩) (by simp; omega)).trans h.c1
  · exact (hb.cell (p := ⟨w.heap.size, 1, none⟩) (by simp; omega)).trans h.c2
  · exact (hb.cell (p := ⟨w.heap.size + 1, 0, none⟩) (by simp; omega)).trans h.c3
  · exact (hb.cell (p := ⟨w.heap.size + 1, 1, none⟩) (by simp; omega)).trans h.c4
  · exact (hb.cell (p := ⟨w.heap.size + 1 + 1, 0, none⟩) (by simp; omega)).trans h.c5
  · exact (hb.cell (p := ⟨w.heap.size + 1 + 1, 1, none⟩) (by simp; omega)).trans h.c6
  · exact (hb.frozen (p := ⟨w.heap.size + 1 + 1, 0, none⟩) (by simp; omega)).trans h.c7
  · exact (hb.frozen (p := ⟨w.heap.size + 1 + 1, 1, none⟩) (by simp; omega)).trans h.c8

theorem below_undrew {W w' : World} (hb : Below W.drew.heap.size W.drew w') : Below W.heap.size W w' := ⟨hb.os, hb.tape, hb.output, hb.size, hb.block⟩

set_option maxRecDepth 100000 in
set_option maxHeartbeats 2000000 in
theorem rzadd_same {w : World} {b : Bool} {A B : Option Addr} {n c m d : Nat} {z z' : Int} (ha : Zn w b A n c z) (hb : Zn w b B m d z') (hx : (limbs z.natAbs).length ≤ 1000) (hy : (limbs z'.natAbs).length ≤ 1000) :
    Calls Try.prog 31 #[.agg #[.bool b, .slice A n c], .agg #[.bool b, .slice B m d]] w (GotZ w (z + z')) := by
  obtain ⟨W, hW⟩ : ∃ W, ((w.alloc (.cells #[.bool b, .slice A n c] 25)).alloc (.cells #[.bool b, .slice B m d] 25)).alloc (.cells #[.bool false, .slice none 0 0] 25) = W := ⟨_, rfl⟩
  have X := box3 hW
  have hBd : Below w.heap.size w W.drew := below_drewN X.hB 1
  have ha' : Num W.drew A n c z.natAbs := ha.1.on hBd
  have hb' : Num W.drew B m d z'.natAbs := hb.1.on hBd
  have HS := Lib.hid (sgn_same ha.2 hb.2)
  have hl := limbs_length_add hx hy
  have hcall : Calls Try.prog 39 #[.slice A n c, .slice B m d] W.drew fun e w' => ∃ A1 n1 c1, e = .returned (.slice A1 n1 c1) ∧ Num w' A1 n1 c1 (z.natAbs + z'.natAbs) ∧ Below W.heap.size W w' := (radd_N ha' hb' (by omega) (by omega)).mono fun _ _ ⟨A1, n1, c1, he, hm, hb⟩ => ⟨A1, n1, c1, he, hm, below_undrew hb⟩
  have HC := Lib.hid hcall
  have hc1 := X.c1
  have hc2 := X.c2
  have hc3 := X.c3
  have hc4 := X.c4
  clear hcall
  go_enter Try.func31, Try.ntmps31
  go_wp2_with fail
  clear hW
  go_region_held3 (fun w' => w'.cell? ⟨w.heap.size, 0, none⟩ = some (.bool b) ∧ w'.cell? ⟨w.heap.size, 1, none⟩ = some (.slice A n c) ∧ w'.cell? ⟨w.heap.size + 1, 0, none⟩ = some (.bool b) ∧ w'.cell? ⟨w.heap.size + 1, 1, none⟩ = some (.slice B m d))
    (first | exact ⟨(cell_store (by omega)).trans (X.on hb1).2.2.1, (cell_store (by omega)).trans (X.on hb1).2.2.2.1, (cell_store (by omega)).trans (X.on hb1).2.2.2.2.1, (cell_store (by omega)).trans (X.on hb1).2.2.2.2.2.1⟩ | go_keep | exact ⟨(X.on hb1).2.2.1, (X.on hb1).2.2.2.1, (X.on hb1).2.2.2.2.1, (X.on hb1).2.2.2.2.2.1⟩)
    (first
      | (go_at_call 39; (with_reducible refine HC.out.mono ?_); rintro e w1 ⟨A1, n1, k1, rfl, hm, hb1⟩)
      | (go_at_call 53; (with_reducible refine (made_N _ hm (by rw [hm.len]; omega)).mono ?_); rintro e w2 ⟨b2, A2, n2, k2, rfl, hz2, hb2⟩; replace hb1 := bK hb1 hb2; have e5 := (X.on hb1).2.2.2.2.2.2.1; have e6 := (X.on hb1).2.2.2.2.2.2.2.1; have e7 := (X.on hb1).2.2.2.2.2.2.2.2.1; have e8 := (X.on hb1).2.2.2.2.2.2.2.2.2))
  rw [HS.out] at hz2
  have HZ := Lib.hid (hz2.stored e5 e6)
  have HB := (X.on hb1).1
  go_wp2_with fail
  refine bodyPost_ret (v := .agg #[.bool b2, .slice A2 n2 k2]) (by simp [results, Try.results31, go_sem, e5, e6]) rfl ⟨_, _, _, _, rfl, HZ.out, ?_⟩
  exact (HB.setCell (p := ⟨w.heap.size + 1 + 1, 0, none⟩) (show w.heap.size ≤ w.heap.size + 1 + 1 by omega) _).setCell (p := ⟨w.heap.size + 1 + 1, 1, none⟩) (show w.heap.size ≤ w.heap.size + 1 + 1 by omega) _

set_option maxRecDepth 100000 in
set_option maxHeartbeats 2000000 in
theorem rzadd_first {w : World} {b b' : Bool} {A B : Option Addr} {n c m d : Nat} {z z' : Int} (ha : Zn w b A n c z) (hb : Zn w b' B m d z') (hx : (limbs z.natAbs).length ≤ 1000) (hy : (limbs z'.natAbs).length ≤ 1000) (hne : b ≠ b') (hle : z'.natAbs ≤ z.natAbs) :
    Calls Try.prog 31 #[.agg #[.bool b, .slice A n c], .agg #[.bool b', .slice B m d]] w (GotZ w (z + z')) := by
  obtain ⟨W, hW⟩ : ∃ W, ((w.alloc (.cells #[.bool b, .slice A n c] 25)).alloc (.cells #[.bool b', .slice B m d] 25)).alloc (.cells #[.bool false, .slice none 0 0] 25) = W := ⟨_, rfl⟩
  have X := box3 hW
  have ha' := ha.1.on X.hB
  have hb' := hb.1.on X.hB
  have HS := Lib.hid (sgn_diff ha.2 hb.2 hne hle)
  have hl : (limbs (z.natAbs - z'.natAbs)).length ≤ 1000 := Nat.le_trans (limbs_length_mono (Nat.sub_le _ _)) (by assumption)
  have hcm : 0 ≤ cmpN z.natAbs z'.natAbs := by
    rcases Nat.lt_or_ge z'.natAbs z.natAbs with h | h
    · rw [cmpN_gt h]; omega
    · rw [cmpN_zero.2 (by omega)]; omega
  have hneb : (b == b') = false := by simp [hne]
  have hc1 := X.c1
  have hc2 := X.c2
  have hc3 := X.c3
  have hc4 := X.c4
  go_enter Try.func31, Try.ntmps31
  go_wp2_with fail
  clear hW
  refine (rcmp_N ha' hb' (by omega) (by omega)).mono ?_
  rintro e w1 ⟨rfl, b1⟩
  have ha1 := ha'.on b1
  have hb1' := hb'.on b1
  obtain ⟨-, -, d1, d2, d3, d4, -, -, -, -⟩ := X.on b1
  clear ha' hb' hc1 hc2 hc3 hc4
  go_wp2_with fail
  refine (rsub_N ha1 hb1' (by omega) (by omega) hle).mono ?_
  rintro e w2 ⟨A2, n2, c2, rfl, hm, b2⟩
  have b12 := b1.trans (b2.mono b1.size)
  obtain ⟨-, -, f1, f2, f3, f4, -, -, -, -⟩ := X.on b12
  clear ha1 hb1' d1 d2 d3 d4 b1 b2
  go_wp2_with fail
  refine (made_N _ hm (by rw [hm.len]; omega)).mono ?_
  rintro e w3 ⟨b3, A3, n3, k3, rfl, hz3, b3'⟩
  have b13 := b12.trans (b3'.mono b12.size)
  obtain ⟨HB, -, -, -, -, -, e5, e6, e7, e8⟩ := X.on b13
  rw [HS.out] at hz3
  have HZ := Lib.hid (hz3.stored e5 e6)
  clear b12 b13 b3' f1 f2 f3 f4 hz3
  go_wp2_with fail
  refine bodyPost_ret (v := .agg #[.bool b3, .slice A3 n3 k3]) (by simp [results, Try.results31, go_sem, e5, e6]) rfl ⟨_, _, _, _, rfl, HZ.out, ?_⟩
  exact (HB.setCell (p := ⟨w.heap.size + 1 + 1, 0, none⟩) (show w.heap.size ≤ w.heap.size + 1 + 1 by omega) _).setCell (p := ⟨w.heap.size + 1 + 1, 1, none⟩) (show w.heap.size ≤ w.heap.size + 1 + 1 by omega) _

set_option maxRecDepth 100000 in
set_option maxHeartbeats 2000000 in
theorem rzadd_second {w : World} {b b' : Bool} {A B : Option Addr} {n c m d : Nat} {z z' : Int} (ha : Zn w b A n c z) (hb : Zn w b' B m d z') (hx : (limbs z.natAbs).length ≤ 1000) (hy : (limbs z'.natAbs).length ≤ 1000) (hne : b ≠ b') (hlt : z.natAbs < z'.natAbs) :
    Calls Try.prog 31 #[.agg #[.bool b, .slice A n c], .agg #[.bool b', .slice B m d]] w (GotZ w (z + z')) := by
  obtain ⟨W, hW⟩ : ∃ W, ((w.alloc (.cells #[.bool b, .slice A n c] 25)).alloc (.cells #[.bool b', .slice B m d] 25)).alloc (.cells #[.bool false, .slice none 0 0] 25) = W := ⟨_, rfl⟩
  have X := box3 hW
  have ha' := ha.1.on X.hB
  have hb' := hb.1.on X.hB
  have HS := Lib.hid ((sgn_diff hb.2 ha.2 (fun e => hne e.symm) (by omega)).trans (Int.add_comm z' z))
  have hl : (limbs (z'.natAbs - z.natAbs)).length ≤ 1000 := Nat.le_trans (limbs_length_mono (Nat.sub_le _ _)) (by assumption)
  have hcm : ¬ 0 ≤ cmpN z.natAbs z'.natAbs := by rw [cmpN_lt hlt]; omega
  have hneb : (b == b') = false := by simp [hne]
  have hc1 := X.c1
  have hc2 := X.c2
  have hc3 := X.c3
  have hc4 := X.c4
  go_enter Try.func31, Try.ntmps31
  go_wp2_with fail
  clear hW
  refine (rcmp_N ha' hb' (by omega) (by omega)).mono ?_
  rintro e w1 ⟨rfl, b1⟩
  have ha1 := ha'.on b1
  have hb1' := hb'.on b1
  obtain ⟨-, -, d1, d2, d3, d4, -, -, -, -⟩ := X.on b1
  clear ha' hb' hc1 hc2 hc3 hc4
  go_wp2_with fail
  refine (rsub_N hb1' ha1 (by omega) (by omega) (by omega)).mono ?_
  rintro e w2 ⟨A2, n2, c2, rfl, hm, b2⟩
  have b12 := b1.trans (b2.mono b1.size)
  obtain ⟨-, -, f1, f2, f3, f4, -, -, -, -⟩ := X.on b12
  clear ha1 hb1' d1 d2 d3 d4 b1 b2
  go_wp2_with fail
  refine (made_N _ hm (by rw [hm.len]; omega)).mono ?_
  rintro e w3 ⟨b3, A3, n3, k3, rfl, hz3, b3'⟩
  have b13 := b12.trans (b3'.mono b12.size)
  obtain ⟨HB, -, -, -, -, -, e5, e6, e7, e8⟩ := X.on b13
  rw [HS.out] at hz3
  have HZ := Lib.hid (hz3.stored e5 e6)
  clear b12 b13 b3' f1 f2 f3 f4 hz3
  go_wp2_with fail
  refine bodyPost_ret (v := .agg #[.bool b3, .slice A3 n3 k3]) (by simp [results, Try.results31, go_sem, e5, e6]) rfl ⟨_, _, _, _, rfl, HZ.out, ?_⟩
  exact (HB.setCell (p := ⟨w.heap.size + 1 + 1, 0, none⟩) (show w.heap.size ≤ w.heap.size + 1 + 1 by omega) _).setCell (p := ⟨w.heap.size + 1 + 1, 1, none⟩) (show w.heap.size ≤ w.heap.size + 1 + 1 by omega) _

theorem rzadd_N {w : World} {b b' : Bool} {A B : Option Addr} {n c m d : Nat} {z z' : Int} (ha : Zn w b A n c z) (hb : Zn w b' B m d z') (hx : (limbs z.natAbs).length ≤ 1000) (hy : (limbs z'.natAbs).length ≤ 1000) :
    Calls Try.prog 31 #[.agg #[.bool b, .slice A n c], .agg #[.bool b', .slice B m d]] w (GotZ w (z + z')) := by
  by_cases h : b = b'
  · subst h; exact rzadd_same ha hb hx hy
  · rcases Nat.lt_or_ge z.natAbs z'.natAbs with h1 | h1
    · exact rzadd_second ha hb hx hy h h1
    · exact rzadd_first ha hb hx hy h h1

end Go.Proofs.Ytchbhmcaalkfdaa

/-
  The contracts of the fourth reference: Of, Int.
-/
namespace Go.Proofs.Ytchbhmcaalkfdaa
open Go.RowKit

/-- An integer of 64 bits. -/
def I64 (z : Int) : Prop := -9223372036854775808 ≤ z ∧ z ≤ 9223372036854775807
theorem I64.abs {z : Int} (h : I64 z) : z.natAbs < B64 := by unfold I64 at h; unfold B64; omega

theorem sgn_of {b : Bool} {z : Int} (hb : b = decide (z < 0)) : sgn b z.natAbs = z := by
  subst hb; unfold sgn
  by_cases h : z < 0
  · simp [h]; omega
  · simp [h]; omega

set_option maxRecDepth 100000 in
set_option maxHeartbeats 2000000 in
theorem rzof_N (w : World) (z : Int) (h : I64 z) : Calls Try.prog 22 #[.int .i64 z] w (GotZ w z) := by
  have hx := h.abs
  obtain ⟨x, hxe⟩ : ∃ x, z.natAbs = x := ⟨_, rfl⟩
  rw [hxe] at hx
  obtain ⟨W, hW⟩ : ∃ W, w.alloc (.cells #[.bool false, .slice none 0 0] 25) = W := ⟨_, rfl⟩
  have hB : Below w.heap.size w W := by rw [← hW]; exact below_one w _
  have hsz : W.heap.size = w.heap.size + 1 := by rw [← hW]; simp
  have c1 : W.cell? ⟨w.heap.size, 0, none⟩ = some (.bool false) := by rw [← hW]; simp [go_sem]
  have c2 : W.cell? ⟨w.heap.size, 1, none⟩ = some (.slice none 0 0) := by rw [← hW]; simp [go_sem]
  have c3 : W.frozen? ⟨w.heap.size, 0, none⟩ = false := by rw [← hW]; simp [go_sem]
  have c4 : W.frozen? ⟨w.heap.size, 1, none⟩ = false := by rw [← hW]; simp [go_sem]
  have HSZ := Lib.hid hsz
  clear hsz
  have hl := len_one hx
  by_cases hz : z < 0
  · have hs : sgn true x = z := by rw [← hxe]; exact sgn_of (by simp [hz])
    have e1 : IntKind.u64.wrap (IntKind.u64.wrap (-(z + 1)) + 1) = (x : Int) := by
      unfold I64 at h; rw [IntKind.wrap_u64, IntKind.wrap_u64]; omega
    have e2 : IntKind.i64.wrap (z + 1) = z + 1 := IntWalk.i64_in _ (by unfold I64 at h; omega)
    have e3 : IntKind.i64.wrap (-(z + 1)) = -(z + 1) := IntWalk.i64_in _ (by unfold I64 at h; omega)
    have HS := Lib.hid hs
    clear hs hxe
    go_enter Try.func22, Try.ntmps22
    go_wp2_with fail
    clear hW e1 e2 e3
    refine (rof_N W x hx).mono ?_
    rintro e w1 ⟨A1, n1, k1, rfl, hm, b1⟩
    go_wp2_with fail
    refine (made_N _ hm (by rw [hm.len]; omega)).mono ?_
    rintro e w2 ⟨b2, A2, n2, k2, rfl, hz2, b2'⟩
    have b12 := b1.trans (b2'.mono b1.size)
    have hsz := HSZ.out
    have g1 := (b12.cell (p := ⟨w.heap.size, 0, none⟩) (by simp; omega)).trans c1
    have g2 := (b12.cell (p := ⟨w.heap.size, 1, none⟩) (by simp; omega)).trans c2
    have g3 := (b12.frozen (p := ⟨w.heap.size, 0, none⟩) (by simp; omega)).trans c3
    have g4 := (b12.frozen (p := ⟨w.heap.size, 1, none⟩) (by simp; omega)).trans c4
    rw [HS.out] at hz2
    have HZ := Lib.hid (hz2.stored g1 g2)
    have HB := hB.trans (b12.mono hB.size)
    clear hsz b12 b1 b2' hz2 hm
    go_wp2_with fail
    refine bodyPost_ret (v := .agg #[.bool b2, .slice A2 n2 k2]) (by simp [results, Try.results22, go_sem, g1, g2]) rfl ⟨_, _, _, _, rfl, HZ.out, ?_⟩
    exact (HB.setCell (p := ⟨w.heap.size, 0, none⟩) (Nat.le_refl _) _).setCell (p := ⟨w.heap.size, 1, none⟩) (Nat.le_refl _) _
  · have hs : sgn false x = z := by rw [← hxe]; exact sgn_of (by simp [hz])
    have e1 : IntKind.u64.wrap z = (x : Int) := by
      unfold I64 at h; rw [IntKind.wrap_u64]; omega
    have HS := Lib.hid hs
    clear hs hxe
    go_enter Try.func22, Try.ntmps22
    go_wp2_with fail
    clear hW e1
    refine (rof_N W x hx).mono ?_
    rintro e w1 ⟨A1, n1, k1, rfl, hm, b1⟩
    go_wp2_with fail
    refine (made_N _ hm (by rw [hm.len]; omega)).mono ?_
    rintro e w2 ⟨b2, A2, n2, k2, rfl, hz2, b2'⟩
    have b12 := b1.trans (b2'.mono b1.size)
    have hsz := HSZ.out
    have g1 := (b12.cell (p := ⟨w.heap.size, 0, none⟩) (by simp; omega)).trans c1
    have g2 := (b12.cell (p := ⟨w.heap.size, 1, none⟩) (by simp; omega)).trans c2
    have g3 := (b12.frozen (p := ⟨w.heap.size, 0, none⟩) (by simp; omega)).trans c3
    have g4 := (b12.frozen (p := ⟨w.heap.size, 1, none⟩) (by simp; omega)).trans c4
    rw [HS.out] at hz2
    have HZ := Lib.hid (hz2.stored g1 g2)
    have HB := hB.trans (b12.mono hB.size)
    clear hsz b12 b1 b2' hz2 hm
    go_wp2_with fail
    refine bodyPost_ret (v := .agg #[.bool b2, .slice A2 n2 k2]) (by simp [results, Try.results22, go_sem, g1, g2]) rfl ⟨_, _, _, _, rfl, HZ.out, ?_⟩
    exact (HB.setCell (p := ⟨w.heap.size, 0, none⟩) (Nat.le_refl _) _).setCell (p := ⟨w.heap.size, 1, none⟩) (Nat.le_refl _) _

theorem abs_sgn {b : Bool} {z : Int} (hb : b = decide (z < 0)) (hz : z < 0) : b = true := by rw [hb]; simp [hz]
theorem abs_sgn' {b : Bool} {z : Int} (hb : b = decide (z < 0)) (hz : ¬ z < 0) : b = false := by rw [hb]; simp [hz]

end Go.Proofs.Ytchbhmcaalkfdaa
