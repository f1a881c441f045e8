/-
  Several texts in one: JC, J11b, J11c, C11.
-/
import Derived.Test.YtpidpebgeblenaaGreatA7
import Derived.Test.YtpidpebgeblenaaGreatA8
import Derived.Test.YtpidpebgeblenaaGreatA5
import Derived.Test.YtpidpebgeblenaaGreatA3

/-
  The contracts of the landed code: isShare, the closure of Near, sort.Search over it, Near, Num.
-/
namespace Go.Proofs.YtpidpebgeblenaaGreat
set_option maxRecDepth 100000
set_option maxHeartbeats 8000000
open Go.RowKit
set_option linter.unusedVariables false
set_option linter.unusedSimpArgs false

/-- Where the half of a share is not above the middle of two numbers side by side: behind the code of it. -/
theorem near10_search {k num den : Int} {i : Nat} (h : Kind9 k) (hd : 0 < den) (hi : i < 255) : (num * (2 * den9 k) ≤ (num10 k i + num10 k (i + 1)) * den) ↔ near10 k num den ≤ i := by
  have hr := near10_le k num den
  have e1 : num * (2 * den9 k) = 2 * (num * den9 k) := by rw [Int.mul_left_comm]
  rw [e1, Int.add_mul]
  have mono : ∀ a b, a < b → b ≤ 255 → num10 k a * den < num10 k b * den := fun a b hab hb => Int.mul_lt_mul_of_pos_right (num10_up h hab hb) hd
  constructor
  · intro hle
    rcases Nat.lt_or_ge i (near10 k num den) with e | e
    · exfalso
      have h1 := (near10_least (k := k) (num := num) (den := den) (c := i) (by omega)).2 e
      have h2 := mono _ _ e hr
      have h3 : num10 k (i + 1) * den ≤ num10 k (near10 k num den) * den := by
        rcases Nat.lt_or_ge (i + 1) (near10 k num den) with e2 | e2
        · exact Int.le_of_lt (mono _ _ e2 hr)
        · have : i + 1 = near10 k num den := by omega
          rw [this]; exact Int.le_refl _
      unfold dst at h1
      omega
    · exact e
  · intro hle
    have h1 := (near10_least (k := k) (num := num) (den := den) (c := i + 1) (by omega)).1
    have h2 := mono _ _ (show near10 k num den < i + 1 by omega) (by omega)
    have h3 : num10 k (near10 k num den) * den ≤ num10 k i * den := by
      rcases Nat.lt_or_ge (near10 k num den) i with e2 | e2
      · exact Int.le_of_lt (mono _ _ e2 (by omega))
      · have : near10 k num den = i := by omega
        rw [this]; exact Int.le_refl _
    unfold dst at h1
    omega
theorem two_i64 (k : Int) : I64 (2 * den9 k) ∧ IntKind.i64.wrap (2 * den9 k) = 2 * den9 k := by have := den9_bd k; exact ⟨by unfold I64; omega, IntWalk.i64_in _ (by omega)⟩
theorem sum_i64 (k : Int) (i : Nat) : I64 (num10 k i + num10 k (i + 1)) ∧ IntKind.i64.wrap (num10 k i + num10 k (i + 1)) = num10 k i + num10 k (i + 1) := by have := num10_bd k i; have := num10_bd k (i + 1); exact ⟨by unfold I64; omega, IntWalk.i64_in _ (by omega)⟩
theorem zcmp_w {w : World} {b b' : Bool} {A B : Option Addr} {n c m d : Nat} {z z' : Int} (r : Int) (ha : Zn w b A n c z) (hb : Zn w b' B m d z') (hx : (limbs z.natAbs).length ≤ 300) (hy : (limbs z'.natAbs).length ≤ 300) (h : cmpZ z z' = r) : Calls Tryz.prog 151 #[.agg #[.bool b, .slice A n c], .agg #[.bool b', .slice B m d]] w (GotV w (.int .i64 r)) := by
  subst h
  exact zcmp_N ha hb hx hy

theorem cShare_de (w : World) {k num den : Int} (hd : I64 den) (q0 : den < 1) :
    Calls Tryz.prog 147 #[.int .i64 k, .int .i64 num, .int .i64 den] w (GotV w (.bool false)) := by
  have t0 : decide (den < 1) = true := decide_eq_true (by omega)
  clear q0
  have cc := Below.refl w.heap.size w
  go_enter Tryz.func147, Tryz.ntmps147
  go_wp2_with fail
  go_wp2_with fail
  go_ret
  exact ⟨rfl, cc⟩

theorem cShare_big (w : World) {k num den : Int} (hd : I64 den) (q0 : 1 ≤ den) (q1 : den < num) :
    Calls Tryz.prog 147 #[.int .i64 k, .int .i64 num, .int .i64 den] w (GotV w (.bool false)) := by
  have t0 : decide (den < 1) = false := decide_eq_false (by omega)
  have t1 : decide (den < num) = true := decide_eq_true (by omega)
  clear q0 q1
  have cc := Below.refl w.heap.size w
  go_enter Tryz.func147, Tryz.ntmps147
  go_wp2_with fail
  go_wp2_with fail
  go_ret
  exact ⟨rfl, cc⟩

theorem cShare_sig (w : World) {k num den : Int} (hd : I64 den) (q0 : 1 ≤ den) (q1 : num ≤ den) (q2 : sig9 k = true) :
    Calls Tryz.prog 147 #[.int .i64 k, .int .i64 num, .int .i64 den] w (GotV w (.bool (decide (-den ≤ num)))) := by
  have t0 : decide (den < 1) = false := decide_eq_false (by omega)
  have t1 : decide (den < num) = false := decide_eq_false (by omega)
  have CS := fun W => bsig_N W k
  rw [q2] at CS
  obtain ⟨m, hm⟩ : ∃ m, m = -den := ⟨_, rfl⟩
  have k1 : IntKind.i64.wrap (-den) = m := by rw [IntWalk.i64_in (-den) (by unfold I64 at hd; omega), hm]
  rw [← hm]
  clear hm
  clear q0 q1 q2
  have cc := Below.refl w.heap.size w
  go_enter Tryz.func147, Tryz.ntmps147
  go_wp2_with fail
  refine (CS _).mono ?_
  rintro e w1 ⟨rfl, b⟩
  replace cc := bK cc b
  clear b
  go_wp2_with fail
  go_ret
  exact ⟨rfl, cc⟩

theorem cShare_uns (w : World) {k num den : Int} (hd : I64 den) (q0 : 1 ≤ den) (q1 : num ≤ den) (q2 : sig9 k = false) :
    Calls Tryz.prog 147 #[.int .i64 k, .int .i64 num, .int .i64 den] w (GotV w (.bool (decide (0 ≤ num)))) := by
  have t0 : decide (den < 1) = false := decide_eq_false (by omega)
  have t1 : decide (den < num) = false := decide_eq_false (by omega)
  have CS := fun W => bsig_N W k
  rw [q2] at CS
  clear q0 q1 q2
  have cc := Below.refl w.heap.size w
  go_enter Tryz.func147, Tryz.ntmps147
  go_wp2_with fail
  refine (CS _).mono ?_
  rintro e w1 ⟨rfl, b⟩
  replace cc := bK cc b
  clear b
  go_wp2_with fail
  go_ret
  exact ⟨rfl, cc⟩

theorem cShare_N (w : World) {k num den : Int} (hk : Kind9 k) (hd : I64 den) : Calls Tryz.prog 147 #[.int .i64 k, .int .i64 num, .int .i64 den] w (GotV w (.bool (decide (Shr k num den)))) := by
  by_cases a2 : den < 1
  · rw [decide_eq_false (fun h => by have := h.2.1; omega)]; exact cShare_de w hd a2
  by_cases a3 : den < num
  · rw [decide_eq_false (fun h => by have := h.2.2.1; omega)]; exact cShare_big w hd (by omega) a3
  cases hs : sig9 k with
  | true =>
    have e : decide (Shr k num den) = decide (-den ≤ num) := decide_eq_decide.2 ⟨fun h => h.2.2.2.1, fun h => ⟨hk, by omega, by omega, h, .inr hs⟩⟩
    rw [e]; exact cShare_sig w hd (by omega) (by omega) hs
  | false =>
    have e : decide (Shr k num den) = decide (0 ≤ num) := decide_eq_decide.2 ⟨fun h => (by rcases h.2.2.2.2 with h | h; exact h; rw [hs] at h; cases h), fun h => ⟨hk, by omega, by omega, by omega, .inl h⟩⟩
    rw [e]; exact cShare_uns w hd (by omega) (by omega) hs

theorem reach_N {w : World} {k s den : Int} {bs bm : Bool} {As Am : Option Addr} {ns cs nm cm bb off cl gl gm gs i : Nat} (hl : IR w (some ⟨bb, off, none⟩) 256 cl (book9 k)) (hbb : bb < w.heap.size) (l0 : w.cell? ⟨gl, 0, none⟩ = some (.slice (some ⟨bb, off, none⟩) 256 cl)) (ll : gl < w.heap.size) (s0 : w.cell? ⟨gs, 0, none⟩ = some (.bool bs)) (s1 : w.cell? ⟨gs, 1, none⟩ = some (.slice As ns cs)) (sl : gs < w.heap.size) (m0 : w.cell? ⟨gm, 0, none⟩ = some (.bool bm)) (m1 : w.cell? ⟨gm, 1, none⟩ = some (.slice Am nm cm)) (ml : gm < w.heap.size) (hs : Zn w bs As ns cs s) (hm : Zn w bm Am nm cm den) (hden : I64 den) (ls : (limbs s.natAbs).length ≤ 4) (hi : i < 255) :
    Calls Tryz.prog 150 #[.int .i64 (i : Int), .pointer (some ⟨gl, 0, none⟩), .pointer (some ⟨gm, 0, none⟩), .pointer (some ⟨gs, 0, none⟩)] w (GotV w (.bool (decide (s ≤ (num10 k i + num10 k (i + 1)) * den)))) := by
  have hi2 : (i : Int) < 256 := by omega
  have c0 : w.cell? ⟨bb, off + i, none⟩ = some (.int .i64 (num10 k i)) := hl.cell (by omega)
  have c1 : w.cell? ⟨bb, off + (i + 1), none⟩ = some (.int .i64 (num10 k (i + 1))) := hl.cell (by omega)
  obtain ⟨hb1, hb2⟩ := sum_i64 k i
  have k1 : IntKind.i64.wrap ((i : Int) + 1) = ((i + 1 : Nat) : Int) := by rw [IntWalk.i64_in _ (by omega)]; omega
  have hlt1 : ((i + 1 : Nat) : Int) < 256 := by omega
  generalize num10 k i = p at *
  generalize num10 k (i + 1) = q at *
  obtain ⟨v, hv⟩ : ∃ v, p + q = v := ⟨_, rfl⟩
  have k2 : IntKind.i64.wrap (p + q) = v := by rw [hb2]; exact hv
  rw [hv] at hb1 ⊢
  clear hb2
  have lm := len_prod hb1 hden
  obtain ⟨r0, hr0⟩ : ∃ r, cmpZ s (v * den) = r := ⟨_, rfl⟩
  have ht : decide (s ≤ v * den) = decide (r0 ≤ 0) := decide_eq_decide.2 (by rw [← hr0]; exact cmpZ_ngt.symm)
  rw [ht]
  have HR := Lib.hid hr0
  have HI := Lib.hid hi
  generalize hj : i + 1 = j at *
  clear hr0 ht hl hv hj hi
  have cc := Below.refl w.heap.size w
  have hbl : bb < w.heap.size := hbb
  go_enter Tryz.func150, Tryz.ntmps150
  go_wp2_with fail
  go_upto_region 1 with fail
  go_cut [6] (fun u wx => ∃ (g_ : Nat) (b_ : Bool) (A_ : Option Addr) (n_ c_ : Nat), u = .pointer (some ⟨g_, 0, none⟩) ∧ LoneZ w wx g_ b_ A_ n_ c_ (v * den))
  case first =>
    have BB0 : Below w.heap.size w w.drew := below_drewN (Below.refl _ w) 1
    have BB1 : Below w.heap.size w (w.alloc (.cells #[.bool false, .slice none 0 0] 81)).drew := below_drewN (below_one _ _) 1
    go_region_held3 (fun w' => w'.cell? ⟨gl, 0, none⟩ = some (.slice (some ⟨bb, off, none⟩) 256 cl) ∧ w'.cell? ⟨bb, off + i, none⟩ = some (.int .i64 p) ∧ w'.cell? ⟨bb, off + j, none⟩ = some (.int .i64 q) ∧ w'.cell? ⟨gs, 0, none⟩ = some (.bool bs) ∧ w'.cell? ⟨gs, 1, none⟩ = some (.slice As ns cs) ∧ w'.cell? ⟨gm, 0, none⟩ = some (.bool bm) ∧ w'.cell? ⟨gm, 1, none⟩ = some (.slice Am nm cm))
      (first | with_reducible exact ⟨l0, c0, c1, s0, s1, m0, m1⟩ | with_reducible exact ⟨keep_alloc (l0), keep_alloc (c0), keep_alloc (c1), keep_alloc (s0), keep_alloc (s1), keep_alloc (m0), keep_alloc (m1)⟩ | with_reducible exact ⟨keep_alloc (keep_alloc (l0)), keep_alloc (keep_alloc (c0)), keep_alloc (keep_alloc (c1)), keep_alloc (keep_alloc (s0)), keep_alloc (keep_alloc (s1)), keep_alloc (keep_alloc (m0)), keep_alloc (keep_alloc (m1))⟩ | with_reducible exact ⟨(cK qq l0 ll), (cK qq c0 hbl), (cK qq c1 hbl), (cK qq s0 sl), (cK qq s1 sl), (cK qq m0 ml), (cK qq m1 ml)⟩ | with_reducible exact ⟨keep_alloc ((cK qq l0 ll)), keep_alloc ((cK qq c0 hbl)), keep_alloc ((cK qq c1 hbl)), keep_alloc ((cK qq s0 sl)), keep_alloc ((cK qq s1 sl)), keep_alloc ((cK qq m0 ml)), keep_alloc ((cK qq m1 ml))⟩ | with_reducible exact ⟨keep_alloc (keep_alloc ((cK qq l0 ll))), keep_alloc (keep_alloc ((cK qq c0 hbl))), keep_alloc (keep_alloc ((cK qq c1 hbl))), keep_alloc (keep_alloc ((cK qq s0 sl))), keep_alloc (keep_alloc ((cK qq s1 sl))), keep_alloc (keep_alloc ((cK qq m0 ml))), keep_alloc (keep_alloc ((cK qq m1 ml)))⟩ | with_reducible exact ⟨((cell_store (by omega)).trans (cK qq l0 ll)), ((cell_store (by omega)).trans (cK qq c0 hbl)), ((cell_store (by omega)).trans (cK qq c1 hbl)), ((cell_store (by omega)).trans (cK qq s0 sl)), ((cell_store (by omega)).trans (cK qq s1 sl)), ((cell_store (by omega)).trans (cK qq m0 ml)), ((cell_store (by omega)).trans (cK qq m1 ml))⟩ | with_reducible exact ⟨keep_alloc (((cell_store (by omega)).trans (cK qq l0 ll))), keep_alloc (((cell_store (by omega)).trans (cK qq c0 hbl))), keep_alloc (((cell_store (by omega)).trans (cK qq c1 hbl))), keep_alloc (((cell_store (by omega)).trans (cK qq s0 sl))), keep_alloc (((cell_store (by omega)).trans (cK qq s1 sl))), keep_alloc (((cell_store (by omega)).trans (cK qq m0 ml))), keep_alloc (((cell_store (by omega)).trans (cK qq m1 ml)))⟩ | with_reducible exact ⟨keep_alloc (keep_alloc (((cell_store (by omega)).trans (cK qq l0 ll)))), keep_alloc (keep_alloc (((cell_store (by omega)).trans (cK qq c0 hbl)))), keep_alloc (keep_alloc (((cell_store (by omega)).trans (cK qq c1 hbl)))), keep_alloc (keep_alloc (((cell_store (by omega)).trans (cK qq s0 sl)))), keep_alloc (keep_alloc (((cell_store (by omega)).trans (cK qq s1 sl)))), keep_alloc (keep_alloc (((cell_store (by omega)).trans (cK qq m0 ml)))), keep_alloc (keep_alloc (((cell_store (by omega)).trans (cK qq m1 ml))))⟩ | go_keep)
      (first
        | (go_at_call 149; (with_reducible refine (zof_N _ v hb1).mono ?_); rintro e y1 ⟨bu, Au, nu, cu, rfl, hu, q⟩; have qq := BB0.trans (q.mono BB0.size); have hs' := (hs.on BB0).on q; have hm' := (hm.on BB0).on q; have qs1 := qq.size; clear q)
        | (go_at_call 149; (with_reducible refine (zof_N _ v hb1).mono ?_); rintro e y1 ⟨bu, Au, nu, cu, rfl, hu, q⟩; have qq := BB1.trans (q.mono BB1.size); have hs' := (hs.on BB1).on q; have hm' := (hm.on BB1).on q; have qs1 := qq.size; obtain ⟨bo_0, fo_0, bo_1, fo_1, ol⟩ := zb2 (g := w.heap.size) q (by simp) (by simp [Cs2, go_sem]) (by simp [Fz2, go_sem]); clear q)
        | (go_at_call 148; have up := Below.refl y1.heap.size y1; (with_reducible refine (zmul_N (hu.on up) (hm'.on up) (Nat.le_trans (len_one hb1.abs) (by omega)) (Nat.le_trans (len_one hden.abs) (by omega))).mono ?_); rintro e y2 ⟨bx, Ax, nx, cx, rfl, hx, q⟩; replace qq := uK qq up q; replace hs' := (hs'.on up).on q; replace hm' := (hm'.on up).on q; replace hu := (hu.on up).on q; (try (rewrite [cR up ol, cR q (lK up ol)] at bo_0 bo_1; rewrite [fR up ol, fR q (lK up ol)] at fo_0 fo_1; replace ol := lK q (lK up ol))); have qs2 := qq.size; clear q up)
        | (go_at_call 148; have up := below_one y1 (.cells #[.bool false, .slice none 0 0] 81); (with_reducible refine (zmul_N (hu.on up) (hm'.on up) (Nat.le_trans (len_one hb1.abs) (by omega)) (Nat.le_trans (len_one hden.abs) (by omega))).mono ?_); rintro e y2 ⟨bx, Ax, nx, cx, rfl, hx, q⟩; replace qq := uK qq up q; replace hs' := (hs'.on up).on q; replace hm' := (hm'.on up).on q; replace hu := (hu.on up).on q; (try (rewrite [cR up ol, cR q (lK up ol)] at bo_0 bo_1; rewrite [fR up ol, fR q (lK up ol)] at fo_0 fo_1; replace ol := lK q (lK up ol))); have qs2 := qq.size; obtain ⟨bo_0, fo_0, bo_1, fo_1, ol⟩ := zb2 (g := y1.heap.size) q (by simp) (by simp [Cs2, go_sem]) (by simp [Fz2, go_sem]); clear q up))
    all_goals (go_wp2_with fail; go_meet)
    all_goals refine ⟨_, bx, Ax, nx, cx, rfl, ?_⟩
    all_goals first
      | with_reducible exact loneZA hx qq _
      | with_reducible exact loneZB bo_0 bo_1 hx qq (by omega)
  case rest =>
    obtain ⟨gd, bd, Ad, nd, cd, rfl, ⟨d0, d1⟩, hd, b, dge⟩ := hcut
    have dl := cell_lt d0
    simp only at dl
    have dqs : gs < gd := Nat.lt_of_lt_of_le sl dge
    have dqm : gm < gd := Nat.lt_of_lt_of_le ml dge
    replace l0 := cK b l0 ll
    rewrite [cR b hbl] at c0 c1
    replace hbl := lK b hbl
    replace ll := lK b ll
    replace hs := hs.on b
    replace hm := hm.on b
    rewrite [cR b sl] at s0 s1
    replace sl := lK b sl
    rewrite [cR b ml] at m0 m1
    replace ml := lK b ml
    replace cc := bK cc b
    clear b
    go_wp2_with fail
    refine (zcmp_w r0 hs hd (Nat.le_trans ls (by omega)) (Nat.le_trans lm (by omega)) HR.out).mono ?_
    rintro e w1 ⟨rfl, b⟩
    replace l0 := cK b l0 ll
    rewrite [cR b hbl] at c0 c1
    replace hbl := lK b hbl
    replace ll := lK b ll
    replace hs := hs.on b
    replace hm := hm.on b
    replace hd := hd.on b
    rewrite [cR b sl] at s0 s1
    replace sl := lK b sl
    rewrite [cR b ml] at m0 m1
    replace ml := lK b ml
    rewrite [cR b dl] at d0 d1
    replace dl := lK b dl
    replace cc := bK cc b
    clear b
    go_wp2_with fail
    go_ret
    exact ⟨rfl, cc⟩

theorem search_N {w : World} {r gl gm gs : Nat} (hr : r ≤ 255) (hf : ∀ (W : World) (i : Nat), i < 255 → Below w.heap.size w W → Calls Tryz.prog 150 #[.int .i64 (i : Int), .pointer (some ⟨gl, 0, none⟩), .pointer (some ⟨gm, 0, none⟩), .pointer (some ⟨gs, 0, none⟩)] W (GotV W (.bool (decide (r ≤ i))))) :
    Calls Tryz.prog 152 #[.int .i64 255, .func (.func 150) #[] #[.pointer (some ⟨gl, 0, none⟩), .pointer (some ⟨gm, 0, none⟩), .pointer (some ⟨gs, 0, none⟩)]] w (GotV w (.int .i64 (r : Int))) := by
  have cc := Below.refl w.heap.size w
  go_enter Tryz.func152, Tryz.ntmps152
  go_wp2_with fail
  go_loopw [5, 6] (fun av bv wr => ∃ a b : Nat, av = .int .i64 (a : Int) ∧ bv = .int .i64 (b : Int) ∧ a ≤ r ∧ r ≤ b ∧ b ≤ 255 ∧ Below w.heap.size w wr) (fun av bv _ => (intOf bv).toNat - (intOf av).toNat)
  case atStart => exact ⟨0, 255, rfl, rfl, by omega, by omega, by omega, cc⟩
  case round =>
    clear cc
    obtain ⟨a, b, rfl, rfl, ha, hb, h5, cc⟩ := hrel
    by_cases hlt : a < b
    · obtain ⟨m, hm⟩ : ∃ m, (a + b) / 2 = m := ⟨_, rfl⟩
      have hmz : ((a : Int) + (b : Int)) / 2 = (m : Int) := by omega
      have hc := hf wr m (by omega) cc
      by_cases hq : r ≤ m
      · rw [decide_eq_true hq] at hc
        have HM := Lib.hid hm
        clear hm
        go_wp2_with fail
        refine hc.mono ?_
        rintro e w1 ⟨rfl, b1⟩
        replace cc := bK cc b1
        clear b1 hc
        go_wp2_with fail
        go_roundw
        case rel => exact ⟨a, m, rfl, rfl, ha, hq, by have := HM.out; omega, cc⟩
        case measure => have := HM.out; simp [intOf]; omega
      · rw [decide_eq_false hq] at hc
        have HM := Lib.hid hm
        clear hm
        go_wp2_with fail
        refine hc.mono ?_
        rintro e w1 ⟨rfl, b1⟩
        replace cc := bK cc b1
        clear b1 hc
        go_wp2_with fail
        go_roundw
        case rel => exact ⟨m + 1, b, by go_num, rfl, by omega, hb, h5, cc⟩
        case measure => have := HM.out; simp [intOf]; omega
    · obtain rfl : a = r := by omega
      obtain rfl : b = a := by omega
      go_wp2_with fail
      go_ret
      exact ⟨rfl, cc⟩

theorem cNear_kyes (w : World) {k num den : Int} (hn : I64 num) (hd : I64 den) (hk : Kind9 k) (hS : Shr k num den) :
    Calls Tryz.prog 136 #[.int .i64 k, .int .i64 num, .int .i64 den] w (GotV w (.tuple #[.int .u8 ((near10 k num den : Nat) : Int), .int .i64 0])) := by
  have CB : ∀ W : World, Calls Tryz.prog 123 #[.int .i64 k] W (GotIp W (book9 k) 0) := fun W => by have h := bbook_N W k; rw [kind9_code hk] at h; exact h
  have CS : ∀ W : World, Calls Tryz.prog 147 #[.int .i64 k, .int .i64 num, .int .i64 den] W (GotV W (.bool true)) := fun W => by have h := cShare_N (num := num) W hk hd; rw [decide_eq_true hS] at h; exact h
  have hd0 := hS.2.1
  have CD := fun W => bden_N W k
  obtain ⟨hD1, hD2⟩ := two_i64 k
  have hlen := (facts10 hk).1
  have ls : (limbs (num * (2 * den9 k)).natAbs).length ≤ 4 := Nat.le_trans (len_prod hn hD1) (by omega)
  have hr := near10_le k num den
  have hsr : ∀ i, i < 255 → decide (num * (2 * den9 k) ≤ (num10 k i + num10 k (i + 1)) * den) = decide (near10 k num den ≤ i) := fun i hi => decide_eq_decide.2 (near10_search hk (by omega) hi)
  have HSR := Lib.hid hsr
  clear hsr hS hk
  generalize near10 k num den = r at *
  obtain ⟨D, hD⟩ : ∃ D, den9 k = D := ⟨_, rfl⟩
  obtain ⟨E, hE⟩ : ∃ E, 2 * den9 k = E := ⟨_, rfl⟩
  rw [hE] at hD1 hD2 ls HSR
  have hE2 : IntKind.i64.wrap (2 * D) = E := by rw [← hD, hE]; exact hD2
  rw [hD] at CD
  have kw : IntKind.u8.wrap (r : Int) = (r : Int) := by rw [IntKind.wrap_u8]; omega
  clear hD hE hD2
  have cc := Below.refl w.heap.size w
  go_enter Tryz.func136, Tryz.ntmps136
  go_wp2_with fail
  refine (CB _).mono ?_
  rintro e w1 ⟨Al, nl, cl, rfl, hl, b⟩
  replace cc := bK cc b
  clear b
  have hn_ : nl = 256 := by rw [hl.1, hlen]
  subst hn_
  obtain ⟨bb, off, rfl, hb⟩ := hl.some (by omega)
  go_wp2_with fail
  generalize hv_ : w1.alloc (.cells #[.slice (some ⟨bb, off, none⟩) 256 cl] 34) = v2
  have bA : Below w1.heap.size w1 v2 := by rw [← hv_]; exact below_one _ _
  replace hl := hl.on bA
  replace cc := bK cc bA
  clear bA
  have lb0 : v2.cell? ⟨w1.heap.size, 0, none⟩ = some (.slice (some ⟨bb, off, none⟩) 256 cl) := by simp [← hv_, go_sem]
  have lbl : w1.heap.size < v2.heap.size := by simp [← hv_]
  clear hv_
  refine (CS _).mono ?_
  rintro e w3 ⟨rfl, b⟩
  replace hl := hl.on b
  replace lb0 := cK b lb0 lbl
  replace lbl := lK b lbl
  replace cc := bK cc b
  clear b
  go_wp2_with fail
  refine (zof_N _ num hn).mono ?_
  rintro e w4 ⟨bu, Au, nu, cu, rfl, hu, b⟩
  replace hl := hl.on b
  replace lb0 := cK b lb0 lbl
  replace lbl := lK b lbl
  replace cc := bK cc b
  clear b
  go_wp2_with fail
  refine (CD _).mono ?_
  rintro e w5 ⟨rfl, b⟩
  replace hl := hl.on b
  replace hu := hu.on b
  replace lb0 := cK b lb0 lbl
  replace lbl := lK b lbl
  replace cc := bK cc b
  clear b
  go_wp2_with fail
  refine (zof_N _ E hD1).mono ?_
  rintro e w6 ⟨bv, Av, nv, cv, rfl, hv, b⟩
  replace hl := hl.on b
  replace hu := hu.on b
  replace lb0 := cK b lb0 lbl
  replace lbl := lK b lbl
  replace cc := bK cc b
  clear b
  go_wp2_with fail
  refine (zmul_N hu hv (Nat.le_trans (len_one hn.abs) (by omega)) (Nat.le_trans (len_one hD1.abs) (by omega))).mono ?_
  rintro e w7 ⟨bs, As, ns, cs, rfl, hs, b⟩
  replace hl := hl.on b
  replace hu := hu.on b
  replace hv := hv.on b
  replace lb0 := cK b lb0 lbl
  replace lbl := lK b lbl
  replace cc := bK cc b
  clear b
  go_wp2_with fail
  generalize hv_ : w7.alloc (.cells #[.bool bs, .slice As ns cs] 81) = v8
  have bA : Below w7.heap.size w7 v8 := by rw [← hv_]; exact below_one _ _
  replace hl := hl.on bA
  replace hu := hu.on bA
  replace hv := hv.on bA
  replace hs := hs.on bA
  replace lb0 := cK bA lb0 lbl
  replace lbl := lK bA lbl
  replace cc := bK cc bA
  clear bA
  obtain ⟨sb0, sb1⟩ : Cs2 v8 w7.heap.size (.bool bs) (.slice As ns cs) := by simp [Cs2, ← hv_, go_sem]
  have sbl : w7.heap.size < v8.heap.size := by simp [← hv_]
  clear hv_
  refine (zof_N _ den hd).mono ?_
  rintro e w9 ⟨bm, Am, nm, cm, rfl, hm, b⟩
  replace hl := hl.on b
  replace hu := hu.on b
  replace hv := hv.on b
  replace hs := hs.on b
  replace lb0 := cK b lb0 lbl
  replace lbl := lK b lbl
  rewrite [cR b sbl] at sb0 sb1
  replace sbl := lK b sbl
  replace cc := bK cc b
  clear b
  go_wp2_with fail
  generalize hv_ : w9.alloc (.cells #[.bool bm, .slice Am nm cm] 81) = v10
  have bA : Below w9.heap.size w9 v10 := by rw [← hv_]; exact below_one _ _
  replace hl := hl.on bA
  replace hu := hu.on bA
  replace hv := hv.on bA
  replace hs := hs.on bA
  replace hm := hm.on bA
  replace lb0 := cK bA lb0 lbl
  replace lbl := lK bA lbl
  rewrite [cR bA sbl] at sb0 sb1
  replace sbl := lK bA sbl
  replace cc := bK cc bA
  clear bA
  obtain ⟨mb0, mb1⟩ : Cs2 v10 w9.heap.size (.bool bm) (.slice Am nm cm) := by simp [Cs2, ← hv_, go_sem]
  have mbl : w9.heap.size < v10.heap.size := by simp [← hv_]
  clear hv_
  have hbb : bb < v10.heap.size := by obtain ⟨b_, o_, e_, h_, _⟩ := hl.2.2 (by omega); injection e_ with e_; injection e_ with e1 e2; omega
  have CF : ∀ (W : World) (i : Nat), i < 255 → Below v10.heap.size v10 W → Calls Tryz.prog 150 #[.int .i64 (i : Int), .pointer (some ⟨w1.heap.size, 0, none⟩), .pointer (some ⟨w9.heap.size, 0, none⟩), .pointer (some ⟨w7.heap.size, 0, none⟩)] W (GotV W (.bool (decide (r ≤ i)))) := fun W i hi b => by
    have h := reach_N (hl.on b) (Nat.lt_of_lt_of_le hbb b.size) (cK b lb0 lbl) (Nat.lt_of_lt_of_le lbl b.size) (cK b sb0 sbl) (cK b sb1 sbl) (Nat.lt_of_lt_of_le sbl b.size) (cK b mb0 mbl) (cK b mb1 mbl) (Nat.lt_of_lt_of_le mbl b.size) (hs.on b) (hm.on b) hd ls hi
    rw [HSR.out i hi] at h
    exact h
  have CQ := search_N hr CF
  clear CF HSR CB CS CD hl hu hv hs hm
  go_wp2_with fail
  refine CQ.mono ?_
  rintro e wq ⟨rfl, b⟩
  replace cc := bK cc b
  clear b CQ
  go_wp2_with fail
  go_ret2
  exact ⟨rfl, cc⟩

theorem cNear_yes (w : World) {k num den : Int} (hn : I64 num) (hd : I64 den) (hS : Shr k num den) : Calls Tryz.prog 136 #[.int .i64 k, .int .i64 num, .int .i64 den] w (GotV w (.tuple #[.int .u8 ((near10 k num den : Nat) : Int), .int .i64 0])) := cNear_kyes w hn hd hS.1 hS



end Go.Proofs.YtpidpebgeblenaaGreat

/-
  What the landed block's small calls answer: near, mannerOf, takes, greatest; rows cloned, bytes compared.
-/
namespace Go.Proofs.YtpidpebgeblenaaGreat
set_option maxRecDepth 100000
set_option maxHeartbeats 8000000
open Go.RowKit
set_option linter.unusedVariables false
set_option linter.unusedSimpArgs false

/-- What a kind takes: wide numbers, or those of a codebook. -/
def tkW (x : Int) : Bool := decide (x ≠ -9223372036854775808)
def tkC (k x : Int) : Bool := decide (0 ≤ x ∨ (x ≠ -9223372036854775808 ∧ sig9 k = true))
/-- The two manners as values. -/
abbrev mnW : Value := .iface 75 (.agg #[])
abbrev mnC (k : Int) : Value := .iface 76 (.int .i64 k)
/-- A row of integers that is new. -/
def GotIn (w : World) (l : List Int) (e : Ending) (w' : World) : Prop := ∃ A n c, e = .returned (.slice A n c) ∧ IR w' A n c l ∧ Below w.heap.size w w' ∧ ∀ p, A = some p → w.heap.size ≤ p.block
theorem GotIn.old {w w' : World} {l : List Int} {e : Ending} (h : GotIn w l e w') : GotI w l e w' := by obtain ⟨A, n, c, h1, h2, h3, _⟩ := h; exact ⟨A, n, c, h1, h2, h3⟩
theorem eql_i64s (w : World) (a : Option Addr) (n c : Nat) : (binOp .eql 34 (.slice a n c) (.slice none 0 0)).run Tryz.prog w = .ok (.bool a.isNone) w := Lib.run_eql_slice_nil w _ 2 a n c 0 0 Tryz.underlying34
theorem conv_br {w : World} {A : Option Addr} {n c : Nat} {C : List Nat} (h : BR w A n c C) : (convert 41 9 (.slice A n c)).run Tryz.prog w = .ok (.string (strOfNums (ints8 C))) w := by
  rcases Nat.eq_zero_or_pos n with hn | hn
  · have hC0 : C = [] := List.eq_nil_of_length_eq_zero (by rw [← h.1]; exact hn)
    subst hn; subst hC0
    rcases A with _ | a
    · exact run_convert_bytes_nil (P := Tryz.prog) w 41 5 Tryz.underlying41 Tryz.underlying5 0 c 9 Tryz.underlying9
    · rw [run_convert_bytes_string w _ _ 5 (some a) 0 c Tryz.underlying41 Tryz.underlying5 Tryz.underlying9]
      exact run_bytesToString w a 0 c [] (by simp [loadCells, go_sem] <;> rfl)
  · obtain ⟨b, off, rfl, _⟩ := h.some hn
    exact run_convert_bytes_arg (P := Tryz.prog) w 41 5 Tryz.underlying41 Tryz.underlying5 b off n c (ints8 C) (by rw [ints8_len, ← h.1]) (br_ints h) 9 Tryz.underlying9
theorem str8_eq {C D : List Nat} (hC : ∀ x ∈ C, x < 256) (hD : ∀ x ∈ D, x < 256) : strOfNums (ints8 C) = strOfNums (ints8 D) ↔ C = D := by
  constructor
  · intro h
    have h2 : (strOfNums (ints8 C)).data.toList = (strOfNums (ints8 D)).data.toList := by rw [h]
    rw [strOfNums_data, strOfNums_data] at h2
    unfold ints8 at h2
    rw [List.map_map, List.map_map] at h2
    induction C generalizing D with
    | nil => cases D with
      | nil => rfl
      | cons y D => simp at h2
    | cons x C ih => cases D with
      | nil => simp at h2
      | cons y D =>
        simp only [List.map_cons, List.cons.injEq, Function.comp] at h2
        have e1 : x = y := (ofNat8 (hC x (List.mem_cons_self ..)) (hD y (List.mem_cons_self ..))).1 (by simpa using h2.1)
        have e2 := ih (fun z hz => hC z (List.mem_cons_of_mem _ hz)) (fun z hz => hD z (List.mem_cons_of_mem _ hz)) (by
          have : (strOfNums (ints8 C)).data.toList = (strOfNums (ints8 D)).data.toList := by
            rw [strOfNums_data, strOfNums_data]; unfold ints8; rw [List.map_map, List.map_map]; exact h2.2
          exact ByteArray.ext (Array.toList_inj.1 this)) h2.2
        rw [e1, e2]
  · rintro rfl; rfl

set_option maxRecDepth 1000000 in
theorem bknear_N (w : World) {k num den : Int} (hn : I64 num) (hd : I64 den) (hS : Shr k num den) : Calls Tryz.prog 126 #[.int .i64 k, .int .i64 num, .int .i64 den] w (GotV w (.int .u8 ((near10 k num den : Nat) : Int))) := by
  have CN := fun W => cNear_yes W hn hd hS
  have h6 := near10_le k num den
  clear hS
  generalize near10 k num den = c at *
  have cc := Below.refl w.heap.size w
  go_enter Tryz.func126, Tryz.ntmps126
  go_wp2_with fail
  refine (CN _).mono ?_
  rintro e w1 ⟨rfl, b⟩
  replace cc := bK cc b
  clear b
  go_wp2_with fail
  go_ret
  exact ⟨rfl, cc⟩

set_option maxRecDepth 1000000 in
theorem bkman_w (w : World) {k : Int} (h : k = 4) : Calls Tryz.prog 42 #[.int .i64 k] w (GotV w (.tuple #[mnW, .int .i64 0])) := by
  subst h
  have cc := Below.refl w.heap.size w
  go_enter Tryz.func42, Tryz.ntmps42
  go_wp2_with fail
  go_ret2
  exact ⟨rfl, cc⟩

set_option maxRecDepth 1000000 in
theorem bkman_c (w : World) {k : Int} (h : Kind9 k) : Calls Tryz.prog 42 #[.int .i64 k] w (GotV w (.tuple #[mnC k, .int .i64 0])) := by
  have k4 : (k == 4) = false := beq_eq_false_iff_ne.2 (by unfold Kind9 at h; omega)
  have CD := fun W => bden_N W k
  have hd := (facts10 h).2.2.2.2.2.2
  have k0 : (den9 k == 0) = false := beq_eq_false_iff_ne.2 (by omega)
  clear h hd
  generalize den9 k = D at *
  have cc := Below.refl w.heap.size w
  go_enter Tryz.func42, Tryz.ntmps42
  go_wp2_with fail
  refine (CD _).mono ?_
  rintro e w1 ⟨rfl, b⟩
  replace cc := bK cc b
  clear b
  go_wp2_with fail
  go_ret2
  exact ⟨rfl, cc⟩

set_option maxRecDepth 1000000 in
theorem bkman_no (w : World) {k : Int} (h : ¬ (0 ≤ k ∧ k ≤ 4)) : Calls Tryz.prog 42 #[.int .i64 k] w (GotV w (.tuple #[.nilIface, .int .i64 1])) := by
  have k4 : (k == 4) = false := beq_eq_false_iff_ne.2 (by omega)
  have CD := fun W => bden_N W k
  have hd : den9 k = 0 := by unfold den9; rw [if_neg (by omega), if_neg (by omega)]
  rw [hd] at CD
  clear hd
  have cc := Below.refl w.heap.size w
  go_enter Tryz.func42, Tryz.ntmps42
  go_wp2_with fail
  refine (CD _).mono ?_
  rintro e w1 ⟨rfl, b⟩
  replace cc := bK cc b
  clear b
  go_wp2_with fail
  go_ret2
  exact ⟨rfl, cc⟩

set_option maxRecDepth 1000000 in
theorem bktkw_N (w : World) {x : Int} : Calls Tryz.prog 117 #[.agg #[], .int .i64 x] w (GotV w (.bool (tkW x))) := by
  have hx : (x != -9223372036854775808) = tkW x := by unfold tkW; rw [Bool.eq_iff_iff]; simp
  generalize tkW x = r at *
  have cc := (Below.refl w.heap.size w).alloc (Nat.le_refl _) (.cells #[] 75)
  go_enter Tryz.func117, Tryz.ntmps117
  go_wp2_with fail
  go_ret
  exact ⟨rfl, cc⟩

set_option maxRecDepth 1000000 in
theorem bktkc_p (w : World) {k x : Int} (h : 0 ≤ x) : Calls Tryz.prog 122 #[.int .i64 k, .int .i64 x] w (GotV w (.bool (tkC k x))) := by
  have t0 : decide (0 ≤ x) = true := decide_eq_true h
  have hv : tkC k x = true := decide_eq_true (.inl h)
  rw [hv]
  clear h hv
  have cc := Below.refl w.heap.size w
  go_enter Tryz.func122, Tryz.ntmps122
  go_wp2_with fail
  go_ret
  exact ⟨rfl, cc⟩

set_option maxRecDepth 1000000 in
theorem bktkc_l (w : World) {k x : Int} (h : x = -9223372036854775808) : Calls Tryz.prog 122 #[.int .i64 k, .int .i64 x] w (GotV w (.bool (tkC k x))) := by
  subst h
  have hv : tkC k (-9223372036854775808) = false := by unfold tkC; simp
  rw [hv]
  clear hv
  have cc := Below.refl w.heap.size w
  go_enter Tryz.func122, Tryz.ntmps122
  go_wp2_with fail
  go_ret
  exact ⟨rfl, cc⟩

set_option maxRecDepth 1000000 in
theorem bktkc_n (w : World) {k x : Int} (h : ¬ 0 ≤ x) (h2 : x ≠ -9223372036854775808) : Calls Tryz.prog 122 #[.int .i64 k, .int .i64 x] w (GotV w (.bool (tkC k x))) := by
  have t0 : decide (0 ≤ x) = false := decide_eq_false h
  have t1 : (x != -9223372036854775808) = true := by simp; exact h2
  have t2 : (x == -9223372036854775808) = false := beq_eq_false_iff_ne.2 h2
  have hv : tkC k x = sig9 k := by unfold tkC; rw [Bool.eq_iff_iff, decide_eq_true_eq]; exact ⟨fun e => (by rcases e with e | e; exact absurd e h; exact e.2), fun e => .inr ⟨h2, e⟩⟩
  rw [hv]
  have CS := fun W => bsig_N W k
  generalize sig9 k = r at *
  clear h h2 hv
  have cc := Below.refl w.heap.size w
  go_enter Tryz.func122, Tryz.ntmps122
  go_wp2_with fail
  refine (CS _).mono ?_
  rintro e w1 ⟨rfl, b⟩
  replace cc := bK cc b
  clear b
  go_wp2_with fail
  go_ret
  exact ⟨rfl, cc⟩

theorem bktkc_N (w : World) {k x : Int} : Calls Tryz.prog 122 #[.int .i64 k, .int .i64 x] w (GotV w (.bool (tkC k x))) := by
  by_cases h : 0 ≤ x
  · exact bktkc_p w h
  · by_cases h2 : x = -9223372036854775808
    · exact bktkc_l w h2
    · exact bktkc_n w h h2

attribute [local go_sem ↓] mxT_run

set_option maxRecDepth 1000000 in
theorem bkgreat_N {w : World} {A : Option Addr} {n c : Nat} {L : List Int} (hA : IR w A n c L) (hn : n ≤ 9223372036854775807) (hL : ∀ j : Nat, I64 (L[j]?.getD 0) ∧ L[j]?.getD 0 ≠ -9223372036854775808) :
    Calls Tryz.prog 125 #[.slice A n c] w (fun e w' => e = .returned (.int .i64 (gr L)) ∧ w' = w) := by
  go_enter Tryz.func125, Tryz.ntmps125
  go_wp2_with fail
  go_loopw [3, 8] (fun nv iv wr => ∃ i : Nat, i ≤ n ∧ iv = .int .i64 (i : Int) ∧ nv = .int .i64 (grk L i) ∧ wr = w) (fun _ iv _ => n - (intOf iv).toNat)
  case atStart => exact ⟨0, by omega, rfl, rfl, rfl⟩
  case round =>
    obtain ⟨i, hi, rfl, rfl, hbl⟩ := hrel
    subst hbl
    by_cases hlt : i < n
    · obtain ⟨bb, off, rfl, hb, hcell⟩ := hA.2.2 (by omega)
      have h1 := hcell i hlt
      have hx := hL i
      have k3 : IntKind.i64.wrap ((i : Int) + 1) = ((i + 1 : Nat) : Int) := by rw [IntWalk.i64_in _ (by omega)]; omega
      have hG : grk L (i + 1) = mxT (grk L i) (L[i]?.getD 0) := rfl
      obtain ⟨x, ex⟩ : ∃ x, L[i]?.getD 0 = x := ⟨_, rfl⟩
      rw [ex] at h1 hx hG
      have k4 : IntKind.i64.wrap (-x) = -x := IntWalk.i64_in _ (by unfold I64 at hx; omega)
      have HG := Lib.hid hG
      have MX := fun (ts : Array TypeId) (t : TypeId) (g : Int) (W : World) => mxT_run (P := Tryz.prog) W ts t g x (-x) rfl
      clear hcell hx ex hG
      generalize grk L i = g at *
      go_wp2_with fail
      go_roundw
      case rel => exact ⟨i + 1, by omega, rfl, by rw [HG.out], by trivial⟩
      case measure => simp [intOf] <;> omega
    · obtain rfl : i = n := by omega
      have hG : grk L i = gr L := by unfold gr; rw [← hA.1]
      rw [hG]
      go_wp2_with fail
      go_ret
      exact ⟨rfl, rfl⟩

set_option maxRecDepth 1000000 in
theorem bkclone_none (w : World) {c : Nat} : Calls Tryz.prog 118 #[.slice none 0 c] w (GotIn w []) := by
  have hq := eql_i64s
  have cc := Below.refl w.heap.size w
  go_enter Tryz.func118, Tryz.ntmps118
  go_wp2_with fail
  go_ret
  exact ⟨_, _, _, rfl, IR.nil _ _ _, cc, fun p e => by cases e⟩

set_option maxRecDepth 1000000 in
theorem bkclone_zero (w : World) {a : Addr} {c : Nat} : Calls Tryz.prog 118 #[.slice (some a) 0 c] w (GotIn w []) := by
  have hq := eql_i64s
  have cc := (Below.refl w.heap.size w).alloc (Nat.le_refl _) (.cells #[] 2)
  go_enter Tryz.func118, Tryz.ntmps118
  go_wp2_with fail
  go_ret
  exact ⟨_, _, _, rfl, IR.nil _ _ _, cc, fun p e => by injection e with e; subst e; exact Nat.le_refl _⟩

set_option maxRecDepth 1000000 in
theorem bkclone_some {w : World} {b off n c : Nat} {L : List Int} (hW : IR w (some ⟨b, off, none⟩) n c L) (hm : 0 < n) (hm2 : n ≤ 4096) : Calls Tryz.prog 118 #[.slice (some ⟨b, off, none⟩) n c] w (GotIn w L) := by
  have hq := eql_i64s
  obtain ⟨i0, hi, hz0, hz1, hz2⟩ := info_parts infoI
  obtain ⟨t, ht⟩ : ∃ t, w.heap.size = t := ⟨_, rfl⟩
  have HT := Lib.hid ht
  have hl := hW.1
  have hb : b < w.heap.size := by obtain ⟨b', o', e, hlt⟩ := hW.some hm; injection e with e; injection e with e1; rw [e1]; exact hlt
  have HNV : Hid (∀ j u, (L.map encI)[j]? = some u → (w.alloc (.cells #[] 2)).cell? ((⟨b, off, none⟩ : Addr).add j) = some u) := Lib.hid (fun j u e => by
    rw [List.getElem?_map] at e
    rcases hj : L[j]? with _ | z
    · rw [hj] at e; cases e
    · rw [hj] at e; injection e with e
      have hlt : j < L.length := (List.getElem?_eq_some_iff.1 hj).1
      have h1 := (hW.on ((Below.refl _ w).alloc (Nat.le_refl _) (.cells #[] 2))).cell (j := j) (by omega)
      rw [hj] at h1
      rw [← e, addr_add]
      exact h1)
  have HL := Lib.hid hl
  have HO : Hid ((w.alloc (.cells #[] 2)).ownsRow t 2 1 (.slice (some ⟨w.heap.size, 0, none⟩) 0 0) 0 ([] : List Value)) := Lib.hid (World.ownsRow_lit w #[] 0 (by omega) (by unfold maxLen; omega) rfl)
  have HB : Hid (Below t w (w.alloc (.cells #[] 2))) := Lib.hid ((Below.refl t w).alloc (by omega) _)
  have t_le : t ≤ w.heap.size + 1 := by rw [← HT.out]; omega
  clear ht hW hb hl
  go_enter Tryz.func118, Tryz.ntmps118
  go_wp2_with (at_builtin; refine wpList_append_lies _ rfl _ _ 34 rfl t 2 i0 (.int .i64 0) 1 8 Tryz.underlying34 hi hz0 hz1 hz2 rfl (by decide) _ 0 [] rfl HO.out ⟨b, off, none⟩ n c (L.map encI) rfl (by rw [List.length_map, HL.out]; simp) HNV.out (by simp [encI, Value.oneCell']) hm (by unfold maxLen; omega) (by omega) (by simp; omega) _ rfl ?_; intro g1 cap1 w3 hown1 hgrow1 hat hlt1)
  go_ret
  have h1 : Below t w w3 := HB.out.grown hgrow1 (by simp; omega) (fun q e => by injection (show some w.heap.size = some q from e) with e1; have := HT.out; omega)
  rw [← HT.out] at h1
  rw [List.nil_append] at hown1
  rw [Nat.zero_add] at hown1
  exact ⟨_, _, _, rfl, IR.of_own hown1, h1, fun p e => by injection e with e; subst e; have := (hown1.lt g1 rfl).1; rw [HT.out]; exact this⟩

theorem bkclone_N {w : World} {A : Option Addr} {n c : Nat} {L : List Int} (hA : IR w A n c L) (hn : n ≤ 4096) : Calls Tryz.prog 118 #[.slice A n c] w (GotIn w L) := by
  rcases Nat.eq_zero_or_pos n with h | h
  · have hL : L = [] := List.eq_nil_of_length_eq_zero (by rw [← hA.1]; exact h)
    subst h; subst hL
    rcases A with _ | a
    · exact bkclone_none w
    · exact bkclone_zero w
  · obtain ⟨b, off, rfl, _⟩ := hA.some h
    exact bkclone_some hA h hn

set_option maxRecDepth 1000000 in
theorem bkbeq_N {w : World} {A B : Option Addr} {n c m d : Nat} {C D : List Nat} (hC : BR w A n c C) (hD : BR w B m d D) : Calls Tryz.prog 40 #[.slice A n c, .slice B m d] w (GotV w (.bool (decide (C = D)))) := by
  have h1 := conv_br hC
  have h2 := conv_br hD
  have h3 : ((strOfNums (ints8 C)).toList == (strOfNums (ints8 D)).toList) = decide (C = D) := by rw [Bool.eq_iff_iff, beq_iff_eq, decide_eq_true_eq]; rw [ByteArray.toList_eq, ByteArray.toList_eq]; exact ⟨fun e => (str8_eq hC.2.2.1 hD.2.2.1).1 (ByteArray.ext (Array.toList_inj.1 e)), fun e => by rw [e]⟩
  clear hC hD
  generalize strOfNums (ints8 C) = p at *
  generalize strOfNums (ints8 D) = q at *
  generalize decide (C = D) = r at *
  have cc := Below.refl w.heap.size w
  go_enter Tryz.func40, Tryz.ntmps40
  go_wp2_with fail
  go_ret
  exact ⟨rfl, cc⟩
end Go.Proofs.YtpidpebgeblenaaGreat

/-
  The contracts of the landed block: Len, Same.
-/
namespace Go.Proofs.YtpidpebgeblenaaGreat
set_option maxRecDepth 100000
set_option maxHeartbeats 8000000
open Go.RowKit
set_option linter.unusedVariables false
set_option linter.unusedSimpArgs false

theorem bkLen_N (w : World) {k s : Int} {A B : Option Addr} {n c m d : Nat} (hn : n ≤ 9223372036854775807) (hm : m ≤ 9223372036854775807) :
    Calls Tryz.prog 27 #[.agg #[.int .i64 k, .int .i64 s, .slice A n c, .slice B m d]] w (GotV w (.int .i64 (IntKind.i64.wrap ((n : Int) + (m : Int))))) := by
  obtain ⟨q, hq⟩ : ∃ q, IntKind.i64.wrap ((n : Int) + (m : Int)) = q := ⟨_, rfl⟩
  rw [hq]
  have cc := Below.refl w.heap.size w
  go_enter Tryz.func27, Tryz.ntmps27
  go_wp2_with fail
  generalize hv_ : w.alloc (.cells #[.int .i64 k, .int .i64 s, .slice A n c, .slice B m d] 43) = v1
  have bA : Below w.heap.size w v1 := by rw [← hv_]; exact ((Below.refl _ w).alloc (by simp) _)
  replace cc := bK cc bA
  clear bA
  have ka0 : v1.cell? ⟨w.heap.size, 0, none⟩ = some (.int .i64 k) := by simp [← hv_, go_sem]
  have ka1 : v1.cell? ⟨w.heap.size, 1, none⟩ = some (.int .i64 s) := by simp [← hv_, go_sem]
  have ka2 : v1.cell? ⟨w.heap.size, 2, none⟩ = some (.slice A n c) := by simp [← hv_, go_sem]
  have ka3 : v1.cell? ⟨w.heap.size, 3, none⟩ = some (.slice B m d) := by simp [← hv_, go_sem]
  have kal : w.heap.size < v1.heap.size := by simp [← hv_] <;> omega
  clear hv_
  go_wp2_with fail
  go_ret
  exact ⟨rfl, cc⟩

theorem bkieq_len (w : World) {A B : Option Addr} {n c m d : Nat} (h : n ≠ m) :
    Calls Tryz.prog 41 #[.slice A n c, .slice B m d] w (GotV w (.bool false)) := by
  have e1 : ((n : Int) == (m : Int)) = false := beq_eq_false_iff_ne.2 (by omega)
  have e2 : ((n : Int) != (m : Int)) = true := by simp; omega
  have e3 : (n == m) = false := beq_eq_false_iff_ne.2 h
  have e4 : (n != m) = true := by simp; omega
  clear h
  have cc := Below.refl w.heap.size w
  go_enter Tryz.func41, Tryz.ntmps41
  go_wp2_with fail
  go_wp2_with fail
  go_ret
  exact ⟨rfl, cc⟩

theorem bkieq_eq {w : World} {A B : Option Addr} {n c d : Nat} {L K : List Int} (hA : IR w A n c L) (hB : IR w B n d K) (hn : n ≤ 9223372036854775807) :
    Calls Tryz.prog 41 #[.slice A n c, .slice B n d] w (GotV w (.bool (decide (L = K)))) := by
  have HL : Hid (n = L.length) := Lib.hid hA.1
  have HL2 : Hid (n = K.length) := Lib.hid hB.1
  obtain ⟨r, hr⟩ : ∃ r, decide (L = K) = r := ⟨_, rfl⟩
  rw [hr]
  have HR := Lib.hid hr
  clear hr
  have cc := Below.refl w.heap.size w
  go_enter Tryz.func41, Tryz.ntmps41
  go_wp2_with fail
  go_wp2_with fail
  go_loopw [13] (fun iv wr => ∃ i : Nat, i ≤ n ∧ iv = .int .i64 (i : Int) ∧ (∀ j, j < i → L[j]?.getD 0 = K[j]?.getD 0) ∧ Below w.heap.size w wr) (fun iv _ => n - (intOf iv).toNat)
  case atStart => exact ⟨0, by omega, rfl, fun j h => absurd h (by omega), Below.refl _ _⟩
  case round =>
    obtain ⟨i, hi, rfl, hj, hbl⟩ := hrel
    by_cases hlt : i < n
    · obtain ⟨b1, o1, rfl, hb1, hc1⟩ := (hA.on hbl).2.2 (by omega)
      obtain ⟨b2, o2, rfl, hb2, hc2⟩ := (hB.on hbl).2.2 (by omega)
      have h1 := hc1 i hlt
      have h2 := hc2 i hlt
      have k3 : IntKind.i64.wrap ((i : Int) + 1) = ((i + 1 : Nat) : Int) := by rw [IntWalk.i64_in _ (by omega)]; omega
      clear hc1 hc2
      obtain ⟨x, hx⟩ : ∃ x, L[i]?.getD 0 = x := ⟨_, rfl⟩
      obtain ⟨y, hy⟩ : ∃ y, K[i]?.getD 0 = y := ⟨_, rfl⟩
      rw [hx] at h1
      rw [hy] at h2
      by_cases hxy : x = y
      · have t1 : (x == y) = true := beq_iff_eq.2 hxy
        have t2 : (x != y) = false := by simp; exact hxy
        have HJ : Hid (∀ j, j < i + 1 → L[j]?.getD 0 = K[j]?.getD 0) := Lib.hid (fun j h => by
          rcases Nat.lt_or_ge j i with e | e
          · exact hj j e
          · have e2 : j = i := by omega
            rw [e2, hx, hy]; exact hxy)
        clear hj hx hy hxy
        go_wp2_with fail
        go_region_held3 (fun w' => w'.cell? ⟨b1, o1 + i, none⟩ = some (.int .i64 x) ∧ w'.cell? ⟨b2, o2 + i, none⟩ = some (.int .i64 y)) (exact ⟨h1, h2⟩) (fail)
        go_wp2_with fail
        go_roundw
        case rel => exact ⟨i + 1, by omega, rfl, HJ.out, below_drewN hbl 1⟩
        case measure => simp [intOf] <;> omega
      · have t1 : (x == y) = false := beq_eq_false_iff_ne.2 hxy
        have t2 : (x != y) = true := by simp; exact hxy
        have hF : r = false := by rw [← HR.out]; exact decide_eq_false (fun h => hxy (by rw [← hx, ← hy, h]))
        subst hF
        clear hj hx hy hxy
        go_wp2_with fail
        go_region_held3 (fun w' => w'.cell? ⟨b1, o1 + i, none⟩ = some (.int .i64 x) ∧ w'.cell? ⟨b2, o2 + i, none⟩ = some (.int .i64 y)) (exact ⟨h1, h2⟩) (fail)
        go_wp2_with fail
        go_ret
        exact ⟨rfl, below_drewN hbl 1⟩
    · obtain rfl : i = n := by omega
      have hT : r = true := by
        have hl := HL.out
        have hl2 := HL2.out
        rw [← HR.out]; refine decide_eq_true (List.ext_getElem (by omega) fun j h1 h2 => ?_)
        have := hj j (by omega)
        rwa [List.getElem?_eq_getElem h1, List.getElem?_eq_getElem h2] at this
      subst hT
      clear hj
      go_wp2_with fail
      go_ret
      exact ⟨rfl, hbl⟩

theorem bkieq_N {w : World} {A B : Option Addr} {n c m d : Nat} {L K : List Int} (hA : IR w A n c L) (hB : IR w B m d K) (hn : n ≤ 9223372036854775807) : Calls Tryz.prog 41 #[.slice A n c, .slice B m d] w (GotV w (.bool (decide (L = K)))) := by
  by_cases h : n = m
  · subst h; exact bkieq_eq hA hB hn
  · rw [decide_eq_false (fun e => h (by rw [hA.1, hB.1, e]))]; exact bkieq_len w h

theorem bkSame_k {w : World} {ka sa : Int} {Aa Ba : Option Addr} {na ca ma da : Nat} {kb sb : Int} {Ab Bb : Option Addr} {nb cb mb db : Nat} (h : ka ≠ kb) :
    Calls Tryz.prog 30 #[.agg #[.int .i64 ka, .int .i64 sa, .slice Aa na ca, .slice Ba ma da], .agg #[.int .i64 kb, .int .i64 sb, .slice Ab nb cb, .slice Bb mb db]] w (GotV w (.bool false)) := by
  have t0 : (ka == kb) = false := beq_eq_false_iff_ne.2 h
  clear h
  have cc := Below.refl w.heap.size w
  go_enter Tryz.func30, Tryz.ntmps30
  go_wp2_with fail
  generalize hv_ : (w.alloc (.cells #[.int .i64 ka, .int .i64 sa, .slice Aa na ca, .slice Ba ma da] 43)).alloc (.cells #[.int .i64 kb, .int .i64 sb, .slice Ab nb cb, .slice Bb mb db] 43) = v1
  have bA : Below w.heap.size w v1 := by rw [← hv_]; exact (((Below.refl _ w).alloc (by simp) _).alloc (by simp) _)
  replace cc := bK cc bA
  clear bA
  have xa0 : v1.cell? ⟨w.heap.size, 0, none⟩ = some (.int .i64 ka) := by simp [← hv_, go_sem]
  have xa1 : v1.cell? ⟨w.heap.size, 1, none⟩ = some (.int .i64 sa) := by simp [← hv_, go_sem]
  have xa2 : v1.cell? ⟨w.heap.size, 2, none⟩ = some (.slice Aa na ca) := by simp [← hv_, go_sem]
  have xa3 : v1.cell? ⟨w.heap.size, 3, none⟩ = some (.slice Ba ma da) := by simp [← hv_, go_sem]
  have xal : w.heap.size < v1.heap.size := by simp [← hv_] <;> omega
  have xb0 : v1.cell? ⟨w.heap.size + 1, 0, none⟩ = some (.int .i64 kb) := by simp [← hv_, go_sem]
  have xb1 : v1.cell? ⟨w.heap.size + 1, 1, none⟩ = some (.int .i64 sb) := by simp [← hv_, go_sem]
  have xb2 : v1.cell? ⟨w.heap.size + 1, 2, none⟩ = some (.slice Ab nb cb) := by simp [← hv_, go_sem]
  have xb3 : v1.cell? ⟨w.heap.size + 1, 3, none⟩ = some (.slice Bb mb db) := by simp [← hv_, go_sem]
  have xbl : w.heap.size + 1 < v1.heap.size := by simp [← hv_] <;> omega
  clear hv_
  go_wp2_with fail
  go_ret
  exact ⟨rfl, cc⟩

theorem bkSame_s {w : World} {ka sa : Int} {Aa Ba : Option Addr} {na ca ma da : Nat} {kb sb : Int} {Ab Bb : Option Addr} {nb cb mb db : Nat} (h : ka = kb) (h2 : sa ≠ sb) :
    Calls Tryz.prog 30 #[.agg #[.int .i64 ka, .int .i64 sa, .slice Aa na ca, .slice Ba ma da], .agg #[.int .i64 kb, .int .i64 sb, .slice Ab nb cb, .slice Bb mb db]] w (GotV w (.bool false)) := by
  have tk : (ka == kb) = true := beq_iff_eq.2 h
  clear h
  have t0 : (sa == sb) = false := beq_eq_false_iff_ne.2 h2
  clear h2
  have cc := Below.refl w.heap.size w
  go_enter Tryz.func30, Tryz.ntmps30
  go_wp2_with fail
  generalize hv_ : (w.alloc (.cells #[.int .i64 ka, .int .i64 sa, .slice Aa na ca, .slice Ba ma da] 43)).alloc (.cells #[.int .i64 kb, .int .i64 sb, .slice Ab nb cb, .slice Bb mb db] 43) = v1
  have bA : Below w.heap.size w v1 := by rw [← hv_]; exact (((Below.refl _ w).alloc (by simp) _).alloc (by simp) _)
  replace cc := bK cc bA
  clear bA
  have xa0 : v1.cell? ⟨w.heap.size, 0, none⟩ = some (.int .i64 ka) := by simp [← hv_, go_sem]
  have xa1 : v1.cell? ⟨w.heap.size, 1, none⟩ = some (.int .i64 sa) := by simp [← hv_, go_sem]
  have xa2 : v1.cell? ⟨w.heap.size, 2, none⟩ = some (.slice Aa na ca) := by simp [← hv_, go_sem]
  have xa3 : v1.cell? ⟨w.heap.size, 3, none⟩ = some (.slice Ba ma da) := by simp [← hv_, go_sem]
  have xal : w.heap.size < v1.heap.size := by simp [← hv_] <;> omega
  have xb0 : v1.cell? ⟨w.heap.size + 1, 0, none⟩ = some (.int .i64 kb) := by simp [← hv_, go_sem]
  have xb1 : v1.cell? ⟨w.heap.size + 1, 1, none⟩ = some (.int .i64 sb) := by simp [← hv_, go_sem]
  have xb2 : v1.cell? ⟨w.heap.size + 1, 2, none⟩ = some (.slice Ab nb cb) := by simp [← hv_, go_sem]
  have xb3 : v1.cell? ⟨w.heap.size + 1, 3, none⟩ = some (.slice Bb mb db) := by simp [← hv_, go_sem]
  have xbl : w.heap.size + 1 < v1.heap.size := by simp [← hv_] <;> omega
  clear hv_
  go_wp2_with fail
  go_ret
  exact ⟨rfl, cc⟩

theorem bkSame_c {w : World} {ka sa : Int} {Aa Ba : Option Addr} {na ca ma da : Nat} {kb sb : Int} {Ab Bb : Option Addr} {nb cb mb db : Nat} (h : ka = kb) (h2 : sa = sb) {Ca : List Nat} {Wa : List Int} (hCa : BR w Aa na ca Ca) (hWa : IR w Ba ma da Wa) (hna : na ≤ 9223372036854775807) (hma : ma ≤ 9223372036854775807) {Cb : List Nat} {Wb : List Int} (hCb : BR w Ab nb cb Cb) (hWb : IR w Bb mb db Wb) (hnb : nb ≤ 9223372036854775807) (hmb : mb ≤ 9223372036854775807) :
    Calls Tryz.prog 30 #[.agg #[.int .i64 ka, .int .i64 sa, .slice Aa na ca, .slice Ba ma da], .agg #[.int .i64 kb, .int .i64 sb, .slice Ab nb cb, .slice Bb mb db]] w (GotV w (.bool (decide (Ca = Cb ∧ Wa = Wb)))) := by
  subst h
  subst h2
  obtain ⟨r, hr⟩ : ∃ r, decide (Ca = Cb ∧ Wa = Wb) = r := ⟨_, rfl⟩
  rw [hr]
  have hr2 : r = (decide (Ca = Cb) && decide (Wa = Wb)) := by rw [← hr]; simp
  clear hr
  have CC : ∀ {W : World}, BR W Aa na ca Ca → BR W Ab nb cb Cb → Calls Tryz.prog 40 #[.slice Aa na ca, .slice Ab nb cb] W (GotV W (.bool (decide (Ca = Cb)))) := fun a b => bkbeq_N a b
  have CW : ∀ {W : World}, IR W Ba ma da Wa → IR W Bb mb db Wb → Calls Tryz.prog 41 #[.slice Ba ma da, .slice Bb mb db] W (GotV W (.bool (decide (Wa = Wb)))) := fun a b => bkieq_N a b hma
  generalize decide (Ca = Cb) = p at *
  generalize decide (Wa = Wb) = q at *
  have cc := Below.refl w.heap.size w
  go_enter Tryz.func30, Tryz.ntmps30
  go_wp2_with fail
  generalize hv_ : (w.alloc (.cells #[.int .i64 ka, .int .i64 sa, .slice Aa na ca, .slice Ba ma da] 43)).alloc (.cells #[.int .i64 ka, .int .i64 sa, .slice Ab nb cb, .slice Bb mb db] 43) = v1
  have bA : Below w.heap.size w v1 := by rw [← hv_]; exact (((Below.refl _ w).alloc (by simp) _).alloc (by simp) _)
  replace hCa := hCa.on bA
  replace hCb := hCb.on bA
  replace hWa := hWa.on bA
  replace hWb := hWb.on bA
  replace cc := bK cc bA
  clear bA
  have xa0 : v1.cell? ⟨w.heap.size, 0, none⟩ = some (.int .i64 ka) := by simp [← hv_, go_sem]
  have xa1 : v1.cell? ⟨w.heap.size, 1, none⟩ = some (.int .i64 sa) := by simp [← hv_, go_sem]
  have xa2 : v1.cell? ⟨w.heap.size, 2, none⟩ = some (.slice Aa na ca) := by simp [← hv_, go_sem]
  have xa3 : v1.cell? ⟨w.heap.size, 3, none⟩ = some (.slice Ba ma da) := by simp [← hv_, go_sem]
  have xal : w.heap.size < v1.heap.size := by simp [← hv_] <;> omega
  have xb0 : v1.cell? ⟨w.heap.size + 1, 0, none⟩ = some (.int .i64 ka) := by simp [← hv_, go_sem]
  have xb1 : v1.cell? ⟨w.heap.size + 1, 1, none⟩ = some (.int .i64 sa) := by simp [← hv_, go_sem]
  have xb2 : v1.cell? ⟨w.heap.size + 1, 2, none⟩ = some (.slice Ab nb cb) := by simp [← hv_, go_sem]
  have xb3 : v1.cell? ⟨w.heap.size + 1, 3, none⟩ = some (.slice Bb mb db) := by simp [← hv_, go_sem]
  have xbl : w.heap.size + 1 < v1.heap.size := by simp [← hv_] <;> omega
  clear hv_
  go_wp2_with fail
  refine (CC hCa hCb).mono ?_
  rintro e w2 ⟨rfl, b⟩
  replace hCa := hCa.on b
  replace hCb := hCb.on b
  replace hWa := hWa.on b
  replace hWb := hWb.on b
  rewrite [cR b xal] at xa0 xa1 xa2 xa3
  replace xal := lK b xal
  rewrite [cR b xbl] at xb0 xb1 xb2 xb3
  replace xbl := lK b xbl
  replace cc := bK cc b
  clear b
  cases p
  · obtain rfl : r = false := by rw [hr2]; rfl
    clear hr2
    go_wp2_with fail
    go_ret
    exact ⟨rfl, cc⟩
  · obtain rfl : r = q := by rw [hr2, Bool.true_and]
    clear hr2
    go_wp2_with fail
    refine (CW hWa hWb).mono ?_
    rintro e w3 ⟨rfl, b⟩
    replace hCa := hCa.on b
    replace hCb := hCb.on b
    replace hWa := hWa.on b
    replace hWb := hWb.on b
    rewrite [cR b xal] at xa0 xa1 xa2 xa3
    replace xal := lK b xal
    rewrite [cR b xbl] at xb0 xb1 xb2 xb3
    replace xbl := lK b xbl
    replace cc := bK cc b
    clear b
    go_wp2_with fail
    go_ret
    exact ⟨rfl, cc⟩

theorem bkSame_N {w : World} {ka sa : Int} {Aa Ba : Option Addr} {na ca ma da : Nat} {kb sb : Int} {Ab Bb : Option Addr} {nb cb mb db : Nat} {Ca : List Nat} {Wa : List Int} (hCa : BR w Aa na ca Ca) (hWa : IR w Ba ma da Wa) (hna : na ≤ 9223372036854775807) (hma : ma ≤ 9223372036854775807) {Cb : List Nat} {Wb : List Int} (hCb : BR w Ab nb cb Cb) (hWb : IR w Bb mb db Wb) (hnb : nb ≤ 9223372036854775807) (hmb : mb ≤ 9223372036854775807) : Calls Tryz.prog 30 #[.agg #[.int .i64 ka, .int .i64 sa, .slice Aa na ca, .slice Ba ma da], .agg #[.int .i64 kb, .int .i64 sb, .slice Ab nb cb, .slice Bb mb db]] w (GotV w (.bool (decide (ka = kb ∧ sa = sb ∧ Ca = Cb ∧ Wa = Wb)))) := by
  by_cases a0 : ka = kb
  · by_cases a1 : sa = sb
    · have e : decide (ka = kb ∧ sa = sb ∧ Ca = Cb ∧ Wa = Wb) = decide (Ca = Cb ∧ Wa = Wb) := decide_eq_decide.2 ⟨fun h => h.2.2, fun h => ⟨a0, a1, h⟩⟩
      rw [e]; exact bkSame_c a0 a1 hCa hWa hna hma hCb hWb hnb hmb
    · rw [decide_eq_false (fun h => a1 h.2.1)]; exact bkSame_s a0 a1
  · rw [decide_eq_false (fun h => a0 h.1)]; exact bkSame_k a0

end Go.Proofs.YtpidpebgeblenaaGreat

/-
  The contracts of the eleventh reference: codes.
-/
namespace Go.Proofs.YtpidpebgeblenaaGreat
set_option maxRecDepth 100000
set_option maxHeartbeats 8000000
open Go.RowKit
set_option linter.unusedVariables false
set_option linter.unusedSimpArgs false

theorem i64_z : I64 0 := by unfold I64; omega
theorem i64_o : I64 1 := by unfold I64; omega
theorem i64_n : I64 (-1) := by unfold I64; omega
theorem shr_z {k : Int} (h : Kind9 k) : Shr k 0 1 := ⟨h, by omega, by omega, by omega, .inl (by omega)⟩
theorem shr_o {k : Int} (h : Kind9 k) : Shr k 1 1 := ⟨h, by omega, by omega, by omega, .inl (by omega)⟩

theorem rcodes_t {w : World} {k s : Int} {A B : Option Addr} {n c m d : Nat} {C : List Nat} (h : Kind9 k) (hs : Shr k (-1) 1) (hC : BR w A n c C) (hn : n ≤ 9223372036854775807) :
    Calls Tryz.prog 37 #[.agg #[.int .i64 k, .int .i64 s, .slice A n c, .slice B m d]] w (GotV w (.bool (if s = 0 then C.all (fun c => c == near10 k 0 1) else decide (0 < s) && C.any (endP (near10 k 1 1) (near10 k (-1) 1) true)))) := by
  have C1 := fun W => rNear_yes W i64_z i64_o (shr_z h)
  have C2 := fun W => rNear_yes W i64_o i64_o (shr_o h)
  have C3 := fun W => rNear_yes W i64_n i64_o hs
  have b1 := near10_le k 0 1
  have b2 := near10_le k 1 1
  have b3 := near10_le k (-1) 1
  clear hs h
  generalize near10 k 0 1 = nought at *
  generalize near10 k 1 1 = top at *
  generalize near10 k (-1) 1 = low at *
  obtain ⟨P, hP⟩ : ∃ P, endP top low true = P := ⟨_, rfl⟩
  obtain ⟨Q, hQ⟩ : ∃ Q : Nat → Bool, (fun c => c == nought) = Q := ⟨_, rfl⟩
  rw [hP, hQ]
  have HP := Lib.hid hP
  have HQ := Lib.hid hQ
  obtain ⟨R, hR⟩ : ∃ R, (if s = 0 then C.all Q else decide (0 < s) && C.any P) = R := ⟨_, rfl⟩
  rw [hR]
  have HR := Lib.hid hR
  clear hP hQ hR
  have cc := Below.refl w.heap.size w
  go_enter Tryz.func37, Tryz.ntmps37
  go_wp2_with fail
  generalize hv_ : w.alloc (.cells #[.int .i64 k, .int .i64 s, .slice A n c, .slice B m d] 43) = v1
  have bA : Below w.heap.size w v1 := by rw [← hv_]; exact ((Below.refl _ w).alloc (by simp) _)
  replace cc := bK cc bA
  clear bA
  have ka0 : v1.cell? ⟨w.heap.size, 0, none⟩ = some (.int .i64 k) := by simp [← hv_, go_sem]
  have ka1 : v1.cell? ⟨w.heap.size, 1, none⟩ = some (.int .i64 s) := by simp [← hv_, go_sem]
  have ka2 : v1.cell? ⟨w.heap.size, 2, none⟩ = some (.slice A n c) := by simp [← hv_, go_sem]
  have ka3 : v1.cell? ⟨w.heap.size, 3, none⟩ = some (.slice B m d) := by simp [← hv_, go_sem]
  have kal : w.heap.size < v1.heap.size := by simp [← hv_] <;> omega
  clear hv_
  go_wp2_with fail
  refine (C1 _).mono ?_
  rintro e w2 ⟨rfl, b⟩
  rewrite [cR b kal] at ka0 ka1 ka2 ka3
  replace kal := lK b kal
  replace cc := bK cc b
  clear b
  go_wp2_with fail
  refine (C2 _).mono ?_
  rintro e w3 ⟨rfl, b⟩
  rewrite [cR b kal] at ka0 ka1 ka2 ka3
  replace kal := lK b kal
  replace cc := bK cc b
  clear b
  go_wp2_with fail
  refine (C3 _).mono ?_
  rintro e w4 ⟨rfl, b⟩
  rewrite [cR b kal] at ka0 ka1 ka2 ka3
  replace kal := lK b kal
  replace cc := bK cc b
  clear b
  have KA2 := Lib.hid ka2
  have KA1 := Lib.hid ka1
  have KAL := Lib.hid kal
  have CCV := Lib.hid cc
  have HCV : Hid (BR w4 A n c C) := Lib.hid (hC.on cc)
  clear ka0 ka1 ka2 ka3 kal cc hC
  go_wp2_with fail
  go_loopw [9, 10, 11] (fun sv av iv wr => ∃ i : Nat, i ≤ n ∧ iv = .int .i64 (i : Int) ∧ sv = .bool (anyK P C i) ∧ av = .bool (allK Q C i) ∧ Below w4.heap.size w4 wr) (fun _ _ iv _ => n - (intOf iv).toNat)
  case atStart => exact ⟨0, by omega, rfl, by rw [anyK_zero], by rw [allK_zero], Below.refl _ _⟩
  case round =>
    obtain ⟨i, hi, rfl, rfl, rfl, hbl⟩ := hrel
    have ka1 := (hbl.cell (p := ⟨w.heap.size, 1, none⟩) KAL.out).trans KA1.out
    have ka2 := (hbl.cell (p := ⟨w.heap.size, 2, none⟩) KAL.out).trans KA2.out
    by_cases hlt : i < n
    · obtain ⟨bb, off, rfl, hb, hcell⟩ := (HCV.out.on hbl).2.2.2 (by omega)
      have h1 := hcell i hlt
      have hc6 := HCV.out.at hlt
      have hl := HCV.out.1
      have hs1 := anyK_succ P (d := 0) (i := i) (by omega : i < C.length)
      have ha1 := allK_succ Q (d := 0) (i := i) (by omega : i < C.length)
      have k3 : IntKind.i64.wrap ((i : Int) + 1) = ((i + 1 : Nat) : Int) := by rw [IntWalk.i64_in _ (by omega)]; omega
      obtain ⟨x, hx⟩ : ∃ x, C[i]?.getD 0 = x := ⟨_, rfl⟩
      rw [hx] at h1 hc6 hs1 ha1
      rw [← HP.out] at hs1
      rw [← HQ.out] at ha1
      rw [HP.out] at hs1
      rw [HQ.out] at ha1
      have hPx : P x = (x == top || (true && x == low)) := by rw [← HP.out]; rfl
      have hQx : Q x = (x == nought) := by rw [← HQ.out]
      have x6 : (x : Int) < 256 := by omega
      rw [hPx] at hs1
      rw [hQx] at ha1
      clear hcell hPx hQx hl hx
      obtain ⟨so, hso⟩ : ∃ so, anyK P C i = so := ⟨_, rfl⟩
      obtain ⟨al, hal⟩ : ∃ al, allK Q C i = al := ⟨_, rfl⟩
      rw [hso] at hs1 ⊢
      rw [hal] at ha1 ⊢
      obtain ⟨r1, hr1⟩ : ∃ r, anyK P C (i + 1) = r := ⟨_, rfl⟩
      obtain ⟨r2, hr2⟩ : ∃ r, allK Q C (i + 1) = r := ⟨_, rfl⟩
      rw [hr1] at hs1
      rw [hr2] at ha1
      have HR1 := Lib.hid hr1
      have HR2 := Lib.hid hr2
      clear hso hal hr1 hr2
      have hS : (so = true ∧ r1 = true) ∨ (so = false ∧ r1 = true ∧ (x == top) = true ∧ ((x : Int) == (top : Int)) = true) ∨ (so = false ∧ (x == top) = false ∧ ((x : Int) == (top : Int)) = false ∧ ((r1 = true ∧ (x == low) = true ∧ ((x : Int) == (low : Int)) = true) ∨ (r1 = false ∧ (x == low) = false ∧ ((x : Int) == (low : Int)) = false))) := by
        rw [hs1]
        by_cases e1 : x = top <;> by_cases e2 : x = low <;> cases so <;> simp [e1, e2] <;> omega
      have hA : (al = false ∧ r2 = false) ∨ (al = true ∧ r2 = true ∧ (x == nought) = true ∧ ((x : Int) == (nought : Int)) = true) ∨ (al = true ∧ r2 = false ∧ (x == nought) = false ∧ ((x : Int) == (nought : Int)) = false) := by
        rw [ha1]
        by_cases e1 : x = nought <;> cases al <;> simp [e1] <;> omega
      clear hs1 ha1
      rcases hS with ⟨rfl, rfl⟩ | ⟨rfl, rfl, s1, s2⟩ | ⟨rfl, s1, s2, ⟨rfl, s3, s4⟩ | ⟨rfl, s3, s4⟩⟩ <;> rcases hA with ⟨rfl, rfl⟩ | ⟨rfl, rfl, a1, a2⟩ | ⟨rfl, rfl, a1, a2⟩
      all_goals
        go_wp2_with fail
        go_roundw
        case rel => exact ⟨i + 1, by omega, rfl, by rw [HR1.out], by rw [HR2.out], hbl⟩
        case measure => simp [intOf] <;> omega
    · obtain rfl : i = n := by omega
      have cc := CCV.out.trans (hbl.mono CCV.out.size)
      have hl := HCV.out.1
      have g1 := anyK_end P C
      have g2 := allK_end Q C
      rw [← hl] at g1 g2
      have hR := HR.out
      rw [← g1, ← g2] at hR
      clear g1 g2 hl
      generalize anyK P C i = so at *
      generalize allK Q C i = al at *
      by_cases z : s = 0
      · subst z
        rw [if_pos rfl] at hR
        subst hR
        go_wp2_with fail
        go_ret
        exact ⟨rfl, cc⟩
      · rw [if_neg z] at hR
        have z1 : (s == 0) = false := beq_eq_false_iff_ne.2 z
        by_cases p : 0 < s
        · have p1 : decide (0 < s) = true := decide_eq_true p
          rw [p1, Bool.true_and] at hR
          subst hR
          go_wp2_with fail
          go_ret
          exact ⟨rfl, cc⟩
        · have p1 : decide (0 < s) = false := decide_eq_false p
          rw [p1, Bool.false_and] at hR
          subst hR
          go_wp2_with fail
          go_ret
          exact ⟨rfl, cc⟩

theorem rcodes_f {w : World} {k s : Int} {A B : Option Addr} {n c m d : Nat} {C : List Nat} (h : Kind9 k) (hs : ¬ Shr k (-1) 1) (hC : BR w A n c C) (hn : n ≤ 9223372036854775807) :
    Calls Tryz.prog 37 #[.agg #[.int .i64 k, .int .i64 s, .slice A n c, .slice B m d]] w (GotV w (.bool (if s = 0 then C.all (fun c => c == near10 k 0 1) else decide (0 < s) && C.any (endP (near10 k 1 1) (near10 k (-1) 1) false)))) := by
  have C1 := fun W => rNear_yes W i64_z i64_o (shr_z h)
  have C2 := fun W => rNear_yes W i64_o i64_o (shr_o h)
  have C3 := fun W => rNear_no W i64_n i64_o hs
  have b1 := near10_le k 0 1
  have b2 := near10_le k 1 1
  have b3 := near10_le k (-1) 1
  clear hs h
  generalize near10 k 0 1 = nought at *
  generalize near10 k 1 1 = top at *
  generalize near10 k (-1) 1 = low at *
  obtain ⟨P, hP⟩ : ∃ P, endP top low false = P := ⟨_, rfl⟩
  obtain ⟨Q, hQ⟩ : ∃ Q : Nat → Bool, (fun c => c == nought) = Q := ⟨_, rfl⟩
  rw [hP, hQ]
  have HP := Lib.hid hP
  have HQ := Lib.hid hQ
  obtain ⟨R, hR⟩ : ∃ R, (if s = 0 then C.all Q else decide (0 < s) && C.any P) = R := ⟨_, rfl⟩
  rw [hR]
  have HR := Lib.hid hR
  clear hP hQ hR
  have cc := Below.refl w.heap.size w
  go_enter Tryz.func37, Tryz.ntmps37
  go_wp2_with fail
  generalize hv_ : w.alloc (.cells #[.int .i64 k, .int .i64 s, .slice A n c, .slice B m d] 43) = v1
  have bA : Below w.heap.size w v1 := by rw [← hv_]; exact ((Below.refl _ w).alloc (by simp) _)
  replace cc := bK cc bA
  clear bA
  have ka0 : v1.cell? ⟨w.heap.size, 0, none⟩ = some (.int .i64 k) := by simp [← hv_, go_sem]
  have ka1 : v1.cell? ⟨w.heap.size, 1, none⟩ = some (.int .i64 s) := by simp [← hv_, go_sem]
  have ka2 : v1.cell? ⟨w.heap.size, 2, none⟩ = some (.slice A n c) := by simp [← hv_, go_sem]
  have ka3 : v1.cell? ⟨w.heap.size, 3, none⟩ = some (.slice B m d) := by simp [← hv_, go_sem]
  have kal : w.heap.size < v1.heap.size := by simp [← hv_] <;> omega
  clear hv_
  go_wp2_with fail
  refine (C1 _).mono ?_
  rintro e w2 ⟨rfl, b⟩
  rewrite [cR b kal] at ka0 ka1 ka2 ka3
  replace kal := lK b kal
  replace cc := bK cc b
  clear b
  go_wp2_with fail
  refine (C2 _).mono ?_
  rintro e w3 ⟨rfl, b⟩
  rewrite [cR b kal] at ka0 ka1 ka2 ka3
  replace kal := lK b kal
  replace cc := bK cc b
  clear b
  go_wp2_with fail
  refine (C3 _).mono ?_
  rintro e w4 ⟨rfl, b⟩
  rewrite [cR b kal] at ka0 ka1 ka2 ka3
  replace kal := lK b kal
  replace cc := bK cc b
  clear b
  have KA2 := Lib.hid ka2
  have KA1 := Lib.hid ka1
  have KAL := Lib.hid kal
  have CCV := Lib.hid cc
  have HCV : Hid (BR w4 A n c C) := Lib.hid (hC.on cc)
  clear ka0 ka1 ka2 ka3 kal cc hC
  go_wp2_with fail
  go_loopw [9, 10, 11] (fun sv av iv wr => ∃ i : Nat, i ≤ n ∧ iv = .int .i64 (i : Int) ∧ sv = .bool (anyK P C i) ∧ av = .bool (allK Q C i) ∧ Below w4.heap.size w4 wr) (fun _ _ iv _ => n - (intOf iv).toNat)
  case atStart => exact ⟨0, by omega, rfl, by rw [anyK_zero], by rw [allK_zero], Below.refl _ _⟩
  case round =>
    obtain ⟨i, hi, rfl, rfl, rfl, hbl⟩ := hrel
    have ka1 := (hbl.cell (p := ⟨w.heap.size, 1, none⟩) KAL.out).trans KA1.out
    have ka2 := (hbl.cell (p := ⟨w.heap.size, 2, none⟩) KAL.out).trans KA2.out
    by_cases hlt : i < n
    · obtain ⟨bb, off, rfl, hb, hcell⟩ := (HCV.out.on hbl).2.2.2 (by omega)
      have h1 := hcell i hlt
      have hc6 := HCV.out.at hlt
      have hl := HCV.out.1
      have hs1 := anyK_succ P (d := 0) (i := i) (by omega : i < C.length)
      have ha1 := allK_succ Q (d := 0) (i := i) (by omega : i < C.length)
      have k3 : IntKind.i64.wrap ((i : Int) + 1) = ((i + 1 : Nat) : Int) := by rw [IntWalk.i64_in _ (by omega)]; omega
      obtain ⟨x, hx⟩ : ∃ x, C[i]?.getD 0 = x := ⟨_, rfl⟩
      rw [hx] at h1 hc6 hs1 ha1
      rw [← HP.out] at hs1
      rw [← HQ.out] at ha1
      rw [HP.out] at hs1
      rw [HQ.out] at ha1
      have hPx : P x = (x == top || (false && x == low)) := by rw [← HP.out]; rfl
      have hQx : Q x = (x == nought) := by rw [← HQ.out]
      have x6 : (x : Int) < 256 := by omega
      rw [hPx] at hs1
      rw [hQx] at ha1
      clear hcell hPx hQx hl hx
      obtain ⟨so, hso⟩ : ∃ so, anyK P C i = so := ⟨_, rfl⟩
      obtain ⟨al, hal⟩ : ∃ al, allK Q C i = al := ⟨_, rfl⟩
      rw [hso] at hs1 ⊢
      rw [hal] at ha1 ⊢
      obtain ⟨r1, hr1⟩ : ∃ r, anyK P C (i + 1) = r := ⟨_, rfl⟩
      obtain ⟨r2, hr2⟩ : ∃ r, allK Q C (i + 1) = r := ⟨_, rfl⟩
      rw [hr1] at hs1
      rw [hr2] at ha1
      have HR1 := Lib.hid hr1
      have HR2 := Lib.hid hr2
      clear hso hal hr1 hr2
      have hS : (so = true ∧ r1 = true) ∨ (so = false ∧ r1 = true ∧ (x == top) = true ∧ ((x : Int) == (top : Int)) = true) ∨ (so = false ∧ (x == top) = false ∧ ((x : Int) == (top : Int)) = false ∧ r1 = false) := by
        rw [hs1]
        by_cases e1 : x = top <;> cases so <;> simp [e1] <;> omega
      have hA : (al = false ∧ r2 = false) ∨ (al = true ∧ r2 = true ∧ (x == nought) = true ∧ ((x : Int) == (nought : Int)) = true) ∨ (al = true ∧ r2 = false ∧ (x == nought) = false ∧ ((x : Int) == (nought : Int)) = false) := by
        rw [ha1]
        by_cases e1 : x = nought <;> cases al <;> simp [e1] <;> omega
      clear hs1 ha1
      rcases hS with ⟨rfl, rfl⟩ | ⟨rfl, rfl, s1, s2⟩ | ⟨rfl, s1, s2, rfl⟩ <;> rcases hA with ⟨rfl, rfl⟩ | ⟨rfl, rfl, a1, a2⟩ | ⟨rfl, rfl, a1, a2⟩
      all_goals
        go_wp2_with fail
        go_roundw
        case rel => exact ⟨i + 1, by omega, rfl, by rw [HR1.out], by rw [HR2.out], hbl⟩
        case measure => simp [intOf] <;> omega
    · obtain rfl : i = n := by omega
      have cc := CCV.out.trans (hbl.mono CCV.out.size)
      have hl := HCV.out.1
      have g1 := anyK_end P C
      have g2 := allK_end Q C
      rw [← hl] at g1 g2
      have hR := HR.out
      rw [← g1, ← g2] at hR
      clear g1 g2 hl
      generalize anyK P C i = so at *
      generalize allK Q C i = al at *
      by_cases z : s = 0
      · subst z
        rw [if_pos rfl] at hR
        subst hR
        go_wp2_with fail
        go_ret
        exact ⟨rfl, cc⟩
      · rw [if_neg z] at hR
        have z1 : (s == 0) = false := beq_eq_false_iff_ne.2 z
        by_cases p : 0 < s
        · have p1 : decide (0 < s) = true := decide_eq_true p
          rw [p1, Bool.true_and] at hR
          subst hR
          go_wp2_with fail
          go_ret
          exact ⟨rfl, cc⟩
        · have p1 : decide (0 < s) = false := decide_eq_false p
          rw [p1, Bool.false_and] at hR
          subst hR
          go_wp2_with fail
          go_ret
          exact ⟨rfl, cc⟩

theorem rcodes_N {w : World} {k s : Int} {A B : Option Addr} {n c m d : Nat} {C : List Nat} (h : Kind9 k) (hC : BR w A n c C) (hn : n ≤ 9223372036854775807) : Calls Tryz.prog 37 #[.agg #[.int .i64 k, .int .i64 s, .slice A n c, .slice B m d]] w (GotV w (.bool (decide (OkC k s C)))) := by
  by_cases hs : Shr k (-1) 1
  · rw [okC_eq (sg := true) (decide_eq_true hs).symm]; exact rcodes_t h hs hC hn
  · rw [okC_eq (sg := false) (decide_eq_false hs).symm]; exact rcodes_f h hs hC hn

end Go.Proofs.YtpidpebgeblenaaGreat
