/-
  Several texts in one: ZB, JC, L10.
-/
import Derived.Test.YtgglcgkgeilblaaA4

/-
  The contracts of zed: Mul, Add.
-/
namespace Go.Proofs.Ytgglcgkgeilblaa
set_option maxRecDepth 100000
open Go.RowKit
set_option linter.unusedVariables false

set_option maxRecDepth 100000 in
set_option maxHeartbeats 2000000 in
theorem zmul_N {w : World} {b b' : Bool} {A B : Option Addr} {n c m d : Nat} {z z' : Int} (ha : Zn w b A n c z) (hb : Zn w b' B m d z') (hx : (limbs z.natAbs).length ≤ 1000) (hy : (limbs z'.natAbs).length ≤ 1000) :
    Calls Try.prog 23 #[.agg #[.bool b, .slice A n c], .agg #[.bool b', .slice B m d]] w (GotZ w (z * z')) := by
  obtain ⟨W, hW⟩ : ∃ W, ((w.alloc (.cells #[.bool b, .slice A n c] 34)).alloc (.cells #[.bool b', .slice B m d] 34)).alloc (.cells #[.bool false, .slice none 0 0] 34) = W := ⟨_, rfl⟩
  have hB : Below w.heap.size w W := by rw [← hW]; exact (below_two w (.cells #[.bool b, .slice A n c] 34) (.cells #[.bool b', .slice B m d] 34)).alloc (by simp; omega) (.cells #[.bool false, .slice none 0 0] 34)
  have hsz : W.heap.size = w.heap.size + 3 := by rw [← hW]; simp
  have hBd : Below w.heap.size w W.drew := below_drewN hB 1
  have ha' : Num W.drew A n c z.natAbs := ha.1.on hBd
  have hb' : Num W.drew B m d z'.natAbs := hb.1.on hBd
  have c1 : W.cell? ⟨w.heap.size, 0, none⟩ = some (.bool b) := by rw [← hW]; simp [go_sem]
  have c2 : W.cell? ⟨w.heap.size, 1, none⟩ = some (.slice A n c) := by rw [← hW]; simp [go_sem]
  have c3 : W.cell? ⟨w.heap.size + 1, 0, none⟩ = some (.bool b') := by rw [← hW]; simp [go_sem]
  have c4 : W.cell? ⟨w.heap.size + 1, 1, none⟩ = some (.slice B m d) := by rw [← hW]; simp [go_sem]
  have c5 : W.cell? ⟨w.heap.size + 1 + 1, 0, none⟩ = some (.bool false) := by rw [← hW]; simp [go_sem]
  have c6 : W.cell? ⟨w.heap.size + 1 + 1, 1, none⟩ = some (.slice none 0 0) := by rw [← hW]; simp [go_sem]
  have c7 : W.frozen? ⟨w.heap.size + 1 + 1, 0, none⟩ = false := by rw [← hW]; simp [go_sem]
  have c8 : W.frozen? ⟨w.heap.size + 1 + 1, 1, none⟩ = false := by rw [← hW]; simp [go_sem]
  have HS : Hid (sgn (!(b == b')) (z.natAbs * z'.natAbs) = z * z') := Lib.hid (sgn_mul ha.2 hb.2)
  have hl := limbs_length_mul hx hy
  have hcall : Calls Try.prog 44 #[.slice A n c, .slice B m d] W.drew fun e w' => ∃ A1 n1 c1, e = .returned (.slice A1 n1 c1) ∧ Num w' A1 n1 c1 (z.natAbs * z'.natAbs) ∧ Below W.heap.size W w' := (mul_N ha' hb' (by omega) (by omega)).mono fun _ _ ⟨A1, n1, c1, he, hm, hb⟩ => ⟨A1, n1, c1, he, hm, ⟨hb.os, hb.tape, hb.output, hb.size, hb.block⟩⟩
  have HC := Lib.hid hcall
  have HW := Lib.hid hW
  clear hcall
  go_enter Try.func23, Try.ntmps23
  go_wp2_with fail
  clear hW HW
  go_region_held3 (fun w' => w'.cell? ⟨w.heap.size, 0, none⟩ = some (.bool b) ∧ w'.cell? ⟨w.heap.size, 1, none⟩ = some (.slice A n c) ∧ w'.cell? ⟨w.heap.size + 1, 0, none⟩ = some (.bool b') ∧ w'.cell? ⟨w.heap.size + 1, 1, none⟩ = some (.slice B m d))
    (first | exact ⟨(cell_store (by omega)).trans ((hb1.cell (p := ⟨w.heap.size, 0, none⟩) (by simp; omega)).trans c1), (cell_store (by omega)).trans ((hb1.cell (p := ⟨w.heap.size, 1, none⟩) (by simp; omega)).trans c2), (cell_store (by omega)).trans ((hb1.cell (p := ⟨w.heap.size + 1, 0, none⟩) (by simp; omega)).trans c3), (cell_store (by omega)).trans ((hb1.cell (p := ⟨w.heap.size + 1, 1, none⟩) (by simp; omega)).trans c4)⟩ | go_keep | exact ⟨(hb1.cell (p := ⟨w.heap.size, 0, none⟩) (by simp; omega)).trans c1, (hb1.cell (p := ⟨w.heap.size, 1, none⟩) (by simp; omega)).trans c2, (hb1.cell (p := ⟨w.heap.size + 1, 0, none⟩) (by simp; omega)).trans c3, (hb1.cell (p := ⟨w.heap.size + 1, 1, none⟩) (by simp; omega)).trans c4⟩)
    (first
      | (go_at_call 44; (with_reducible refine HC.out.mono ?_); rintro e w1 ⟨A1, n1, k1, rfl, hm, hb1⟩)
      | (go_at_call 43; (with_reducible refine (signed_N _ hm (by rw [hm.len]; omega)).mono ?_); rintro e w2 ⟨b2, A2, n2, k2, rfl, hz2, hb2⟩; replace hb1 := hb1.trans (hb2.mono hb1.size); have e5 := (hb1.cell (p := ⟨w.heap.size + 1 + 1, 0, none⟩) (by simp; omega)).trans c5; have e6 := (hb1.cell (p := ⟨w.heap.size + 1 + 1, 1, none⟩) (by simp; omega)).trans c6; have e7 := (hb1.frozen (p := ⟨w.heap.size + 1 + 1, 0, none⟩) (by simp; omega)).trans c7; have e8 := (hb1.frozen (p := ⟨w.heap.size + 1 + 1, 1, none⟩) (by simp; omega)).trans c8))
  rw [HS.out] at hz2
  have HZ := Lib.hid (hz2.stored e5 e6)
  have HB : Below w.heap.size w w2 := hB.trans (hb1.mono hB.size)
  go_wp2_with fail
  refine bodyPost_ret (v := .agg #[.bool b2, .slice A2 n2 k2]) (by simp [results, Try.results23, go_sem, e5, e6]) rfl ⟨_, _, _, _, rfl, HZ.out, ?_⟩
  exact (HB.setCell (p := ⟨w.heap.size + 1 + 1, 0, none⟩) (show w.heap.size ≤ w.heap.size + 1 + 1 by omega) _).setCell (p := ⟨w.heap.size + 1 + 1, 1, none⟩) (show w.heap.size ≤ w.heap.size + 1 + 1 by omega) _

end Go.Proofs.Ytgglcgkgeilblaa

/-
  The contracts of the landed code: isShare, the closure of Near, sort.Search over it, Near, Num.
-/
namespace Go.Proofs.Ytgglcgkgeilblaa
set_option maxRecDepth 100000
open Go.RowKit
set_option linter.unusedVariables false
set_option linter.unusedSimpArgs false

/-- Where the half of a share is not above the middle of two numbers side by side: behind the code of it. -/
theorem near10_search {k num den : Int} {i : Nat} (h : Kind9 k) (hd : 0 < den) (hi : i < 255) : (num * (2 * den9 k) ≤ (num10 k i + num10 k (i + 1)) * den) ↔ near10 k num den ≤ i := by
  have hr := near10_le k num den
  have e1 : num * (2 * den9 k) = 2 * (num * den9 k) := by rw [Int.mul_left_comm]
  rw [e1, Int.add_mul]
  have mono : ∀ a b, a < b → b ≤ 255 → num10 k a * den < num10 k b * den := fun a b hab hb => Int.mul_lt_mul_of_pos_right (num10_up h hab hb) hd
  constructor
  · intro hle
    rcases Nat.lt_or_ge i (near10 k num den) with e | e
    · exfalso
      have h1 := (near10_least (k := k) (num := num) (den := den) (c := i) (by omega)).2 e
      have h2 := mono _ _ e hr
      have h3 : num10 k (i + 1) * den ≤ num10 k (near10 k num den) * den := by
        rcases Nat.lt_or_ge (i + 1) (near10 k num den) with e2 | e2
        · exact Int.le_of_lt (mono _ _ e2 hr)
        · have : i + 1 = near10 k num den := by omega
          rw [this]; exact Int.le_refl _
      unfold dst at h1
      omega
    · exact e
  · intro hle
    have h1 := (near10_least (k := k) (num := num) (den := den) (c := i + 1) (by omega)).1
    have h2 := mono _ _ (show near10 k num den < i + 1 by omega) (by omega)
    have h3 : num10 k (near10 k num den) * den ≤ num10 k i * den := by
      rcases Nat.lt_or_ge (near10 k num den) i with e2 | e2
      · exact Int.le_of_lt (mono _ _ e2 (by omega))
      · have : near10 k num den = i := by omega
        rw [this]; exact Int.le_refl _
    unfold dst at h1
    omega
theorem two_i64 (k : Int) : I64 (2 * den9 k) ∧ IntKind.i64.wrap (2 * den9 k) = 2 * den9 k := by have := den9_bd k; exact ⟨by unfold I64; omega, IntWalk.i64_in _ (by omega)⟩
theorem sum_i64 (k : Int) (i : Nat) : I64 (num10 k i + num10 k (i + 1)) ∧ IntKind.i64.wrap (num10 k i + num10 k (i + 1)) = num10 k i + num10 k (i + 1) := by have := num10_bd k i; have := num10_bd k (i + 1); exact ⟨by unfold I64; omega, IntWalk.i64_in _ (by omega)⟩
theorem zcmp_w {w : World} {b b' : Bool} {A B : Option Addr} {n c m d : Nat} {z z' : Int} (r : Int) (ha : Zn w b A n c z) (hb : Zn w b' B m d z') (hx : (limbs z.natAbs).length ≤ 300) (hy : (limbs z'.natAbs).length ≤ 300) (h : cmpZ z z' = r) : Calls Try.prog 27 #[.agg #[.bool b, .slice A n c], .agg #[.bool b', .slice B m d]] w (GotV w (.int .i64 r)) := by
  subst h
  exact zcmp_N ha hb hx hy

set_option maxRecDepth 100000 in
set_option maxHeartbeats 8000000 in
theorem cShare_de (w : World) {k num den : Int} (hd : I64 den) (q0 : den < 1) :
    Calls Try.prog 22 #[.int .i64 k, .int .i64 num, .int .i64 den] w (GotV w (.bool false)) := by
  have t0 : decide (den < 1) = true := decide_eq_true (by omega)
  clear q0
  have cc := Below.refl w.heap.size w
  go_enter Try.func22, Try.ntmps22
  go_wp2_with fail
  go_wp2_with fail
  go_ret
  exact ⟨rfl, cc⟩

set_option maxRecDepth 100000 in
set_option maxHeartbeats 8000000 in
theorem cShare_big (w : World) {k num den : Int} (hd : I64 den) (q0 : 1 ≤ den) (q1 : den < num) :
    Calls Try.prog 22 #[.int .i64 k, .int .i64 num, .int .i64 den] w (GotV w (.bool false)) := by
  have t0 : decide (den < 1) = false := decide_eq_false (by omega)
  have t1 : decide (den < num) = true := decide_eq_true (by omega)
  clear q0 q1
  have cc := Below.refl w.heap.size w
  go_enter Try.func22, Try.ntmps22
  go_wp2_with fail
  go_wp2_with fail
  go_ret
  exact ⟨rfl, cc⟩

set_option maxRecDepth 100000 in
set_option maxHeartbeats 8000000 in
theorem cShare_sig (w : World) {k num den : Int} (hd : I64 den) (q0 : 1 ≤ den) (q1 : num ≤ den) (q2 : sig9 k = true) :
    Calls Try.prog 22 #[.int .i64 k, .int .i64 num, .int .i64 den] w (GotV w (.bool (decide (-den ≤ num)))) := by
  have t0 : decide (den < 1) = false := decide_eq_false (by omega)
  have t1 : decide (den < num) = false := decide_eq_false (by omega)
  have CS := fun W => bsig_N W k
  rw [q2] at CS
  obtain ⟨m, hm⟩ : ∃ m, m = -den := ⟨_, rfl⟩
  have k1 : IntKind.i64.wrap (-den) = m := by rw [IntWalk.i64_in (-den) (by unfold I64 at hd; omega), hm]
  rw [← hm]
  clear hm
  clear q0 q1 q2
  have cc := Below.refl w.heap.size w
  go_enter Try.func22, Try.ntmps22
  go_wp2_with fail
  refine (CS _).mono ?_
  rintro e w1 ⟨rfl, b⟩
  replace cc := cc.trans (b.mono cc.size)
  clear b
  go_wp2_with fail
  go_ret
  exact ⟨rfl, cc⟩

set_option maxRecDepth 100000 in
set_option maxHeartbeats 8000000 in
theorem cShare_uns (w : World) {k num den : Int} (hd : I64 den) (q0 : 1 ≤ den) (q1 : num ≤ den) (q2 : sig9 k = false) :
    Calls Try.prog 22 #[.int .i64 k, .int .i64 num, .int .i64 den] w (GotV w (.bool (decide (0 ≤ num)))) := by
  have t0 : decide (den < 1) = false := decide_eq_false (by omega)
  have t1 : decide (den < num) = false := decide_eq_false (by omega)
  have CS := fun W => bsig_N W k
  rw [q2] at CS
  clear q0 q1 q2
  have cc := Below.refl w.heap.size w
  go_enter Try.func22, Try.ntmps22
  go_wp2_with fail
  refine (CS _).mono ?_
  rintro e w1 ⟨rfl, b⟩
  replace cc := cc.trans (b.mono cc.size)
  clear b
  go_wp2_with fail
  go_ret
  exact ⟨rfl, cc⟩

theorem cShare_N (w : World) {k num den : Int} (hk : Kind9 k) (hd : I64 den) : Calls Try.prog 22 #[.int .i64 k, .int .i64 num, .int .i64 den] w (GotV w (.bool (decide (Shr k num den)))) := by
  by_cases a2 : den < 1
  · rw [decide_eq_false (fun h => by have := h.2.1; omega)]; exact cShare_de w hd a2
  by_cases a3 : den < num
  · rw [decide_eq_false (fun h => by have := h.2.2.1; omega)]; exact cShare_big w hd (by omega) a3
  cases hs : sig9 k with
  | true =>
    have e : decide (Shr k num den) = decide (-den ≤ num) := decide_eq_decide.2 ⟨fun h => h.2.2.2.1, fun h => ⟨hk, by omega, by omega, h, .inr hs⟩⟩
    rw [e]; exact cShare_sig w hd (by omega) (by omega) hs
  | false =>
    have e : decide (Shr k num den) = decide (0 ≤ num) := decide_eq_decide.2 ⟨fun h => (by rcases h.2.2.2.2 with h | h; exact h; rw [hs] at h; cases h), fun h => ⟨hk, by omega, by omega, by omega, .inl h⟩⟩
    rw [e]; exact cShare_uns w hd (by omega) (by omega) hs

set_option maxRecDepth 100000 in
set_option maxHeartbeats 8000000 in
theorem reach_N {w : World} {k s den : Int} {bs bm : Bool} {As Am : Option Addr} {ns cs nm cm bb off cl gl gm gs i : Nat} (hl : IR w (some ⟨bb, off, none⟩) 256 cl (book9 k)) (hbb : bb < w.heap.size) (l0 : w.cell? ⟨gl, 0, none⟩ = some (.slice (some ⟨bb, off, none⟩) 256 cl)) (ll : gl < w.heap.size) (s0 : w.cell? ⟨gs, 0, none⟩ = some (.bool bs)) (s1 : w.cell? ⟨gs, 1, none⟩ = some (.slice As ns cs)) (sl : gs < w.heap.size) (m0 : w.cell? ⟨gm, 0, none⟩ = some (.bool bm)) (m1 : w.cell? ⟨gm, 1, none⟩ = some (.slice Am nm cm)) (ml : gm < w.heap.size) (hs : Zn w bs As ns cs s) (hm : Zn w bm Am nm cm den) (hden : I64 den) (ls : (limbs s.natAbs).length ≤ 4) (hi : i < 255) :
    Calls Try.prog 26 #[.int .i64 (i : Int), .pointer (some ⟨gl, 0, none⟩), .pointer (some ⟨gm, 0, none⟩), .pointer (some ⟨gs, 0, none⟩)] w (GotV w (.bool (decide (s ≤ (num10 k i + num10 k (i + 1)) * den)))) := by
  have hi2 : (i : Int) < 256 := by omega
  have c0 : w.cell? ⟨bb, off + i, none⟩ = some (.int .i64 (num10 k i)) := hl.cell (by omega)
  have c1 : w.cell? ⟨bb, off + (i + 1), none⟩ = some (.int .i64 (num10 k (i + 1))) := hl.cell (by omega)
  obtain ⟨hb1, hb2⟩ := sum_i64 k i
  have k1 : IntKind.i64.wrap ((i : Int) + 1) = ((i + 1 : Nat) : Int) := by rw [IntWalk.i64_in _ (by omega)]; omega
  have hlt1 : ((i + 1 : Nat) : Int) < 256 := by omega
  generalize num10 k i = p at *
  generalize num10 k (i + 1) = q at *
  obtain ⟨v, hv⟩ : ∃ v, p + q = v := ⟨_, rfl⟩
  have k2 : IntKind.i64.wrap (p + q) = v := by rw [hb2]; exact hv
  rw [hv] at hb1 ⊢
  clear hb2
  have lm := len_prod hb1 hden
  obtain ⟨r0, hr0⟩ : ∃ r, cmpZ s (v * den) = r := ⟨_, rfl⟩
  have ht : decide (s ≤ v * den) = decide (r0 ≤ 0) := decide_eq_decide.2 (by rw [← hr0]; exact cmpZ_ngt.symm)
  rw [ht]
  have HR := Lib.hid hr0
  have HI := Lib.hid hi
  generalize hj : i + 1 = j at *
  clear hr0 ht hl hv hj hi
  have cc := Below.refl w.heap.size w
  have hbl : bb < w.heap.size := hbb
  go_enter Try.func26, Try.ntmps26
  go_wp2_with fail
  go_upto_region 1 with fail
  go_cut [6] (fun u wx => ∃ (g_ : Nat) (b_ : Bool) (A_ : Option Addr) (n_ c_ : Nat), u = .pointer (some ⟨g_, 0, none⟩) ∧ LoneZ w wx g_ b_ A_ n_ c_ (v * den))
  case first =>
    have BB0 : Below w.heap.size w w.drew := below_drewN (Below.refl _ w) 1
    have BB1 : Below w.heap.size w (w.alloc (.cells #[.bool false, .slice none 0 0] 34)).drew := below_drewN (below_one _ _) 1
    go_region_held3 (fun w' => w'.cell? ⟨gl, 0, none⟩ = some (.slice (some ⟨bb, off, none⟩) 256 cl) ∧ w'.cell? ⟨bb, off + i, none⟩ = some (.int .i64 p) ∧ w'.cell? ⟨bb, off + j, none⟩ = some (.int .i64 q) ∧ w'.cell? ⟨gs, 0, none⟩ = some (.bool bs) ∧ w'.cell? ⟨gs, 1, none⟩ = some (.slice As ns cs) ∧ w'.cell? ⟨gm, 0, none⟩ = some (.bool bm) ∧ w'.cell? ⟨gm, 1, none⟩ = some (.slice Am nm cm))
      (first | with_reducible exact ⟨l0, c0, c1, s0, s1, m0, m1⟩ | with_reducible exact ⟨keep_alloc (l0), keep_alloc (c0), keep_alloc (c1), keep_alloc (s0), keep_alloc (s1), keep_alloc (m0), keep_alloc (m1)⟩ | with_reducible exact ⟨keep_alloc (keep_alloc (l0)), keep_alloc (keep_alloc (c0)), keep_alloc (keep_alloc (c1)), keep_alloc (keep_alloc (s0)), keep_alloc (keep_alloc (s1)), keep_alloc (keep_alloc (m0)), keep_alloc (keep_alloc (m1))⟩ | with_reducible exact ⟨((qq.cell (p := ⟨gl, 0, none⟩) ll).trans l0), ((qq.cell (p := ⟨bb, off + i, none⟩) hbl).trans c0), ((qq.cell (p := ⟨bb, off + j, none⟩) hbl).trans c1), ((qq.cell (p := ⟨gs, 0, none⟩) sl).trans s0), ((qq.cell (p := ⟨gs, 1, none⟩) sl).trans s1), ((qq.cell (p := ⟨gm, 0, none⟩) ml).trans m0), ((qq.cell (p := ⟨gm, 1, none⟩) ml).trans m1)⟩ | with_reducible exact ⟨keep_alloc (((qq.cell (p := ⟨gl, 0, none⟩) ll).trans l0)), keep_alloc (((qq.cell (p := ⟨bb, off + i, none⟩) hbl).trans c0)), keep_alloc (((qq.cell (p := ⟨bb, off + j, none⟩) hbl).trans c1)), keep_alloc (((qq.cell (p := ⟨gs, 0, none⟩) sl).trans s0)), keep_alloc (((qq.cell (p := ⟨gs, 1, none⟩) sl).trans s1)), keep_alloc (((qq.cell (p := ⟨gm, 0, none⟩) ml).trans m0)), keep_alloc (((qq.cell (p := ⟨gm, 1, none⟩) ml).trans m1))⟩ | with_reducible exact ⟨keep_alloc (keep_alloc (((qq.cell (p := ⟨gl, 0, none⟩) ll).trans l0))), keep_alloc (keep_alloc (((qq.cell (p := ⟨bb, off + i, none⟩) hbl).trans c0))), keep_alloc (keep_alloc (((qq.cell (p := ⟨bb, off + j, none⟩) hbl).trans c1))), keep_alloc (keep_alloc (((qq.cell (p := ⟨gs, 0, none⟩) sl).trans s0))), keep_alloc (keep_alloc (((qq.cell (p := ⟨gs, 1, none⟩) sl).trans s1))), keep_alloc (keep_alloc (((qq.cell (p := ⟨gm, 0, none⟩) ml).trans m0))), keep_alloc (keep_alloc (((qq.cell (p := ⟨gm, 1, none⟩) ml).trans m1)))⟩ | with_reducible exact ⟨((cell_store (by omega)).trans ((qq.cell (p := ⟨gl, 0, none⟩) ll).trans l0)), ((cell_store (by omega)).trans ((qq.cell (p := ⟨bb, off + i, none⟩) hbl).trans c0)), ((cell_store (by omega)).trans ((qq.cell (p := ⟨bb, off + j, none⟩) hbl).trans c1)), ((cell_store (by omega)).trans ((qq.cell (p := ⟨gs, 0, none⟩) sl).trans s0)), ((cell_store (by omega)).trans ((qq.cell (p := ⟨gs, 1, none⟩) sl).trans s1)), ((cell_store (by omega)).trans ((qq.cell (p := ⟨gm, 0, none⟩) ml).trans m0)), ((cell_store (by omega)).trans ((qq.cell (p := ⟨gm, 1, none⟩) ml).trans m1))⟩ | with_reducible exact ⟨keep_alloc (((cell_store (by omega)).trans ((qq.cell (p := ⟨gl, 0, none⟩) ll).trans l0))), keep_alloc (((cell_store (by omega)).trans ((qq.cell (p := ⟨bb, off + i, none⟩) hbl).trans c0))), keep_alloc (((cell_store (by omega)).trans ((qq.cell (p := ⟨bb, off + j, none⟩) hbl).trans c1))), keep_alloc (((cell_store (by omega)).trans ((qq.cell (p := ⟨gs, 0, none⟩) sl).trans s0))), keep_alloc (((cell_store (by omega)).trans ((qq.cell (p := ⟨gs, 1, none⟩) sl).trans s1))), keep_alloc (((cell_store (by omega)).trans ((qq.cell (p := ⟨gm, 0, none⟩) ml).trans m0))), keep_alloc (((cell_store (by omega)).trans ((qq.cell (p := ⟨gm, 1, none⟩) ml).trans m1)))⟩ | with_reducible exact ⟨keep_alloc (keep_alloc (((cell_store (by omega)).trans ((qq.cell (p := ⟨gl, 0, none⟩) ll).trans l0)))), keep_alloc (keep_alloc (((cell_store (by omega)).trans ((qq.cell (p := ⟨bb, off + i, none⟩) hbl).trans c0)))), keep_alloc (keep_alloc (((cell_store (by omega)).trans ((qq.cell (p := ⟨bb, off + j, none⟩) hbl).trans c1)))), keep_alloc (keep_alloc (((cell_store (by omega)).trans ((qq.cell (p := ⟨gs, 0, none⟩) sl).trans s0)))), keep_alloc (keep_alloc (((cell_store (by omega)).trans ((qq.cell (p := ⟨gs, 1, none⟩) sl).trans s1)))), keep_alloc (keep_alloc (((cell_store (by omega)).trans ((qq.cell (p := ⟨gm, 0, none⟩) ml).trans m0)))), keep_alloc (keep_alloc (((cell_store (by omega)).trans ((qq.cell (p := ⟨gm, 1, none⟩) ml).trans m1))))⟩ | go_keep)
      (first
        | (go_at_call 24; (with_reducible refine (zof_N _ v hb1).mono ?_); rintro e y1 ⟨bu, Au, nu, cu, rfl, hu, q⟩; have qq := BB0.trans (q.mono BB0.size); have hs' := (hs.on BB0).on q; have hm' := (hm.on BB0).on q; have qs1 := qq.size; clear q)
        | (go_at_call 24; (with_reducible refine (zof_N _ v hb1).mono ?_); rintro e y1 ⟨bu, Au, nu, cu, rfl, hu, q⟩; have qq := BB1.trans (q.mono BB1.size); have hs' := (hs.on BB1).on q; have hm' := (hm.on BB1).on q; have qs1 := qq.size; have bo_0 := (q.cell (p := ⟨w.heap.size, 0, none⟩) (by simp)).trans (show _ = some (.bool false) by simp [go_sem]); have fo_0 := (q.frozen (p := ⟨w.heap.size, 0, none⟩) (by simp)).trans (show _ = false by simp [go_sem]); have bo_1 := (q.cell (p := ⟨w.heap.size, 1, none⟩) (by simp)).trans (show _ = some (.slice none 0 0) by simp [go_sem]); have fo_1 := (q.frozen (p := ⟨w.heap.size, 1, none⟩) (by simp)).trans (show _ = false by simp [go_sem]); have ol : w.heap.size < y1.heap.size := Nat.lt_of_lt_of_le (by simp) q.size; clear q)
        | (go_at_call 23; have up := Below.refl y1.heap.size y1; (with_reducible refine (zmul_N (hu.on up) (hm'.on up) (Nat.le_trans (len_one hb1.abs) (by omega)) (Nat.le_trans (len_one hden.abs) (by omega))).mono ?_); rintro e y2 ⟨bx, Ax, nx, cx, rfl, hx, q⟩; replace qq := (qq.trans (up.mono qq.size)).trans (q.mono (Nat.le_trans qq.size up.size)); replace hs' := (hs'.on up).on q; replace hm' := (hm'.on up).on q; replace hu := (hu.on up).on q; (try replace bo_0 := (q.cell (Nat.lt_of_lt_of_le ol up.size)).trans ((up.cell ol).trans bo_0)); (try replace fo_0 := (q.frozen (Nat.lt_of_lt_of_le ol up.size)).trans ((up.frozen ol).trans fo_0)); (try replace bo_1 := (q.cell (Nat.lt_of_lt_of_le ol up.size)).trans ((up.cell ol).trans bo_1)); (try replace fo_1 := (q.frozen (Nat.lt_of_lt_of_le ol up.size)).trans ((up.frozen ol).trans fo_1)); (try replace ol := Nat.lt_of_lt_of_le ol (Nat.le_trans up.size q.size)); have qs2 := qq.size; clear q up)
        | (go_at_call 23; have up := below_one y1 (.cells #[.bool false, .slice none 0 0] 34); (with_reducible refine (zmul_N (hu.on up) (hm'.on up) (Nat.le_trans (len_one hb1.abs) (by omega)) (Nat.le_trans (len_one hden.abs) (by omega))).mono ?_); rintro e y2 ⟨bx, Ax, nx, cx, rfl, hx, q⟩; replace qq := (qq.trans (up.mono qq.size)).trans (q.mono (Nat.le_trans qq.size up.size)); replace hs' := (hs'.on up).on q; replace hm' := (hm'.on up).on q; replace hu := (hu.on up).on q; (try replace bo_0 := (q.cell (Nat.lt_of_lt_of_le ol up.size)).trans ((up.cell ol).trans bo_0)); (try replace fo_0 := (q.frozen (Nat.lt_of_lt_of_le ol up.size)).trans ((up.frozen ol).trans fo_0)); (try replace bo_1 := (q.cell (Nat.lt_of_lt_of_le ol up.size)).trans ((up.cell ol).trans bo_1)); (try replace fo_1 := (q.frozen (Nat.lt_of_lt_of_le ol up.size)).trans ((up.frozen ol).trans fo_1)); (try replace ol := Nat.lt_of_lt_of_le ol (Nat.le_trans up.size q.size)); have qs2 := qq.size; have bo_0 := (q.cell (p := ⟨y1.heap.size, 0, none⟩) (by simp)).trans (show _ = some (.bool false) by simp [go_sem]); have fo_0 := (q.frozen (p := ⟨y1.heap.size, 0, none⟩) (by simp)).trans (show _ = false by simp [go_sem]); have bo_1 := (q.cell (p := ⟨y1.heap.size, 1, none⟩) (by simp)).trans (show _ = some (.slice none 0 0) by simp [go_sem]); have fo_1 := (q.frozen (p := ⟨y1.heap.size, 1, none⟩) (by simp)).trans (show _ = false by simp [go_sem]); have ol : y1.heap.size < y2.heap.size := Nat.lt_of_lt_of_le (by simp) q.size; clear q up))
    all_goals (go_wp2_with fail; go_meet)
    all_goals refine ⟨_, bx, Ax, nx, cx, rfl, ?_⟩
    all_goals first
      | with_reducible exact loneZA hx qq _
      | with_reducible exact loneZB bo_0 bo_1 hx qq (by omega)
  case rest =>
    obtain ⟨gd, bd, Ad, nd, cd, rfl, ⟨d0, d1⟩, hd, b, dge⟩ := hcut
    have dl := cell_lt d0
    simp only at dl
    have dqs : gs < gd := Nat.lt_of_lt_of_le sl dge
    have dqm : gm < gd := Nat.lt_of_lt_of_le ml dge
    replace l0 := (b.cell (p := ⟨gl, 0, none⟩) ll).trans l0
    replace c0 := (b.cell (p := ⟨bb, off + i, none⟩) hbl).trans c0
    replace c1 := (b.cell (p := ⟨bb, off + j, none⟩) hbl).trans c1
    replace hbl := Nat.lt_of_lt_of_le hbl b.size
    replace ll := Nat.lt_of_lt_of_le ll b.size
    replace hs := hs.on b
    replace hm := hm.on b
    replace s0 := (b.cell (p := ⟨gs, 0, none⟩) sl).trans s0
    replace s1 := (b.cell (p := ⟨gs, 1, none⟩) sl).trans s1
    replace sl := Nat.lt_of_lt_of_le sl b.size
    replace m0 := (b.cell (p := ⟨gm, 0, none⟩) ml).trans m0
    replace m1 := (b.cell (p := ⟨gm, 1, none⟩) ml).trans m1
    replace ml := Nat.lt_of_lt_of_le ml b.size
    replace cc := cc.trans (b.mono cc.size)
    clear b
    go_wp2_with fail
    refine (zcmp_w r0 hs hd (Nat.le_trans ls (by omega)) (Nat.le_trans lm (by omega)) HR.out).mono ?_
    rintro e w1 ⟨rfl, b⟩
    replace l0 := (b.cell (p := ⟨gl, 0, none⟩) ll).trans l0
    replace c0 := (b.cell (p := ⟨bb, off + i, none⟩) hbl).trans c0
    replace c1 := (b.cell (p := ⟨bb, off + j, none⟩) hbl).trans c1
    replace hbl := Nat.lt_of_lt_of_le hbl b.size
    replace ll := Nat.lt_of_lt_of_le ll b.size
    replace hs := hs.on b
    replace hm := hm.on b
    replace hd := hd.on b
    replace s0 := (b.cell (p := ⟨gs, 0, none⟩) sl).trans s0
    replace s1 := (b.cell (p := ⟨gs, 1, none⟩) sl).trans s1
    replace sl := Nat.lt_of_lt_of_le sl b.size
    replace m0 := (b.cell (p := ⟨gm, 0, none⟩) ml).trans m0
    replace m1 := (b.cell (p := ⟨gm, 1, none⟩) ml).trans m1
    replace ml := Nat.lt_of_lt_of_le ml b.size
    replace d0 := (b.cell (p := ⟨gd, 0, none⟩) dl).trans d0
    replace d1 := (b.cell (p := ⟨gd, 1, none⟩) dl).trans d1
    replace dl := Nat.lt_of_lt_of_le dl b.size
    replace cc := cc.trans (b.mono cc.size)
    clear b
    go_wp2_with fail
    go_ret
    exact ⟨rfl, cc⟩

set_option maxRecDepth 100000 in
set_option maxHeartbeats 8000000 in
theorem search_N {w : World} {r gl gm gs : Nat} (hr : r ≤ 255) (hf : ∀ (W : World) (i : Nat), i < 255 → Below w.heap.size w W → Calls Try.prog 26 #[.int .i64 (i : Int), .pointer (some ⟨gl, 0, none⟩), .pointer (some ⟨gm, 0, none⟩), .pointer (some ⟨gs, 0, none⟩)] W (GotV W (.bool (decide (r ≤ i))))) :
    Calls Try.prog 28 #[.int .i64 255, .func (.func 26) #[] #[.pointer (some ⟨gl, 0, none⟩), .pointer (some ⟨gm, 0, none⟩), .pointer (some ⟨gs, 0, none⟩)]] w (GotV w (.int .i64 (r : Int))) := by
  have cc := Below.refl w.heap.size w
  go_enter Try.func28, Try.ntmps28
  go_wp2_with fail
  go_loopw [5, 6] (fun av bv wr => ∃ a b : Nat, av = .int .i64 (a : Int) ∧ bv = .int .i64 (b : Int) ∧ a ≤ r ∧ r ≤ b ∧ b ≤ 255 ∧ Below w.heap.size w wr) (fun av bv _ => (intOf bv).toNat - (intOf av).toNat)
  case atStart => exact ⟨0, 255, rfl, rfl, by omega, by omega, by omega, cc⟩
  case round =>
    clear cc
    obtain ⟨a, b, rfl, rfl, ha, hb, h5, cc⟩ := hrel
    by_cases hlt : a < b
    · obtain ⟨m, hm⟩ : ∃ m, (a + b) / 2 = m := ⟨_, rfl⟩
      have hmz : ((a : Int) + (b : Int)) / 2 = (m : Int) := by omega
      have hc := hf wr m (by omega) cc
      by_cases hq : r ≤ m
      · rw [decide_eq_true hq] at hc
        have HM := Lib.hid hm
        clear hm
        go_wp2_with fail
        refine hc.mono ?_
        rintro e w1 ⟨rfl, b1⟩
        replace cc := cc.trans (b1.mono cc.size)
        clear b1 hc
        go_wp2_with fail
        go_roundw
        case rel => exact ⟨a, m, rfl, rfl, ha, hq, by have := HM.out; omega, cc⟩
        case measure => have := HM.out; simp [intOf]; omega
      · rw [decide_eq_false hq] at hc
        have HM := Lib.hid hm
        clear hm
        go_wp2_with fail
        refine hc.mono ?_
        rintro e w1 ⟨rfl, b1⟩
        replace cc := cc.trans (b1.mono cc.size)
        clear b1 hc
        go_wp2_with fail
        go_roundw
        case rel => exact ⟨m + 1, b, by go_num, rfl, by omega, hb, h5, cc⟩
        case measure => have := HM.out; simp [intOf]; omega
    · obtain rfl : a = r := by omega
      obtain rfl : b = a := by omega
      go_wp2_with fail
      go_ret
      exact ⟨rfl, cc⟩

set_option maxRecDepth 100000 in
set_option maxHeartbeats 8000000 in
theorem cNear_kind (w : World) {k num den : Int} (hn : I64 num) (hd : I64 den) (hK : ¬ Kind9 k) :
    Calls Try.prog 8 #[.int .i64 k, .int .i64 num, .int .i64 den] w (GotV w (.tuple #[.int .u8 0, .int .i64 1])) := by
  have CB := fun W => bbook_N W k
  rw [(other9 hK).1, (other9 hK).2] at CB
  clear hK
  have cc := Below.refl w.heap.size w
  go_enter Try.func8, Try.ntmps8
  go_wp2_with fail
  refine (CB _).mono ?_
  rintro e w1 ⟨Al, nl, cl, rfl, hl, b⟩
  replace cc := cc.trans (b.mono cc.size)
  clear b
  obtain rfl : nl = 0 := hl.1
  go_wp2_with fail
  go_ret2
  exact ⟨rfl, cc.trans (Below.alloc (Below.refl _ _) (by simp) _ |>.mono cc.size)⟩

set_option maxRecDepth 100000 in
set_option maxHeartbeats 8000000 in
theorem cNear_kno (w : World) {k num den : Int} (hn : I64 num) (hd : I64 den) (hk : Kind9 k) (hS : ¬ Shr k num den) :
    Calls Try.prog 8 #[.int .i64 k, .int .i64 num, .int .i64 den] w (GotV w (.tuple #[.int .u8 0, .int .i64 1])) := by
  have CB : ∀ W : World, Calls Try.prog 21 #[.int .i64 k] W (GotIp W (book9 k) 0) := fun W => by have h := bbook_N W k; rw [kind9_code hk] at h; exact h
  have CS : ∀ W : World, Calls Try.prog 22 #[.int .i64 k, .int .i64 num, .int .i64 den] W (GotV W (.bool false)) := fun W => by have h := cShare_N (num := num) W hk hd; rw [decide_eq_false hS] at h; exact h
  clear hS
  have cc := Below.refl w.heap.size w
  go_enter Try.func8, Try.ntmps8
  go_wp2_with fail
  refine (CB _).mono ?_
  rintro e w1 ⟨Al, nl, cl, rfl, hl, b⟩
  replace cc := cc.trans (b.mono cc.size)
  clear b
  go_wp2_with fail
  have bA := below_one w1 (.cells #[.slice Al nl cl] 45)
  replace hl := hl.on bA
  replace cc := cc.trans (bA.mono cc.size)
  clear bA
  have lb0 : (w1.alloc (.cells #[.slice Al nl cl] 45)).cell? ⟨w1.heap.size, 0, none⟩ = some (.slice Al nl cl) := by simp [go_sem]
  have lbl : w1.heap.size < (w1.alloc (.cells #[.slice Al nl cl] 45)).heap.size := by simp
  generalize w1.alloc (.cells #[.slice Al nl cl] 45) = v2 at *
  refine (CS _).mono ?_
  rintro e w3 ⟨rfl, b⟩
  replace hl := hl.on b
  replace lb0 := (b.cell (p := ⟨w1.heap.size, 0, none⟩) lbl).trans lb0
  replace lbl := Nat.lt_of_lt_of_le lbl b.size
  replace cc := cc.trans (b.mono cc.size)
  clear b
  go_wp2_with fail
  go_ret2
  exact ⟨rfl, cc⟩

set_option maxRecDepth 100000 in
set_option maxHeartbeats 8000000 in
theorem cNear_kyes (w : World) {k num den : Int} (hn : I64 num) (hd : I64 den) (hk : Kind9 k) (hS : Shr k num den) :
    Calls Try.prog 8 #[.int .i64 k, .int .i64 num, .int .i64 den] w (GotV w (.tuple #[.int .u8 ((near10 k num den : Nat) : Int), .int .i64 0])) := by
  have CB : ∀ W : World, Calls Try.prog 21 #[.int .i64 k] W (GotIp W (book9 k) 0) := fun W => by have h := bbook_N W k; rw [kind9_code hk] at h; exact h
  have CS : ∀ W : World, Calls Try.prog 22 #[.int .i64 k, .int .i64 num, .int .i64 den] W (GotV W (.bool true)) := fun W => by have h := cShare_N (num := num) W hk hd; rw [decide_eq_true hS] at h; exact h
  have hd0 := hS.2.1
  have CD := fun W => bden_N W k
  obtain ⟨hD1, hD2⟩ := two_i64 k
  have hlen := (facts10 hk).1
  have ls : (limbs (num * (2 * den9 k)).natAbs).length ≤ 4 := Nat.le_trans (len_prod hn hD1) (by omega)
  have hr := near10_le k num den
  have hsr : ∀ i, i < 255 → decide (num * (2 * den9 k) ≤ (num10 k i + num10 k (i + 1)) * den) = decide (near10 k num den ≤ i) := fun i hi => decide_eq_decide.2 (near10_search hk (by omega) hi)
  have HSR := Lib.hid hsr
  clear hsr hS hk
  generalize near10 k num den = r at *
  obtain ⟨D, hD⟩ : ∃ D, den9 k = D := ⟨_, rfl⟩
  obtain ⟨E, hE⟩ : ∃ E, 2 * den9 k = E := ⟨_, rfl⟩
  rw [hE] at hD1 hD2 ls HSR
  have hE2 : IntKind.i64.wrap (2 * D) = E := by rw [← hD, hE]; exact hD2
  rw [hD] at CD
  have kw : IntKind.u8.wrap (r : Int) = (r : Int) := by rw [IntKind.wrap_u8]; omega
  clear hD hE hD2
  have cc := Below.refl w.heap.size w
  go_enter Try.func8, Try.ntmps8
  go_wp2_with fail
  refine (CB _).mono ?_
  rintro e w1 ⟨Al, nl, cl, rfl, hl, b⟩
  replace cc := cc.trans (b.mono cc.size)
  clear b
  have hn_ : nl = 256 := by rw [hl.1, hlen]
  subst hn_
  obtain ⟨bb, off, rfl, hb⟩ := hl.some (by omega)
  go_wp2_with fail
  have bA := below_one w1 (.cells #[.slice (some ⟨bb, off, none⟩) 256 cl] 45)
  replace hl := hl.on bA
  replace cc := cc.trans (bA.mono cc.size)
  clear bA
  have lb0 : (w1.alloc (.cells #[.slice (some ⟨bb, off, none⟩) 256 cl] 45)).cell? ⟨w1.heap.size, 0, none⟩ = some (.slice (some ⟨bb, off, none⟩) 256 cl) := by simp [go_sem]
  have lbl : w1.heap.size < (w1.alloc (.cells #[.slice (some ⟨bb, off, none⟩) 256 cl] 45)).heap.size := by simp
  generalize w1.alloc (.cells #[.slice (some ⟨bb, off, none⟩) 256 cl] 45) = v2 at *
  refine (CS _).mono ?_
  rintro e w3 ⟨rfl, b⟩
  replace hl := hl.on b
  replace lb0 := (b.cell (p := ⟨w1.heap.size, 0, none⟩) lbl).trans lb0
  replace lbl := Nat.lt_of_lt_of_le lbl b.size
  replace cc := cc.trans (b.mono cc.size)
  clear b
  go_wp2_with fail
  refine (zof_N _ num hn).mono ?_
  rintro e w4 ⟨bu, Au, nu, cu, rfl, hu, b⟩
  replace hl := hl.on b
  replace lb0 := (b.cell (p := ⟨w1.heap.size, 0, none⟩) lbl).trans lb0
  replace lbl := Nat.lt_of_lt_of_le lbl b.size
  replace cc := cc.trans (b.mono cc.size)
  clear b
  go_wp2_with fail
  refine (CD _).mono ?_
  rintro e w5 ⟨rfl, b⟩
  replace hl := hl.on b
  replace hu := hu.on b
  replace lb0 := (b.cell (p := ⟨w1.heap.size, 0, none⟩) lbl).trans lb0
  replace lbl := Nat.lt_of_lt_of_le lbl b.size
  replace cc := cc.trans (b.mono cc.size)
  clear b
  go_wp2_with fail
  refine (zof_N _ E hD1).mono ?_
  rintro e w6 ⟨bv, Av, nv, cv, rfl, hv, b⟩
  replace hl := hl.on b
  replace hu := hu.on b
  replace lb0 := (b.cell (p := ⟨w1.heap.size, 0, none⟩) lbl).trans lb0
  replace lbl := Nat.lt_of_lt_of_le lbl b.size
  replace cc := cc.trans (b.mono cc.size)
  clear b
  go_wp2_with fail
  refine (zmul_N hu hv (Nat.le_trans (len_one hn.abs) (by omega)) (Nat.le_trans (len_one hD1.abs) (by omega))).mono ?_
  rintro e w7 ⟨bs, As, ns, cs, rfl, hs, b⟩
  replace hl := hl.on b
  replace hu := hu.on b
  replace hv := hv.on b
  replace lb0 := (b.cell (p := ⟨w1.heap.size, 0, none⟩) lbl).trans lb0
  replace lbl := Nat.lt_of_lt_of_le lbl b.size
  replace cc := cc.trans (b.mono cc.size)
  clear b
  go_wp2_with fail
  have bA := below_one w7 (.cells #[.bool bs, .slice As ns cs] 34)
  replace hl := hl.on bA
  replace hu := hu.on bA
  replace hv := hv.on bA
  replace hs := hs.on bA
  replace lb0 := (bA.cell (p := ⟨w1.heap.size, 0, none⟩) lbl).trans lb0
  replace lbl := Nat.lt_of_lt_of_le lbl bA.size
  replace cc := cc.trans (bA.mono cc.size)
  clear bA
  have sb0 : (w7.alloc (.cells #[.bool bs, .slice As ns cs] 34)).cell? ⟨w7.heap.size, 0, none⟩ = some (.bool bs) := by simp [go_sem]
  have sb1 : (w7.alloc (.cells #[.bool bs, .slice As ns cs] 34)).cell? ⟨w7.heap.size, 1, none⟩ = some (.slice As ns cs) := by simp [go_sem]
  have sbl : w7.heap.size < (w7.alloc (.cells #[.bool bs, .slice As ns cs] 34)).heap.size := by simp
  generalize w7.alloc (.cells #[.bool bs, .slice As ns cs] 34) = v8 at *
  refine (zof_N _ den hd).mono ?_
  rintro e w9 ⟨bm, Am, nm, cm, rfl, hm, b⟩
  replace hl := hl.on b
  replace hu := hu.on b
  replace hv := hv.on b
  replace hs := hs.on b
  replace lb0 := (b.cell (p := ⟨w1.heap.size, 0, none⟩) lbl).trans lb0
  replace lbl := Nat.lt_of_lt_of_le lbl b.size
  replace sb0 := (b.cell (p := ⟨w7.heap.size, 0, none⟩) sbl).trans sb0
  replace sb1 := (b.cell (p := ⟨w7.heap.size, 1, none⟩) sbl).trans sb1
  replace sbl := Nat.lt_of_lt_of_le sbl b.size
  replace cc := cc.trans (b.mono cc.size)
  clear b
  go_wp2_with fail
  have bA := below_one w9 (.cells #[.bool bm, .slice Am nm cm] 34)
  replace hl := hl.on bA
  replace hu := hu.on bA
  replace hv := hv.on bA
  replace hs := hs.on bA
  replace hm := hm.on bA
  replace lb0 := (bA.cell (p := ⟨w1.heap.size, 0, none⟩) lbl).trans lb0
  replace lbl := Nat.lt_of_lt_of_le lbl bA.size
  replace sb0 := (bA.cell (p := ⟨w7.heap.size, 0, none⟩) sbl).trans sb0
  replace sb1 := (bA.cell (p := ⟨w7.heap.size, 1, none⟩) sbl).trans sb1
  replace sbl := Nat.lt_of_lt_of_le sbl bA.size
  replace cc := cc.trans (bA.mono cc.size)
  clear bA
  have mb0 : (w9.alloc (.cells #[.bool bm, .slice Am nm cm] 34)).cell? ⟨w9.heap.size, 0, none⟩ = some (.bool bm) := by simp [go_sem]
  have mb1 : (w9.alloc (.cells #[.bool bm, .slice Am nm cm] 34)).cell? ⟨w9.heap.size, 1, none⟩ = some (.slice Am nm cm) := by simp [go_sem]
  have mbl : w9.heap.size < (w9.alloc (.cells #[.bool bm, .slice Am nm cm] 34)).heap.size := by simp
  generalize w9.alloc (.cells #[.bool bm, .slice Am nm cm] 34) = v10 at *
  have hbb : bb < v10.heap.size := by obtain ⟨b_, o_, e_, h_, _⟩ := hl.2.2 (by omega); injection e_ with e_; injection e_ with e1 e2; omega
  have CF : ∀ (W : World) (i : Nat), i < 255 → Below v10.heap.size v10 W → Calls Try.prog 26 #[.int .i64 (i : Int), .pointer (some ⟨w1.heap.size, 0, none⟩), .pointer (some ⟨w9.heap.size, 0, none⟩), .pointer (some ⟨w7.heap.size, 0, none⟩)] W (GotV W (.bool (decide (r ≤ i)))) := fun W i hi b => by
    have h := reach_N (hl.on b) (Nat.lt_of_lt_of_le hbb b.size) ((b.cell (p := ⟨w1.heap.size, 0, none⟩) lbl).trans lb0) (Nat.lt_of_lt_of_le lbl b.size) ((b.cell (p := ⟨w7.heap.size, 0, none⟩) sbl).trans sb0) ((b.cell (p := ⟨w7.heap.size, 1, none⟩) sbl).trans sb1) (Nat.lt_of_lt_of_le sbl b.size) ((b.cell (p := ⟨w9.heap.size, 0, none⟩) mbl).trans mb0) ((b.cell (p := ⟨w9.heap.size, 1, none⟩) mbl).trans mb1) (Nat.lt_of_lt_of_le mbl b.size) (hs.on b) (hm.on b) hd ls hi
    rw [HSR.out i hi] at h
    exact h
  have CQ := search_N hr CF
  clear CF HSR CB CS CD hl hu hv hs hm
  go_wp2_with fail
  refine CQ.mono ?_
  rintro e wq ⟨rfl, b⟩
  replace cc := cc.trans (b.mono cc.size)
  clear b CQ
  go_wp2_with fail
  go_ret2
  exact ⟨rfl, cc⟩

theorem cNear_no (w : World) {k num den : Int} (hn : I64 num) (hd : I64 den) (hS : ¬ Shr k num den) : Calls Try.prog 8 #[.int .i64 k, .int .i64 num, .int .i64 den] w (GotV w (.tuple #[.int .u8 0, .int .i64 1])) := by
  by_cases hk : Kind9 k
  · exact cNear_kno w hn hd hk hS
  · exact cNear_kind w hn hd hk
theorem cNear_yes (w : World) {k num den : Int} (hn : I64 num) (hd : I64 den) (hS : Shr k num den) : Calls Try.prog 8 #[.int .i64 k, .int .i64 num, .int .i64 den] w (GotV w (.tuple #[.int .u8 ((near10 k num den : Nat) : Int), .int .i64 0])) := cNear_kyes w hn hd hS.1 hS

set_option maxRecDepth 100000 in
set_option maxHeartbeats 8000000 in
theorem cNum_yes (w : World) {k : Int} (h : Kind9 k) {c : Nat} (hc : c < 256) :
    Calls Try.prog 10 #[.int .i64 k, .int .u8 (c : Int)] w (GotV w (.tuple #[.int .i64 (num10 k c), .int .i64 0])) := by
  have CB := bbook_N w k
  rw [kind9_code h] at CB
  have hlen := (facts10 h).1
  have hc2 : (c : Int) < 256 := by omega
  clear h
  have cc := Below.refl w.heap.size w
  go_enter Try.func10, Try.ntmps10
  go_wp2_with fail
  refine (CB).mono ?_
  rintro e w1 ⟨Al, nl, cl, rfl, hl, b⟩
  replace cc := cc.trans (b.mono cc.size)
  clear b
  have hn : nl = 256 := by rw [hl.1, hlen]
  subst hn
  obtain ⟨bb, off, rfl, hb⟩ := hl.some (by omega)
  have hcell : w1.cell? ⟨bb, off + c, none⟩ = some (.int .i64 (num10 k c)) := hl.cell hc
  generalize num10 k c = v at *
  go_wp2_with fail
  go_ret2
  exact ⟨rfl, cc⟩

set_option maxRecDepth 100000 in
set_option maxHeartbeats 8000000 in
theorem cNum_no (w : World) {k : Int} (h : ¬ Kind9 k) {c : Nat} (hc : c < 256) :
    Calls Try.prog 10 #[.int .i64 k, .int .u8 (c : Int)] w (GotV w (.tuple #[.int .i64 0, .int .i64 1])) := by
  have CB := bbook_N w k
  rw [(other9 h).1, (other9 h).2] at CB
  clear h
  have cc := Below.refl w.heap.size w
  go_enter Try.func10, Try.ntmps10
  go_wp2_with fail
  refine (CB).mono ?_
  rintro e w1 ⟨Al, nl, cl, rfl, hl, b⟩
  replace cc := cc.trans (b.mono cc.size)
  clear b
  obtain rfl : nl = 0 := hl.1
  go_wp2_with fail
  go_ret2
  exact ⟨rfl, cc⟩

end Go.Proofs.Ytgglcgkgeilblaa

/-
  What the laws of code lean on: alive.
-/
namespace Go.Proofs.Ytgglcgkgeilblaa
set_option maxRecDepth 100000
open Go.RowKit
set_option linter.unusedVariables false
set_option linter.unusedSimpArgs false

theorem near10_12 : near10 3 1 2 = 127 := by
  have h : ((List.range 256).all fun c => decide (dst 3 1 2 127 ≤ dst 3 1 2 c) && (decide (127 ≤ c) || decide (dst 3 1 2 127 < dst 3 1 2 c))) = true := by decide +kernel
  refine lpl_uniq (by decide) fun c hc => ?_
  have := List.all_eq_true.1 h c (List.mem_range.2 (by omega))
  rw [Bool.and_eq_true, Bool.or_eq_true] at this
  refine ⟨of_decide_eq_true this.1, fun hl => ?_⟩
  rcases this.2 with e | e
  · have := of_decide_eq_true e; omega
  · exact of_decide_eq_true e
theorem i64_1 : I64 1 := by unfold I64; omega
theorem i64_2 : I64 2 := by unfold I64; omega
theorem i64_m : I64 (-1) := by unfold I64; omega
theorem shr_half : Shr 3 1 2 := by decide +kernel
theorem shr_below : ¬ Shr 3 (-1) 2 := by decide +kernel
theorem tree_top : num10 0 255 = 2560000000 := (facts10 (.inl rfl)).2.1
theorem u16_nat {a : Int} (h : (Lit.int .u16 a).wf = true) : 0 ≤ a ∧ a < 65536 := by
  have := bounds_u16 h
  omega

set_option maxRecDepth 100000 in
set_option maxHeartbeats 8000000 in
theorem alive10_any (w : World) :
    Calls Try.prog 12 #[] w (GotV w (.bool true)) := by
  have C1 : ∀ W : World, Calls Try.prog 8 #[.int .i64 3, .int .i64 1, .int .i64 2] W (GotV W (.tuple #[.int .u8 127, .int .i64 0])) := fun W => by have h := cNear_yes W i64_1 i64_2 shr_half; rw [near10_12] at h; exact h
  have C2 : ∀ W : World, Calls Try.prog 8 #[.int .i64 3, .int .i64 (-1), .int .i64 2] W (GotV W (.tuple #[.int .u8 0, .int .i64 1])) := fun W => cNear_no W i64_m i64_2 shr_below
  have C3 : ∀ W : World, Calls Try.prog 10 #[.int .i64 0, .int .u8 255] W (GotV W (.tuple #[.int .i64 2560000000, .int .i64 0])) := fun W => by have h := cNum_yes W (.inl rfl) (c := 255) (by omega); rw [tree_top] at h; exact h
  have cc := Below.refl w.heap.size w
  go_enter Try.func12, Try.ntmps12
  go_wp2_with fail
  refine (C1 _).mono ?_
  rintro e w1 ⟨rfl, b⟩
  replace cc := cc.trans (b.mono cc.size)
  clear b
  go_wp2_with fail
  refine (C2 _).mono ?_
  rintro e w2 ⟨rfl, b⟩
  replace cc := cc.trans (b.mono cc.size)
  clear b
  go_wp2_with fail
  refine (C3 _).mono ?_
  rintro e w3 ⟨rfl, b⟩
  replace cc := cc.trans (b.mono cc.size)
  clear b
  go_wp2_with fail
  go_ret
  exact ⟨rfl, cc⟩

end Go.Proofs.Ytgglcgkgeilblaa
