/-
  Several texts in one: JTo, JTh, JTe, JT.
-/
import Derived.Maps.OwnIn
import Derived.Test.YtpidpebgeblenaaGreatA14
import Derived.Test.YtpidpebgeblenaaGreatA16
import Derived.Test.YtpidpebgeblenaaGreatA3
import Derived.Test.YtpidpebgeblenaaGreatA12
import Derived.Test.YtpidpebgeblenaaGreatA11
import Derived.Test.YtpidpebgeblenaaGreatA15

/-
  The contracts of the landed tens: Of.
-/
namespace Go.Proofs.YtpidpebgeblenaaGreat
set_option maxRecDepth 100000
set_option maxHeartbeats 8000000
open Go.RowKit Go.Shelf
set_option linter.unusedVariables false
set_option linter.unusedSimpArgs false
attribute [local go_sem] Oper.semAt_some

/-- May the blocks be packed that begin where these do? -/
def okPr (kk km ko lg : Int) (s : Nat) (L : List Int) {m : Nat} (pre : List {i : Nat // i < m}) : Prop := ∀ x ∈ pre, OkP (kdB kk km ko lg (cutL s L x.1)) (cutL s L x.1)
theorem okPr_snoc {kk km ko lg : Int} {s : Nat} {L : List Int} {m : Nat} {pre : List {i : Nat // i < m}} {x : {i : Nat // i < m}} : okPr kk km ko lg s L (pre ++ [x]) ↔ okPr kk km ko lg s L pre ∧ OkP (kdB kk km ko lg (cutL s L x.1)) (cutL s L x.1) := by
  constructor
  · exact fun h => ⟨fun y hy => h y (List.mem_append.2 (.inl hy)), h x (by simp)⟩
  · rintro ⟨h1, h2⟩ y hy
    rcases List.mem_append.1 hy with h | h
    · exact h1 y h
    · rw [List.mem_singleton.1 h]; exact h2
theorem okPr_all {kk km ko lg : Int} {s : Nat} {L : List Int} {m i : Nat} (h : OkO kk km ko lg s L m) : okPr kk km ko lg s L (upA m i) := fun x _ => h x.1 x.2
theorem okPr_ok {kk km ko lg : Int} {s : Nat} {L : List Int} {m : Nat} (h : okPr kk km ko lg s L (upA m m)) : OkO kk km ko lg s L m := fun j hj => h ⟨j, hj⟩ (List.mem_of_getElem? (upA_at (Nat.le_refl _) hj hj))
theorem map_up {α : Type} {m : Nat} (F : Nat → α) : ∀ {i : Nat}, i ≤ m → (upA m i).map (fun x => F x.1) = (List.range i).map F
  | 0, _ => rfl
  | i + 1, h => by rw [upA_succ (by omega), List.map_append, map_up F (by omega), List.range_succ, List.map_append]; rfl
theorem br_grown {W W' : World} {row : Option Nat} {A : Option Addr} {n c : Nat} {l : List Nat} (h : BR W A n c l) (hg : W.grownBy W' row) (hr : ∀ r, row = some r → ∃ o : Obj, W.heap[r]? = some o ∧ o.isCells = false) : BR W' A n c l :=
  ⟨h.1, h.2.1, h.2.2.1, fun hp => by
    obtain ⟨b, off, e, hlt, hc⟩ := h.2.2.2 hp
    exact ⟨b, off, e, Nat.lt_of_lt_of_le hlt hg.size, fun j hj => cell_kept (hc j hj) hg hr⟩⟩
theorem ir_grown {W W' : World} {row : Option Nat} {A : Option Addr} {n c : Nat} {l : List Int} (h : IR W A n c l) (hg : W.grownBy W' row) (hr : ∀ r, row = some r → ∃ o : Obj, W.heap[r]? = some o ∧ o.isCells = false) : IR W' A n c l :=
  ⟨h.1, h.2.1, fun hp => by
    obtain ⟨b, off, e, hlt, hc⟩ := h.2.2 hp
    exact ⟨b, off, e, Nat.lt_of_lt_of_le hlt hg.size, fun j hj => cell_kept (hc j hj) hg hr⟩⟩
theorem kv_grown {t : Nat} {own row : Option Nat} {W W' : World} {xs : List Value} {i : Nat} {L : List Bk} (h : KV t own W xs i L) (hg : W.grownBy W' row) (hr : ∀ r, row = some r → ∃ o : Obj, W.heap[r]? = some o ∧ o.isCells = false) : KV t own W' xs i L := fun j hj => by
  obtain ⟨A, n, c, B, m, d, h0, h1, h2, h3, hC, hW, r⟩ := h j hj
  exact ⟨A, n, c, B, m, d, h0, h1, h2, h3, br_grown hC hg hr, ir_grown hW hg hr, r⟩
theorem own_grown {t n size : Nat} {e : TypeId} {row : Option Nat} {W W' : World} {v : Value} {xs : List Value} (hO : W.ownsRow t e size v n xs) (hg : W.grownBy W' row) (hr : ∀ r, row = some r → ∃ o : Obj, W.heap[r]? = some o ∧ o.isCells = false) : W'.ownsRow t e size v n xs := by
  refine hO.kept hg ?_
  rcases hO.2 with ⟨h, _⟩ | ⟨g, cap, cur, h, _, hgb, _⟩
  · exact .inl (by rw [h]; rfl)
  · refine .inr fun e' => ?_
    obtain ⟨o, ho, hc⟩ := hr g (by rw [← e', h]; rfl)
    rw [hgb] at ho; cases ho; cases hc
theorem boxT_put {W : World} {g : Nat} (bz : BZ W g) (a b c d e f : Value) : BoxT (putT W g a b c d e f) g a b c d e f := by
  obtain ⟨⟨h0, h1, h2, h3, h4, h5⟩, _⟩ := bz.cells
  exact ⟨by simp [go_sem, h0], by simp [go_sem, h1], by simp [go_sem, h2], by simp [go_sem, h3], by simp [go_sem, h4], by simp [go_sem, h5]⟩
theorem boxT_far {W : World} {g g' o : Nat} {a b c d e f u : Value} (h : BoxT W g a b c d e f) (hne : g' ≠ g) : BoxT (W.setCell ⟨g', o, none⟩ u) g a b c d e f := by
  obtain ⟨h0, h1, h2, h3, h4, h5⟩ := h
  exact ⟨(World.cell?_setCell_far _ _ _ _ hne).trans h0, (World.cell?_setCell_far _ _ _ _ hne).trans h1, (World.cell?_setCell_far _ _ _ _ hne).trans h2, (World.cell?_setCell_far _ _ _ _ hne).trans h3, (World.cell?_setCell_far _ _ _ _ hne).trans h4, (World.cell?_setCell_far _ _ _ _ hne).trans h5⟩
theorem boxT_grown {W W' : World} {row : Option Nat} {g : Nat} {a b c d e f : Value} (h : BoxT W g a b c d e f) (hg : W.grownBy W' row) (hr : ∀ r, row = some r → ∃ o : Obj, W.heap[r]? = some o ∧ o.isCells = false) : BoxT W' g a b c d e f :=
  ⟨cell_kept h.1 hg hr, cell_kept h.2.1 hg hr, cell_kept h.2.2.1 hg hr, cell_kept h.2.2.2.1 hg hr, cell_kept h.2.2.2.2.1 hg hr, cell_kept h.2.2.2.2.2 hg hr⟩
theorem bx_far {W : World} {g o B : Nat} {t : TypeId} {v u : Value} (h : Bx W B t v) (hne : B ≠ g) : Bx (W.setCell ⟨g, o, none⟩ u) B t v := (heap_setCell_other W ⟨g, o, none⟩ B u hne).trans h
theorem bx_putT {W : World} {g B : Nat} {t : TypeId} {v : Value} (h : Bx W B t v) (hne : B ≠ g) (a b c d e f : Value) : Bx (putT W g a b c d e f) B t v := bx_far (bx_far (bx_far (bx_far (bx_far (bx_far h hne) hne) hne) hne) hne) hne
theorem kv_putT {t g i : Nat} {own : Option Nat} {W : World} {xs : List Value} {L : List Bk} (h : KV t own W xs i L) (hg : g < t) (a b c d e f : Value) : KV t own (putT W g a b c d e f) xs i L := (((((h.set hg).set hg).set hg).set hg).set hg).set hg
theorem own_putT {t g n c size : Nat} {W : World} {e : TypeId} {p : Option Addr} {xs : List Value} (hO : W.ownsRow t e size (.slice p n c) n xs) (hg : g < t) (a1 b1 c1 d1 e1 f1 : Value) : (putT W g a1 b1 c1 d1 e1 f1).ownsRow t e size (.slice p n c) n xs := own_lt (own_lt (own_lt (own_lt (own_lt (own_lt hO hg) hg) hg) hg) hg) hg
theorem keepsO_putT (W : World) (g : Nat) (a b c d e f : Value) : KeepsOthers W (putT W g a b c d e f) := (((((KeepsOthers.setCell W _ _).trans (KeepsOthers.setCell _ _ _)).trans (KeepsOthers.setCell _ _ _)).trans (KeepsOthers.setCell _ _ _)).trans (KeepsOthers.setCell _ _ _)).trans (KeepsOthers.setCell _ _ _)
theorem own_cells {t n size : Nat} {e : TypeId} {W : World} {v : Value} {xs : List Value} (hO : W.ownsRow t e size v n xs) : ∀ (j : Nat) (o : Obj), v.ownBlock = some j → W.heap[j]? = some o → o.isCells = true := by
  intro j o hj ho
  rcases hO.2 with ⟨h, _⟩ | ⟨g, cap, cur, h, _, hgb, _⟩
  · rw [h] at hj; cases hj
  · rw [h] at hj
    have e2 : g = j := by injection hj
    rw [← e2, hgb] at ho; cases ho; rfl
theorem bz_grown {W W' : World} {row : Option Nat} {g : Nat} (h : BZ W g) (hg : W.grownBy W' row) (hr : ∀ r, row = some r → ∃ o : Obj, W.heap[r]? = some o ∧ o.isCells = false) : BZ W' g :=
  (hg.block g h.lt (fun e => by
    obtain ⟨o, ho, hc⟩ := hr g (by first | exact e.symm | exact e)
    unfold BZ at h
    rw [h] at ho; cases ho; cases hc)).trans h

theorem tnOf_go {w : World} {kk km ko : Int} {s : Nat} {A : Option Addr} {n c : Nat} {L : List Int} (hK : OkK kk (s : Int) km ko) (hA : IR w A n c L) (hi6 : ∀ x ∈ L, I64 x) (hn : n ≤ 4096) (hk : I64 ko) :
    Calls Tryz.prog 19 #[.agg #[.int .i64 kk, .int .i64 (s : Int), .int .i64 km, .int .i64 ko], .slice A n c] w (fun e w' => (OkO kk km ko (n : Int) s L (nbk s n) ∧ GotStn w kk (s : Int) km ko (n : Int) (ofL kk km ko (n : Int) s L (nbk s n)) e w') ∨ (¬ OkO kk km ko (n : Int) s L (nbk s n) ∧ GotV w (.tuple #[.agg #[.int .i64 0, .int .i64 0, .int .i64 0, .int .i64 0, .int .i64 0, .slice none 0 0], .int .i64 1]) e w')) := by
  have hs2 : 1 ≤ s ∧ s ≤ 4096 := by have := hK.2.1; omega
  have hk3 := hK.1
  have CM : ∀ W : World, Calls Tryz.prog 9 #[.agg #[.int .i64 kk, .int .i64 (s : Int), .int .i64 km, .int .i64 ko]] W (GotV W (.bool true)) := fun W => by have h := tnMayA_N W (kk := kk) (ks := s) (km := km) (ko := ko); rw [decide_eq_true hK] at h; exact h
  have HK3 := Lib.hid hk3
  have HS := Lib.hid hs2
  have HN := Lib.hid hn
  have HKO := Lib.hid hk
  have HAV := Lib.hid hA
  have HI6 := Lib.hid hi6
  have t4 : decide (4096 < n) = false := decide_eq_false (by omega)
  have t5 : decide ((4096 : Int) < (n : Int)) = false := decide_eq_false (by omega)
  clear hK hs2 hn hk hA hk3 hi6
  have cc := Below.refl w.heap.size w
  refine calls_marks Tryz.func19 rfl ?_
  simp only [Tryz.ntmps19, List.size_toArray, List.length_cons, List.length_nil, Nat.reduceAdd, Nat.reduceSub, Array.replicate_succ, Array.replicate_zero, List.push_toArray, List.append_toArray, List.nil_append, List.cons_append]
  go_upto_region 1 with fail
  generalize hv_ : (((w.alloc (.cells #[.int .i64 kk, .int .i64 (s : Int), .int .i64 km, .int .i64 ko] 23)).alloc (.cells #[.slice A n c] 34)).alloc (.cells #[.int .i64 0, .int .i64 0, .int .i64 0, .int .i64 0, .int .i64 0, .slice none 0 0] 26)).alloc (.cells #[.int .i64 0] 36) = v1
  have bA : Below w.heap.size w v1 := by rw [← hv_]; exact ((((Below.refl _ w).alloc (by simp) _).alloc (by simp) _).alloc (by simp <;> omega) _).alloc (by simp <;> omega) _
  have bl : Bx v1 (w.heap.size + 1) 34 (.slice A n c) := by rw [← hv_]; exact by have h := Bx.new (w.alloc (.cells #[.int .i64 kk, .int .i64 (s : Int), .int .i64 km, .int .i64 ko] 23)) 34 (.slice A n c); rw [World.size_alloc] at h; exact (h.on (one_up _ _)).on (one_up _ _)
  have bz : BZ v1 (w.heap.size + 1 + 1) := by rw [← hv_]; exact by have h := BZ.new ((w.alloc (.cells #[.int .i64 kk, .int .i64 (s : Int), .int .i64 km, .int .i64 ko] 23)).alloc (.cells #[.slice A n c] 34)); simp only [World.size_alloc] at h; exact h.on (one_up _ _)
  have be : Bx v1 (w.heap.size + 1 + 1 + 1) 36 (.int .i64 0) := by rw [← hv_]; exact by have h := Bx.new (((w.alloc (.cells #[.int .i64 kk, .int .i64 (s : Int), .int .i64 km, .int .i64 ko] 23)).alloc (.cells #[.slice A n c] 34)).alloc (.cells #[.int .i64 0, .int .i64 0, .int .i64 0, .int .i64 0, .int .i64 0, .slice none 0 0] 26)) 36 (.int .i64 0); simp only [World.size_alloc] at h; exact h
  have pa0 : v1.cell? ⟨w.heap.size, 0, none⟩ = some (.int .i64 kk) := by simp [← hv_, go_sem]
  have pa1 : v1.cell? ⟨w.heap.size, 1, none⟩ = some (.int .i64 (s : Int)) := by simp [← hv_, go_sem]
  have pa2 : v1.cell? ⟨w.heap.size, 2, none⟩ = some (.int .i64 km) := by simp [← hv_, go_sem]
  have pa3 : v1.cell? ⟨w.heap.size, 3, none⟩ = some (.int .i64 ko) := by simp [← hv_, go_sem]
  have pal : w.heap.size < v1.heap.size := by simp [← hv_] <;> omega
  replace cc := bK cc bA
  clear bA
  clear hv_
  go_wp2_with fail
  refine (CM _).mono ?_
  rintro e w2 ⟨rfl, b⟩
  replace bl := bl.on b
  replace bz := bz.on b
  replace be := be.on b
  rewrite [cR b pal] at pa0 pa1 pa2 pa3
  replace pal := lK b pal
  replace cc := bK cc b
  clear b
  have hz1 : w.heap.size + 1 + 1 + 1 < w2.heap.size := be.lt
  have blc := bl.cell
  go_upto_region 6 with fail
  have oqpa : w.heap.size < w2.heap.size := pal
  generalize hv_ : w2.alloc (.cells #[.int .i64 kk, .int .i64 (s : Int), .int .i64 km, .int .i64 ko, .int .i64 (n : Int), .slice none 0 0] 26) = v3
  have bA : Below w2.heap.size w2 v3 := by rw [← hv_]; exact below_one _ _
  replace bl := bl.on bA
  replace bz := bz.on bA
  replace be := be.on bA
  rewrite [cR bA pal] at pa0 pa1 pa2 pa3
  replace pal := lK bA pal
  replace cc := bK cc bA
  clear bA
  obtain ⟨o0, o1, o2, o3, o4, o5⟩ : Cs6 v3 w2.heap.size (.int .i64 kk) (.int .i64 (s : Int)) (.int .i64 km) (.int .i64 ko) (.int .i64 (n : Int)) (.slice none 0 0) := by simp [Cs6, ← hv_, go_sem]
  obtain ⟨or0, or1, or2, or3, or4, or5⟩ : Fz6 v3 w2.heap.size := by simp [Fz6, ← hv_, go_sem]
  have ol : w2.heap.size < v3.heap.size := by simp [← hv_]
  clear hv_
  replace blc := bl.cell
  go_wp2_with fail
  refine (cuts_any _ _ _).mono ?_
  rintro e w8 ⟨rfl, hw8⟩
  have b1 : Bx w8 v3.heap.size 3 (.int .i64 (n : Int)) := by rw [hw8]; exact (Bx.new v3 3 _).on (one_up _ _)
  have b2 : Bx w8 (v3.heap.size + 1) 3 (.int .i64 (s : Int)) := by rw [hw8]; have h := Bx.new (v3.alloc (.cells #[.int .i64 (n : Int)] 3)) 3 (.int .i64 (s : Int)); rwa [World.size_alloc] at h
  have bB : Below v3.heap.size v3 w8 := by rw [hw8]; exact ((Below.refl _ v3).alloc (Nat.le_refl _) _).alloc (by simp) _
  have hz2 : w2.heap.size < v3.heap.size := ol
  clear blc
  replace bl := bl.on bB
  replace bz := bz.on bB
  replace be := be.on bB
  rewrite [fR bB ol] at or0 or1 or2 or3 or4 or5
  rewrite [cR bB pal] at pa0 pa1 pa2 pa3
  replace pal := lK bB pal
  rewrite [cR bB ol] at o0 o1 o2 o3 o4 o5
  replace ol := lK bB ol
  replace cc := bK cc bB
  clear bB
  clear or0 or1 or2 or3 or4
  clear hw8
  generalize w2.heap.size = zs at *
  generalize v3.heap.size = g at *
  go_wp2_with fail
  refine (wpIn_wide (n := 10)).1 ?_
  refine wpIn_rangeFunc_ownG rfl (by decide) (gf := 39) (lb := #[.pointer (some ⟨g, 0, none⟩), .pointer (some ⟨g + 1, 0, none⟩)]) rfl trivial (enters_of Tryz.func39 (by kernel_rfl) rfl)
    (cuts_stops g (g + 1) s n HS.out HN.out w8 b1 b2) (fun h k => h.trans k) (fun W l o o' hl _ _ _ => Kc.put (by have := b1.lt; omega) (by have := b2.lt; omega)) (Below.refl _ _) (fun _ => rfl)
    (fun pre W => (okPr kk km ko (n : Int) s L pre ∧ w8.heap.size ≤ W.heap.size ∧ (W.cell? ⟨w.heap.size, 0, none⟩ = some (.int .i64 kk) ∧ W.cell? ⟨w.heap.size, 1, none⟩ = some (.int .i64 (s : Int)) ∧ W.cell? ⟨w.heap.size, 2, none⟩ = some (.int .i64 km) ∧ W.cell? ⟨w.heap.size, 3, none⟩ = some (.int .i64 ko)) ∧ Bx W (w.heap.size + 1) 34 (.slice A n c) ∧ BZ W (w.heap.size + 1 + 1) ∧ Bx W (w.heap.size + 1 + 1 + 1) 36 (.int .i64 0) ∧ (W.cell? ⟨zs, 0, none⟩ = some (.int .i64 kk) ∧ W.cell? ⟨zs, 1, none⟩ = some (.int .i64 (s : Int)) ∧ W.cell? ⟨zs, 2, none⟩ = some (.int .i64 km) ∧ W.cell? ⟨zs, 3, none⟩ = some (.int .i64 ko) ∧ W.cell? ⟨zs, 4, none⟩ = some (.int .i64 (n : Int))) ∧ ∃ p cq xs, W.cell? ⟨zs, 5, none⟩ = some (.slice p pre.length cq) ∧ W.frozen? ⟨zs, 5, none⟩ = false ∧ W.ownsRow w8.heap.size 43 4 (.slice p pre.length cq) pre.length xs ∧ (∀ u ∈ xs, u.oneCell' = true) ∧ KV w8.heap.size (Value.slice p pre.length cq).ownBlock W xs pre.length (pre.map (fun x => ofB kk km ko (n : Int) (cutL s L x.1)))) ∧ Below w.heap.size w W)
    (fun c pre W => (c = .ret ∧ ¬ okPr kk km ko (n : Int) s L pre ∧ BoxT W (w.heap.size + 1 + 1) (.int .i64 0) (.int .i64 0) (.int .i64 0) (.int .i64 0) (.int .i64 0) (.slice none 0 0) ∧ Bx W (w.heap.size + 1 + 1 + 1) 36 (.int .i64 1)) ∧ Below w.heap.size w W)
    (OwnFrom.and (Own.from (fun s A B row hs hg hr => by obtain ⟨h1, h2, ⟨k0, k1, k2, k3⟩, h3, h4, h5, ⟨q0, q1, q2, q3, q4⟩, p, cq, xs, q5, fp, hO, h1c, hV⟩ := hs; exact ⟨h1, Nat.le_trans h2 hg.size, ⟨cell_kept k0 hg hr, cell_kept k1 hg hr, cell_kept k2 hg hr, cell_kept k3 hg hr⟩, h3.grown hg hr, bz_grown h4 hg hr, h5.grown hg hr, ⟨cell_kept q0 hg hr, cell_kept q1 hg hr, cell_kept q2 hg hr, cell_kept q3 hg hr, cell_kept q4 hg hr⟩, p, cq, xs, cell_kept q5 hg hr, (frozen_kept q5 hg hr).trans fp, own_grown hO hg hr, h1c, kv_grown hV hg hr⟩) _) (ownFrom_below (Nat.le_refl _) (by have := pal; omega)))
    (fun c => OwnFrom.and (Own.from (fun s A B row hs hg hr => ⟨hs.1, hs.2.1, ⟨cell_kept hs.2.2.1.1 hg hr, cell_kept hs.2.2.1.2.1 hg hr, cell_kept hs.2.2.1.2.2.1 hg hr, cell_kept hs.2.2.1.2.2.2.1 hg hr, cell_kept hs.2.2.1.2.2.2.2.1 hg hr, cell_kept hs.2.2.1.2.2.2.2.2 hg hr⟩, hs.2.2.2.grown hg hr⟩) _) (ownFrom_below (Nat.le_refl _) (by have := pal; omega)))
    ⟨⟨fun x hx => (by cases hx), Nat.le_refl _, ⟨pa0, pa1, pa2, pa3⟩, bl, bz, be, ⟨o0, o1, o2, o3, o4⟩, none, 0, [], o5, or5, World.ownsRow_nil _ _ _ _, fun u hu => (by cases hu), fun j hj => absurd hj (by simp)⟩, cc⟩ ?act ?assign ?body ?done ?stop
  case assign =>
    intro l x W K hK
    simp only [enC]
    gi_wp2
    exact hK
  case body =>
    clear o0 o1 o2 o3 o4 o5 or5 ol pa0 pa1 pa2 pa3 pal bl bz be cc
    rintro l pre x wr ⟨⟨hok, hsz, ⟨pa0, pa1, pa2, pa3⟩, bl, bz, be, ⟨o0, o1, o2, o3, o4⟩, p, cq, xs, o5, fp, hO, h1c, hV⟩, hBl⟩ hlt
    have hb1 := b1.lt
    have hb2 := b2.lt
    have hxl := (nbk_lt HS.out.1).1 x.2
    have hsn := okPr_snoc (kk := kk) (km := km) (ko := ko) (lg := (n : Int)) (s := s) (L := L) (pre := pre) (x := x)
    have hln : (pre ++ [x]).length = pre.length + 1 := by simp
    have hmp : (pre ++ [x]).map (fun x => ofB kk km ko (n : Int) (cutL s L x.1)) = pre.map (fun x => ofB kk km ko (n : Int) (cutL s L x.1)) ++ [ofB kk km ko (n : Int) (cutL s L x.1)] := by simp
    have hk8 : pre.length < 4096 := by have h1 := nbk_le (s := s) (n := n) HS.out.1; have h2 := HN.out; omega
    obtain ⟨k, ek⟩ : ∃ k, pre.length = k := ⟨_, rfl⟩
    rw [ek] at o5 hO hV hln hk8
    obtain ⟨M, eM⟩ : ∃ M, pre.map (fun x => ofB kk km ko (n : Int) (cutL s L x.1)) = M := ⟨_, rfl⟩
    have hMl : M.length = k := by rw [← eM, List.length_map]; exact ek
    rw [eM] at hV hmp
    obtain ⟨a, ea⟩ : ∃ a, x.1 * s = a := ⟨_, rfl⟩
    obtain ⟨h, eh⟩ : ∃ h, min (a + s) n = h := ⟨_, rfl⟩
    have epI : (x.1 : Int) * (s : Int) = (a : Int) := by rw [← ea, Int.natCast_mul]
    rw [epI, ea, eh]
    rw [ea] at hxl
    obtain ⟨d, ed⟩ : ∃ d, h - a = d := ⟨_, rfl⟩
    have hs1 := HS.out
    have hn4 := HN.out
    have hA := HAV.out.on hBl
    obtain ⟨bb, off, rfl, hbb⟩ := hA.some (by omega)
    have hnc := hA.2.1
    have hah : a ≤ h ∧ h ≤ n ∧ a + d = h ∧ 0 < d := by omega
    have hP : IR wr (some ⟨bb, off + a, none⟩) d (c - a) (cutL s L x.1) := by rw [← cutL_eq (k := d) ea (by rw [← hA.1]; omega)]; exact ir_win hA (by omega) (by omega)
    have HIP : Hid (∀ y ∈ cutL s L x.1, I64 y) := Lib.hid (fun y hy => HI6.out y (cutL_mem hy))
    obtain ⟨B, hB⟩ : ∃ B, cutL s L x.1 = B := ⟨_, rfl⟩
    rw [hB] at hP HIP hsn hmp
    have kca : (c == a) = false := beq_eq_false_iff_ne.2 (by omega)
    have kca2 : ¬ c = a := by omega
    have hah1 : a ≤ h := hah.1
    have hhc : h ≤ c := by omega
    have hd4 : d ≤ 4096 := by omega
    have HC1 : Hid (B.length = d) := Lib.hid hP.1.symm
    have ehd : h - a = d := ed
    have pal : w.heap.size < wr.heap.size := cell_lt pa0
    have ll : w.heap.size + 1 < wr.heap.size := bl.lt
    have lc := bl.cell
    have HOK := Lib.hid hok
    have HSN := Lib.hid hsn
    have HLN := Lib.hid hln
    have HMP := Lib.hid hmp
    have HML := Lib.hid hMl
    have HSZ := Lib.hid hsz
    have HBL := Lib.hid hBl
    have cc := Below.refl wr.heap.size wr
    clear hok hsn hln hmp hMl ek eM ea eh epI hxl hA hbb hnc hah hB hlt b1 b2 hsz hBl hs1 hn4
    by_cases hw : Wd km ko (n : Int) (gr B)
    · skip
      have hkd : kdB kk km ko (n : Int) B = 4 := by unfold kdB; rw [if_pos hw]
      have CW := fun {V : World} (h : IR V (some ⟨bb, off + a, none⟩) d (c - a) B) => tnWide_N (kk := kk) (ks := (s : Int)) (km := km) (lg := (n : Int)) h (by omega) HKO.out
      rw [decide_eq_true hw] at CW
      have hk04 : I64 (4 : Int) := by have := HK3.out; unfold I64; omega
      clear hw
      gi_wp2_with fail
      have bD : Below wr.heap.size wr wr.drew := below_drewN (Below.refl _ wr) 1
      replace lc := cK bD lc ll
      replace ll := lK bD ll
      replace hP := hP.on bD
      rewrite [cR bD pal] at pa0 pa1 pa2 pa3
      replace pal := lK bD pal
      replace cc := bK cc bD
      clear bD
      refine wpIn_round_held_drew (S := fun w' => w'.cell? ⟨w.heap.size + 1, 0, none⟩ = some (.slice (some ⟨bb, off, none⟩) n c) ∧ w'.cell? ⟨w.heap.size, 0, none⟩ = some (.int .i64 kk) ∧ w'.cell? ⟨w.heap.size, 1, none⟩ = some (.int .i64 (s : Int)) ∧ w'.cell? ⟨w.heap.size, 2, none⟩ = some (.int .i64 km) ∧ w'.cell? ⟨w.heap.size, 3, none⟩ = some (.int .i64 ko)) (by kernel_rfl) ?_ ?_ ?_ (fun hHeld => ?_)
      · kernel_rfl
      · rintro ⟨_, _, h⟩; exact h
      · exact ⟨lc, pa0, pa1, pa2, pa3⟩
      refine tY (i := 0) (v := ?_) rfl ?_ hHeld ?_
      rotate_left
      · (intro w hSw; (try dsimp only at hSw); go_simp; (try with_reducible rfl))
      try simp only [Act.put, pT]
      refine tY (i := 1) (v := ?_) rfl ?_ hHeld ?_
      rotate_left
      · (intro w hSw; (try dsimp only at hSw); go_simp; (try with_reducible rfl))
      try simp only [Act.put, pT]
      refine tY (i := 2) (v := ?_) rfl ?_ hHeld ?_
      rotate_left
      · (intro w hSw; (try dsimp only at hSw); go_simp; (try with_reducible rfl))
      try simp only [Act.put, pT]
      refine tY (i := 3) (v := ?_) rfl ?_ hHeld ?_
      rotate_left
      · (intro w hSw; (try dsimp only at hSw); go_simp; (try with_reducible rfl))
      try simp only [Act.put, pT]
      refine tY (i := 4) (v := ?_) rfl ?_ hHeld ?_
      rotate_left
      · (intro w hSw; (try dsimp only at hSw); go_simp; (try with_reducible rfl))
      try simp only [Act.put, pT]
      refine tY (i := 5) (v := ?_) rfl ?_ hHeld ?_
      rotate_left
      · (intro w hSw; (try dsimp only at hSw); go_simp; (try with_reducible rfl))
      try simp only [Act.put, pT]
      refine tY (i := 6) (v := ?_) rfl ?_ hHeld ?_
      rotate_left
      · (intro w hSw; (try dsimp only at hSw); go_simp; (try with_reducible rfl))
      try simp only [Act.put, pT]
      refine wpAnyH_ready (rs := [7]) (by kernel_rfl) (by simp) ?_
      refine AllReadyH.cons rfl (fun K hK => ?_) AllReadyH.nil
      (try simp only [pT])
      rw [if_pos (by rfl)]
      go_simp
      go_at_call 34
      refine (CW hP).mono ?_
      rintro e w21 ⟨rfl, b⟩
      replace lc := cK b lc ll
      replace ll := lK b ll
      replace hP := hP.on b
      rewrite [cR b pal] at pa0 pa1 pa2 pa3
      replace pal := lK b pal
      replace cc := bK cc b
      clear b
      refine hK.out _ _ ?_ (fun hHeld => ?_)
      · exact ⟨lc, pa0, pa1, pa2, pa3⟩
      clear hK K
      try simp only [Act.put, pT]
      refine wpAnyH_done (by kernel_rfl) ?_ _
      clear hHeld
      clear CW
      have hzs : zs < wr.heap.size := cell_lt o0
      gi_wp2_with fail
      refine ⟨trivial, ?_⟩
      by_cases hpi : OkP 4 B
      · skip
        have hbs : ofB kk km ko (n : Int) B = (4, pkS 4 B, pkC 4 B, pkW 4 B) := by unfold ofB; rw [hkd]
        have hS6 : I64 (pkS 4 B) := by unfold pkS; split; exact i64_z; exact grk_i64 (row_i64_14 HIP.out (fun x hx => (hpi.2 x hx).1)) _
        have hW6 : ∀ x ∈ pkW 4 B, I64 x := by unfold pkW; split; exact HIP.out; intro x hx; cases hx
        have hC4 : (pkC 4 B).length ≤ 4096 ∧ (pkW 4 B).length ≤ 4096 := by have h1 := HC1.out; have := ofB_len (kk := kk) (km := km) (ko := ko) (lg := (n : Int)) B; rw [hbs] at this; simp only at this; omega
        have HOKN : Hid (okPr kk km ko (n : Int) s L (pre ++ [x])) := Lib.hid (HSN.out.2 ⟨HOK.out, by rw [hkd]; exact hpi⟩)
        have CP := bqPack_yes hk04 hP HIP.out (by omega) hpi
        rw [hbs] at HMP
        generalize pkS 4 B = S1 at *
        generalize pkC 4 B = C1 at *
        generalize pkW 4 B = W1 at *
        have HS6 := Lib.hid hS6
        have HW6 := Lib.hid hW6
        clear hbs hS6 hW6 hpi
        refine (CallsIn.inRound l (callsIn_wide.2 CP)).mono ?_
        rintro e wp ⟨Ab, nb, cb, Bb, mb, db, rfl, hC, hW, b, hn1, hn2⟩
        clear CP hP
        have hown : ∀ q, (Value.slice p k cq).ownBlock = some q → q < wr.heap.size := fun q e => (hO.lt q e).2
        have c21 := cc.size
        have hsz := HSZ.out
        have HA1 : Hid (Apart w8.heap.size (Value.slice p k cq).ownBlock Ab nb) := Lib.hid (fun _ q e => ⟨by have h1 := hn1 q e; omega, fun e2 => by have h1 := hn1 q e; have h2 := hown _ e2; omega⟩)
        have HA2 : Hid (Apart w8.heap.size (Value.slice p k cq).ownBlock Bb mb) := Lib.hid (fun _ q e => ⟨by have h1 := hn2 q e; omega, fun e2 => by have h1 := hn2 q e; have h2 := hown _ e2; omega⟩)
        have hnn : nb ≤ 9223372036854775807 ∧ mb ≤ 9223372036854775807 := by have h1 := hC.1; have h2 := hW.1; omega
        clear hn1 hn2 hown c21
        replace lc := cK b lc ll
        replace ll := lK b ll
        rewrite [cR b pal] at pa0 pa1 pa2 pa3
        replace pal := lK b pal
        replace cc := bK cc b
        clear b
        have uA := one_up wp (.cells #[.int .i64 4, .int .i64 S1, .slice Ab nb cb, .slice Bb mb db] 43)
        obtain ⟨wb, hwb⟩ : ∃ wb, wp.alloc (.cells #[.int .i64 4, .int .i64 S1, .slice Ab nb cb, .slice Bb mb db] 43) = wb := ⟨_, rfl⟩
        have x0 : (wp.alloc (.cells #[.int .i64 4, .int .i64 S1, .slice Ab nb cb, .slice Bb mb db] 43)).cell? ⟨wp.heap.size, 0, none⟩ = some (.int .i64 4) := by simp [go_sem]
        have x1 : (wp.alloc (.cells #[.int .i64 4, .int .i64 S1, .slice Ab nb cb, .slice Bb mb db] 43)).cell? ⟨wp.heap.size, 1, none⟩ = some (.int .i64 S1) := by simp [go_sem]
        have x2 : (wp.alloc (.cells #[.int .i64 4, .int .i64 S1, .slice Ab nb cb, .slice Bb mb db] 43)).cell? ⟨wp.heap.size, 2, none⟩ = some (.slice Ab nb cb) := by simp [go_sem]
        have x3 : (wp.alloc (.cells #[.int .i64 4, .int .i64 S1, .slice Ab nb cb, .slice Bb mb db] 43)).cell? ⟨wp.heap.size, 3, none⟩ = some (.slice Bb mb db) := by simp [go_sem]
        rw [hwb] at uA x0 x1 x2 x3
        have HC := Lib.hid (hC.on uA)
        have HW := Lib.hid (hW.on uA)
        rewrite [cR uA pal] at pa0 pa1 pa2 pa3
        replace cc := bK cc uA
        clear uA hC hW lc
        rewrite [cR cc hzs] at o0 o1 o2 o3 o4 o5
        replace fp := fK cc fp hzs
        have HO := Lib.hid (own_any hO cc)
        have HV := Lib.hid (hV.on cc)
        replace bl := bl.on cc
        replace bz := bz.on cc
        replace be := be.on cc
        clear hO hV
        obtain ⟨i0, hi0, hz0, hz1_, hz2_⟩ := info_parts infoK
        have hT : w8.heap.size ≤ wb.heap.size := by have := cc.size; omega
        have hxl := HO.out.1
        have hzw : zs < w8.heap.size := by omega
        have HP0 := Lib.hid (And.intro pa0 (And.intro pa1 (And.intro pa2 pa3)))
        have HLZE := Lib.hid (And.intro bl (And.intro bz be))
        clear pa0 pa1 pa2 pa3 bl bz be
        gi_wp2_with (gi_at_builtin; refine wpListIn_append_own_at _ rfl _ _ 24 rfl w8.heap.size 43 i0 _ 4 64 Tryz.underlying24 hi0 hz0 hz1_ hz2_ rfl (by decide) _ _ _ rfl (HO.out.alloc _) ⟨wb.heap.size, 0, none⟩ 1 1 [.int .i64 4, .int .i64 S1, .slice Ab nb cb, .slice Bb mb db] rfl rfl (cells_new wb #[.int .i64 4, .int .i64 S1, .slice Ab nb cb, .slice Bb mb db] _) (by simp [Value.oneCell']) (by unfold maxLen; omega) (by omega) (by simp; omega) ?_; intro v' w3 hown1 hgrow1 _ hat; obtain ⟨gq, cr, rfl⟩ := ownsRow_succ hown1; have h1 : Below w8.heap.size wb w3 := ((Below.refl w8.heap.size wb).alloc hT _).grown hgrow1 (by simp; omega) (fun q e => (HO.out.lt q e).1); have o0' := cK h1 o0 hzw; have o1' := cK h1 o1 hzw; have o2' := cK h1 o2 hzw; have o3' := cK h1 o3 hzw; have o4' := cK h1 o4 hzw; have o5' := cK h1 o5 hzw; have fp' := fK h1 fp hzw; have HOW := Lib.hid hown1; have HGR := Lib.hid hgrow1; have HAT := Lib.hid hat; have H1 := Lib.hid h1; clear hown1 hgrow1 hat h1 o0 o1 o2 o3 o4 o5 fp x0 x1 x2 x3)
        have h1 := H1.out
        have hs3 := h1.size
        obtain ⟨pa0, pa1, pa2, pa3⟩ := HP0.out
        obtain ⟨bl, bz, be⟩ := HLZE.out
        have hpp : ∀ (j : Nat) (y : Value) (U : Value), wb.cell? ⟨w.heap.size, j, none⟩ = some y → (w3.setCell ⟨zs, 5, none⟩ U).cell? ⟨w.heap.size, j, none⟩ = some y := fun j y U e => (World.cell?_setCell_far _ _ _ _ (by show zs ≠ w.heap.size; omega)).trans ((h1.cell (p := ⟨w.heap.size, j, none⟩) (by show w.heap.size < w8.heap.size; omega)).trans e)
        have hV3 := KV.push (x := (4, S1, C1, W1)) (HV.out.on (one_up wb (.cells #[.int .i64 4, .int .i64 S1, .slice Ab nb cb, .slice Bb mb db] 43))) hxl HML.out HGR.out (HAT.out.elim (fun e => .inl e.symm) (fun e => .inr (Option.some.inj e))) (HC.out.on (one_up _ _)) (HW.out.on (one_up _ _)) ⟨hnn.1, hnn.2, HS6.out, HW6.out⟩ HA1.out HA2.out
        refine ⟨keepsFrom_set (((keepsFrom_below cc).trans ((KeepsOthers.alloc wb _).from _)).trans ((KeepsOthers.of_grownBy HGR.out (own_cells (HO.out.alloc _))).from _)) _ _, (Kc.of cc (by omega) (by omega)).trans ((Kc.of h1 hb1 hb2).trans (Kc.set (by omega) (by omega))), ⟨HOKN.out, by simp; omega, ⟨hpp 0 _ _ pa0, hpp 1 _ _ pa1, hpp 2 _ _ pa2, hpp 3 _ _ pa3⟩, bx_far (g := zs) (show Bx w3 (w.heap.size + 1) _ _ from (h1.block (w.heap.size + 1) (by omega)).trans bl) (by omega), (heap_setCell_other w3 ⟨zs, 5, none⟩ _ _ (by show w.heap.size + 1 + 1 ≠ zs; omega)).trans ((h1.block (w.heap.size + 1 + 1) (by omega)).trans bz), bx_far (g := zs) (show Bx w3 (w.heap.size + 1 + 1 + 1) _ _ from (h1.block (w.heap.size + 1 + 1 + 1) (by omega)).trans be) (by omega), ⟨(World.cell?_setCell_other _ _ _ _ (addr_ne (by omega))).trans o0', (World.cell?_setCell_other _ _ _ _ (addr_ne (by omega))).trans o1', (World.cell?_setCell_other _ _ _ _ (addr_ne (by omega))).trans o2', (World.cell?_setCell_other _ _ _ _ (addr_ne (by omega))).trans o3', (World.cell?_setCell_other _ _ _ _ (addr_ne (by omega))).trans o4'⟩, some ⟨gq, 0, none⟩, cr, _, by rw [HLN.out]; exact World.cell?_setCell_same _ _ _ o5', by simpa [go_sem] using fp', by rw [HLN.out]; exact own_lt (o := 5) HOW.out hzw, fun u hu => ?_, by rw [HLN.out, HMP.out]; exact hV3.set hzw⟩, ((HBL.out.trans (cc.mono HBL.out.size)).trans (h1.mono (by omega))).setCell (p := ⟨zs, 5, none⟩) (by show w.heap.size ≤ zs; omega) _⟩
        rcases List.mem_append.1 hu with e | e
        · exact h1c u e
        · simp at e; rcases e with rfl | rfl | rfl | rfl <;> rfl
      · skip
        have HNO : Hid (¬ okPr kk km ko (n : Int) s L (pre ++ [x])) := Lib.hid (fun h => hpi (by have h2 := (HSN.out.1 h).2; rwa [hkd] at h2))
        have CP := bqPack_no hk04 hP HIP.out (by omega) hpi
        clear hpi
        refine (CallsIn.inRound l (callsIn_wide.2 CP)).mono ?_
        rintro e wp ⟨Ab, nb, cb, Bb, mb, db, rfl, hC, hW, b, hn1, hn2⟩
        clear CP hP hC hW hn1 hn2
        replace lc := cK b lc ll
        replace ll := lK b ll
        rewrite [cR b pal] at pa0 pa1 pa2 pa3
        replace pal := lK b pal
        replace cc := bK cc b
        clear b
        have uA := one_up wp (.cells #[.int .i64 0, .int .i64 0, .slice Ab nb cb, .slice Bb mb db] 43)
        obtain ⟨wb, hwb⟩ : ∃ wb, wp.alloc (.cells #[.int .i64 0, .int .i64 0, .slice Ab nb cb, .slice Bb mb db] 43) = wb := ⟨_, rfl⟩
        rw [hwb] at uA
        replace cc := bK cc uA
        clear uA lc pa0 pa1 pa2 pa3 o0 o1 o2 o3 o4 o5 fp hO hV bl
        replace bz := bz.on cc
        replace be := be.on cc
        obtain ⟨⟨g0, g1, g2, g3, g4, g5⟩, f0, f1, f2, f3, f4, f5⟩ := bz.cells
        have bec := be.cell
        have bef := be.frozen
        have HT : Hid (BoxT ((putT wb (w.heap.size + 1 + 1) (.int .i64 0) (.int .i64 0) (.int .i64 0) (.int .i64 0) (.int .i64 0) (.slice none 0 0)).setCell ⟨w.heap.size + 1 + 1 + 1, 0, none⟩ (.int .i64 1)) (w.heap.size + 1 + 1) (.int .i64 0) (.int .i64 0) (.int .i64 0) (.int .i64 0) (.int .i64 0) (.slice none 0 0)) := Lib.hid (boxT_far (boxT_put bz (.int .i64 0) (.int .i64 0) (.int .i64 0) (.int .i64 0) (.int .i64 0) (.slice none 0 0)) (by omega))
        have HE : Hid (Bx ((putT wb (w.heap.size + 1 + 1) (.int .i64 0) (.int .i64 0) (.int .i64 0) (.int .i64 0) (.int .i64 0) (.slice none 0 0)).setCell ⟨w.heap.size + 1 + 1 + 1, 0, none⟩ (.int .i64 1)) (w.heap.size + 1 + 1 + 1) 36 (.int .i64 1)) := Lib.hid ((bx_putT be (by omega) (.int .i64 0) (.int .i64 0) (.int .i64 0) (.int .i64 0) (.int .i64 0) (.slice none 0 0)).set _)
        have HKF : Hid (KeepsFrom w8.heap.size wr ((putT wb (w.heap.size + 1 + 1) (.int .i64 0) (.int .i64 0) (.int .i64 0) (.int .i64 0) (.int .i64 0) (.slice none 0 0)).setCell ⟨w.heap.size + 1 + 1 + 1, 0, none⟩ (.int .i64 1))) := Lib.hid (keepsFrom_set ((keepsFrom_below cc).trans ((keepsO_putT wb _ (.int .i64 0) (.int .i64 0) (.int .i64 0) (.int .i64 0) (.int .i64 0) (.slice none 0 0)).from _)) _ _)
        have HB : Hid (Below w.heap.size w ((putT wb (w.heap.size + 1 + 1) (.int .i64 0) (.int .i64 0) (.int .i64 0) (.int .i64 0) (.int .i64 0) (.slice none 0 0)).setCell ⟨w.heap.size + 1 + 1 + 1, 0, none⟩ (.int .i64 1))) := Lib.hid ((below_putT (HBL.out.trans (cc.mono HBL.out.size)) (show w.heap.size ≤ w.heap.size + 1 + 1 by omega) (.int .i64 0) (.int .i64 0) (.int .i64 0) (.int .i64 0) (.int .i64 0) (.slice none 0 0)).setCell (p := ⟨w.heap.size + 1 + 1 + 1, 0, none⟩) (by show w.heap.size ≤ w.heap.size + 1 + 1 + 1; omega) _)
        clear bz be cc
        gi_wp2
        exact ⟨HKF.out, ⟨rfl, HNO.out, HT.out, HE.out⟩, HB.out⟩
    · skip
      have hkd : kdB kk km ko (n : Int) B = kk := by unfold kdB; rw [if_neg hw]
      have CW := fun {V : World} (h : IR V (some ⟨bb, off + a, none⟩) d (c - a) B) => tnWide_N (kk := kk) (ks := (s : Int)) (km := km) (lg := (n : Int)) h (by omega) HKO.out
      rw [decide_eq_false hw] at CW
      have hk04 : I64 (kk : Int) := by have := HK3.out; unfold I64; omega
      clear hw
      gi_wp2_with fail
      have bD : Below wr.heap.size wr wr.drew := below_drewN (Below.refl _ wr) 1
      replace lc := cK bD lc ll
      replace ll := lK bD ll
      replace hP := hP.on bD
      rewrite [cR bD pal] at pa0 pa1 pa2 pa3
      replace pal := lK bD pal
      replace cc := bK cc bD
      clear bD
      refine wpIn_round_held_drew (S := fun w' => w'.cell? ⟨w.heap.size + 1, 0, none⟩ = some (.slice (some ⟨bb, off, none⟩) n c) ∧ w'.cell? ⟨w.heap.size, 0, none⟩ = some (.int .i64 kk) ∧ w'.cell? ⟨w.heap.size, 1, none⟩ = some (.int .i64 (s : Int)) ∧ w'.cell? ⟨w.heap.size, 2, none⟩ = some (.int .i64 km) ∧ w'.cell? ⟨w.heap.size, 3, none⟩ = some (.int .i64 ko)) (by kernel_rfl) ?_ ?_ ?_ (fun hHeld => ?_)
      · kernel_rfl
      · rintro ⟨_, _, h⟩; exact h
      · exact ⟨lc, pa0, pa1, pa2, pa3⟩
      refine tY (i := 0) (v := ?_) rfl ?_ hHeld ?_
      rotate_left
      · (intro w hSw; (try dsimp only at hSw); go_simp; (try with_reducible rfl))
      try simp only [Act.put, pT]
      refine tY (i := 1) (v := ?_) rfl ?_ hHeld ?_
      rotate_left
      · (intro w hSw; (try dsimp only at hSw); go_simp; (try with_reducible rfl))
      try simp only [Act.put, pT]
      refine tY (i := 2) (v := ?_) rfl ?_ hHeld ?_
      rotate_left
      · (intro w hSw; (try dsimp only at hSw); go_simp; (try with_reducible rfl))
      try simp only [Act.put, pT]
      refine tY (i := 3) (v := ?_) rfl ?_ hHeld ?_
      rotate_left
      · (intro w hSw; (try dsimp only at hSw); go_simp; (try with_reducible rfl))
      try simp only [Act.put, pT]
      refine tY (i := 4) (v := ?_) rfl ?_ hHeld ?_
      rotate_left
      · (intro w hSw; (try dsimp only at hSw); go_simp; (try with_reducible rfl))
      try simp only [Act.put, pT]
      refine tY (i := 5) (v := ?_) rfl ?_ hHeld ?_
      rotate_left
      · (intro w hSw; (try dsimp only at hSw); go_simp; (try with_reducible rfl))
      try simp only [Act.put, pT]
      refine tY (i := 6) (v := ?_) rfl ?_ hHeld ?_
      rotate_left
      · (intro w hSw; (try dsimp only at hSw); go_simp; (try with_reducible rfl))
      try simp only [Act.put, pT]
      refine wpAnyH_ready (rs := [7]) (by kernel_rfl) (by simp) ?_
      refine AllReadyH.cons rfl (fun K hK => ?_) AllReadyH.nil
      (try simp only [pT])
      rw [if_pos (by rfl)]
      go_simp
      go_at_call 34
      refine (CW hP).mono ?_
      rintro e w21 ⟨rfl, b⟩
      replace lc := cK b lc ll
      replace ll := lK b ll
      replace hP := hP.on b
      rewrite [cR b pal] at pa0 pa1 pa2 pa3
      replace pal := lK b pal
      replace cc := bK cc b
      clear b
      refine hK.out _ _ ?_ (fun hHeld => ?_)
      · exact ⟨lc, pa0, pa1, pa2, pa3⟩
      clear hK K
      try simp only [Act.put, pT]
      refine wpAnyH_done (by kernel_rfl) ?_ _
      clear hHeld
      clear CW
      have hzs : zs < wr.heap.size := cell_lt o0
      gi_wp2_with fail
      refine ⟨trivial, ?_⟩
      by_cases hpi : OkP kk B
      · skip
        have hbs : ofB kk km ko (n : Int) B = (kk, pkS kk B, pkC kk B, pkW kk B) := by unfold ofB; rw [hkd]
        have hS6 : I64 (pkS kk B) := by unfold pkS; split; exact i64_z; exact grk_i64 (row_i64_14 HIP.out (fun x hx => (hpi.2 x hx).1)) _
        have hW6 : ∀ x ∈ pkW kk B, I64 x := by unfold pkW; split; exact HIP.out; intro x hx; cases hx
        have hC4 : (pkC kk B).length ≤ 4096 ∧ (pkW kk B).length ≤ 4096 := by have h1 := HC1.out; have := ofB_len (kk := kk) (km := km) (ko := ko) (lg := (n : Int)) B; rw [hbs] at this; simp only at this; omega
        have HOKN : Hid (okPr kk km ko (n : Int) s L (pre ++ [x])) := Lib.hid (HSN.out.2 ⟨HOK.out, by rw [hkd]; exact hpi⟩)
        have CP := bqPack_yes hk04 hP HIP.out (by omega) hpi
        rw [hbs] at HMP
        generalize pkS kk B = S1 at *
        generalize pkC kk B = C1 at *
        generalize pkW kk B = W1 at *
        have HS6 := Lib.hid hS6
        have HW6 := Lib.hid hW6
        clear hbs hS6 hW6 hpi
        refine (CallsIn.inRound l (callsIn_wide.2 CP)).mono ?_
        rintro e wp ⟨Ab, nb, cb, Bb, mb, db, rfl, hC, hW, b, hn1, hn2⟩
        clear CP hP
        have hown : ∀ q, (Value.slice p k cq).ownBlock = some q → q < wr.heap.size := fun q e => (hO.lt q e).2
        have c21 := cc.size
        have hsz := HSZ.out
        have HA1 : Hid (Apart w8.heap.size (Value.slice p k cq).ownBlock Ab nb) := Lib.hid (fun _ q e => ⟨by have h1 := hn1 q e; omega, fun e2 => by have h1 := hn1 q e; have h2 := hown _ e2; omega⟩)
        have HA2 : Hid (Apart w8.heap.size (Value.slice p k cq).ownBlock Bb mb) := Lib.hid (fun _ q e => ⟨by have h1 := hn2 q e; omega, fun e2 => by have h1 := hn2 q e; have h2 := hown _ e2; omega⟩)
        have hnn : nb ≤ 9223372036854775807 ∧ mb ≤ 9223372036854775807 := by have h1 := hC.1; have h2 := hW.1; omega
        clear hn1 hn2 hown c21
        replace lc := cK b lc ll
        replace ll := lK b ll
        rewrite [cR b pal] at pa0 pa1 pa2 pa3
        replace pal := lK b pal
        replace cc := bK cc b
        clear b
        have uA := one_up wp (.cells #[.int .i64 kk, .int .i64 S1, .slice Ab nb cb, .slice Bb mb db] 43)
        obtain ⟨wb, hwb⟩ : ∃ wb, wp.alloc (.cells #[.int .i64 kk, .int .i64 S1, .slice Ab nb cb, .slice Bb mb db] 43) = wb := ⟨_, rfl⟩
        have x0 : (wp.alloc (.cells #[.int .i64 kk, .int .i64 S1, .slice Ab nb cb, .slice Bb mb db] 43)).cell? ⟨wp.heap.size, 0, none⟩ = some (.int .i64 kk) := by simp [go_sem]
        have x1 : (wp.alloc (.cells #[.int .i64 kk, .int .i64 S1, .slice Ab nb cb, .slice Bb mb db] 43)).cell? ⟨wp.heap.size, 1, none⟩ = some (.int .i64 S1) := by simp [go_sem]
        have x2 : (wp.alloc (.cells #[.int .i64 kk, .int .i64 S1, .slice Ab nb cb, .slice Bb mb db] 43)).cell? ⟨wp.heap.size, 2, none⟩ = some (.slice Ab nb cb) := by simp [go_sem]
        have x3 : (wp.alloc (.cells #[.int .i64 kk, .int .i64 S1, .slice Ab nb cb, .slice Bb mb db] 43)).cell? ⟨wp.heap.size, 3, none⟩ = some (.slice Bb mb db) := by simp [go_sem]
        rw [hwb] at uA x0 x1 x2 x3
        have HC := Lib.hid (hC.on uA)
        have HW := Lib.hid (hW.on uA)
        rewrite [cR uA pal] at pa0 pa1 pa2 pa3
        replace cc := bK cc uA
        clear uA hC hW lc
        rewrite [cR cc hzs] at o0 o1 o2 o3 o4 o5
        replace fp := fK cc fp hzs
        have HO := Lib.hid (own_any hO cc)
        have HV := Lib.hid (hV.on cc)
        replace bl := bl.on cc
        replace bz := bz.on cc
        replace be := be.on cc
        clear hO hV
        obtain ⟨i0, hi0, hz0, hz1_, hz2_⟩ := info_parts infoK
        have hT : w8.heap.size ≤ wb.heap.size := by have := cc.size; omega
        have hxl := HO.out.1
        have hzw : zs < w8.heap.size := by omega
        have HP0 := Lib.hid (And.intro pa0 (And.intro pa1 (And.intro pa2 pa3)))
        have HLZE := Lib.hid (And.intro bl (And.intro bz be))
        clear pa0 pa1 pa2 pa3 bl bz be
        gi_wp2_with (gi_at_builtin; refine wpListIn_append_own_at _ rfl _ _ 24 rfl w8.heap.size 43 i0 _ 4 64 Tryz.underlying24 hi0 hz0 hz1_ hz2_ rfl (by decide) _ _ _ rfl (HO.out.alloc _) ⟨wb.heap.size, 0, none⟩ 1 1 [.int .i64 kk, .int .i64 S1, .slice Ab nb cb, .slice Bb mb db] rfl rfl (cells_new wb #[.int .i64 kk, .int .i64 S1, .slice Ab nb cb, .slice Bb mb db] _) (by simp [Value.oneCell']) (by unfold maxLen; omega) (by omega) (by simp; omega) ?_; intro v' w3 hown1 hgrow1 _ hat; obtain ⟨gq, cr, rfl⟩ := ownsRow_succ hown1; have h1 : Below w8.heap.size wb w3 := ((Below.refl w8.heap.size wb).alloc hT _).grown hgrow1 (by simp; omega) (fun q e => (HO.out.lt q e).1); have o0' := cK h1 o0 hzw; have o1' := cK h1 o1 hzw; have o2' := cK h1 o2 hzw; have o3' := cK h1 o3 hzw; have o4' := cK h1 o4 hzw; have o5' := cK h1 o5 hzw; have fp' := fK h1 fp hzw; have HOW := Lib.hid hown1; have HGR := Lib.hid hgrow1; have HAT := Lib.hid hat; have H1 := Lib.hid h1; clear hown1 hgrow1 hat h1 o0 o1 o2 o3 o4 o5 fp x0 x1 x2 x3)
        have h1 := H1.out
        have hs3 := h1.size
        obtain ⟨pa0, pa1, pa2, pa3⟩ := HP0.out
        obtain ⟨bl, bz, be⟩ := HLZE.out
        have hpp : ∀ (j : Nat) (y : Value) (U : Value), wb.cell? ⟨w.heap.size, j, none⟩ = some y → (w3.setCell ⟨zs, 5, none⟩ U).cell? ⟨w.heap.size, j, none⟩ = some y := fun j y U e => (World.cell?_setCell_far _ _ _ _ (by show zs ≠ w.heap.size; omega)).trans ((h1.cell (p := ⟨w.heap.size, j, none⟩) (by show w.heap.size < w8.heap.size; omega)).trans e)
        have hV3 := KV.push (x := (kk, S1, C1, W1)) (HV.out.on (one_up wb (.cells #[.int .i64 kk, .int .i64 S1, .slice Ab nb cb, .slice Bb mb db] 43))) hxl HML.out HGR.out (HAT.out.elim (fun e => .inl e.symm) (fun e => .inr (Option.some.inj e))) (HC.out.on (one_up _ _)) (HW.out.on (one_up _ _)) ⟨hnn.1, hnn.2, HS6.out, HW6.out⟩ HA1.out HA2.out
        refine ⟨keepsFrom_set (((keepsFrom_below cc).trans ((KeepsOthers.alloc wb _).from _)).trans ((KeepsOthers.of_grownBy HGR.out (own_cells (HO.out.alloc _))).from _)) _ _, (Kc.of cc (by omega) (by omega)).trans ((Kc.of h1 hb1 hb2).trans (Kc.set (by omega) (by omega))), ⟨HOKN.out, by simp; omega, ⟨hpp 0 _ _ pa0, hpp 1 _ _ pa1, hpp 2 _ _ pa2, hpp 3 _ _ pa3⟩, bx_far (g := zs) (show Bx w3 (w.heap.size + 1) _ _ from (h1.block (w.heap.size + 1) (by omega)).trans bl) (by omega), (heap_setCell_other w3 ⟨zs, 5, none⟩ _ _ (by show w.heap.size + 1 + 1 ≠ zs; omega)).trans ((h1.block (w.heap.size + 1 + 1) (by omega)).trans bz), bx_far (g := zs) (show Bx w3 (w.heap.size + 1 + 1 + 1) _ _ from (h1.block (w.heap.size + 1 + 1 + 1) (by omega)).trans be) (by omega), ⟨(World.cell?_setCell_other _ _ _ _ (addr_ne (by omega))).trans o0', (World.cell?_setCell_other _ _ _ _ (addr_ne (by omega))).trans o1', (World.cell?_setCell_other _ _ _ _ (addr_ne (by omega))).trans o2', (World.cell?_setCell_other _ _ _ _ (addr_ne (by omega))).trans o3', (World.cell?_setCell_other _ _ _ _ (addr_ne (by omega))).trans o4'⟩, some ⟨gq, 0, none⟩, cr, _, by rw [HLN.out]; exact World.cell?_setCell_same _ _ _ o5', by simpa [go_sem] using fp', by rw [HLN.out]; exact own_lt (o := 5) HOW.out hzw, fun u hu => ?_, by rw [HLN.out, HMP.out]; exact hV3.set hzw⟩, ((HBL.out.trans (cc.mono HBL.out.size)).trans (h1.mono (by omega))).setCell (p := ⟨zs, 5, none⟩) (by show w.heap.size ≤ zs; omega) _⟩
        rcases List.mem_append.1 hu with e | e
        · exact h1c u e
        · simp at e; rcases e with rfl | rfl | rfl | rfl <;> rfl
      · skip
        have HNO : Hid (¬ okPr kk km ko (n : Int) s L (pre ++ [x])) := Lib.hid (fun h => hpi (by have h2 := (HSN.out.1 h).2; rwa [hkd] at h2))
        have CP := bqPack_no hk04 hP HIP.out (by omega) hpi
        clear hpi
        refine (CallsIn.inRound l (callsIn_wide.2 CP)).mono ?_
        rintro e wp ⟨Ab, nb, cb, Bb, mb, db, rfl, hC, hW, b, hn1, hn2⟩
        clear CP hP hC hW hn1 hn2
        replace lc := cK b lc ll
        replace ll := lK b ll
        rewrite [cR b pal] at pa0 pa1 pa2 pa3
        replace pal := lK b pal
        replace cc := bK cc b
        clear b
        have uA := one_up wp (.cells #[.int .i64 0, .int .i64 0, .slice Ab nb cb, .slice Bb mb db] 43)
        obtain ⟨wb, hwb⟩ : ∃ wb, wp.alloc (.cells #[.int .i64 0, .int .i64 0, .slice Ab nb cb, .slice Bb mb db] 43) = wb := ⟨_, rfl⟩
        rw [hwb] at uA
        replace cc := bK cc uA
        clear uA lc pa0 pa1 pa2 pa3 o0 o1 o2 o3 o4 o5 fp hO hV bl
        replace bz := bz.on cc
        replace be := be.on cc
        obtain ⟨⟨g0, g1, g2, g3, g4, g5⟩, f0, f1, f2, f3, f4, f5⟩ := bz.cells
        have bec := be.cell
        have bef := be.frozen
        have HT : Hid (BoxT ((putT wb (w.heap.size + 1 + 1) (.int .i64 0) (.int .i64 0) (.int .i64 0) (.int .i64 0) (.int .i64 0) (.slice none 0 0)).setCell ⟨w.heap.size + 1 + 1 + 1, 0, none⟩ (.int .i64 1)) (w.heap.size + 1 + 1) (.int .i64 0) (.int .i64 0) (.int .i64 0) (.int .i64 0) (.int .i64 0) (.slice none 0 0)) := Lib.hid (boxT_far (boxT_put bz (.int .i64 0) (.int .i64 0) (.int .i64 0) (.int .i64 0) (.int .i64 0) (.slice none 0 0)) (by omega))
        have HE : Hid (Bx ((putT wb (w.heap.size + 1 + 1) (.int .i64 0) (.int .i64 0) (.int .i64 0) (.int .i64 0) (.int .i64 0) (.slice none 0 0)).setCell ⟨w.heap.size + 1 + 1 + 1, 0, none⟩ (.int .i64 1)) (w.heap.size + 1 + 1 + 1) 36 (.int .i64 1)) := Lib.hid ((bx_putT be (by omega) (.int .i64 0) (.int .i64 0) (.int .i64 0) (.int .i64 0) (.int .i64 0) (.slice none 0 0)).set _)
        have HKF : Hid (KeepsFrom w8.heap.size wr ((putT wb (w.heap.size + 1 + 1) (.int .i64 0) (.int .i64 0) (.int .i64 0) (.int .i64 0) (.int .i64 0) (.slice none 0 0)).setCell ⟨w.heap.size + 1 + 1 + 1, 0, none⟩ (.int .i64 1))) := Lib.hid (keepsFrom_set ((keepsFrom_below cc).trans ((keepsO_putT wb _ (.int .i64 0) (.int .i64 0) (.int .i64 0) (.int .i64 0) (.int .i64 0) (.slice none 0 0)).from _)) _ _)
        have HB : Hid (Below w.heap.size w ((putT wb (w.heap.size + 1 + 1) (.int .i64 0) (.int .i64 0) (.int .i64 0) (.int .i64 0) (.int .i64 0) (.slice none 0 0)).setCell ⟨w.heap.size + 1 + 1 + 1, 0, none⟩ (.int .i64 1))) := Lib.hid ((below_putT (HBL.out.trans (cc.mono HBL.out.size)) (show w.heap.size ≤ w.heap.size + 1 + 1 by omega) (.int .i64 0) (.int .i64 0) (.int .i64 0) (.int .i64 0) (.int .i64 0) (.slice none 0 0)).setCell (p := ⟨w.heap.size + 1 + 1 + 1, 0, none⟩) (by show w.heap.size ≤ w.heap.size + 1 + 1 + 1; omega) _)
        clear bz be cc
        gi_wp2
        exact ⟨HKF.out, ⟨rfl, HNO.out, HT.out, HE.out⟩, HB.out⟩
  case done =>
    rintro D ys W hD rfl ⟨⟨hok, hsz, ⟨k0, k1, k2, k3⟩, bl2, bz2, be2, ⟨q0, q1, q2, q3, q4⟩, p, cq, xs, q5, fp, hO, h1c, hV⟩, hBl⟩ hK
    rw [upA_len (Nat.le_refl _)] at q5 hO hV
    rw [map_up (fun j => ofB kk km ko (n : Int) (cutL s L j)) (Nat.le_refl _)] at hV
    have HOKO := Lib.hid (okPr_ok hok)
    have HML : Hid ((ofL kk km ko (n : Int) s L (nbk s n)).length = nbk s n) := Lib.hid (ofL_len _ _ _ _ _ _ _)
    have hV1 : KV w8.heap.size (Value.slice p (nbk s n) cq).ownBlock W xs (nbk s n) (ofL kk km ko (n : Int) s L (nbk s n)) := hV
    obtain ⟨M, eM⟩ : ∃ M, ofL kk km ko (n : Int) s L (nbk s n) = M := ⟨_, rfl⟩
    rw [eM] at hV1 HML
    have HEM := Lib.hid eM
    clear eM hV
    obtain ⟨m, em⟩ : ∃ m, nbk s n = m := ⟨_, rfl⟩
    rw [em] at q5 hO hV1 HML
    have hb1 := b1.lt
    have hz8 : zs < w8.heap.size := by omega
    have hg2 : w.heap.size + 1 + 1 < w8.heap.size := by omega
    have hg3 : w.heap.size + 1 + 1 + 1 < w8.heap.size := by omega
    obtain ⟨⟨g0, g1, g2, g3, g4, g5⟩, f0, f1, f2, f3, f4, f5⟩ := bz2.cells
    have bec := be2.cell
    have bef := be2.frozen
    have hK2 : ((putT W (w.heap.size + 1 + 1) (.int .i64 kk) (.int .i64 (s : Int)) (.int .i64 km) (.int .i64 ko) (.int .i64 (n : Int)) (.slice p m cq)).setCell ⟨w.heap.size + 1 + 1 + 1, 0, none⟩ (.int .i64 0)).heap[D]? = some (.deferred (some [])) := ((keepsO_putT W (w.heap.size + 1 + 1) (.int .i64 kk) (.int .i64 (s : Int)) (.int .i64 km) (.int .i64 ko) (.int .i64 (n : Int)) (.slice p m cq)).trans (KeepsOthers.setCell _ _ _)).same D _ hK rfl
    have hr2 : ∀ r, some D = some r → ∃ o : Obj, ((putT W (w.heap.size + 1 + 1) (.int .i64 kk) (.int .i64 (s : Int)) (.int .i64 km) (.int .i64 ko) (.int .i64 (n : Int)) (.slice p m cq)).setCell ⟨w.heap.size + 1 + 1 + 1, 0, none⟩ (.int .i64 0)).heap[r]? = some o ∧ o.isCells = false := fun r e => by cases e; exact ⟨_, hK2, rfl⟩
    obtain ⟨hc0, hc1, hc2, hc3, hc4, hc5⟩ := boxT_grown (boxT_far (g' := w.heap.size + 1 + 1 + 1) (o := 0) (u := .int .i64 0) (boxT_put bz2 (.int .i64 kk) (.int .i64 (s : Int)) (.int .i64 km) (.int .i64 ko) (.int .i64 (n : Int)) (.slice p m cq)) (by omega)) (grownBy_putObj' _ D (.deferred none)) hr2
    have he : Bx ((putT W (w.heap.size + 1 + 1) (.int .i64 kk) (.int .i64 (s : Int)) (.int .i64 km) (.int .i64 ko) (.int .i64 (n : Int)) (.slice p m cq)).setCell ⟨w.heap.size + 1 + 1 + 1, 0, none⟩ (.int .i64 0)) (w.heap.size + 1 + 1 + 1) 36 (.int .i64 0) := (bx_putT be2 (by omega) (.int .i64 kk) (.int .i64 (s : Int)) (.int .i64 km) (.int .i64 ko) (.int .i64 (n : Int)) (.slice p m cq)).set _
    have hc6 := cell_kept he.cell (grownBy_putObj' _ D (.deferred none)) hr2
    have hV3 := kv_grown ((kv_putT hV1 hg2 (.int .i64 kk) (.int .i64 (s : Int)) (.int .i64 km) (.int .i64 ko) (.int .i64 (n : Int)) (.slice p m cq)).set hg3 (o := 0) (u := .int .i64 0)) (grownBy_putObj' _ D (.deferred none)) hr2
    have hO3 := own_grown (own_lt (own_putT hO hg2 (.int .i64 kk) (.int .i64 (s : Int)) (.int .i64 km) (.int .i64 ko) (.int .i64 (n : Int)) (.slice p m cq)) hg3 (o := 0) (u := .int .i64 0)) (grownBy_putObj' _ D (.deferred none)) hr2
    have HKF := Lib.hid ((kf_new hV3 HML.out hO3 h1c).low (show w.heap.size ≤ w8.heap.size by omega))
    have HB := Lib.hid (((below_putT hBl (show w.heap.size ≤ w.heap.size + 1 + 1 by omega) (.int .i64 kk) (.int .i64 (s : Int)) (.int .i64 km) (.int .i64 ko) (.int .i64 (n : Int)) (.slice p m cq)).setCell (p := ⟨w.heap.size + 1 + 1 + 1, 0, none⟩) (by show w.heap.size ≤ w.heap.size + 1 + 1 + 1; omega) (.int .i64 0)).trans (belowK_b (w := w8) (n₀ := w.heap.size) (by omega) ((putT W (w.heap.size + 1 + 1) (.int .i64 kk) (.int .i64 (s : Int)) (.int .i64 km) (.int .i64 ko) (.int .i64 (n : Int)) (.slice p m cq)).setCell ⟨w.heap.size + 1 + 1 + 1, 0, none⟩ (.int .i64 0)) D _ (.deferred none) hD hK2 rfl rfl))
    clear hr2 hok hsz k0 k1 k2 k3 bl2 bz2 be2 hO h1c hV1 hBl he hV3 hO3 bl bz be o0 o1 o2 o3 o4 o5 or5 pa0 pa1 pa2 pa3 pal cc b1 b2
    go_wp2
    refine ⟨by simp, .inl ⟨_, _, rfl, run_takeDeferred hK2, ?_⟩⟩
    exact ⟨.tuple #[.agg #[.int .i64 kk, .int .i64 (s : Int), .int .i64 km, .int .i64 ko, .int .i64 (n : Int), .slice p m cq], .int .i64 0], by simp [results, Tryz.results19, go_sem, hc0, hc1, hc2, hc3, hc4, hc5, hc6], .inl ⟨HOKO.out, _, _, _, rfl, by rw [HEM.out]; exact HKF.out, HB.out⟩⟩
  case stop =>
    rintro D c pre W hD ⟨i, hi, rfl⟩ ⟨⟨rfl, hno, ⟨g0, g1, g2, g3, g4, g5⟩, be2⟩, hB3⟩ hK2
    have HNO : Hid (¬ OkO kk km ko (n : Int) s L (nbk s n)) := Lib.hid (fun h => hno (okPr_all h))
    have hb1 := b1.lt
    have hc0 := cell_kept g0 (grownBy_putObj' W D (.deferred none)) (fun r e => by cases e; exact ⟨_, hK2, rfl⟩)
    have hc1 := cell_kept g1 (grownBy_putObj' W D (.deferred none)) (fun r e => by cases e; exact ⟨_, hK2, rfl⟩)
    have hc2 := cell_kept g2 (grownBy_putObj' W D (.deferred none)) (fun r e => by cases e; exact ⟨_, hK2, rfl⟩)
    have hc3 := cell_kept g3 (grownBy_putObj' W D (.deferred none)) (fun r e => by cases e; exact ⟨_, hK2, rfl⟩)
    have hc4 := cell_kept g4 (grownBy_putObj' W D (.deferred none)) (fun r e => by cases e; exact ⟨_, hK2, rfl⟩)
    have hc5 := cell_kept g5 (grownBy_putObj' W D (.deferred none)) (fun r e => by cases e; exact ⟨_, hK2, rfl⟩)
    have hc6 := cell_kept be2.cell (grownBy_putObj' W D (.deferred none)) (fun r e => by cases e; exact ⟨_, hK2, rfl⟩)
    have HB := Lib.hid (hB3.trans (belowK_b (w := w8) (n₀ := w.heap.size) (by omega) W D _ (.deferred none) hD hK2 rfl rfl))
    clear hno be2 hB3 bl bz be o0 o1 o2 o3 o4 o5 or5 pa0 pa1 pa2 pa3 pal cc b1 b2 g0 g1 g2 g3 g4 g5
    refine wpIn_wide.2 ?_
    go_wp2
    refine ⟨by simp, .inl ⟨_, _, rfl, run_takeDeferred hK2, ?_⟩⟩
    exact ⟨.tuple #[.agg #[.int .i64 0, .int .i64 0, .int .i64 0, .int .i64 0, .int .i64 0, .slice none 0 0], .int .i64 1], by simp [results, Tryz.results19, go_sem, hc0, hc1, hc2, hc3, hc4, hc5, hc6], .inr ⟨HNO.out, rfl, HB.out⟩⟩

theorem tnOf_k {w : World} {kk ks km ko : Int} {A : Option Addr} {n c : Nat} (hK : ¬ OkK kk ks km ko) :
    Calls Tryz.prog 19 #[.agg #[.int .i64 kk, .int .i64 ks, .int .i64 km, .int .i64 ko], .slice A n c] w (GotV w (.tuple #[.agg #[.int .i64 0, .int .i64 0, .int .i64 0, .int .i64 0, .int .i64 0, .slice none 0 0], .int .i64 1])) := by
  have CM : ∀ W : World, Calls Tryz.prog 9 #[.agg #[.int .i64 kk, .int .i64 ks, .int .i64 km, .int .i64 ko]] W (GotV W (.bool false)) := fun W => by have h := tnMayA_N W (kk := kk) (ks := ks) (km := km) (ko := ko); rw [decide_eq_false hK] at h; exact h
  clear hK
  have cc := Below.refl w.heap.size w
  go_enter Tryz.func19, Tryz.ntmps19
  go_upto_region 1 with fail
  generalize hv_ : (((w.alloc (.cells #[.int .i64 kk, .int .i64 ks, .int .i64 km, .int .i64 ko] 23)).alloc (.cells #[.slice A n c] 34)).alloc (.cells #[.int .i64 0, .int .i64 0, .int .i64 0, .int .i64 0, .int .i64 0, .slice none 0 0] 26)).alloc (.cells #[.int .i64 0] 36) = v1
  have bA : Below w.heap.size w v1 := by rw [← hv_]; exact ((((Below.refl _ w).alloc (by simp) _).alloc (by simp) _).alloc (by simp <;> omega) _).alloc (by simp <;> omega) _
  have bz : BZ v1 (w.heap.size + 1 + 1) := by rw [← hv_]; exact by have h := BZ.new ((w.alloc (.cells #[.int .i64 kk, .int .i64 ks, .int .i64 km, .int .i64 ko] 23)).alloc (.cells #[.slice A n c] 34)); simp only [World.size_alloc] at h; exact h.on (one_up _ _)
  have be : Bx v1 (w.heap.size + 1 + 1 + 1) 36 (.int .i64 0) := by rw [← hv_]; exact by have h := Bx.new (((w.alloc (.cells #[.int .i64 kk, .int .i64 ks, .int .i64 km, .int .i64 ko] 23)).alloc (.cells #[.slice A n c] 34)).alloc (.cells #[.int .i64 0, .int .i64 0, .int .i64 0, .int .i64 0, .int .i64 0, .slice none 0 0] 26)) 36 (.int .i64 0); simp only [World.size_alloc] at h; exact h
  have pa0 : v1.cell? ⟨w.heap.size, 0, none⟩ = some (.int .i64 kk) := by simp [← hv_, go_sem]
  have pa1 : v1.cell? ⟨w.heap.size, 1, none⟩ = some (.int .i64 ks) := by simp [← hv_, go_sem]
  have pa2 : v1.cell? ⟨w.heap.size, 2, none⟩ = some (.int .i64 km) := by simp [← hv_, go_sem]
  have pa3 : v1.cell? ⟨w.heap.size, 3, none⟩ = some (.int .i64 ko) := by simp [← hv_, go_sem]
  have pal : w.heap.size < v1.heap.size := by simp [← hv_] <;> omega
  replace cc := bK cc bA
  clear bA
  clear hv_
  go_wp2_with fail
  refine (CM _).mono ?_
  rintro e w2 ⟨rfl, b⟩
  replace bz := bz.on b
  replace be := be.on b
  rewrite [cR b pal] at pa0 pa1 pa2 pa3
  replace pal := lK b pal
  replace cc := bK cc b
  clear b
  obtain ⟨⟨g0, g1, g2, g3, g4, g5⟩, f0, f1, f2, f3, f4, f5⟩ := bz.cells
  have bec := be.cell
  have bef := be.frozen
  obtain ⟨hc0, hc1, hc2, hc3, hc4, hc5⟩ := boxT_far (g' := w.heap.size + 1 + 1 + 1) (o := 0) (u := .int .i64 1) (boxT_put bz (.int .i64 0) (.int .i64 0) (.int .i64 0) (.int .i64 0) (.int .i64 0) (.slice none 0 0)) (by omega)
  have he : Bx ((putT w2 (w.heap.size + 1 + 1) (.int .i64 0) (.int .i64 0) (.int .i64 0) (.int .i64 0) (.int .i64 0) (.slice none 0 0)).setCell ⟨w.heap.size + 1 + 1 + 1, 0, none⟩ (.int .i64 1)) (w.heap.size + 1 + 1 + 1) 36 (.int .i64 1) := (bx_putT be (by omega) (.int .i64 0) (.int .i64 0) (.int .i64 0) (.int .i64 0) (.int .i64 0) (.slice none 0 0)).set _
  have hc6 := he.cell
  have HB := Lib.hid ((below_putT cc (show w.heap.size ≤ w.heap.size + 1 + 1 by omega) (.int .i64 0) (.int .i64 0) (.int .i64 0) (.int .i64 0) (.int .i64 0) (.slice none 0 0)).setCell (p := ⟨w.heap.size + 1 + 1 + 1, 0, none⟩) (by show w.heap.size ≤ w.heap.size + 1 + 1 + 1; omega) (.int .i64 1))
  clear bz be he cc
  go_wp2_with fail
  exact bodyPost_ret (v := .tuple #[.agg #[.int .i64 0, .int .i64 0, .int .i64 0, .int .i64 0, .int .i64 0, .slice none 0 0], .int .i64 1]) (by simp [results, Tryz.results19, go_sem, hc0, hc1, hc2, hc3, hc4, hc5, hc6]) rfl ⟨rfl, HB.out⟩

theorem tnOfN_yes {w : World} {kk ks km ko : Int} {A : Option Addr} {n c : Nat} {L : List Int} (hI : I64 kk ∧ I64 ks ∧ I64 km ∧ I64 ko) (hA : IR w A n c L) (hi6 : ∀ x ∈ L, I64 x) (hn : n ≤ 4096) (ho : OkT kk ks km ko L) : Calls Tryz.prog 19 #[.agg #[.int .i64 kk, .int .i64 ks, .int .i64 km, .int .i64 ko], .slice A n c] w (GotStn w kk ks km ko (n : Int) (ofT kk ks km ko L)) := by
  obtain ⟨s, rfl⟩ : ∃ s : Nat, ks = (s : Int) := ⟨ks.toNat, by have := ho.1.2.1; omega⟩
  have hl := hA.1
  have h := ho.2
  unfold ofT
  rw [Int.toNat_natCast, ← hl] at h ⊢
  refine (tnOf_go ho.1 hA hi6 hn hI.2.2.2).mono ?_
  rintro e w' (⟨_, g⟩ | ⟨h2, _⟩)
  · exact g
  · exact absurd h h2
theorem tnOf_yes {w : World} {kk ks km ko : Int} {A : Option Addr} {n c : Nat} {L : List Int} (hI : I64 kk ∧ I64 ks ∧ I64 km ∧ I64 ko) (hA : IR w A n c L) (hi6 : ∀ x ∈ L, I64 x) (hn : n ≤ 4096) (ho : OkT kk ks km ko L) : Calls Tryz.prog 19 #[.agg #[.int .i64 kk, .int .i64 ks, .int .i64 km, .int .i64 ko], .slice A n c] w (GotSto w kk ks km ko (n : Int) (ofT kk ks km ko L)) := (tnOfN_yes hI hA hi6 hn ho).mono fun _ _ h => h.sto
theorem tnOf_no {w : World} {kk ks km ko : Int} {A : Option Addr} {n c : Nat} {L : List Int} (hI : I64 kk ∧ I64 ks ∧ I64 km ∧ I64 ko) (hA : IR w A n c L) (hi6 : ∀ x ∈ L, I64 x) (hn : n ≤ 4096) (ho : ¬ OkT kk ks km ko L) : Calls Tryz.prog 19 #[.agg #[.int .i64 kk, .int .i64 ks, .int .i64 km, .int .i64 ko], .slice A n c] w (GotV w (.tuple #[.agg #[.int .i64 0, .int .i64 0, .int .i64 0, .int .i64 0, .int .i64 0, .slice none 0 0], .int .i64 1])) := by
  by_cases hK : OkK kk ks km ko
  · obtain ⟨s, rfl⟩ : ∃ s : Nat, ks = (s : Int) := ⟨ks.toNat, by have := hK.2.1; omega⟩
    have hl := hA.1
    refine (tnOf_go hK hA hi6 hn hI.2.2.2).mono ?_
    rintro e w' (⟨h, _⟩ | ⟨_, g⟩)
    · exact absurd ⟨hK, by rw [Int.toNat_natCast, ← hl]; exact h⟩ ho
    · exact g
  · exact tnOf_k hK

end Go.Proofs.YtpidpebgeblenaaGreat

/-
  The contracts of the landed tens: Same.
-/
namespace Go.Proofs.YtpidpebgeblenaaGreat
set_option maxRecDepth 100000
set_option maxHeartbeats 8000000
open Go.RowKit
set_option linter.unusedVariables false
set_option linter.unusedSimpArgs false

theorem tnEqf_n {w : World} {A B : Option Addr} {n c m d : Nat} (hnm : n ≠ m) : Calls Tryz.prog 29 #[.slice A n c, .slice B m d, .func (.func 30) #[] #[]] w (GotV w (.bool false)) := by
  have e1 : ((n : Int) == (m : Int)) = false := beq_eq_false_iff_ne.2 (by omega)
  have e2 : ((n : Int) != (m : Int)) = true := by simp; omega
  have e3 : (n == m) = false := beq_eq_false_iff_ne.2 hnm
  have e4 : (n != m) = true := by simp; omega
  clear hnm
  have cc := Below.refl w.heap.size w
  go_enter Tryz.func29, Tryz.ntmps29
  go_wp2_with fail
  go_ret
  exact ⟨rfl, cc⟩

theorem tnEqf_eq {w : World} {A B : Option Addr} {n c m d : Nat} {L K : List Bk} (hA : KR w A n c L) (hB : KR w B m d K) (hn : n ≤ 9223372036854775807) (hnm : n = m) :
    Calls Tryz.prog 29 #[.slice A n c, .slice B m d, .func (.func 30) #[] #[]] w (GotV w (.bool (decide (L = K)))) := by
  subst hnm
  have HN := Lib.hid hn
  have HAV := Lib.hid hA
  have HBV := Lib.hid hB
  obtain ⟨R, hR⟩ : ∃ R, decide (L = K) = R := ⟨_, rfl⟩
  rw [hR]
  have HR := Lib.hid hR
  clear hR hn hA hB
  have cc := Below.refl w.heap.size w
  go_enter Tryz.func29, Tryz.ntmps29
  go_wp2_with fail
  go_loopw [17] (fun iv wr => ∃ i : Nat, i ≤ n ∧ iv = .int .i64 (i : Int) ∧ (∀ j, j < i → L[j]?.getD bk0 = K[j]?.getD bk0) ∧ Below w.heap.size w wr) (fun iv _ => n - (intOf iv).toNat)
  case atStart => exact ⟨0, by omega, rfl, fun j h => absurd h (by omega), cc⟩
  case round =>
    clear cc
    obtain ⟨i, hi, rfl, hj, cc⟩ := hrel
    have l1 := HAV.out.1
    have l2 := HBV.out.1
    by_cases hlt : i < n
    · obtain ⟨b1, o1, rfl, hb1⟩ := HAV.out.some (by omega)
      obtain ⟨b2, o2, rfl, hb2⟩ := HBV.out.some (by omega)
      obtain ⟨A1, n1, c1, B1, m1, d1, g0, g1, g2, g3, hC, hW, hn1, hm1, hs1, hz1⟩ := kr_at (HAV.out.on cc) hlt
      obtain ⟨A2, n2, c2, B2, m2, d2, f0, f1, f2, f3, hC2, hW2, hn2, hm2, hs2, hz2⟩ := kr_at (HBV.out.on cc) hlt
      have CS0 := fun {W : World} (q : Below wr.heap.size wr W) => bkSame_N (ka := (L[i]?.getD bk0).1) (sa := (L[i]?.getD bk0).2.1) (kb := (K[i]?.getD bk0).1) (sb := (K[i]?.getD bk0).2.1) (hC.on q) (hW.on q) hn1 hm1 (hC2.on q) (hW2.on q) hn2 hm2
      rw [bk_eq] at CS0
      obtain ⟨q, hq⟩ : ∃ q, decide (L[i]?.getD bk0 = K[i]?.getD bk0) = q := ⟨_, rfl⟩
      rw [hq] at CS0
      obtain ⟨x, hx⟩ : ∃ x, L[i]?.getD bk0 = x := ⟨_, rfl⟩
      obtain ⟨y, hy⟩ : ∃ y, K[i]?.getD bk0 = y := ⟨_, rfl⟩
      rw [hx] at CS0 g0 g1 hq
      rw [hy] at CS0 f0 f1 hq
      have k3 : IntKind.i64.wrap ((i : Int) + 1) = ((i + 1 : Nat) : Int) := by rw [IntWalk.i64_in _ (by have := HN.out; omega)]; omega
      have jl : (i : Int) < (n : Int) := by omega
      obtain ⟨x1, ex1⟩ : ∃ v, x.1 = v := ⟨_, rfl⟩
      obtain ⟨x2, ex2⟩ : ∃ v, x.2.1 = v := ⟨_, rfl⟩
      obtain ⟨y1, ey1⟩ : ∃ v, y.1 = v := ⟨_, rfl⟩
      obtain ⟨y2, ey2⟩ : ∃ v, y.2.1 = v := ⟨_, rfl⟩
      rw [ex1] at CS0 g0
      rw [ex2] at CS0 g1
      rw [ey1] at CS0 f0
      rw [ey2] at CS0 f1
      have hbw2 : b2 < wr.heap.size := Nat.lt_of_lt_of_le hb2 cc.size
      have HX := Lib.hid hx
      have HY := Lib.hid hy
      have HJ0 := Lib.hid hj
      have HQ := Lib.hid hq
      have H1 := Lib.hid l1
      have H2 := Lib.hid l2
      have CCR := Lib.hid cc
      clear hC hW hn1 hm1 hC2 hW2 hn2 hm2 hs1 hz1 hs2 hz2 ex1 ex2 ey1 ey2 hx hy hj hq l1 l2 hb1 hb2 cc
      go_upto_region 6 with fail
      have p0 : (wr.alloc (.cells #[.int .i64 x1, .int .i64 x2, .slice A1 n1 c1, .slice B1 m1 d1] 43)).cell? ⟨wr.heap.size, 0, none⟩ = some (.int .i64 x1) := by simp [go_sem]
      have p1 : (wr.alloc (.cells #[.int .i64 x1, .int .i64 x2, .slice A1 n1 c1, .slice B1 m1 d1] 43)).cell? ⟨wr.heap.size, 1, none⟩ = some (.int .i64 x2) := by simp [go_sem]
      have p2 : (wr.alloc (.cells #[.int .i64 x1, .int .i64 x2, .slice A1 n1 c1, .slice B1 m1 d1] 43)).cell? ⟨wr.heap.size, 2, none⟩ = some (.slice A1 n1 c1) := by simp [go_sem]
      have p3 : (wr.alloc (.cells #[.int .i64 x1, .int .i64 x2, .slice A1 n1 c1, .slice B1 m1 d1] 43)).cell? ⟨wr.heap.size, 3, none⟩ = some (.slice B1 m1 d1) := by simp [go_sem]
      have up := one_up wr (.cells #[.int .i64 x1, .int .i64 x2, .slice A1 n1 c1, .slice B1 m1 d1] 43)
      rewrite [cR up hbw2] at f0 f1 f2 f3
      generalize (wr.alloc (.cells #[.int .i64 x1, .int .i64 x2, .slice A1 n1 c1, .slice B1 m1 d1] 43)) = va at *
      have hpg : wr.heap.size < va.heap.size := by have := p0; exact (cell_lt this)
      generalize hpz : wr.heap.size = ga at *
      clear g0 g1 g2 g3
      go_upto_region 7 with fail
      have r0 : (va.alloc (.cells #[.int .i64 y1, .int .i64 y2, .slice A2 n2 c2, .slice B2 m2 d2] 43)).cell? ⟨va.heap.size, 0, none⟩ = some (.int .i64 y1) := by simp [go_sem]
      have r1 : (va.alloc (.cells #[.int .i64 y1, .int .i64 y2, .slice A2 n2 c2, .slice B2 m2 d2] 43)).cell? ⟨va.heap.size, 1, none⟩ = some (.int .i64 y2) := by simp [go_sem]
      have r2 : (va.alloc (.cells #[.int .i64 y1, .int .i64 y2, .slice A2 n2 c2, .slice B2 m2 d2] 43)).cell? ⟨va.heap.size, 2, none⟩ = some (.slice A2 n2 c2) := by simp [go_sem]
      have r3 : (va.alloc (.cells #[.int .i64 y1, .int .i64 y2, .slice A2 n2 c2, .slice B2 m2 d2] 43)).cell? ⟨va.heap.size, 3, none⟩ = some (.slice B2 m2 d2) := by simp [go_sem]
      have ur := one_up va (.cells #[.int .i64 y1, .int .i64 y2, .slice A2 n2 c2, .slice B2 m2 d2] 43)
      rewrite [cR ur hpg] at p0 p1 p2 p3
      generalize (va.alloc (.cells #[.int .i64 y1, .int .i64 y2, .slice A2 n2 c2, .slice B2 m2 d2] 43)) = vb at *
      have hrg : va.heap.size < vb.heap.size := by have := r0; exact (cell_lt this)
      generalize hrz : va.heap.size = gb at *
      have HUB : Hid (Below wr.heap.size wr vb) := Lib.hid (by first | exact up.trans (ur.mono up.size) | (rw [hpz] at *; rw [hrz] at *; exact up.trans (ur.mono (by omega))))
      have CSz := CS0 (W := vb) (by first | exact HUB.out | (rw [← hpz]; exact HUB.out))
      have ccz := CCR.out.trans (HUB.out.mono CCR.out.size)
      clear f0 f1 f2 f3 up ur CS0
      by_cases hxy : x = y
      · have hq1 : q = true := by rw [← HQ.out]; exact decide_eq_true hxy
        subst hq1
        have HJ : Hid (∀ j, j < i + 1 → L[j]?.getD bk0 = K[j]?.getD bk0) := Lib.hid (fun j h => by
          rcases Nat.lt_or_ge j i with e | e
          · exact HJ0.out j e
          · have e2 : j = i := by omega
            rw [e2, HX.out, HY.out, hxy])
        clear hxy
        go_wp2_with fail
        refine CSz.mono ?_
        rintro e wz ⟨rfl, b⟩
        replace ccz := bK ccz b
        clear b CSz p0 p1 p2 p3 r0 r1 r2 r3
        go_wp2_with fail
        go_roundw
        case rel => exact ⟨i + 1, by omega, by go_num, HJ.out, ccz⟩
        case measure => simp [intOf] <;> omega
      · have hq1 : q = false := by rw [← HQ.out]; exact decide_eq_false hxy
        subst hq1
        have hF : R = false := by rw [← HR.out]; exact decide_eq_false (fun h => hxy (by rw [← HX.out, ← HY.out, h]))
        subst hF
        clear hxy
        go_wp2_with fail
        refine CSz.mono ?_
        rintro e wz ⟨rfl, b⟩
        replace ccz := bK ccz b
        clear b CSz p0 p1 p2 p3 r0 r1 r2 r3
        go_wp2_with fail
        go_ret
        exact ⟨rfl, ccz⟩
    · obtain rfl : i = n := by omega
      have hE : R = true := by
        rw [← HR.out]
        refine decide_eq_true (List.ext_getElem (by omega) fun j h1 h2 => ?_)
        have := hj j (by omega)
        rwa [List.getElem?_eq_getElem h1, List.getElem?_eq_getElem h2] at this
      subst hE
      clear hj l1 l2 HR
      go_wp2_with fail
      go_ret
      exact ⟨rfl, cc⟩

theorem tnEqf_N {w : World} {A B : Option Addr} {n c m d : Nat} {L K : List Bk} (hA : KR w A n c L) (hB : KR w B m d K) (hn : n ≤ 9223372036854775807) : Calls Tryz.prog 29 #[.slice A n c, .slice B m d, .func (.func 30) #[] #[]] w (GotV w (.bool (decide (L = K)))) := by
  by_cases hnm : n = m
  · exact tnEqf_eq hA hB hn hnm
  · rw [decide_eq_false (fun h => hnm (by rw [hA.1, hB.1, h]))]
    exact tnEqf_n hnm

attribute [local go_sem ↓] keep_eq
theorem tnSame_k {w : World} {kk ks km ko lg kk' ks' km' ko' lg' : Int} {A B : Option Addr} {n c m d : Nat} (hk : ¬ (kk = kk' ∧ ks = ks' ∧ km = km' ∧ ko = ko')) :
    Calls Tryz.prog 12 #[.agg #[.int .i64 kk, .int .i64 ks, .int .i64 km, .int .i64 ko, .int .i64 lg, .slice A n c], .agg #[.int .i64 kk', .int .i64 ks', .int .i64 km', .int .i64 ko', .int .i64 lg', .slice B m d]] w (GotV w (.bool false)) := by
  have tk : decide (kk = kk' ∧ ks = ks' ∧ km = km' ∧ ko = ko') = false := decide_eq_false hk
  clear hk
  have cc := Below.refl w.heap.size w
  have KE := keep_eq
  go_enter Tryz.func12, Tryz.ntmps12
  go_upto_region 1 with fail
  generalize hv_ : (w.alloc (.cells #[.int .i64 kk, .int .i64 ks, .int .i64 km, .int .i64 ko, .int .i64 lg, .slice A n c] 26)).alloc (.cells #[.int .i64 kk', .int .i64 ks', .int .i64 km', .int .i64 ko', .int .i64 lg', .slice B m d] 26) = v1
  have bA : Below w.heap.size w v1 := by rw [← hv_]; exact (((Below.refl _ w).alloc (by simp) _).alloc (by simp) _)
  replace cc := bK cc bA
  clear bA
  obtain ⟨xa0, xa1, xa2, xa3, xa4, xa5⟩ : Cs6 v1 w.heap.size (.int .i64 kk) (.int .i64 ks) (.int .i64 km) (.int .i64 ko) (.int .i64 lg) (.slice A n c) := by simp [Cs6, ← hv_, go_sem]
  have xal : w.heap.size < v1.heap.size := by simp [← hv_] <;> omega
  obtain ⟨xb0, xb1, xb2, xb3, xb4, xb5⟩ : Cs6 v1 (w.heap.size + 1) (.int .i64 kk') (.int .i64 ks') (.int .i64 km') (.int .i64 ko') (.int .i64 lg') (.slice B m d) := by simp [Cs6, ← hv_, go_sem]
  have xbl : w.heap.size + 1 < v1.heap.size := by simp [← hv_] <;> omega
  clear hv_
  go_wp2_with fail
  go_ret
  exact ⟨rfl, cc⟩

theorem tnSame_l {w : World} {kk ks km ko lg kk' ks' km' ko' lg' : Int} {A B : Option Addr} {n c m d : Nat} (hk : kk = kk' ∧ ks = ks' ∧ km = km' ∧ ko = ko') (hl : lg ≠ lg') :
    Calls Tryz.prog 12 #[.agg #[.int .i64 kk, .int .i64 ks, .int .i64 km, .int .i64 ko, .int .i64 lg, .slice A n c], .agg #[.int .i64 kk', .int .i64 ks', .int .i64 km', .int .i64 ko', .int .i64 lg', .slice B m d]] w (GotV w (.bool false)) := by
  have tk : decide (kk = kk' ∧ ks = ks' ∧ km = km' ∧ ko = ko') = true := decide_eq_true hk
  have t1 : (lg == lg') = false := beq_eq_false_iff_ne.2 hl
  have t2 : (lg != lg') = true := by simp; exact hl
  clear hk hl
  have cc := Below.refl w.heap.size w
  have KE := keep_eq
  go_enter Tryz.func12, Tryz.ntmps12
  go_upto_region 1 with fail
  generalize hv_ : (w.alloc (.cells #[.int .i64 kk, .int .i64 ks, .int .i64 km, .int .i64 ko, .int .i64 lg, .slice A n c] 26)).alloc (.cells #[.int .i64 kk', .int .i64 ks', .int .i64 km', .int .i64 ko', .int .i64 lg', .slice B m d] 26) = v1
  have bA : Below w.heap.size w v1 := by rw [← hv_]; exact (((Below.refl _ w).alloc (by simp) _).alloc (by simp) _)
  replace cc := bK cc bA
  clear bA
  obtain ⟨xa0, xa1, xa2, xa3, xa4, xa5⟩ : Cs6 v1 w.heap.size (.int .i64 kk) (.int .i64 ks) (.int .i64 km) (.int .i64 ko) (.int .i64 lg) (.slice A n c) := by simp [Cs6, ← hv_, go_sem]
  have xal : w.heap.size < v1.heap.size := by simp [← hv_] <;> omega
  obtain ⟨xb0, xb1, xb2, xb3, xb4, xb5⟩ : Cs6 v1 (w.heap.size + 1) (.int .i64 kk') (.int .i64 ks') (.int .i64 km') (.int .i64 ko') (.int .i64 lg') (.slice B m d) := by simp [Cs6, ← hv_, go_sem]
  have xbl : w.heap.size + 1 < v1.heap.size := by simp [← hv_] <;> omega
  clear hv_
  go_wp2_with fail
  go_ret
  exact ⟨rfl, cc⟩

theorem tnSame_eq {w : World} {kk ks km ko lg kk' ks' km' ko' lg' : Int} {A B : Option Addr} {n c m d : Nat} (hk : kk = kk' ∧ ks = ks' ∧ km = km' ∧ ko = ko') (hl : lg = lg') {L K : List Bk} (hA : KR w A n c L) (hB : KR w B m d K) (hn : n ≤ 9223372036854775807) :
    Calls Tryz.prog 12 #[.agg #[.int .i64 kk, .int .i64 ks, .int .i64 km, .int .i64 ko, .int .i64 lg, .slice A n c], .agg #[.int .i64 kk', .int .i64 ks', .int .i64 km', .int .i64 ko', .int .i64 lg', .slice B m d]] w (GotV w (.bool (decide (L = K)))) := by
  have tk : decide (kk = kk' ∧ ks = ks' ∧ km = km' ∧ ko = ko') = true := decide_eq_true hk
  subst hl
  have CE := fun {W : World} (h : KR W A n c L) (h2 : KR W B m d K) => tnEqf_N h h2 hn
  generalize decide (L = K) = r at *
  clear hk hn
  have cc := Below.refl w.heap.size w
  have KE := keep_eq
  go_enter Tryz.func12, Tryz.ntmps12
  go_upto_region 1 with fail
  generalize hv_ : (w.alloc (.cells #[.int .i64 kk, .int .i64 ks, .int .i64 km, .int .i64 ko, .int .i64 lg, .slice A n c] 26)).alloc (.cells #[.int .i64 kk', .int .i64 ks', .int .i64 km', .int .i64 ko', .int .i64 lg, .slice B m d] 26) = v1
  have bA : Below w.heap.size w v1 := by rw [← hv_]; exact (((Below.refl _ w).alloc (by simp) _).alloc (by simp) _)
  replace hA := hA.on bA
  replace hB := hB.on bA
  replace cc := bK cc bA
  clear bA
  obtain ⟨xa0, xa1, xa2, xa3, xa4, xa5⟩ : Cs6 v1 w.heap.size (.int .i64 kk) (.int .i64 ks) (.int .i64 km) (.int .i64 ko) (.int .i64 lg) (.slice A n c) := by simp [Cs6, ← hv_, go_sem]
  have xal : w.heap.size < v1.heap.size := by simp [← hv_] <;> omega
  obtain ⟨xb0, xb1, xb2, xb3, xb4, xb5⟩ : Cs6 v1 (w.heap.size + 1) (.int .i64 kk') (.int .i64 ks') (.int .i64 km') (.int .i64 ko') (.int .i64 lg) (.slice B m d) := by simp [Cs6, ← hv_, go_sem]
  have xbl : w.heap.size + 1 < v1.heap.size := by simp [← hv_] <;> omega
  clear hv_
  go_wp2_with fail
  refine (CE hA hB).mono ?_
  rintro e w2 ⟨rfl, b⟩
  replace hA := hA.on b
  replace hB := hB.on b
  rewrite [cR b xal] at xa0 xa1 xa2 xa3 xa4 xa5
  replace xal := lK b xal
  rewrite [cR b xbl] at xb0 xb1 xb2 xb3 xb4 xb5
  replace xbl := lK b xbl
  replace cc := bK cc b
  clear b
  go_wp2_with fail
  go_ret
  exact ⟨rfl, cc⟩

theorem tnSame_N {w : World} {kka ksa kma koa lga : Int} {Aa : Option Addr} {na ca : Nat} {La : List Bk} {kkb ksb kmb kob lgb : Int} {Ab : Option Addr} {nb cb : Nat} {Lb : List Bk} (hAa : KR w Aa na ca La) (hna : na ≤ 9223372036854775807) (hAb : KR w Ab nb cb Lb) (hnb : nb ≤ 9223372036854775807) : Calls Tryz.prog 12 #[.agg #[.int .i64 kka, .int .i64 ksa, .int .i64 kma, .int .i64 koa, .int .i64 lga, .slice Aa na ca], .agg #[.int .i64 kkb, .int .i64 ksb, .int .i64 kmb, .int .i64 kob, .int .i64 lgb, .slice Ab nb cb]] w (GotV w (.bool (decide ((kka = kkb ∧ ksa = ksb ∧ kma = kmb ∧ koa = kob) ∧ lga = lgb ∧ La = Lb)))) := by
  by_cases hk : kka = kkb ∧ ksa = ksb ∧ kma = kmb ∧ koa = kob
  · by_cases hl : lga = lgb
    · rw [show decide ((kka = kkb ∧ ksa = ksb ∧ kma = kmb ∧ koa = kob) ∧ lga = lgb ∧ La = Lb) = decide (La = Lb) from decide_eq_decide.2 ⟨fun h => h.2.2, fun h => ⟨hk, hl, h⟩⟩]
      exact tnSame_eq hk hl hAa hAb hna
    · rw [decide_eq_false (fun h => hl h.2.1)]
      exact tnSame_l hk hl
  · rw [decide_eq_false (fun h => hk h.1)]
    exact tnSame_k hk

end Go.Proofs.YtpidpebgeblenaaGreat

/-
  The contracts of the landed tens: Cost.
-/
namespace Go.Proofs.YtpidpebgeblenaaGreat
set_option maxRecDepth 100000
open Go.RowKit
set_option linter.unusedVariables false
set_option linter.unusedSimpArgs false

theorem wrap_twice (a b c : Int) : IntKind.i64.wrap (IntKind.i64.wrap (a + b) + c) = IntKind.i64.wrap (a + IntKind.i64.wrap (b + c)) := by
  have h : ∀ x, IntKind.i64.wrap x = (x + 9223372036854775808) % 18446744073709551616 - 9223372036854775808 := fun x => by
    first | rfl | (unfold IntKind.wrap; simp [IntKind.bits, IntKind.signed] <;> omega)
  rw [h, h, h, h]
  omega

set_option maxHeartbeats 8000000 in
theorem tnCost_N {w : World} {kk ks km ko lg : Int} {A : Option Addr} {n c : Nat} {L : List Bk} (hA : KR w A n c L) (hn : n ≤ 9223372036854775807) :
    Calls Tryz.prog 14 #[.agg #[.int .i64 kk, .int .i64 ks, .int .i64 km, .int .i64 ko, .int .i64 lg, .slice A n c]] w (GotV w (.int .i64 (fc L n))) := by
  have HN := Lib.hid hn
  have HLN := Lib.hid hA.1
  obtain ⟨S, eS⟩ : ∃ S, fc L = S := ⟨_, rfl⟩
  rw [eS]
  clear hn
  have cc := Below.refl w.heap.size w
  go_enter Tryz.func14, Tryz.ntmps14
  go_upto_region 1 with fail
  generalize hv_ : w.alloc (.cells #[.int .i64 kk, .int .i64 ks, .int .i64 km, .int .i64 ko, .int .i64 lg, .slice A n c] 26) = v1
  have bA : Below w.heap.size w v1 := by rw [← hv_]; exact ((Below.refl _ w).alloc (by simp) _)
  replace hA := hA.on bA
  replace cc := bK cc bA
  clear bA
  obtain ⟨pa0, pa1, pa2, pa3, pa4, pa5⟩ : Cs6 v1 w.heap.size (.int .i64 kk) (.int .i64 ks) (.int .i64 km) (.int .i64 ko) (.int .i64 lg) (.slice A n c) := by simp [Cs6, ← hv_, go_sem]
  have pal : w.heap.size < v1.heap.size := by simp [← hv_] <;> omega
  clear hv_
  have HAV := Lib.hid hA
  have CCV := Lib.hid cc
  clear pa0 pa1 pa2 pa3 pa4 hA cc
  go_wp2_with fail
  go_loopw [3, 9] (fun nv iv wr => ∃ i : Nat, i ≤ n ∧ iv = .int .i64 (i : Int) ∧ nv = .int .i64 (S i) ∧ Below v1.heap.size v1 wr) (fun _ iv _ => n - (intOf iv).toNat)
  case atStart => exact ⟨0, by omega, rfl, by rw [← eS]; rfl, Below.refl _ _⟩
  case round =>
    clear pa5 pal
    obtain ⟨i, hi, rfl, rfl, hbl⟩ := hrel
    have cc := CCV.out.trans (hbl.mono CCV.out.size)
    by_cases hlt : i < n
    · obtain ⟨bb, off, rfl, hb⟩ := HAV.out.some (by omega)
      obtain ⟨A1, n1, c1, B1, m1, d1, h0, h1, h2, h3, hC, hW, hn1, hm1, hs1, hz1⟩ := kr_at (HAV.out.on hbl) hlt
      obtain ⟨z1, e1⟩ : ∃ z, (L[i]?.getD bk0).1 = z := ⟨_, rfl⟩
      obtain ⟨z2, e2⟩ : ∃ z, (L[i]?.getD bk0).2.1 = z := ⟨_, rfl⟩
      have hS : S (i + 1) = if z1 = 4 then IntKind.i64.wrap (S i + IntKind.i64.wrap (8 * (m1 : Int))) else IntKind.i64.wrap (IntKind.i64.wrap (S i + (n1 : Int)) + 8) := by rw [← eS, hC.1, hW.1, ← e1]; rfl
      rw [e1] at h0
      rw [e2] at h1
      have k3 : IntKind.i64.wrap ((i : Int) + 1) = ((i + 1 : Nat) : Int) := by rw [IntWalk.i64_in _ (by have := HN.out; omega)]; omega
      have jl : (i : Int) < (n : Int) := by omega
      have hbw : bb < wr.heap.size := Nat.lt_of_lt_of_le hb hbl.size
      generalize S i = Si at *
      have HS := Lib.hid hS
      have HN1 := Lib.hid hn1
      clear hC hW hn1 hm1 hs1 hz1 hS e1 e2
      go_upto_region 5 with fail
      generalize hv_ : wr.alloc (.cells #[.int .i64 z1, .int .i64 z2, .slice A1 n1 c1, .slice B1 m1 d1] 43) = vz
      have g0 : vz.cell? ⟨wr.heap.size, 0, none⟩ = some (.int .i64 z1) := by simp [← hv_, go_sem]
      have g1 : vz.cell? ⟨wr.heap.size, 1, none⟩ = some (.int .i64 z2) := by simp [← hv_, go_sem]
      have g2 : vz.cell? ⟨wr.heap.size, 2, none⟩ = some (.slice A1 n1 c1) := by simp [← hv_, go_sem]
      have g3 : vz.cell? ⟨wr.heap.size, 3, none⟩ = some (.slice B1 m1 d1) := by simp [← hv_, go_sem]
      have gl : wr.heap.size < vz.heap.size := by simp [← hv_]
      have hbz : Below wr.heap.size wr vz := by rw [← hv_]; exact one_up _ _
      have hb2 : Below v1.heap.size v1 vz := by rw [← hv_]; exact hbl.alloc hbl.size _
      clear hv_
      generalize hgz : wr.heap.size = gz at *
      by_cases h4 : z1 = 4
      · subst h4
        obtain ⟨q, hq⟩ : ∃ q, IntKind.i64.wrap (8 * (m1 : Int)) = q := ⟨_, rfl⟩
        have hq2 : IntKind.i64.wrap ((m1 : Int) * 8) = q := by rw [Int.mul_comm]; exact hq
        obtain ⟨p, hp⟩ : ∃ p, IntKind.i64.wrap (Si + q) = p := ⟨_, rfl⟩
        have HP : Hid (S (i + 1) = p) := Lib.hid (by rw [HS.out, if_pos rfl, hq]; exact hp)
        clear h0 h1 h2 h3 hbl cc hb hbw
        go_wp2_with fail
        go_roundw
        case rel => exact ⟨i + 1, by omega, by go_num, by rw [HP.out], hb2⟩
        case measure => simp [intOf] <;> omega
      · have t4 : (z1 == 4) = false := beq_eq_false_iff_ne.2 h4
        have k5 : IntKind.i64.wrap (n1 : Int) = (n1 : Int) := IntWalk.i64_in _ (by have := HN1.out; omega)
        have k6 : IntKind.i64.wrap (1 * (n1 : Int)) = (n1 : Int) := by rw [Int.one_mul]; exact k5
        obtain ⟨q, hq⟩ : ∃ q, IntKind.i64.wrap ((n1 : Int) + 8) = q := ⟨_, rfl⟩
        obtain ⟨p, hp⟩ : ∃ p, IntKind.i64.wrap (Si + q) = p := ⟨_, rfl⟩
        have HP : Hid (S (i + 1) = p) := Lib.hid (by rw [HS.out, if_neg h4, ← hp, ← hq]; exact wrap_twice _ _ _)
        clear h0 h1 h2 h3 hbl cc hb hbw
        go_wp2_with fail
        go_roundw
        case rel => exact ⟨i + 1, by omega, by go_num, by rw [HP.out], hb2⟩
        case measure => simp [intOf] <;> omega
    · obtain rfl : i = n := by omega
      go_wp2_with fail
      go_ret
      exact ⟨rfl, cc⟩

end Go.Proofs.YtpidpebgeblenaaGreat

/-
  The contracts of the landed tens.
-/
namespace Go.Proofs.YtpidpebgeblenaaGreat
set_option maxRecDepth 100000
open Go.RowKit
set_option linter.unusedVariables false
theorem tnMay_N (w : World) {kk ks km ko : Int} (hI : I64 kk ∧ I64 ks ∧ I64 km ∧ I64 ko) : Calls Tryz.prog 9 #[.agg #[.int .i64 kk, .int .i64 ks, .int .i64 km, .int .i64 ko]] w (GotV w (.bool (decide (OkK kk ks km ko)))) := tnMayA_N w
end Go.Proofs.YtpidpebgeblenaaGreat
