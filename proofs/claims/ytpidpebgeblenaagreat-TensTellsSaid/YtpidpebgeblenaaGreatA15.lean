/-
  Several texts in one: JTr, C14f.
-/
import Derived.Test.YtpidpebgeblenaaGreatA14
import Derived.Test.YtpidpebgeblenaaGreatA3
import Derived.Test.YtpidpebgeblenaaGreatA12
import Derived.Test.YtpidpebgeblenaaGreatA7
import Derived.Test.YtpidpebgeblenaaGreatA9
import Derived.Test.YtpidpebgeblenaaGreatA11

/-
  The contracts of the landed tens: Right.
-/
namespace Go.Proofs.YtpidpebgeblenaaGreat
set_option maxRecDepth 100000
open Go.RowKit Go.Shelf
set_option linter.unusedVariables false
set_option linter.unusedSimpArgs false
attribute [local go_sem] Oper.semAt_some

/-- Are the blocks right that stand where these begin? -/
def okQ (kk ks km ko lg : Int) (L : List Bk) {m : Nat} (pre : List {i : Nat // i < m}) : Prop := ∀ j x, pre[j]? = some x → OkAt kk ks km ko lg x.1 (L[j]?.getD bk0) ∧ j < L.length
theorem okQ_nil {kk ks km ko lg : Int} {L : List Bk} {m : Nat} : okQ kk ks km ko lg L ([] : List {i : Nat // i < m}) := fun j x h => by simp at h
theorem okQ_snoc {kk ks km ko lg : Int} {L : List Bk} {m : Nat} {pre : List {i : Nat // i < m}} {x : {i : Nat // i < m}} : okQ kk ks km ko lg L (pre ++ [x]) ↔ okQ kk ks km ko lg L pre ∧ OkAt kk ks km ko lg x.1 (L[pre.length]?.getD bk0) ∧ pre.length < L.length := by
  constructor
  · intro h
    refine ⟨fun j y hy => h j y ?_, h pre.length x (by rw [List.getElem?_append_right (Nat.le_refl _), Nat.sub_self]; rfl)⟩
    have hj : j < pre.length := (List.getElem?_eq_some_iff.1 hy).1
    rw [List.getElem?_append_left hj]; exact hy
  · rintro ⟨h1, h2⟩ j y hy
    rcases Nat.lt_or_ge j pre.length with hj | hj
    · rw [List.getElem?_append_left hj] at hy; exact h1 j y hy
    · rw [List.getElem?_append_right hj] at hy
      have h0 : j - pre.length = 0 := by
        rcases Nat.eq_zero_or_pos (j - pre.length) with e | e
        · exact e
        · rw [List.getElem?_eq_none (by simp; omega)] at hy; cases hy
      obtain rfl : j = pre.length := by omega
      rw [h0] at hy
      injection hy with hy
      rw [← hy]; exact h2
theorem okQ_all {kk km ko : Int} {s N : Nat} {L : List Bk} (hK : OkK kk (s : Int) km ko) (hN : N ≤ 4096) (h : OkS kk (s : Int) km ko (N : Int) L) {i : Nat} (hi : i ≤ nbk s N) : okQ kk (s : Int) km ko (N : Int) L (upA (nbk s N) i) := by
  have hL : L.length = nbk s N := by
    have h1 := h.2.2.1
    have h2 := nbk_int (s := s) (n := N) (by have := hK.2.1; omega)
    omega
  intro j x hx
  have hj : j < i := by have := (List.getElem?_eq_some_iff.1 hx).1; rwa [upA_len hi] at this
  rw [upA_at hi hj (by omega)] at hx
  injection hx with hx
  have e : x.1 = j := by rw [← hx]
  rw [e]
  exact ⟨okS_at h (by omega), by omega⟩
theorem okQ_ok {kk km ko : Int} {s N : Nat} {L : List Bk} (hK : OkK kk (s : Int) km ko) (hN : N ≤ 4096) (h : okQ kk (s : Int) km ko (N : Int) L (upA (nbk s N) (nbk s N))) (hL : L.length = nbk s N) : OkS kk (s : Int) km ko (N : Int) L := by
  refine ⟨hK, by omega, by rw [hL]; exact nbk_int (by have := hK.2.1; omega), allAt_all fun i hi => ?_⟩
  exact (h i ⟨i, by omega⟩ (upA_at (Nat.le_refl _) (by omega) (by omega))).1
theorem kr_drop {w : World} {b off n c c' : Nat} {L : List Bk} {A : Option Addr} (h : KR w (some ⟨b, off, none⟩) n c L) (hn : 0 < n) (hA : 1 < n → A = some ⟨b, off + 4, none⟩) (hc' : n - 1 ≤ c') : KR w A (n - 1) c' (L.drop 1) := by
  refine ⟨by rw [List.length_drop]; have := h.1; omega, hc', fun hp => ?_⟩
  obtain ⟨b', off', e, hlt, hc⟩ := h.2.2 hn
  injection e with e
  injection e with e1 e2
  subst e1 e2
  refine ⟨b, off + 4, hA (by omega), hlt, fun j hj => ?_⟩
  rw [List.getElem?_drop, show off + 4 + j * 4 = off + (1 + j) * 4 by omega]
  exact hc (1 + j) (by omega)

set_option maxRecDepth 100000 in
set_option maxHeartbeats 8000000 in
theorem tnRight_k {w : World} {kk ks km ko lg : Int} {A : Option Addr} {n c : Nat} (hK : ¬ OkK kk ks km ko) :
    Calls Tryz.prog 11 #[.agg #[.int .i64 kk, .int .i64 ks, .int .i64 km, .int .i64 ko, .int .i64 lg, .slice A n c]] w (GotV w (.bool false)) := by
  have CM : ∀ W : World, Calls Tryz.prog 9 #[.agg #[.int .i64 kk, .int .i64 ks, .int .i64 km, .int .i64 ko]] W (GotV W (.bool false)) := fun W => by have h := tnMayA_N W (kk := kk) (ks := ks) (km := km) (ko := ko); rw [decide_eq_false hK] at h; exact h
  clear hK
  have cc := Below.refl w.heap.size w
  go_enter Tryz.func11, Tryz.ntmps11
  go_upto_region 1 with fail
  have f0 : ((w.alloc (.cells #[.int .i64 kk, .int .i64 ks, .int .i64 km, .int .i64 ko, .int .i64 lg, .slice A n c] 26)).alloc (.cells #[.bool false] 4)).frozen? ⟨w.heap.size + 1, 0, none⟩ = false := by simp [go_sem]
  have bA : Below w.heap.size w ((w.alloc (.cells #[.int .i64 kk, .int .i64 ks, .int .i64 km, .int .i64 ko, .int .i64 lg, .slice A n c] 26)).alloc (.cells #[.bool false] 4)) := (((Below.refl _ w).alloc (by simp) _).alloc (by simp) _)
  replace cc := bK cc bA
  clear bA
  have pa0 : ((w.alloc (.cells #[.int .i64 kk, .int .i64 ks, .int .i64 km, .int .i64 ko, .int .i64 lg, .slice A n c] 26)).alloc (.cells #[.bool false] 4)).cell? ⟨w.heap.size, 0, none⟩ = some (.int .i64 kk) := by simp [go_sem]
  have pa1 : ((w.alloc (.cells #[.int .i64 kk, .int .i64 ks, .int .i64 km, .int .i64 ko, .int .i64 lg, .slice A n c] 26)).alloc (.cells #[.bool false] 4)).cell? ⟨w.heap.size, 1, none⟩ = some (.int .i64 ks) := by simp [go_sem]
  have pa2 : ((w.alloc (.cells #[.int .i64 kk, .int .i64 ks, .int .i64 km, .int .i64 ko, .int .i64 lg, .slice A n c] 26)).alloc (.cells #[.bool false] 4)).cell? ⟨w.heap.size, 2, none⟩ = some (.int .i64 km) := by simp [go_sem]
  have pa3 : ((w.alloc (.cells #[.int .i64 kk, .int .i64 ks, .int .i64 km, .int .i64 ko, .int .i64 lg, .slice A n c] 26)).alloc (.cells #[.bool false] 4)).cell? ⟨w.heap.size, 3, none⟩ = some (.int .i64 ko) := by simp [go_sem]
  have pa4 : ((w.alloc (.cells #[.int .i64 kk, .int .i64 ks, .int .i64 km, .int .i64 ko, .int .i64 lg, .slice A n c] 26)).alloc (.cells #[.bool false] 4)).cell? ⟨w.heap.size, 4, none⟩ = some (.int .i64 lg) := by simp [go_sem]
  have pa5 : ((w.alloc (.cells #[.int .i64 kk, .int .i64 ks, .int .i64 km, .int .i64 ko, .int .i64 lg, .slice A n c] 26)).alloc (.cells #[.bool false] 4)).cell? ⟨w.heap.size, 5, none⟩ = some (.slice A n c) := by simp [go_sem]
  have pal : w.heap.size < ((w.alloc (.cells #[.int .i64 kk, .int .i64 ks, .int .i64 km, .int .i64 ko, .int .i64 lg, .slice A n c] 26)).alloc (.cells #[.bool false] 4)).heap.size := by simp <;> omega
  have rb0 : ((w.alloc (.cells #[.int .i64 kk, .int .i64 ks, .int .i64 km, .int .i64 ko, .int .i64 lg, .slice A n c] 26)).alloc (.cells #[.bool false] 4)).cell? ⟨w.heap.size + 1, 0, none⟩ = some (.bool false) := by simp [go_sem]
  have rbl : w.heap.size + 1 < ((w.alloc (.cells #[.int .i64 kk, .int .i64 ks, .int .i64 km, .int .i64 ko, .int .i64 lg, .slice A n c] 26)).alloc (.cells #[.bool false] 4)).heap.size := by simp <;> omega
  generalize (w.alloc (.cells #[.int .i64 kk, .int .i64 ks, .int .i64 km, .int .i64 ko, .int .i64 lg, .slice A n c] 26)).alloc (.cells #[.bool false] 4) = v1 at *
  go_wp2_with fail
  refine (CM _).mono ?_
  rintro e w2 ⟨rfl, b⟩
  replace f0 := fK b f0 rbl
  replace pa0 := cK b pa0 pal
  replace pa1 := cK b pa1 pal
  replace pa2 := cK b pa2 pal
  replace pa3 := cK b pa3 pal
  replace pa4 := cK b pa4 pal
  replace pa5 := cK b pa5 pal
  replace pal := lK b pal
  replace rb0 := cK b rb0 rbl
  replace rbl := lK b rbl
  replace cc := bK cc b
  clear b
  have HBF := Lib.hid (cc.setCell (p := ⟨w.heap.size + 1, 0, none⟩) (Nat.le_succ _) (.bool false))
  clear cc
  go_wp2_with fail
  refine bodyPost_ret (v := .bool false) (by simp [results, Tryz.results11, go_sem, rb0]) rfl ⟨rfl, HBF.out⟩

set_option maxRecDepth 100000 in
set_option maxHeartbeats 8000000 in
theorem tnRight_neg {w : World} {kk ks km ko lg : Int} {A : Option Addr} {n c : Nat} (hK : OkK kk ks km ko) (h0 : lg < 0) :
    Calls Tryz.prog 11 #[.agg #[.int .i64 kk, .int .i64 ks, .int .i64 km, .int .i64 ko, .int .i64 lg, .slice A n c]] w (GotV w (.bool false)) := by
  have CM : ∀ W : World, Calls Tryz.prog 9 #[.agg #[.int .i64 kk, .int .i64 ks, .int .i64 km, .int .i64 ko]] W (GotV W (.bool true)) := fun W => by have h := tnMayA_N W (kk := kk) (ks := ks) (km := km) (ko := ko); rw [decide_eq_true hK] at h; exact h
  have t0 : decide (lg < 0) = true := decide_eq_true (by omega)
  clear hK h0
  have cc := Below.refl w.heap.size w
  go_enter Tryz.func11, Tryz.ntmps11
  go_upto_region 1 with fail
  have f0 : ((w.alloc (.cells #[.int .i64 kk, .int .i64 ks, .int .i64 km, .int .i64 ko, .int .i64 lg, .slice A n c] 26)).alloc (.cells #[.bool false] 4)).frozen? ⟨w.heap.size + 1, 0, none⟩ = false := by simp [go_sem]
  have bA : Below w.heap.size w ((w.alloc (.cells #[.int .i64 kk, .int .i64 ks, .int .i64 km, .int .i64 ko, .int .i64 lg, .slice A n c] 26)).alloc (.cells #[.bool false] 4)) := (((Below.refl _ w).alloc (by simp) _).alloc (by simp) _)
  replace cc := bK cc bA
  clear bA
  have pa0 : ((w.alloc (.cells #[.int .i64 kk, .int .i64 ks, .int .i64 km, .int .i64 ko, .int .i64 lg, .slice A n c] 26)).alloc (.cells #[.bool false] 4)).cell? ⟨w.heap.size, 0, none⟩ = some (.int .i64 kk) := by simp [go_sem]
  have pa1 : ((w.alloc (.cells #[.int .i64 kk, .int .i64 ks, .int .i64 km, .int .i64 ko, .int .i64 lg, .slice A n c] 26)).alloc (.cells #[.bool false] 4)).cell? ⟨w.heap.size, 1, none⟩ = some (.int .i64 ks) := by simp [go_sem]
  have pa2 : ((w.alloc (.cells #[.int .i64 kk, .int .i64 ks, .int .i64 km, .int .i64 ko, .int .i64 lg, .slice A n c] 26)).alloc (.cells #[.bool false] 4)).cell? ⟨w.heap.size, 2, none⟩ = some (.int .i64 km) := by simp [go_sem]
  have pa3 : ((w.alloc (.cells #[.int .i64 kk, .int .i64 ks, .int .i64 km, .int .i64 ko, .int .i64 lg, .slice A n c] 26)).alloc (.cells #[.bool false] 4)).cell? ⟨w.heap.size, 3, none⟩ = some (.int .i64 ko) := by simp [go_sem]
  have pa4 : ((w.alloc (.cells #[.int .i64 kk, .int .i64 ks, .int .i64 km, .int .i64 ko, .int .i64 lg, .slice A n c] 26)).alloc (.cells #[.bool false] 4)).cell? ⟨w.heap.size, 4, none⟩ = some (.int .i64 lg) := by simp [go_sem]
  have pa5 : ((w.alloc (.cells #[.int .i64 kk, .int .i64 ks, .int .i64 km, .int .i64 ko, .int .i64 lg, .slice A n c] 26)).alloc (.cells #[.bool false] 4)).cell? ⟨w.heap.size, 5, none⟩ = some (.slice A n c) := by simp [go_sem]
  have pal : w.heap.size < ((w.alloc (.cells #[.int .i64 kk, .int .i64 ks, .int .i64 km, .int .i64 ko, .int .i64 lg, .slice A n c] 26)).alloc (.cells #[.bool false] 4)).heap.size := by simp <;> omega
  have rb0 : ((w.alloc (.cells #[.int .i64 kk, .int .i64 ks, .int .i64 km, .int .i64 ko, .int .i64 lg, .slice A n c] 26)).alloc (.cells #[.bool false] 4)).cell? ⟨w.heap.size + 1, 0, none⟩ = some (.bool false) := by simp [go_sem]
  have rbl : w.heap.size + 1 < ((w.alloc (.cells #[.int .i64 kk, .int .i64 ks, .int .i64 km, .int .i64 ko, .int .i64 lg, .slice A n c] 26)).alloc (.cells #[.bool false] 4)).heap.size := by simp <;> omega
  generalize (w.alloc (.cells #[.int .i64 kk, .int .i64 ks, .int .i64 km, .int .i64 ko, .int .i64 lg, .slice A n c] 26)).alloc (.cells #[.bool false] 4) = v1 at *
  go_wp2_with fail
  refine (CM _).mono ?_
  rintro e w2 ⟨rfl, b⟩
  replace f0 := fK b f0 rbl
  replace pa0 := cK b pa0 pal
  replace pa1 := cK b pa1 pal
  replace pa2 := cK b pa2 pal
  replace pa3 := cK b pa3 pal
  replace pa4 := cK b pa4 pal
  replace pa5 := cK b pa5 pal
  replace pal := lK b pal
  replace rb0 := cK b rb0 rbl
  replace rbl := lK b rbl
  replace cc := bK cc b
  clear b
  have HBF := Lib.hid (cc.setCell (p := ⟨w.heap.size + 1, 0, none⟩) (Nat.le_succ _) (.bool false))
  clear cc
  go_wp2_with fail
  refine bodyPost_ret (v := .bool false) (by simp [results, Tryz.results11, go_sem, rb0]) rfl ⟨rfl, HBF.out⟩

set_option maxRecDepth 100000 in
set_option maxHeartbeats 8000000 in
theorem tnRight_big {w : World} {kk ks km ko lg : Int} {A : Option Addr} {n c : Nat} (hK : OkK kk ks km ko) (h0 : ¬ lg < 0) (h1 : 4096 < lg) :
    Calls Tryz.prog 11 #[.agg #[.int .i64 kk, .int .i64 ks, .int .i64 km, .int .i64 ko, .int .i64 lg, .slice A n c]] w (GotV w (.bool false)) := by
  have CM : ∀ W : World, Calls Tryz.prog 9 #[.agg #[.int .i64 kk, .int .i64 ks, .int .i64 km, .int .i64 ko]] W (GotV W (.bool true)) := fun W => by have h := tnMayA_N W (kk := kk) (ks := ks) (km := km) (ko := ko); rw [decide_eq_true hK] at h; exact h
  have t0 : decide (lg < 0) = false := decide_eq_false (by omega)
  have t1 : decide (4096 < lg) = true := decide_eq_true (by omega)
  clear hK h0 h1
  have cc := Below.refl w.heap.size w
  go_enter Tryz.func11, Tryz.ntmps11
  go_upto_region 1 with fail
  have f0 : ((w.alloc (.cells #[.int .i64 kk, .int .i64 ks, .int .i64 km, .int .i64 ko, .int .i64 lg, .slice A n c] 26)).alloc (.cells #[.bool false] 4)).frozen? ⟨w.heap.size + 1, 0, none⟩ = false := by simp [go_sem]
  have bA : Below w.heap.size w ((w.alloc (.cells #[.int .i64 kk, .int .i64 ks, .int .i64 km, .int .i64 ko, .int .i64 lg, .slice A n c] 26)).alloc (.cells #[.bool false] 4)) := (((Below.refl _ w).alloc (by simp) _).alloc (by simp) _)
  replace cc := bK cc bA
  clear bA
  have pa0 : ((w.alloc (.cells #[.int .i64 kk, .int .i64 ks, .int .i64 km, .int .i64 ko, .int .i64 lg, .slice A n c] 26)).alloc (.cells #[.bool false] 4)).cell? ⟨w.heap.size, 0, none⟩ = some (.int .i64 kk) := by simp [go_sem]
  have pa1 : ((w.alloc (.cells #[.int .i64 kk, .int .i64 ks, .int .i64 km, .int .i64 ko, .int .i64 lg, .slice A n c] 26)).alloc (.cells #[.bool false] 4)).cell? ⟨w.heap.size, 1, none⟩ = some (.int .i64 ks) := by simp [go_sem]
  have pa2 : ((w.alloc (.cells #[.int .i64 kk, .int .i64 ks, .int .i64 km, .int .i64 ko, .int .i64 lg, .slice A n c] 26)).alloc (.cells #[.bool false] 4)).cell? ⟨w.heap.size, 2, none⟩ = some (.int .i64 km) := by simp [go_sem]
  have pa3 : ((w.alloc (.cells #[.int .i64 kk, .int .i64 ks, .int .i64 km, .int .i64 ko, .int .i64 lg, .slice A n c] 26)).alloc (.cells #[.bool false] 4)).cell? ⟨w.heap.size, 3, none⟩ = some (.int .i64 ko) := by simp [go_sem]
  have pa4 : ((w.alloc (.cells #[.int .i64 kk, .int .i64 ks, .int .i64 km, .int .i64 ko, .int .i64 lg, .slice A n c] 26)).alloc (.cells #[.bool false] 4)).cell? ⟨w.heap.size, 4, none⟩ = some (.int .i64 lg) := by simp [go_sem]
  have pa5 : ((w.alloc (.cells #[.int .i64 kk, .int .i64 ks, .int .i64 km, .int .i64 ko, .int .i64 lg, .slice A n c] 26)).alloc (.cells #[.bool false] 4)).cell? ⟨w.heap.size, 5, none⟩ = some (.slice A n c) := by simp [go_sem]
  have pal : w.heap.size < ((w.alloc (.cells #[.int .i64 kk, .int .i64 ks, .int .i64 km, .int .i64 ko, .int .i64 lg, .slice A n c] 26)).alloc (.cells #[.bool false] 4)).heap.size := by simp <;> omega
  have rb0 : ((w.alloc (.cells #[.int .i64 kk, .int .i64 ks, .int .i64 km, .int .i64 ko, .int .i64 lg, .slice A n c] 26)).alloc (.cells #[.bool false] 4)).cell? ⟨w.heap.size + 1, 0, none⟩ = some (.bool false) := by simp [go_sem]
  have rbl : w.heap.size + 1 < ((w.alloc (.cells #[.int .i64 kk, .int .i64 ks, .int .i64 km, .int .i64 ko, .int .i64 lg, .slice A n c] 26)).alloc (.cells #[.bool false] 4)).heap.size := by simp <;> omega
  generalize (w.alloc (.cells #[.int .i64 kk, .int .i64 ks, .int .i64 km, .int .i64 ko, .int .i64 lg, .slice A n c] 26)).alloc (.cells #[.bool false] 4) = v1 at *
  go_wp2_with fail
  refine (CM _).mono ?_
  rintro e w2 ⟨rfl, b⟩
  replace f0 := fK b f0 rbl
  replace pa0 := cK b pa0 pal
  replace pa1 := cK b pa1 pal
  replace pa2 := cK b pa2 pal
  replace pa3 := cK b pa3 pal
  replace pa4 := cK b pa4 pal
  replace pa5 := cK b pa5 pal
  replace pal := lK b pal
  replace rb0 := cK b rb0 rbl
  replace rbl := lK b rbl
  replace cc := bK cc b
  clear b
  have HBF := Lib.hid (cc.setCell (p := ⟨w.heap.size + 1, 0, none⟩) (Nat.le_succ _) (.bool false))
  clear cc
  go_wp2_with fail
  refine bodyPost_ret (v := .bool false) (by simp [results, Tryz.results11, go_sem, rb0]) rfl ⟨rfl, HBF.out⟩

set_option maxRecDepth 100000 in
set_option maxHeartbeats 8000000 in
theorem tnRight_go {w : World} {kk km ko : Int} {s N : Nat} {A : Option Addr} {n c : Nat} {L : List Bk} (hK : OkK kk (s : Int) km ko) (hN : N ≤ 4096) (hA : KR w A n c L) (hn : n ≤ 9223372036854775807) (hk : I64 ko) :
    Calls Tryz.prog 11 #[.agg #[.int .i64 kk, .int .i64 (s : Int), .int .i64 km, .int .i64 ko, .int .i64 (N : Int), .slice A n c]] w (GotV w (.bool (decide (OkS kk (s : Int) km ko (N : Int) L)))) := by
  have hs2 : 1 ≤ s ∧ s ≤ 4096 := by have := hK.2.1; omega
  have CM : ∀ W : World, Calls Tryz.prog 9 #[.agg #[.int .i64 kk, .int .i64 (s : Int), .int .i64 km, .int .i64 ko]] W (GotV W (.bool true)) := fun W => by have h := tnMayA_N W (kk := kk) (ks := s) (km := km) (ko := ko); rw [decide_eq_true hK] at h; exact h
  obtain ⟨R, hR⟩ : ∃ R, decide (OkS kk (s : Int) km ko (N : Int) L) = R := ⟨_, rfl⟩
  rw [hR]
  have HR := Lib.hid hR
  have HK := Lib.hid hK
  have HS := Lib.hid hs2
  have HN := Lib.hid hN
  have HKO := Lib.hid hk
  have HAV := Lib.hid hA
  have HNN := Lib.hid hn
  have t0 : decide ((N : Int) < 0) = false := decide_eq_false (by omega)
  have t1 : decide (4096 < (N : Int)) = false := decide_eq_false (by omega)
  have t2 : decide (4096 < N) = false := decide_eq_false (by omega)
  clear hR hK hs2 hN hk hA hn
  have cc := Below.refl w.heap.size w
  refine calls_marks Tryz.func11 rfl ?_
  simp only [Tryz.ntmps11, List.size_toArray, List.length_cons, List.length_nil, Nat.reduceAdd, Nat.reduceSub, Array.replicate_succ, Array.replicate_zero, List.push_toArray, List.append_toArray, List.nil_append, List.cons_append]
  go_upto_region 1 with fail
  have bR : Bx ((w.alloc (.cells #[.int .i64 kk, .int .i64 (s : Int), .int .i64 km, .int .i64 ko, .int .i64 (N : Int), .slice A n c] 26)).alloc (.cells #[.bool false] 4)) (w.heap.size + 1) 4 (.bool false) := by have h := Bx.new (w.alloc (.cells #[.int .i64 kk, .int .i64 (s : Int), .int .i64 km, .int .i64 ko, .int .i64 (N : Int), .slice A n c] 26)) 4 (.bool false); rwa [World.size_alloc] at h
  have bA : Below w.heap.size w ((w.alloc (.cells #[.int .i64 kk, .int .i64 (s : Int), .int .i64 km, .int .i64 ko, .int .i64 (N : Int), .slice A n c] 26)).alloc (.cells #[.bool false] 4)) := (((Below.refl _ w).alloc (by simp) _).alloc (by simp) _)
  replace cc := bK cc bA
  clear bA
  have pa0 : ((w.alloc (.cells #[.int .i64 kk, .int .i64 (s : Int), .int .i64 km, .int .i64 ko, .int .i64 (N : Int), .slice A n c] 26)).alloc (.cells #[.bool false] 4)).cell? ⟨w.heap.size, 0, none⟩ = some (.int .i64 kk) := by simp [go_sem]
  have pa1 : ((w.alloc (.cells #[.int .i64 kk, .int .i64 (s : Int), .int .i64 km, .int .i64 ko, .int .i64 (N : Int), .slice A n c] 26)).alloc (.cells #[.bool false] 4)).cell? ⟨w.heap.size, 1, none⟩ = some (.int .i64 (s : Int)) := by simp [go_sem]
  have pa2 : ((w.alloc (.cells #[.int .i64 kk, .int .i64 (s : Int), .int .i64 km, .int .i64 ko, .int .i64 (N : Int), .slice A n c] 26)).alloc (.cells #[.bool false] 4)).cell? ⟨w.heap.size, 2, none⟩ = some (.int .i64 km) := by simp [go_sem]
  have pa3 : ((w.alloc (.cells #[.int .i64 kk, .int .i64 (s : Int), .int .i64 km, .int .i64 ko, .int .i64 (N : Int), .slice A n c] 26)).alloc (.cells #[.bool false] 4)).cell? ⟨w.heap.size, 3, none⟩ = some (.int .i64 ko) := by simp [go_sem]
  have pa4 : ((w.alloc (.cells #[.int .i64 kk, .int .i64 (s : Int), .int .i64 km, .int .i64 ko, .int .i64 (N : Int), .slice A n c] 26)).alloc (.cells #[.bool false] 4)).cell? ⟨w.heap.size, 4, none⟩ = some (.int .i64 (N : Int)) := by simp [go_sem]
  have pa5 : ((w.alloc (.cells #[.int .i64 kk, .int .i64 (s : Int), .int .i64 km, .int .i64 ko, .int .i64 (N : Int), .slice A n c] 26)).alloc (.cells #[.bool false] 4)).cell? ⟨w.heap.size, 5, none⟩ = some (.slice A n c) := by simp [go_sem]
  have pal : w.heap.size < ((w.alloc (.cells #[.int .i64 kk, .int .i64 (s : Int), .int .i64 km, .int .i64 ko, .int .i64 (N : Int), .slice A n c] 26)).alloc (.cells #[.bool false] 4)).heap.size := by simp <;> omega
  generalize (w.alloc (.cells #[.int .i64 kk, .int .i64 (s : Int), .int .i64 km, .int .i64 ko, .int .i64 (N : Int), .slice A n c] 26)).alloc (.cells #[.bool false] 4) = v1 at *
  go_wp2_with fail
  refine (CM _).mono ?_
  rintro e w2 ⟨rfl, b⟩
  replace bR := bR.on b
  replace pa0 := cK b pa0 pal
  replace pa1 := cK b pa1 pal
  replace pa2 := cK b pa2 pal
  replace pa3 := cK b pa3 pal
  replace pa4 := cK b pa4 pal
  replace pa5 := cK b pa5 pal
  replace pal := lK b pal
  replace cc := bK cc b
  clear b
  have hz1 : w.heap.size + 1 < w2.heap.size := bR.lt
  go_upto_region 4 with fail
  have bA := one_up w2 (.cells #[.slice A n c] 24)
  have bL := Bx.new w2 24 (.slice A n c)
  replace bR := bR.on bA
  replace pa0 := cK bA pa0 pal
  replace pa1 := cK bA pa1 pal
  replace pa2 := cK bA pa2 pal
  replace pa3 := cK bA pa3 pal
  replace pa4 := cK bA pa4 pal
  replace pa5 := cK bA pa5 pal
  replace pal := lK bA pal
  replace cc := bK cc bA
  clear bA
  generalize w2.alloc (.cells #[.slice A n c] 24) = v3 at *
  generalize hzl : w2.heap.size = zl at *
  clear hzl
  go_wp2_with fail
  refine (cuts_any _ _ _).mono ?_
  rintro e w4 ⟨rfl, hw4⟩
  have b1 : Bx w4 v3.heap.size 3 (.int .i64 (N : Int)) := by rw [hw4]; exact (Bx.new v3 3 _).on (one_up _ _)
  have b2 : Bx w4 (v3.heap.size + 1) 3 (.int .i64 (s : Int)) := by rw [hw4]; have h := Bx.new (v3.alloc (.cells #[.int .i64 (N : Int)] 3)) 3 (.int .i64 (s : Int)); rwa [World.size_alloc] at h
  have bB : Below v3.heap.size v3 w4 := by rw [hw4]; exact ((Below.refl _ v3).alloc (Nat.le_refl _) _).alloc (by simp) _
  have hz2 : zl < v3.heap.size := bL.lt
  replace bR := bR.on bB
  replace bL := bL.on bB
  replace pa0 := cK bB pa0 pal
  replace pa1 := cK bB pa1 pal
  replace pa2 := cK bB pa2 pal
  replace pa3 := cK bB pa3 pal
  replace pa4 := cK bB pa4 pal
  replace pa5 := cK bB pa5 pal
  replace pal := lK bB pal
  replace cc := bK cc bB
  clear bB
  clear hw4
  generalize v3.heap.size = g at *
  go_wp2_with fail
  refine (wpIn_wide (n := 10)).1 ?_
  refine wpIn_rangeFunc_ownG rfl (by decide) (gf := 39) (lb := #[.pointer (some ⟨g, 0, none⟩), .pointer (some ⟨g + 1, 0, none⟩)]) rfl trivial (enters_of Tryz.func39 (by kernel_rfl) rfl)
    (cuts_stops g (g + 1) s N HS.out HN.out w4 b1 b2) (fun h k => h.trans k) (fun W l o o' hl _ _ _ => Kc.put (by have := b1.lt; omega) (by have := b2.lt; omega)) (Below.refl _ _) (fun _ => rfl)
    (fun pre W => (okQ kk (s : Int) km ko (N : Int) L pre ∧ w4.heap.size ≤ W.heap.size ∧ pre.length ≤ n ∧ (∃ Ar cr, KR w Ar (n - pre.length) cr (L.drop pre.length) ∧ Bx W zl 24 (.slice Ar (n - pre.length) cr)) ∧ W.cell? ⟨w.heap.size, 0, none⟩ = some (.int .i64 kk) ∧ W.cell? ⟨w.heap.size, 1, none⟩ = some (.int .i64 (s : Int)) ∧ W.cell? ⟨w.heap.size, 2, none⟩ = some (.int .i64 km) ∧ W.cell? ⟨w.heap.size, 3, none⟩ = some (.int .i64 ko) ∧ W.cell? ⟨w.heap.size, 4, none⟩ = some (.int .i64 (N : Int)) ∧ Bx W (w.heap.size + 1) 4 (.bool false)) ∧ Below w.heap.size w W)
    (fun c pre W => (c = .ret ∧ ¬ okQ kk (s : Int) km ko (N : Int) L pre ∧ Bx W (w.heap.size + 1) 4 (.bool false)) ∧ Below w.heap.size w W)
    (OwnFrom.and (Own.from (fun s A B row hs hg hr => by obtain ⟨h1, h6, h2, ⟨Ar, cr, h3, h4⟩, q0, q1, q2, q3, q4, h5⟩ := hs; exact ⟨h1, Nat.le_trans h6 hg.size, h2, ⟨Ar, cr, h3, h4.grown hg hr⟩, cell_kept q0 hg hr, cell_kept q1 hg hr, cell_kept q2 hg hr, cell_kept q3 hg hr, cell_kept q4 hg hr, h5.grown hg hr⟩) _) (ownFrom_below (Nat.le_refl _) (by have := pal; omega)))
    (fun c => OwnFrom.and (Own.from (fun s A B row hs hg hr => ⟨hs.1, hs.2.1, hs.2.2.grown hg hr⟩) _) (ownFrom_below (Nat.le_refl _) (by have := pal; omega)))
    ⟨⟨okQ_nil, Nat.le_refl _, Nat.zero_le _, ⟨A, c, HAV.out, bL⟩, pa0, pa1, pa2, pa3, pa4, bR⟩, cc⟩ ?act ?assign ?body ?done ?stop
  case assign =>
    intro l x W K hK
    simp only [enC]
    gi_wp2
    exact hK
  case body =>
    clear bL pa0 pa1 pa2 pa3 pa4 pa5 pal bR cc
    rintro l pre x wr ⟨⟨hok, hsz, hpl, ⟨Ar, cr, hKR, bL⟩, pa0, pa1, pa2, pa3, pa4, bR⟩, hBl⟩ hlt
    have hb1 := b1.lt
    have hb2 := b2.lt
    have hxl := (nbk_lt HS.out.1).1 x.2
    have hsn := okQ_snoc (kk := kk) (ks := (s : Int)) (km := km) (ko := ko) (lg := (N : Int)) (L := L) (pre := pre) (x := x)
    have hln : (pre ++ [x]).length = pre.length + 1 := by simp
    obtain ⟨k, ek⟩ : ∃ k, pre.length = k := ⟨_, rfl⟩
    rw [ek] at hpl hKR bL hsn hln
    obtain ⟨r, er⟩ : ∃ r, n - k = r := ⟨_, rfl⟩
    rw [er] at hKR bL
    obtain ⟨p, ep⟩ : ∃ p, x.1 * s = p := ⟨_, rfl⟩
    obtain ⟨mn, emn⟩ : ∃ mn, min (p + s) N = mn := ⟨_, rfl⟩
    rw [ep] at hxl
    have hmn : p ≤ mn ∧ mn ≤ 4096 := by have := HN.out; omega
    obtain ⟨d, ed⟩ : ∃ d, mn - p = d := ⟨_, rfl⟩
    have kd : IntKind.i64.wrap ((mn : Int) - (p : Int)) = (d : Int) := by rw [IntWalk.i64_in _ (by omega)]; omega
    have hdI : min (s : Int) ((N : Int) - (x.1 : Int) * (s : Int)) = (d : Int) := by rw [show (x.1 : Int) * (s : Int) = (p : Int) from by rw [← ep, Int.natCast_mul]]; omega
    have epI : (x.1 : Int) * (s : Int) = (p : Int) := by rw [← ep, Int.natCast_mul]
    rw [epI, ep, emn]
    clear epI
    have HOK := Lib.hid hok
    have HSN := Lib.hid hsn
    have HLN := Lib.hid hln
    have HKR := Lib.hid hKR
    have HPL := Lib.hid hpl
    have HER := Lib.hid er
    have HBL := Lib.hid hBl
    have HDI := Lib.hid hdI
    have pal : w.heap.size < wr.heap.size := cell_lt pa0
    have la : zl < wr.heap.size := bL.lt
    have pl := bL.cell
    have HEK := Lib.hid ek
    have cc := Below.refl wr.heap.size wr
    clear hok hsn hln hpl er hBl hdI ep emn ed hmn hxl ek hlt b1 b2
    by_cases hr : r = 0
    · subst hr
      gi_wp2_with fail
      have bD : Below wr.heap.size wr wr.drew := below_drewN (Below.refl _ wr) 1
      replace pl := cK bD pl la
      replace la := lK bD la
      replace bR := bR.on bD
      replace bL := bL.on bD
      replace pa0 := cK bD pa0 pal
      replace pa1 := cK bD pa1 pal
      replace pa2 := cK bD pa2 pal
      replace pa3 := cK bD pa3 pal
      replace pa4 := cK bD pa4 pal
      replace pal := lK bD pal
      replace cc := bK cc bD
      clear bD
      refine wpIn_round_held_drew (S := fun w' => w'.cell? ⟨zl, 0, none⟩ = some (.slice Ar 0 cr) ∧ w'.cell? ⟨w.heap.size, 0, none⟩ = some (.int .i64 kk) ∧ w'.cell? ⟨w.heap.size, 1, none⟩ = some (.int .i64 (s : Int)) ∧ w'.cell? ⟨w.heap.size, 2, none⟩ = some (.int .i64 km) ∧ w'.cell? ⟨w.heap.size, 3, none⟩ = some (.int .i64 ko) ∧ w'.cell? ⟨w.heap.size, 4, none⟩ = some (.int .i64 (N : Int))) (by kernel_rfl) ?_ ?_ ?_ (fun hHeld => ?_)
      · kernel_rfl
      · rintro ⟨_, _, h⟩; exact h
      · exact ⟨pl, pa0, pa1, pa2, pa3, pa4⟩
      refine tY (i := 0) (v := ?_) rfl ?_ hHeld ?_
      rotate_left
      · (intro w hSw; (try dsimp only at hSw); go_simp; (try with_reducible rfl))
      try simp only [Act.put, List.getElem_toArray, List.getElem_cons_zero, List.getElem_cons_succ, List.setIfInBounds_toArray, List.set_cons_zero, List.set_cons_succ]
      refine tY (i := 1) (v := ?_) rfl ?_ hHeld ?_
      rotate_left
      · (intro w hSw; (try dsimp only at hSw); go_simp; (try with_reducible rfl))
      try simp only [Act.put, List.getElem_toArray, List.getElem_cons_zero, List.getElem_cons_succ, List.setIfInBounds_toArray, List.set_cons_zero, List.set_cons_succ]
      refine tY (i := 2) (v := ?_) rfl ?_ hHeld ?_
      rotate_left
      · (intro w hSw; (try dsimp only at hSw); go_simp; (try with_reducible rfl))
      try simp only [Act.put, List.getElem_toArray, List.getElem_cons_zero, List.getElem_cons_succ, List.setIfInBounds_toArray, List.set_cons_zero, List.set_cons_succ]
      refine tY (i := 3) (v := ?_) rfl ?_ hHeld ?_
      rotate_left
      · (intro w hSw; (try dsimp only at hSw); go_simp; (try with_reducible rfl))
      try simp only [Act.put, List.getElem_toArray, List.getElem_cons_zero, List.getElem_cons_succ, List.setIfInBounds_toArray, List.set_cons_zero, List.set_cons_succ]
      refine tU (i := 4) rfl hHeld ?_
      try simp only [Act.put, List.getElem_toArray, List.getElem_cons_zero, List.getElem_cons_succ, List.setIfInBounds_toArray, List.set_cons_zero, List.set_cons_succ]
      refine tU (i := 5) rfl hHeld ?_
      try simp only [Act.put, List.getElem_toArray, List.getElem_cons_zero, List.getElem_cons_succ, List.setIfInBounds_toArray, List.set_cons_zero, List.set_cons_succ]
      refine tU (i := 6) rfl hHeld ?_
      try simp only [Act.put, List.getElem_toArray, List.getElem_cons_zero, List.getElem_cons_succ, List.setIfInBounds_toArray, List.set_cons_zero, List.set_cons_succ]
      refine tU (i := 7) rfl hHeld ?_
      try simp only [Act.put, List.getElem_toArray, List.getElem_cons_zero, List.getElem_cons_succ, List.setIfInBounds_toArray, List.set_cons_zero, List.set_cons_succ]
      refine tU (i := 8) rfl hHeld ?_
      try simp only [Act.put, List.getElem_toArray, List.getElem_cons_zero, List.getElem_cons_succ, List.setIfInBounds_toArray, List.set_cons_zero, List.set_cons_succ]
      refine tU (i := 9) rfl hHeld ?_
      try simp only [Act.put, List.getElem_toArray, List.getElem_cons_zero, List.getElem_cons_succ, List.setIfInBounds_toArray, List.set_cons_zero, List.set_cons_succ]
      refine tU (i := 10) rfl hHeld ?_
      try simp only [Act.put, List.getElem_toArray, List.getElem_cons_zero, List.getElem_cons_succ, List.setIfInBounds_toArray, List.set_cons_zero, List.set_cons_succ]
      refine tU (i := 11) rfl hHeld ?_
      try simp only [Act.put, List.getElem_toArray, List.getElem_cons_zero, List.getElem_cons_succ, List.setIfInBounds_toArray, List.set_cons_zero, List.set_cons_succ]
      refine tY (i := 12) (v := ?_) rfl ?_ hHeld ?_
      rotate_left
      · (intro w hSw; (try dsimp only at hSw); go_simp; (try with_reducible rfl))
      try simp only [Act.put, List.getElem_toArray, List.getElem_cons_zero, List.getElem_cons_succ, List.setIfInBounds_toArray, List.set_cons_zero, List.set_cons_succ]
      refine tY (i := 13) (v := ?_) rfl ?_ hHeld ?_
      rotate_left
      · (intro w hSw; (try dsimp only at hSw); go_simp; (try with_reducible rfl))
      try simp only [Act.put, List.getElem_toArray, List.getElem_cons_zero, List.getElem_cons_succ, List.setIfInBounds_toArray, List.set_cons_zero, List.set_cons_succ]
      refine tU (i := 14) rfl hHeld ?_
      try simp only [Act.put, List.getElem_toArray, List.getElem_cons_zero, List.getElem_cons_succ, List.setIfInBounds_toArray, List.set_cons_zero, List.set_cons_succ]
      refine tU (i := 15) rfl hHeld ?_
      try simp only [Act.put, List.getElem_toArray, List.getElem_cons_zero, List.getElem_cons_succ, List.setIfInBounds_toArray, List.set_cons_zero, List.set_cons_succ]
      refine tU (i := 16) rfl hHeld ?_
      try simp only [Act.put, List.getElem_toArray, List.getElem_cons_zero, List.getElem_cons_succ, List.setIfInBounds_toArray, List.set_cons_zero, List.set_cons_succ]
      refine tU (i := 17) rfl hHeld ?_
      try simp only [Act.put, List.getElem_toArray, List.getElem_cons_zero, List.getElem_cons_succ, List.setIfInBounds_toArray, List.set_cons_zero, List.set_cons_succ]
      refine tU (i := 18) rfl hHeld ?_
      try simp only [Act.put, List.getElem_toArray, List.getElem_cons_zero, List.getElem_cons_succ, List.setIfInBounds_toArray, List.set_cons_zero, List.set_cons_succ]
      refine tU (i := 19) rfl hHeld ?_
      try simp only [Act.put, List.getElem_toArray, List.getElem_cons_zero, List.getElem_cons_succ, List.setIfInBounds_toArray, List.set_cons_zero, List.set_cons_succ]
      refine tU (i := 20) rfl hHeld ?_
      try simp only [Act.put, List.getElem_toArray, List.getElem_cons_zero, List.getElem_cons_succ, List.setIfInBounds_toArray, List.set_cons_zero, List.set_cons_succ]
      refine tU (i := 21) rfl hHeld ?_
      try simp only [Act.put, List.getElem_toArray, List.getElem_cons_zero, List.getElem_cons_succ, List.setIfInBounds_toArray, List.set_cons_zero, List.set_cons_succ]
      refine tU (i := 22) rfl hHeld ?_
      try simp only [Act.put, List.getElem_toArray, List.getElem_cons_zero, List.getElem_cons_succ, List.setIfInBounds_toArray, List.set_cons_zero, List.set_cons_succ]
      refine tY (i := 23) (v := ?_) rfl ?_ hHeld ?_
      rotate_left
      · (intro w hSw; (try dsimp only at hSw); go_simp; (try with_reducible rfl))
      try simp only [Act.put, List.getElem_toArray, List.getElem_cons_zero, List.getElem_cons_succ, List.setIfInBounds_toArray, List.set_cons_zero, List.set_cons_succ]
      refine wpAnyH_done (by kernel_rfl) ?_ _
      clear hHeld
      generalize wr.drew = wd at *
      have hNo : ¬ okQ kk (s : Int) km ko (N : Int) L (pre ++ [x]) := by
        intro h
        have h1 := (HSN.out.1 h).2.2
        have h2 := HER.out
        have h3 := HAV.out.1
        have h4 := HPL.out
        omega
      have bRc := bR.cell
      have bRf := bR.frozen
      have HX : Hid (KeepsFrom w4.heap.size wr (wd.setCell ⟨w.heap.size + 1, 0, none⟩ (.bool false)) ∧ ¬ okQ kk (s : Int) km ko (N : Int) L (pre ++ [x]) ∧ Bx (wd.setCell ⟨w.heap.size + 1, 0, none⟩ (.bool false)) (w.heap.size + 1) 4 (.bool false) ∧ Below w.heap.size w (wd.setCell ⟨w.heap.size + 1, 0, none⟩ (.bool false))) := Lib.hid ⟨keepsFrom_set (keepsFrom_below cc) _ _, hNo, bR.set _, (HBL.out.trans (cc.mono HBL.out.size)).setCell (p := ⟨w.heap.size + 1, 0, none⟩) (Nat.le_succ _) _⟩
      clear bR bL hNo cc hKR
      gi_wp2
      exact ⟨HX.out.1, ⟨rfl, HX.out.2.1, HX.out.2.2.1⟩, HX.out.2.2.2⟩
    · skip
      obtain ⟨bb, off, rfl, hbb⟩ := hKR.some (by omega)
      obtain ⟨A1, n1, c1, B1, m1, d1, h0, h1, h2, h3, hC, hW, hn1, hm1, hs1, hz1_⟩ := kr_at (j := 0) (hKR.on HBL.out) (by omega)
      rw [Nat.zero_mul, Nat.add_zero] at h0 h1 h2 h3
      obtain ⟨X, hX⟩ : ∃ X, L[k]?.getD bk0 = X := ⟨_, rfl⟩
      have hX0 : (L.drop k)[0]?.getD bk0 = X := by rw [List.getElem?_drop, Nat.add_zero]; exact hX
      rw [hX0] at h0 h1 hC hW hs1 hz1_
      clear hX0
      obtain ⟨z1, ez1⟩ : ∃ z, X.1 = z := ⟨_, rfl⟩
      obtain ⟨z2, ez2⟩ : ∃ z, X.2.1 = z := ⟨_, rfl⟩
      rw [ez1] at h0
      rw [ez2] at h1 hs1
      have tr : ((r : Int) == 0) = false := beq_eq_false_iff_ne.2 (by omega)
      have hr1 : 0 < r := by omega
      have hr2 : ¬ r = 0 := hr
      have hrI : (0 : Int) < (r : Int) := by omega
      have hrc := hKR.2.1
      have hlb : bb < wr.heap.size := Nat.lt_of_lt_of_le hbb HBL.out.size
      have CLn := fun W : World => bkLen_N W (k := z1) (s := z2) (A := A1) (B := B1) (n := n1) (c := c1) (m := m1) (d := d1) hn1 hm1
      obtain ⟨q, eq⟩ : ∃ q, IntKind.i64.wrap ((n1 : Int) + (m1 : Int)) = q := ⟨_, rfl⟩
      rw [eq] at CLn
      have CF := fun {W : World} (a1 : BR W A1 n1 c1 X.2.2.1) (a2 : IR W B1 m1 d1 X.2.2.2) => tnFits_N (kk := kk) (ks := (s : Int)) (km := km) (ko := ko) (lg := (N : Int)) (z1 := z1) (z2 := z2) a1 a2 hn1 hm1 HKO.out
      have hlC := hC.1
      have hlW := hW.1
      have hAt : OkAt kk (s : Int) km ko (N : Int) x.1 (L[k]?.getD bk0) ↔ (q = (d : Int) ∧ (OkB z1 z2 X.2.2.1 X.2.2.2 ∧ (if z1 = 4 then Wd km ko (N : Int) (gr X.2.2.2) else z1 = kk ∧ ¬ Wd km ko (N : Int) z2))) := by
        rw [hX]
        unfold OkAt OkX
        rw [HDI.out, ez1, ez2, ← hlC, ← hlW]
        constructor
        · rintro ⟨a1, a2, a3⟩
          have a4 := okX_len (x := X) (show OkB X.1 X.2.1 X.2.2.1 X.2.2.2 by rw [ez1, ez2]; exact a1)
          refine ⟨?_, a1, a3⟩
          rw [← eq, IntWalk.i64_in _ (by omega)]; exact a2
        · rintro ⟨a1, a2, a3⟩
          have a4 := okX_len (x := X) (show OkB X.1 X.2.1 X.2.2.1 X.2.2.2 by rw [ez1, ez2]; exact a2)
          refine ⟨a2, ?_, a3⟩
          rw [← eq, IntWalk.i64_in _ (by omega)] at a1; exact a1
      have HAT := Lib.hid hAt
      have HKB := Lib.hid hKR
      clear hAt hX hlC hlW hn1 hm1 hs1 hz1_ ez1 ez2 eq hKR hr
      obtain ⟨F, hF⟩ : ∃ F, decide (OkB z1 z2 X.2.2.1 X.2.2.2 ∧ (if z1 = 4 then Wd km ko (N : Int) (gr X.2.2.2) else z1 = kk ∧ ¬ Wd km ko (N : Int) z2)) = F := ⟨_, rfl⟩
      rw [hF] at CF
      have HF := Lib.hid hF
      clear hF
      by_cases hq : q = (d : Int)
      · have tq : (q != (d : Int)) = false := by rw [hq]; simp
        have tq2 : (q == (d : Int)) = true := beq_iff_eq.2 hq
        subst hq
        cases F with
        | false =>
          gi_wp2_with fail
          have bD : Below wr.heap.size wr wr.drew := below_drewN (Below.refl _ wr) 1
          replace pl := cK bD pl la
          replace h0 := cK bD h0 hlb
          replace h1 := cK bD h1 hlb
          replace h2 := cK bD h2 hlb
          replace h3 := cK bD h3 hlb
          replace hlb := lK bD hlb
          replace la := lK bD la
          replace bR := bR.on bD
          replace bL := bL.on bD
          replace hC := hC.on bD
          replace hW := hW.on bD
          replace pa0 := cK bD pa0 pal
          replace pa1 := cK bD pa1 pal
          replace pa2 := cK bD pa2 pal
          replace pa3 := cK bD pa3 pal
          replace pa4 := cK bD pa4 pal
          replace pal := lK bD pal
          replace cc := bK cc bD
          clear bD
          refine wpIn_round_held_drew (S := fun w' => w'.cell? ⟨zl, 0, none⟩ = some (.slice (some ⟨bb, off, none⟩) r cr) ∧ w'.cell? ⟨bb, off, none⟩ = some (.int .i64 z1) ∧ w'.cell? ⟨bb, off + 1, none⟩ = some (.int .i64 z2) ∧ w'.cell? ⟨bb, off + 2, none⟩ = some (.slice A1 n1 c1) ∧ w'.cell? ⟨bb, off + 3, none⟩ = some (.slice B1 m1 d1) ∧ w'.cell? ⟨w.heap.size, 0, none⟩ = some (.int .i64 kk) ∧ w'.cell? ⟨w.heap.size, 1, none⟩ = some (.int .i64 (s : Int)) ∧ w'.cell? ⟨w.heap.size, 2, none⟩ = some (.int .i64 km) ∧ w'.cell? ⟨w.heap.size, 3, none⟩ = some (.int .i64 ko) ∧ w'.cell? ⟨w.heap.size, 4, none⟩ = some (.int .i64 (N : Int))) (by kernel_rfl) ?_ ?_ ?_ (fun hHeld => ?_)
          · kernel_rfl
          · rintro ⟨_, _, h⟩; exact h
          · exact ⟨pl, h0, h1, h2, h3, pa0, pa1, pa2, pa3, pa4⟩
          refine tY (i := 0) (v := ?_) rfl ?_ hHeld ?_
          rotate_left
          · (intro w hSw; (try dsimp only at hSw); go_simp; (try with_reducible rfl))
          try simp only [Act.put, List.getElem_toArray, List.getElem_cons_zero, List.getElem_cons_succ, List.setIfInBounds_toArray, List.set_cons_zero, List.set_cons_succ]
          refine tY (i := 1) (v := ?_) rfl ?_ hHeld ?_
          rotate_left
          · (intro w hSw; (try dsimp only at hSw); go_simp; (try with_reducible rfl))
          try simp only [Act.put, List.getElem_toArray, List.getElem_cons_zero, List.getElem_cons_succ, List.setIfInBounds_toArray, List.set_cons_zero, List.set_cons_succ]
          refine tY (i := 2) (v := ?_) rfl ?_ hHeld ?_
          rotate_left
          · (intro w hSw; (try dsimp only at hSw); go_simp; (try with_reducible rfl))
          try simp only [Act.put, List.getElem_toArray, List.getElem_cons_zero, List.getElem_cons_succ, List.setIfInBounds_toArray, List.set_cons_zero, List.set_cons_succ]
          refine tY (i := 3) (v := ?_) rfl ?_ hHeld ?_
          rotate_left
          · (intro w hSw; (try dsimp only at hSw); go_simp; (try with_reducible rfl))
          try simp only [Act.put, List.getElem_toArray, List.getElem_cons_zero, List.getElem_cons_succ, List.setIfInBounds_toArray, List.set_cons_zero, List.set_cons_succ]
          refine tY (i := 4) (v := ?_) rfl ?_ hHeld ?_
          rotate_left
          · (intro w hSw; (try dsimp only at hSw); go_simp; (try with_reducible rfl))
          try simp only [Act.put, List.getElem_toArray, List.getElem_cons_zero, List.getElem_cons_succ, List.setIfInBounds_toArray, List.set_cons_zero, List.set_cons_succ]
          refine tY (i := 5) (v := ?_) rfl ?_ hHeld ?_
          rotate_left
          · (intro w hSw; (try dsimp only at hSw); go_simp; (try with_reducible rfl))
          try simp only [Act.put, List.getElem_toArray, List.getElem_cons_zero, List.getElem_cons_succ, List.setIfInBounds_toArray, List.set_cons_zero, List.set_cons_succ]
          refine tY (i := 6) (v := ?_) rfl ?_ hHeld ?_
          rotate_left
          · (intro w hSw; (try dsimp only at hSw); go_simp; (try with_reducible rfl))
          try simp only [Act.put, List.getElem_toArray, List.getElem_cons_zero, List.getElem_cons_succ, List.setIfInBounds_toArray, List.set_cons_zero, List.set_cons_succ]
          refine tY (i := 8) (v := ?_) rfl ?_ hHeld ?_
          rotate_left
          · (intro w hSw; (try dsimp only at hSw); go_simp; (try with_reducible rfl))
          try simp only [Act.put, List.getElem_toArray, List.getElem_cons_zero, List.getElem_cons_succ, List.setIfInBounds_toArray, List.set_cons_zero, List.set_cons_succ]
          refine tY (i := 9) (v := ?_) rfl ?_ hHeld ?_
          rotate_left
          · (intro w hSw; (try dsimp only at hSw); go_simp; (try with_reducible rfl))
          try simp only [Act.put, List.getElem_toArray, List.getElem_cons_zero, List.getElem_cons_succ, List.setIfInBounds_toArray, List.set_cons_zero, List.set_cons_succ]
          refine tY (i := 10) (v := ?_) rfl ?_ hHeld ?_
          rotate_left
          · (intro w hSw; (try dsimp only at hSw); go_simp; (try with_reducible rfl))
          try simp only [Act.put, List.getElem_toArray, List.getElem_cons_zero, List.getElem_cons_succ, List.setIfInBounds_toArray, List.set_cons_zero, List.set_cons_succ]
          refine wpAnyH_ready (rs := [7]) (by kernel_rfl) (by simp) ?_
          refine AllReadyH.cons rfl (fun K hK => ?_) AllReadyH.nil
          (try simp only [List.getElem_toArray, List.getElem_cons_zero, List.getElem_cons_succ])
          rw [if_pos (by rfl)]
          go_simp
          go_at_call 27
          refine (CLn _).mono ?_
          rintro e w21 ⟨rfl, b⟩
          replace pl := cK b pl la
          replace h0 := cK b h0 hlb
          replace h1 := cK b h1 hlb
          replace h2 := cK b h2 hlb
          replace h3 := cK b h3 hlb
          replace hlb := lK b hlb
          replace la := lK b la
          replace bR := bR.on b
          replace bL := bL.on b
          replace hC := hC.on b
          replace hW := hW.on b
          replace pa0 := cK b pa0 pal
          replace pa1 := cK b pa1 pal
          replace pa2 := cK b pa2 pal
          replace pa3 := cK b pa3 pal
          replace pa4 := cK b pa4 pal
          replace pal := lK b pal
          replace cc := bK cc b
          clear b
          refine hK.out _ _ ?_ (fun hHeld => ?_)
          · exact ⟨pl, h0, h1, h2, h3, pa0, pa1, pa2, pa3, pa4⟩
          clear hK K
          try simp only [Act.put, List.getElem_toArray, List.getElem_cons_zero, List.getElem_cons_succ, List.setIfInBounds_toArray, List.set_cons_zero, List.set_cons_succ]
          refine tY (i := 11) (v := ?_) rfl ?_ hHeld ?_
          rotate_left
          · (intro w hSw; (try dsimp only at hSw); go_simp; (try with_reducible rfl))
          try simp only [Act.put, List.getElem_toArray, List.getElem_cons_zero, List.getElem_cons_succ, List.setIfInBounds_toArray, List.set_cons_zero, List.set_cons_succ]
          refine tY (i := 12) (v := ?_) rfl ?_ hHeld ?_
          rotate_left
          · (intro w hSw; (try dsimp only at hSw); go_simp; (try with_reducible rfl))
          try simp only [Act.put, List.getElem_toArray, List.getElem_cons_zero, List.getElem_cons_succ, List.setIfInBounds_toArray, List.set_cons_zero, List.set_cons_succ]
          refine tY (i := 13) (v := ?_) rfl ?_ hHeld ?_
          rotate_left
          · (intro w hSw; (try dsimp only at hSw); go_simp; (try with_reducible rfl))
          try simp only [Act.put, List.getElem_toArray, List.getElem_cons_zero, List.getElem_cons_succ, List.setIfInBounds_toArray, List.set_cons_zero, List.set_cons_succ]
          refine tY (i := 14) (v := ?_) rfl ?_ hHeld ?_
          rotate_left
          · (intro w hSw; (try dsimp only at hSw); go_simp; (try with_reducible rfl))
          try simp only [Act.put, List.getElem_toArray, List.getElem_cons_zero, List.getElem_cons_succ, List.setIfInBounds_toArray, List.set_cons_zero, List.set_cons_succ]
          refine tY (i := 15) (v := ?_) rfl ?_ hHeld ?_
          rotate_left
          · (intro w hSw; (try dsimp only at hSw); go_simp; (try with_reducible rfl))
          try simp only [Act.put, List.getElem_toArray, List.getElem_cons_zero, List.getElem_cons_succ, List.setIfInBounds_toArray, List.set_cons_zero, List.set_cons_succ]
          refine tY (i := 16) (v := ?_) rfl ?_ hHeld ?_
          rotate_left
          · (intro w hSw; (try dsimp only at hSw); go_simp; (try with_reducible rfl))
          try simp only [Act.put, List.getElem_toArray, List.getElem_cons_zero, List.getElem_cons_succ, List.setIfInBounds_toArray, List.set_cons_zero, List.set_cons_succ]
          refine tY (i := 17) (v := ?_) rfl ?_ hHeld ?_
          rotate_left
          · (intro w hSw; (try dsimp only at hSw); go_simp; (try with_reducible rfl))
          try simp only [Act.put, List.getElem_toArray, List.getElem_cons_zero, List.getElem_cons_succ, List.setIfInBounds_toArray, List.set_cons_zero, List.set_cons_succ]
          refine tY (i := 18) (v := ?_) rfl ?_ hHeld ?_
          rotate_left
          · (intro w hSw; (try dsimp only at hSw); go_simp; (try with_reducible rfl))
          try simp only [Act.put, List.getElem_toArray, List.getElem_cons_zero, List.getElem_cons_succ, List.setIfInBounds_toArray, List.set_cons_zero, List.set_cons_succ]
          refine tY (i := 19) (v := ?_) rfl ?_ hHeld ?_
          rotate_left
          · (intro w hSw; (try dsimp only at hSw); go_simp; (try with_reducible rfl))
          try simp only [Act.put, List.getElem_toArray, List.getElem_cons_zero, List.getElem_cons_succ, List.setIfInBounds_toArray, List.set_cons_zero, List.set_cons_succ]
          refine tY (i := 20) (v := ?_) rfl ?_ hHeld ?_
          rotate_left
          · (intro w hSw; (try dsimp only at hSw); go_simp; (try with_reducible rfl))
          try simp only [Act.put, List.getElem_toArray, List.getElem_cons_zero, List.getElem_cons_succ, List.setIfInBounds_toArray, List.set_cons_zero, List.set_cons_succ]
          refine wpAnyH_ready (rs := [21]) (by kernel_rfl) (by simp) ?_
          refine AllReadyH.cons rfl (fun K hK => ?_) AllReadyH.nil
          (try simp only [List.getElem_toArray, List.getElem_cons_zero, List.getElem_cons_succ])
          rw [if_pos (by rfl)]
          go_simp
          go_at_call 28
          refine (CF hC hW).mono ?_
          rintro e w22 ⟨rfl, b⟩
          replace pl := cK b pl la
          replace h0 := cK b h0 hlb
          replace h1 := cK b h1 hlb
          replace h2 := cK b h2 hlb
          replace h3 := cK b h3 hlb
          replace hlb := lK b hlb
          replace la := lK b la
          replace bR := bR.on b
          replace bL := bL.on b
          replace hC := hC.on b
          replace hW := hW.on b
          replace pa0 := cK b pa0 pal
          replace pa1 := cK b pa1 pal
          replace pa2 := cK b pa2 pal
          replace pa3 := cK b pa3 pal
          replace pa4 := cK b pa4 pal
          replace pal := lK b pal
          replace cc := bK cc b
          clear b
          refine hK.out _ _ ?_ (fun hHeld => ?_)
          · exact ⟨pl, h0, h1, h2, h3, pa0, pa1, pa2, pa3, pa4⟩
          clear hK K
          try simp only [Act.put, List.getElem_toArray, List.getElem_cons_zero, List.getElem_cons_succ, List.setIfInBounds_toArray, List.set_cons_zero, List.set_cons_succ]
          refine tY (i := 22) (v := ?_) rfl ?_ hHeld ?_
          rotate_left
          · (intro w hSw; (try dsimp only at hSw); go_simp; (try with_reducible rfl))
          try simp only [Act.put, List.getElem_toArray, List.getElem_cons_zero, List.getElem_cons_succ, List.setIfInBounds_toArray, List.set_cons_zero, List.set_cons_succ]
          refine tY (i := 23) (v := ?_) rfl ?_ hHeld ?_
          rotate_left
          · (intro w hSw; (try dsimp only at hSw); go_simp; (try with_reducible rfl))
          try simp only [Act.put, List.getElem_toArray, List.getElem_cons_zero, List.getElem_cons_succ, List.setIfInBounds_toArray, List.set_cons_zero, List.set_cons_succ]
          refine wpAnyH_done (by kernel_rfl) ?_ _
          clear hHeld
          have hNo : ¬ okQ kk (s : Int) km ko (N : Int) L (pre ++ [x]) := by
            intro h
            have h1 := (HAT.out.1 (HSN.out.1 h).2.1).2
            have h2 := HF.out
            rw [decide_eq_true h1] at h2
            cases h2
          have bRc := bR.cell
          have bRf := bR.frozen
          have HX : Hid (KeepsFrom w4.heap.size wr (w22.setCell ⟨w.heap.size + 1, 0, none⟩ (.bool false)) ∧ ¬ okQ kk (s : Int) km ko (N : Int) L (pre ++ [x]) ∧ Bx (w22.setCell ⟨w.heap.size + 1, 0, none⟩ (.bool false)) (w.heap.size + 1) 4 (.bool false) ∧ Below w.heap.size w (w22.setCell ⟨w.heap.size + 1, 0, none⟩ (.bool false))) := Lib.hid ⟨keepsFrom_set (keepsFrom_below cc) _ _, hNo, bR.set _, (HBL.out.trans (cc.mono HBL.out.size)).setCell (p := ⟨w.heap.size + 1, 0, none⟩) (Nat.le_succ _) _⟩
          clear bR bL hNo cc
          gi_wp2
          exact ⟨HX.out.1, ⟨rfl, HX.out.2.1, HX.out.2.2.1⟩, HX.out.2.2.2⟩
        | true =>
          have hokn : okQ kk (s : Int) km ko (N : Int) L (pre ++ [x]) := HSN.out.2 ⟨HOK.out, HAT.out.2 ⟨rfl, of_decide_eq_true HF.out⟩, by have := HAV.out.1; have := HER.out; omega⟩
          have HOKN := Lib.hid hokn
          clear hokn
          gi_wp2_with fail
          have bD : Below wr.heap.size wr wr.drew := below_drewN (Below.refl _ wr) 1
          replace pl := cK bD pl la
          replace h0 := cK bD h0 hlb
          replace h1 := cK bD h1 hlb
          replace h2 := cK bD h2 hlb
          replace h3 := cK bD h3 hlb
          replace hlb := lK bD hlb
          replace la := lK bD la
          replace bR := bR.on bD
          replace bL := bL.on bD
          replace hC := hC.on bD
          replace hW := hW.on bD
          replace pa0 := cK bD pa0 pal
          replace pa1 := cK bD pa1 pal
          replace pa2 := cK bD pa2 pal
          replace pa3 := cK bD pa3 pal
          replace pa4 := cK bD pa4 pal
          replace pal := lK bD pal
          replace cc := bK cc bD
          clear bD
          refine wpIn_round_held_drew (S := fun w' => w'.cell? ⟨zl, 0, none⟩ = some (.slice (some ⟨bb, off, none⟩) r cr) ∧ w'.cell? ⟨bb, off, none⟩ = some (.int .i64 z1) ∧ w'.cell? ⟨bb, off + 1, none⟩ = some (.int .i64 z2) ∧ w'.cell? ⟨bb, off + 2, none⟩ = some (.slice A1 n1 c1) ∧ w'.cell? ⟨bb, off + 3, none⟩ = some (.slice B1 m1 d1) ∧ w'.cell? ⟨w.heap.size, 0, none⟩ = some (.int .i64 kk) ∧ w'.cell? ⟨w.heap.size, 1, none⟩ = some (.int .i64 (s : Int)) ∧ w'.cell? ⟨w.heap.size, 2, none⟩ = some (.int .i64 km) ∧ w'.cell? ⟨w.heap.size, 3, none⟩ = some (.int .i64 ko) ∧ w'.cell? ⟨w.heap.size, 4, none⟩ = some (.int .i64 (N : Int))) (by kernel_rfl) ?_ ?_ ?_ (fun hHeld => ?_)
          · kernel_rfl
          · rintro ⟨_, _, h⟩; exact h
          · exact ⟨pl, h0, h1, h2, h3, pa0, pa1, pa2, pa3, pa4⟩
          refine tY (i := 0) (v := ?_) rfl ?_ hHeld ?_
          rotate_left
          · (intro w hSw; (try dsimp only at hSw); go_simp; (try with_reducible rfl))
          try simp only [Act.put, List.getElem_toArray, List.getElem_cons_zero, List.getElem_cons_succ, List.setIfInBounds_toArray, List.set_cons_zero, List.set_cons_succ]
          refine tY (i := 1) (v := ?_) rfl ?_ hHeld ?_
          rotate_left
          · (intro w hSw; (try dsimp only at hSw); go_simp; (try with_reducible rfl))
          try simp only [Act.put, List.getElem_toArray, List.getElem_cons_zero, List.getElem_cons_succ, List.setIfInBounds_toArray, List.set_cons_zero, List.set_cons_succ]
          refine tY (i := 2) (v := ?_) rfl ?_ hHeld ?_
          rotate_left
          · (intro w hSw; (try dsimp only at hSw); go_simp; (try with_reducible rfl))
          try simp only [Act.put, List.getElem_toArray, List.getElem_cons_zero, List.getElem_cons_succ, List.setIfInBounds_toArray, List.set_cons_zero, List.set_cons_succ]
          refine tY (i := 3) (v := ?_) rfl ?_ hHeld ?_
          rotate_left
          · (intro w hSw; (try dsimp only at hSw); go_simp; (try with_reducible rfl))
          try simp only [Act.put, List.getElem_toArray, List.getElem_cons_zero, List.getElem_cons_succ, List.setIfInBounds_toArray, List.set_cons_zero, List.set_cons_succ]
          refine tY (i := 4) (v := ?_) rfl ?_ hHeld ?_
          rotate_left
          · (intro w hSw; (try dsimp only at hSw); go_simp; (try with_reducible rfl))
          try simp only [Act.put, List.getElem_toArray, List.getElem_cons_zero, List.getElem_cons_succ, List.setIfInBounds_toArray, List.set_cons_zero, List.set_cons_succ]
          refine tY (i := 5) (v := ?_) rfl ?_ hHeld ?_
          rotate_left
          · (intro w hSw; (try dsimp only at hSw); go_simp; (try with_reducible rfl))
          try simp only [Act.put, List.getElem_toArray, List.getElem_cons_zero, List.getElem_cons_succ, List.setIfInBounds_toArray, List.set_cons_zero, List.set_cons_succ]
          refine tY (i := 6) (v := ?_) rfl ?_ hHeld ?_
          rotate_left
          · (intro w hSw; (try dsimp only at hSw); go_simp; (try with_reducible rfl))
          try simp only [Act.put, List.getElem_toArray, List.getElem_cons_zero, List.getElem_cons_succ, List.setIfInBounds_toArray, List.set_cons_zero, List.set_cons_succ]
          refine tY (i := 8) (v := ?_) rfl ?_ hHeld ?_
          rotate_left
          · (intro w hSw; (try dsimp only at hSw); go_simp; (try with_reducible rfl))
          try simp only [Act.put, List.getElem_toArray, List.getElem_cons_zero, List.getElem_cons_succ, List.setIfInBounds_toArray, List.set_cons_zero, List.set_cons_succ]
          refine tY (i := 9) (v := ?_) rfl ?_ hHeld ?_
          rotate_left
          · (intro w hSw; (try dsimp only at hSw); go_simp; (try with_reducible rfl))
          try simp only [Act.put, List.getElem_toArray, List.getElem_cons_zero, List.getElem_cons_succ, List.setIfInBounds_toArray, List.set_cons_zero, List.set_cons_succ]
          refine tY (i := 10) (v := ?_) rfl ?_ hHeld ?_
          rotate_left
          · (intro w hSw; (try dsimp only at hSw); go_simp; (try with_reducible rfl))
          try simp only [Act.put, List.getElem_toArray, List.getElem_cons_zero, List.getElem_cons_succ, List.setIfInBounds_toArray, List.set_cons_zero, List.set_cons_succ]
          refine wpAnyH_ready (rs := [7]) (by kernel_rfl) (by simp) ?_
          refine AllReadyH.cons rfl (fun K hK => ?_) AllReadyH.nil
          (try simp only [List.getElem_toArray, List.getElem_cons_zero, List.getElem_cons_succ])
          rw [if_pos (by rfl)]
          go_simp
          go_at_call 27
          refine (CLn _).mono ?_
          rintro e w21 ⟨rfl, b⟩
          replace pl := cK b pl la
          replace h0 := cK b h0 hlb
          replace h1 := cK b h1 hlb
          replace h2 := cK b h2 hlb
          replace h3 := cK b h3 hlb
          replace hlb := lK b hlb
          replace la := lK b la
          replace bR := bR.on b
          replace bL := bL.on b
          replace hC := hC.on b
          replace hW := hW.on b
          replace pa0 := cK b pa0 pal
          replace pa1 := cK b pa1 pal
          replace pa2 := cK b pa2 pal
          replace pa3 := cK b pa3 pal
          replace pa4 := cK b pa4 pal
          replace pal := lK b pal
          replace cc := bK cc b
          clear b
          refine hK.out _ _ ?_ (fun hHeld => ?_)
          · exact ⟨pl, h0, h1, h2, h3, pa0, pa1, pa2, pa3, pa4⟩
          clear hK K
          try simp only [Act.put, List.getElem_toArray, List.getElem_cons_zero, List.getElem_cons_succ, List.setIfInBounds_toArray, List.set_cons_zero, List.set_cons_succ]
          refine tY (i := 11) (v := ?_) rfl ?_ hHeld ?_
          rotate_left
          · (intro w hSw; (try dsimp only at hSw); go_simp; (try with_reducible rfl))
          try simp only [Act.put, List.getElem_toArray, List.getElem_cons_zero, List.getElem_cons_succ, List.setIfInBounds_toArray, List.set_cons_zero, List.set_cons_succ]
          refine tY (i := 12) (v := ?_) rfl ?_ hHeld ?_
          rotate_left
          · (intro w hSw; (try dsimp only at hSw); go_simp; (try with_reducible rfl))
          try simp only [Act.put, List.getElem_toArray, List.getElem_cons_zero, List.getElem_cons_succ, List.setIfInBounds_toArray, List.set_cons_zero, List.set_cons_succ]
          refine tY (i := 13) (v := ?_) rfl ?_ hHeld ?_
          rotate_left
          · (intro w hSw; (try dsimp only at hSw); go_simp; (try with_reducible rfl))
          try simp only [Act.put, List.getElem_toArray, List.getElem_cons_zero, List.getElem_cons_succ, List.setIfInBounds_toArray, List.set_cons_zero, List.set_cons_succ]
          refine tY (i := 14) (v := ?_) rfl ?_ hHeld ?_
          rotate_left
          · (intro w hSw; (try dsimp only at hSw); go_simp; (try with_reducible rfl))
          try simp only [Act.put, List.getElem_toArray, List.getElem_cons_zero, List.getElem_cons_succ, List.setIfInBounds_toArray, List.set_cons_zero, List.set_cons_succ]
          refine tY (i := 15) (v := ?_) rfl ?_ hHeld ?_
          rotate_left
          · (intro w hSw; (try dsimp only at hSw); go_simp; (try with_reducible rfl))
          try simp only [Act.put, List.getElem_toArray, List.getElem_cons_zero, List.getElem_cons_succ, List.setIfInBounds_toArray, List.set_cons_zero, List.set_cons_succ]
          refine tY (i := 16) (v := ?_) rfl ?_ hHeld ?_
          rotate_left
          · (intro w hSw; (try dsimp only at hSw); go_simp; (try with_reducible rfl))
          try simp only [Act.put, List.getElem_toArray, List.getElem_cons_zero, List.getElem_cons_succ, List.setIfInBounds_toArray, List.set_cons_zero, List.set_cons_succ]
          refine tY (i := 17) (v := ?_) rfl ?_ hHeld ?_
          rotate_left
          · (intro w hSw; (try dsimp only at hSw); go_simp; (try with_reducible rfl))
          try simp only [Act.put, List.getElem_toArray, List.getElem_cons_zero, List.getElem_cons_succ, List.setIfInBounds_toArray, List.set_cons_zero, List.set_cons_succ]
          refine tY (i := 18) (v := ?_) rfl ?_ hHeld ?_
          rotate_left
          · (intro w hSw; (try dsimp only at hSw); go_simp; (try with_reducible rfl))
          try simp only [Act.put, List.getElem_toArray, List.getElem_cons_zero, List.getElem_cons_succ, List.setIfInBounds_toArray, List.set_cons_zero, List.set_cons_succ]
          refine tY (i := 19) (v := ?_) rfl ?_ hHeld ?_
          rotate_left
          · (intro w hSw; (try dsimp only at hSw); go_simp; (try with_reducible rfl))
          try simp only [Act.put, List.getElem_toArray, List.getElem_cons_zero, List.getElem_cons_succ, List.setIfInBounds_toArray, List.set_cons_zero, List.set_cons_succ]
          refine tY (i := 20) (v := ?_) rfl ?_ hHeld ?_
          rotate_left
          · (intro w hSw; (try dsimp only at hSw); go_simp; (try with_reducible rfl))
          try simp only [Act.put, List.getElem_toArray, List.getElem_cons_zero, List.getElem_cons_succ, List.setIfInBounds_toArray, List.set_cons_zero, List.set_cons_succ]
          refine wpAnyH_ready (rs := [21]) (by kernel_rfl) (by simp) ?_
          refine AllReadyH.cons rfl (fun K hK => ?_) AllReadyH.nil
          (try simp only [List.getElem_toArray, List.getElem_cons_zero, List.getElem_cons_succ])
          rw [if_pos (by rfl)]
          go_simp
          go_at_call 28
          refine (CF hC hW).mono ?_
          rintro e w22 ⟨rfl, b⟩
          replace pl := cK b pl la
          replace h0 := cK b h0 hlb
          replace h1 := cK b h1 hlb
          replace h2 := cK b h2 hlb
          replace h3 := cK b h3 hlb
          replace hlb := lK b hlb
          replace la := lK b la
          replace bR := bR.on b
          replace bL := bL.on b
          replace hC := hC.on b
          replace hW := hW.on b
          replace pa0 := cK b pa0 pal
          replace pa1 := cK b pa1 pal
          replace pa2 := cK b pa2 pal
          replace pa3 := cK b pa3 pal
          replace pa4 := cK b pa4 pal
          replace pal := lK b pal
          replace cc := bK cc b
          clear b
          refine hK.out _ _ ?_ (fun hHeld => ?_)
          · exact ⟨pl, h0, h1, h2, h3, pa0, pa1, pa2, pa3, pa4⟩
          clear hK K
          try simp only [Act.put, List.getElem_toArray, List.getElem_cons_zero, List.getElem_cons_succ, List.setIfInBounds_toArray, List.set_cons_zero, List.set_cons_succ]
          refine tY (i := 22) (v := ?_) rfl ?_ hHeld ?_
          rotate_left
          · (intro w hSw; (try dsimp only at hSw); go_simp; (try with_reducible rfl))
          try simp only [Act.put, List.getElem_toArray, List.getElem_cons_zero, List.getElem_cons_succ, List.setIfInBounds_toArray, List.set_cons_zero, List.set_cons_succ]
          refine tY (i := 23) (v := ?_) rfl ?_ hHeld ?_
          rotate_left
          · (intro w hSw; (try dsimp only at hSw); go_simp; (try with_reducible rfl))
          try simp only [Act.put, List.getElem_toArray, List.getElem_cons_zero, List.getElem_cons_succ, List.setIfInBounds_toArray, List.set_cons_zero, List.set_cons_succ]
          refine wpAnyH_done (by kernel_rfl) ?_ _
          clear hHeld
          have HG : ∀ (A' : Option Addr) (c' : Nat), (1 < r → A' = some ⟨bb, off + 4, none⟩) → r - 1 ≤ c' → Hid (KeepsFrom w4.heap.size wr (w22.setCell ⟨zl, 0, none⟩ (.slice A' (r - 1) c')) ∧ Kc g (g + 1) wr (w22.setCell ⟨zl, 0, none⟩ (.slice A' (r - 1) c')) ∧ (w4.heap.size ≤ (w22.setCell ⟨zl, 0, none⟩ (.slice A' (r - 1) c')).heap.size ∧ (pre ++ [x]).length ≤ n ∧ KR w A' (n - (pre ++ [x]).length) c' (L.drop (pre ++ [x]).length) ∧ Bx (w22.setCell ⟨zl, 0, none⟩ (.slice A' (r - 1) c')) zl 24 (.slice A' (n - (pre ++ [x]).length) c') ∧ (w22.setCell ⟨zl, 0, none⟩ (.slice A' (r - 1) c')).cell? ⟨w.heap.size, 0, none⟩ = some (.int .i64 kk) ∧ (w22.setCell ⟨zl, 0, none⟩ (.slice A' (r - 1) c')).cell? ⟨w.heap.size, 1, none⟩ = some (.int .i64 (s : Int)) ∧ (w22.setCell ⟨zl, 0, none⟩ (.slice A' (r - 1) c')).cell? ⟨w.heap.size, 2, none⟩ = some (.int .i64 km) ∧ (w22.setCell ⟨zl, 0, none⟩ (.slice A' (r - 1) c')).cell? ⟨w.heap.size, 3, none⟩ = some (.int .i64 ko) ∧ (w22.setCell ⟨zl, 0, none⟩ (.slice A' (r - 1) c')).cell? ⟨w.heap.size, 4, none⟩ = some (.int .i64 (N : Int)) ∧ Bx (w22.setCell ⟨zl, 0, none⟩ (.slice A' (r - 1) c')) (w.heap.size + 1) 4 (.bool false)) ∧ Below w.heap.size w (w22.setCell ⟨zl, 0, none⟩ (.slice A' (r - 1) c'))) := fun A' c' hA' hc' => Lib.hid (by
            have e1 : n - (k + 1) = r - 1 := by have := HER.out; omega
            have e2 : k + 1 ≤ n := by have := HER.out; omega
            have e3 : L.drop (k + 1) = (L.drop k).drop 1 := by rw [List.drop_drop]
            rw [HLN.out, e1, e3]
            refine ⟨keepsFrom_set (keepsFrom_below cc) _ _, (Kc.of cc (by omega) (by omega)).trans (Kc.set (by omega) (by omega)), ⟨by have := cc.size; simp; omega, e2, kr_drop HKB.out hr1 hA' hc', bL.set _, (World.cell?_setCell_far _ _ _ _ (by show zl ≠ w.heap.size; omega)).trans pa0, (World.cell?_setCell_far _ _ _ _ (by show zl ≠ w.heap.size; omega)).trans pa1, (World.cell?_setCell_far _ _ _ _ (by show zl ≠ w.heap.size; omega)).trans pa2, (World.cell?_setCell_far _ _ _ _ (by show zl ≠ w.heap.size; omega)).trans pa3, (World.cell?_setCell_far _ _ _ _ (by show zl ≠ w.heap.size; omega)).trans pa4, bR.other (by omega) _⟩, (HBL.out.trans (cc.mono HBL.out.size)).setCell (p := ⟨zl, 0, none⟩) (by show w.heap.size ≤ zl; omega) _⟩)
          have bLc := bL.cell
          have bLf := bL.frozen
          have hr3 : 1 ≤ r := hr1
          have hrI1 : (1 : Int) ≤ (r : Int) := by omega
          clear cc bL bR hC hW
          gi_wp2
          all_goals first
            | (obtain ⟨a1, a2, ⟨a3, a4, a5, a6, a7, a8, a9, a10, a11, a12⟩, a13⟩ := (HG (some ⟨bb, off + 4, none⟩) (cr - 1) (fun _ => rfl) (by omega)).out; exact ⟨a1, a2, ⟨HOKN.out, a3, a4, ⟨_, _, a5, a6⟩, a7, a8, a9, a10, a11, a12⟩, a13⟩)
            | (obtain ⟨a1, a2, ⟨a3, a4, a5, a6, a7, a8, a9, a10, a11, a12⟩, a13⟩ := (HG (some ⟨bb, off, none⟩) 0 (fun h => by exfalso; omega) (by omega)).out; exact ⟨a1, a2, ⟨HOKN.out, a3, a4, ⟨_, _, a5, a6⟩, a7, a8, a9, a10, a11, a12⟩, a13⟩)
      · have tq : (q != (d : Int)) = true := by simp; exact hq
        have tq2 : (q == (d : Int)) = false := beq_eq_false_iff_ne.2 hq
        gi_wp2_with fail
        have bD : Below wr.heap.size wr wr.drew := below_drewN (Below.refl _ wr) 1
        replace pl := cK bD pl la
        replace h0 := cK bD h0 hlb
        replace h1 := cK bD h1 hlb
        replace h2 := cK bD h2 hlb
        replace h3 := cK bD h3 hlb
        replace hlb := lK bD hlb
        replace la := lK bD la
        replace bR := bR.on bD
        replace bL := bL.on bD
        replace hC := hC.on bD
        replace hW := hW.on bD
        replace pa0 := cK bD pa0 pal
        replace pa1 := cK bD pa1 pal
        replace pa2 := cK bD pa2 pal
        replace pa3 := cK bD pa3 pal
        replace pa4 := cK bD pa4 pal
        replace pal := lK bD pal
        replace cc := bK cc bD
        clear bD
        refine wpIn_round_held_drew (S := fun w' => w'.cell? ⟨zl, 0, none⟩ = some (.slice (some ⟨bb, off, none⟩) r cr) ∧ w'.cell? ⟨bb, off, none⟩ = some (.int .i64 z1) ∧ w'.cell? ⟨bb, off + 1, none⟩ = some (.int .i64 z2) ∧ w'.cell? ⟨bb, off + 2, none⟩ = some (.slice A1 n1 c1) ∧ w'.cell? ⟨bb, off + 3, none⟩ = some (.slice B1 m1 d1) ∧ w'.cell? ⟨w.heap.size, 0, none⟩ = some (.int .i64 kk) ∧ w'.cell? ⟨w.heap.size, 1, none⟩ = some (.int .i64 (s : Int)) ∧ w'.cell? ⟨w.heap.size, 2, none⟩ = some (.int .i64 km) ∧ w'.cell? ⟨w.heap.size, 3, none⟩ = some (.int .i64 ko) ∧ w'.cell? ⟨w.heap.size, 4, none⟩ = some (.int .i64 (N : Int))) (by kernel_rfl) ?_ ?_ ?_ (fun hHeld => ?_)
        · kernel_rfl
        · rintro ⟨_, _, h⟩; exact h
        · exact ⟨pl, h0, h1, h2, h3, pa0, pa1, pa2, pa3, pa4⟩
        refine tY (i := 0) (v := ?_) rfl ?_ hHeld ?_
        rotate_left
        · (intro w hSw; (try dsimp only at hSw); go_simp; (try with_reducible rfl))
        try simp only [Act.put, List.getElem_toArray, List.getElem_cons_zero, List.getElem_cons_succ, List.setIfInBounds_toArray, List.set_cons_zero, List.set_cons_succ]
        refine tY (i := 1) (v := ?_) rfl ?_ hHeld ?_
        rotate_left
        · (intro w hSw; (try dsimp only at hSw); go_simp; (try with_reducible rfl))
        try simp only [Act.put, List.getElem_toArray, List.getElem_cons_zero, List.getElem_cons_succ, List.setIfInBounds_toArray, List.set_cons_zero, List.set_cons_succ]
        refine tY (i := 2) (v := ?_) rfl ?_ hHeld ?_
        rotate_left
        · (intro w hSw; (try dsimp only at hSw); go_simp; (try with_reducible rfl))
        try simp only [Act.put, List.getElem_toArray, List.getElem_cons_zero, List.getElem_cons_succ, List.setIfInBounds_toArray, List.set_cons_zero, List.set_cons_succ]
        refine tY (i := 3) (v := ?_) rfl ?_ hHeld ?_
        rotate_left
        · (intro w hSw; (try dsimp only at hSw); go_simp; (try with_reducible rfl))
        try simp only [Act.put, List.getElem_toArray, List.getElem_cons_zero, List.getElem_cons_succ, List.setIfInBounds_toArray, List.set_cons_zero, List.set_cons_succ]
        refine tY (i := 4) (v := ?_) rfl ?_ hHeld ?_
        rotate_left
        · (intro w hSw; (try dsimp only at hSw); go_simp; (try with_reducible rfl))
        try simp only [Act.put, List.getElem_toArray, List.getElem_cons_zero, List.getElem_cons_succ, List.setIfInBounds_toArray, List.set_cons_zero, List.set_cons_succ]
        refine tY (i := 5) (v := ?_) rfl ?_ hHeld ?_
        rotate_left
        · (intro w hSw; (try dsimp only at hSw); go_simp; (try with_reducible rfl))
        try simp only [Act.put, List.getElem_toArray, List.getElem_cons_zero, List.getElem_cons_succ, List.setIfInBounds_toArray, List.set_cons_zero, List.set_cons_succ]
        refine tY (i := 6) (v := ?_) rfl ?_ hHeld ?_
        rotate_left
        · (intro w hSw; (try dsimp only at hSw); go_simp; (try with_reducible rfl))
        try simp only [Act.put, List.getElem_toArray, List.getElem_cons_zero, List.getElem_cons_succ, List.setIfInBounds_toArray, List.set_cons_zero, List.set_cons_succ]
        refine tY (i := 8) (v := ?_) rfl ?_ hHeld ?_
        rotate_left
        · (intro w hSw; (try dsimp only at hSw); go_simp; (try with_reducible rfl))
        try simp only [Act.put, List.getElem_toArray, List.getElem_cons_zero, List.getElem_cons_succ, List.setIfInBounds_toArray, List.set_cons_zero, List.set_cons_succ]
        refine tY (i := 9) (v := ?_) rfl ?_ hHeld ?_
        rotate_left
        · (intro w hSw; (try dsimp only at hSw); go_simp; (try with_reducible rfl))
        try simp only [Act.put, List.getElem_toArray, List.getElem_cons_zero, List.getElem_cons_succ, List.setIfInBounds_toArray, List.set_cons_zero, List.set_cons_succ]
        refine tY (i := 10) (v := ?_) rfl ?_ hHeld ?_
        rotate_left
        · (intro w hSw; (try dsimp only at hSw); go_simp; (try with_reducible rfl))
        try simp only [Act.put, List.getElem_toArray, List.getElem_cons_zero, List.getElem_cons_succ, List.setIfInBounds_toArray, List.set_cons_zero, List.set_cons_succ]
        refine wpAnyH_ready (rs := [7]) (by kernel_rfl) (by simp) ?_
        refine AllReadyH.cons rfl (fun K hK => ?_) AllReadyH.nil
        (try simp only [List.getElem_toArray, List.getElem_cons_zero, List.getElem_cons_succ])
        rw [if_pos (by rfl)]
        go_simp
        go_at_call 27
        refine (CLn _).mono ?_
        rintro e w21 ⟨rfl, b⟩
        replace pl := cK b pl la
        replace h0 := cK b h0 hlb
        replace h1 := cK b h1 hlb
        replace h2 := cK b h2 hlb
        replace h3 := cK b h3 hlb
        replace hlb := lK b hlb
        replace la := lK b la
        replace bR := bR.on b
        replace bL := bL.on b
        replace hC := hC.on b
        replace hW := hW.on b
        replace pa0 := cK b pa0 pal
        replace pa1 := cK b pa1 pal
        replace pa2 := cK b pa2 pal
        replace pa3 := cK b pa3 pal
        replace pa4 := cK b pa4 pal
        replace pal := lK b pal
        replace cc := bK cc b
        clear b
        refine hK.out _ _ ?_ (fun hHeld => ?_)
        · exact ⟨pl, h0, h1, h2, h3, pa0, pa1, pa2, pa3, pa4⟩
        clear hK K
        try simp only [Act.put, List.getElem_toArray, List.getElem_cons_zero, List.getElem_cons_succ, List.setIfInBounds_toArray, List.set_cons_zero, List.set_cons_succ]
        refine tY (i := 11) (v := ?_) rfl ?_ hHeld ?_
        rotate_left
        · (intro w hSw; (try dsimp only at hSw); go_simp; (try with_reducible rfl))
        try simp only [Act.put, List.getElem_toArray, List.getElem_cons_zero, List.getElem_cons_succ, List.setIfInBounds_toArray, List.set_cons_zero, List.set_cons_succ]
        refine tY (i := 12) (v := ?_) rfl ?_ hHeld ?_
        rotate_left
        · (intro w hSw; (try dsimp only at hSw); go_simp; (try with_reducible rfl))
        try simp only [Act.put, List.getElem_toArray, List.getElem_cons_zero, List.getElem_cons_succ, List.setIfInBounds_toArray, List.set_cons_zero, List.set_cons_succ]
        refine tY (i := 13) (v := ?_) rfl ?_ hHeld ?_
        rotate_left
        · (intro w hSw; (try dsimp only at hSw); go_simp; (try with_reducible rfl))
        try simp only [Act.put, List.getElem_toArray, List.getElem_cons_zero, List.getElem_cons_succ, List.setIfInBounds_toArray, List.set_cons_zero, List.set_cons_succ]
        refine tU (i := 14) rfl hHeld ?_
        try simp only [Act.put, List.getElem_toArray, List.getElem_cons_zero, List.getElem_cons_succ, List.setIfInBounds_toArray, List.set_cons_zero, List.set_cons_succ]
        refine tU (i := 15) rfl hHeld ?_
        try simp only [Act.put, List.getElem_toArray, List.getElem_cons_zero, List.getElem_cons_succ, List.setIfInBounds_toArray, List.set_cons_zero, List.set_cons_succ]
        refine tU (i := 16) rfl hHeld ?_
        try simp only [Act.put, List.getElem_toArray, List.getElem_cons_zero, List.getElem_cons_succ, List.setIfInBounds_toArray, List.set_cons_zero, List.set_cons_succ]
        refine tU (i := 17) rfl hHeld ?_
        try simp only [Act.put, List.getElem_toArray, List.getElem_cons_zero, List.getElem_cons_succ, List.setIfInBounds_toArray, List.set_cons_zero, List.set_cons_succ]
        refine tU (i := 18) rfl hHeld ?_
        try simp only [Act.put, List.getElem_toArray, List.getElem_cons_zero, List.getElem_cons_succ, List.setIfInBounds_toArray, List.set_cons_zero, List.set_cons_succ]
        refine tU (i := 19) rfl hHeld ?_
        try simp only [Act.put, List.getElem_toArray, List.getElem_cons_zero, List.getElem_cons_succ, List.setIfInBounds_toArray, List.set_cons_zero, List.set_cons_succ]
        refine tU (i := 20) rfl hHeld ?_
        try simp only [Act.put, List.getElem_toArray, List.getElem_cons_zero, List.getElem_cons_succ, List.setIfInBounds_toArray, List.set_cons_zero, List.set_cons_succ]
        refine tU (i := 21) rfl hHeld ?_
        try simp only [Act.put, List.getElem_toArray, List.getElem_cons_zero, List.getElem_cons_succ, List.setIfInBounds_toArray, List.set_cons_zero, List.set_cons_succ]
        refine tU (i := 22) rfl hHeld ?_
        try simp only [Act.put, List.getElem_toArray, List.getElem_cons_zero, List.getElem_cons_succ, List.setIfInBounds_toArray, List.set_cons_zero, List.set_cons_succ]
        refine tY (i := 23) (v := ?_) rfl ?_ hHeld ?_
        rotate_left
        · (intro w hSw; (try dsimp only at hSw); go_simp; (try with_reducible rfl))
        try simp only [Act.put, List.getElem_toArray, List.getElem_cons_zero, List.getElem_cons_succ, List.setIfInBounds_toArray, List.set_cons_zero, List.set_cons_succ]
        refine wpAnyH_done (by kernel_rfl) ?_ _
        clear hHeld
        have hNo : ¬ okQ kk (s : Int) km ko (N : Int) L (pre ++ [x]) := by
          intro h
          exact hq (HAT.out.1 (HSN.out.1 h).2.1).1
        have bRc := bR.cell
        have bRf := bR.frozen
        have HX : Hid (KeepsFrom w4.heap.size wr (w21.setCell ⟨w.heap.size + 1, 0, none⟩ (.bool false)) ∧ ¬ okQ kk (s : Int) km ko (N : Int) L (pre ++ [x]) ∧ Bx (w21.setCell ⟨w.heap.size + 1, 0, none⟩ (.bool false)) (w.heap.size + 1) 4 (.bool false) ∧ Below w.heap.size w (w21.setCell ⟨w.heap.size + 1, 0, none⟩ (.bool false))) := Lib.hid ⟨keepsFrom_set (keepsFrom_below cc) _ _, hNo, bR.set _, (HBL.out.trans (cc.mono HBL.out.size)).setCell (p := ⟨w.heap.size + 1, 0, none⟩) (Nat.le_succ _) _⟩
        clear bR bL hNo cc
        gi_wp2
        exact ⟨HX.out.1, ⟨rfl, HX.out.2.1, HX.out.2.2.1⟩, HX.out.2.2.2⟩
  case done =>
    rintro D ys W hD rfl ⟨⟨hok, hsz, hpl, ⟨Ar, cr, hKR, bL⟩, q0, q1, q2, q3, q4, bR⟩, hBl⟩ hK
    rw [upA_len (Nat.le_refl _)] at hpl hKR bL
    have hLn := HAV.out.1
    have hlen := @okQ_ok kk km ko s N L HK.out HN.out hok
    have hm := nbk_int (s := s) (n := N) HS.out.1
    obtain ⟨m, em⟩ : ∃ m, nbk s N = m := ⟨_, rfl⟩
    rw [em] at hpl hKR bL hlen hm
    obtain ⟨r, er⟩ : ∃ r, n - m = r := ⟨_, rfl⟩
    rw [er] at hKR bL
    by_cases hr : r = 0
    · subst hr
      have HRV : Hid (R = true) := Lib.hid (by rw [← HR.out]; exact decide_eq_true (hlen (by omega)))
      have bR2 := bR.set (.bool true)
      have hK2 := (KeepsOthers.setCell W ⟨w.heap.size + 1, 0, none⟩ (.bool true)).same D _ hK rfl
      have hB3 : Below w.heap.size w (W.setCell ⟨w.heap.size + 1, 0, none⟩ (.bool true)) := hBl.setCell (p := ⟨w.heap.size + 1, 0, none⟩) (Nat.le_succ _) _
      have bRc := bR.cell
      have bRf := bR.frozen
      have bLc := bL.cell
      clear hok hsz hpl hKR bL q0 q1 q2 q3 q4 bR hBl hlen hm em er hLn pa0 pa1 pa2 pa3 pa4 pa5 b1 b2 cc
      go_wp2
      refine ⟨by simp, .inl ⟨_, _, rfl, run_takeDeferred hK2, ?_⟩⟩
      have hc5 := cell_kept bR2.cell (grownBy_putObj' _ D (.deferred none)) (fun r e => by cases e; exact ⟨_, hK2, rfl⟩)
      have hB2 := hB3.trans (belowK_b (w := w4) (n₀ := w.heap.size) (by have := pal; omega) _ D _ (.deferred none) hD hK2 rfl rfl)
      exact ⟨.bool true, by simp [results, Tryz.results11, go_sem, hc5], by rw [HRV.out], hB2⟩
    · have tr : ((r : Int) == 0) = false := beq_eq_false_iff_ne.2 (by omega)
      have HRV : Hid (R = false) := Lib.hid (by rw [← HR.out]; exact decide_eq_false (fun h => by have h1 := h.2.2.1; omega))
      have bR2 := bR.set (.bool false)
      have hK2 := (KeepsOthers.setCell W ⟨w.heap.size + 1, 0, none⟩ (.bool false)).same D _ hK rfl
      have hB3 : Below w.heap.size w (W.setCell ⟨w.heap.size + 1, 0, none⟩ (.bool false)) := hBl.setCell (p := ⟨w.heap.size + 1, 0, none⟩) (Nat.le_succ _) _
      have bRc := bR.cell
      have bRf := bR.frozen
      have bLc := bL.cell
      clear hok hsz hpl hKR bL q0 q1 q2 q3 q4 bR hBl hlen hm em er hLn pa0 pa1 pa2 pa3 pa4 pa5 b1 b2 cc
      go_wp2
      refine ⟨by simp, .inl ⟨_, _, rfl, run_takeDeferred hK2, ?_⟩⟩
      have hc5 := cell_kept bR2.cell (grownBy_putObj' _ D (.deferred none)) (fun r e => by cases e; exact ⟨_, hK2, rfl⟩)
      have hB2 := hB3.trans (belowK_b (w := w4) (n₀ := w.heap.size) (by have := pal; omega) _ D _ (.deferred none) hD hK2 rfl rfl)
      exact ⟨.bool false, by simp [results, Tryz.results11, go_sem, hc5], by rw [HRV.out], hB2⟩
  case stop =>
    rintro D c pre W hD ⟨i, hi, rfl⟩ ⟨⟨rfl, hno, bR2⟩, hB3⟩ hK2
    have HRV : Hid (R = false) := Lib.hid (by rw [← HR.out]; exact decide_eq_false (fun h => hno (okQ_all HK.out HN.out h hi)))
    clear hno bL pa0 pa1 pa2 pa3 pa4 pa5 bR b1 b2 cc
    refine wpIn_wide.2 ?_
    go_wp2
    refine ⟨by simp, .inl ⟨_, _, rfl, run_takeDeferred hK2, ?_⟩⟩
    have hc5 := cell_kept bR2.cell (grownBy_putObj' _ D (.deferred none)) (fun r e => by cases e; exact ⟨_, hK2, rfl⟩)
    have hB2 := hB3.trans (belowK_b (w := w4) (n₀ := w.heap.size) (by have := pal; omega) _ D _ (.deferred none) hD hK2 rfl rfl)
    exact ⟨.bool false, by simp [results, Tryz.results11, go_sem, hc5], by rw [HRV.out], hB2⟩

theorem tnRight_N {w : World} {kk ks km ko lg : Int} {A : Option Addr} {n c : Nat} {L : List Bk} (hA : KR w A n c L) (hn : n ≤ 9223372036854775807) (hi : I64 kk ∧ I64 ks ∧ I64 km ∧ I64 ko ∧ I64 lg) : Calls Tryz.prog 11 #[.agg #[.int .i64 kk, .int .i64 ks, .int .i64 km, .int .i64 ko, .int .i64 lg, .slice A n c]] w (GotV w (.bool (decide (OkS kk ks km ko lg L)))) := by
  by_cases hK : OkK kk ks km ko
  · by_cases h0 : lg < 0
    · rw [decide_eq_false (fun h => by have := h.2.1; omega)]; exact tnRight_neg hK h0
    · by_cases h1 : 4096 < lg
      · rw [decide_eq_false (fun h => by have := h.2.1; omega)]; exact tnRight_big hK h0 h1
      · obtain ⟨s, rfl⟩ : ∃ s : Nat, ks = (s : Int) := ⟨ks.toNat, by have := hK.2.1; omega⟩
        obtain ⟨N, rfl⟩ : ∃ N : Nat, lg = (N : Int) := ⟨lg.toNat, by omega⟩
        exact tnRight_go hK (by omega) hA hn hi.2.2.2.1
  · rw [decide_eq_false (fun h => hK h.1)]; exact tnRight_k hK

end Go.Proofs.YtpidpebgeblenaaGreat

/-
  The contracts of the eleventh reference: Pack.
-/
namespace Go.Proofs.YtpidpebgeblenaaGreat
open Go.RowKit
set_option linter.unusedVariables false
set_option linter.unusedSimpArgs false

/-- A block is answered, with a code; its rows are new. -/
def GotBq (w : World) (k s : Int) (C : List Nat) (W : List Int) (r : Int) (e : Ending) (w' : World) : Prop :=
  ∃ A n c B m d, e = .returned (.tuple #[.agg #[.int .i64 k, .int .i64 s, .slice A n c, .slice B m d], .int .i64 r]) ∧ BR w' A n c C ∧ IR w' B m d W ∧ Below w.heap.size w w' ∧ (∀ p, A = some p → w.heap.size ≤ p.block) ∧ ∀ p, B = some p → w.heap.size ≤ p.block
theorem GotBq.old {w w' : World} {k s r : Int} {C : List Nat} {W : List Int} {e : Ending} (h : GotBq w k s C W r e w') : GotBp w k s C W r e w' := by obtain ⟨A, n, c, B, m, d, h1, h2, h3, h4, _⟩ := h; exact ⟨A, n, c, B, m, d, h1, h2, h3, h4⟩
/-- May a number be packed? -/
def Gd (k x : Int) : Prop := x ≠ -9223372036854775808 ∧ (k = 1 ∨ k = 3 → 0 ≤ x)
instance (k x : Int) : Decidable (Gd k x) := by unfold Gd; infer_instance
theorem own_any {t n : Nat} {w w' : World} {e : TypeId} {size : Nat} {v : Value} {xs : List Value} (hO : w.ownsRow t e size v n xs) (b : Below w.heap.size w w') : w'.ownsRow t e size v n xs := by
  obtain ⟨h1, h2⟩ := hO
  refine ⟨h1, ?_⟩
  rcases h2 with h2 | ⟨g', cap', cur, hv, hg, hh, r⟩
  · exact Or.inl h2
  · refine Or.inr ⟨g', cap', cur, hv, hg, ?_, r⟩
    have hl : g' < w.heap.size := by
      rcases Nat.lt_or_ge g' w.heap.size with h | h
      · exact h
      · rw [Array.getElem?_eq_none h] at hh; cases hh
    rw [b.block g' hl]; exact hh
attribute [local go_sem ↓] mx1_run

end Go.Proofs.YtpidpebgeblenaaGreat
