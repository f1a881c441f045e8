/-
  The walk of CrcCuts.
-/
import Derived.Test.YtkknopahiajeeaaA2
namespace Go.Proofs.Ytkknopahiajeeaa
set_option maxRecDepth 100000
open Go.RowKit
set_option linter.unusedVariables false
set_option linter.unusedSimpArgs false

def mn3 (a : Nat) : Nat := min a 3
theorem mn3_run {P : Program} (w : World) (ts : Array TypeId) (t : TypeId) (x : Nat) : (Builtin.min_ ts t #[.int .i64 (x : Int), .int .i64 3]).run P w = .ok (.int .i64 (mn3 x : Int)) w := by
  rw [run_min_int2]
  congr 2
  unfold mn3
  split <;> omega
theorem append_zero_step {P : Program} {w : World} {ops : Array Oper} {o : Oper} {a : Act} {K : Act → World → Prop} {Q : Exit → Act → World → Prop} {E : Prop} (hgd : o.guard = none) (s x : Operand) (t : TypeId)
    (ho : o.op = .call { callee := .builtin .append, args := #[s, x], argTypes := #[t, t] }) (e : TypeId) (i : TypeInfo) (ht : P.underlying t = some (.slice e)) (hi : P.info? e = some i)
    (A B : Option Addr) (n c d : Nat) (hs : a.eval s = .slice A n c) (hx : a.eval x = .slice B 0 d) (hn : n ≤ c)
    (h : K (a.put o.dst (.slice A n c)) w) : if Region.wanted o (yielded ops a.tmps) = true then Oper.wp P o a w K Q else E := by
  have hw : Region.wanted o (yielded ops a.tmps) = true := by simp [Region.wanted, hgd]
  rw [if_pos hw]
  have hr := run_append_zero (P := P) w t o.type e i ht hi A B n c d hn
  unfold Oper.wp execOp
  simp only [ho, resolve, invoke, builtin, Sem.run_bind, Sem.run_pure, Result.andThen_ok, List.map_toArray, List.map_cons, List.map_nil, hs, hx, hr]
  exact h
theorem cell_over {w : World} {o : Obj} {p : Addr} {v : Value} (h : w.cell? p = some v) : (w.alloc o).cell? p = some v := by
  have hlt : p.block < w.heap.size := by
    rcases Nat.lt_or_ge p.block w.heap.size with h1 | h1
    · exact h1
    · simp [World.cell?, Array.getElem?_eq_none h1] at h
  rw [World.cell?_of_block (w := w) (Below.heap_alloc w o p.block hlt)]
  exact h
theorem own_size {w : World} {t : Nat} {e : TypeId} {A : Option Addr} {n c : Nat} {xs : List Value} {E : Nat} (h : w.ownsRow t e 1 (.slice (some ⟨E, 0, none⟩) 0 0) 0 ([] : List Value)) : E < w.heap.size := (h.lt E rfl).2
theorem four_kept {w w' : World} {E F : Nat} {a b c d : Value} (hg : w.grownBy w' (some E)) (h : ∀ j u, [a, b, c, d][j]? = some u → w.cell? ((⟨F, 0, none⟩ : Addr).add j) = some u) (hne : F ≠ E) (hlt : F < w.heap.size) : ∀ j u, [a, b, c, d][j]? = some u → w'.cell? ((⟨F, 0, none⟩ : Addr).add j) = some u := by
  intro j u e
  have h1 := h j u e
  rw [addr_add] at h1 ⊢
  rw [hg.cell_far ⟨F, 0 + j, none⟩ hlt (fun e => hne (by injection e))]
  exact h1

attribute [local go_sem ↓] mn3_run
set_option maxRecDepth 100000 in
set_option maxHeartbeats 8000000 in
theorem CrcCuts_few {w : World} {A : Option Addr} {n c x0 x1 x2 x3 : Nat} (h : 2000 < n) :
    Calls Try.prog 7 #[.slice A n c, .agg #[.int .u8 (x0 : Int), .int .u8 (x1 : Int), .int .u8 (x2 : Int), .int .u8 (x3 : Int)]] w fun e w' => e = .returned (.bool true) ∧ Below w.heap.size w w' := by
  have t0 : decide (2000 < (n : Int)) = true := decide_eq_true (by omega)
  have u0 : decide (2000 < n) = true := decide_eq_true (by omega)
  clear h
  have cc := Below.refl w.heap.size w
  go_enter Try.func7, Try.ntmps7
  go_wp2_with fail
  have bA : Below w.heap.size w (w.alloc (.cells #[.int .u8 (x0 : Int), .int .u8 (x1 : Int), .int .u8 (x2 : Int), .int .u8 (x3 : Int)] 43)) := ((Below.refl _ w).alloc (by simp) _)
  replace cc := cc.trans (bA.mono cc.size)
  clear bA
  have pa0 : (w.alloc (.cells #[.int .u8 (x0 : Int), .int .u8 (x1 : Int), .int .u8 (x2 : Int), .int .u8 (x3 : Int)] 43)).cell? ⟨w.heap.size, 0, none⟩ = some (.int .u8 (x0 : Int)) := by simp [go_sem]
  have pa1 : (w.alloc (.cells #[.int .u8 (x0 : Int), .int .u8 (x1 : Int), .int .u8 (x2 : Int), .int .u8 (x3 : Int)] 43)).cell? ⟨w.heap.size, 1, none⟩ = some (.int .u8 (x1 : Int)) := by simp [go_sem]
  have pa2 : (w.alloc (.cells #[.int .u8 (x0 : Int), .int .u8 (x1 : Int), .int .u8 (x2 : Int), .int .u8 (x3 : Int)] 43)).cell? ⟨w.heap.size, 2, none⟩ = some (.int .u8 (x2 : Int)) := by simp [go_sem]
  have pa3 : (w.alloc (.cells #[.int .u8 (x0 : Int), .int .u8 (x1 : Int), .int .u8 (x2 : Int), .int .u8 (x3 : Int)] 43)).cell? ⟨w.heap.size, 3, none⟩ = some (.int .u8 (x3 : Int)) := by simp [go_sem]
  have pal : w.heap.size < (w.alloc (.cells #[.int .u8 (x0 : Int), .int .u8 (x1 : Int), .int .u8 (x2 : Int), .int .u8 (x3 : Int)] 43)).heap.size := by simp <;> omega
  generalize w.alloc (.cells #[.int .u8 (x0 : Int), .int .u8 (x1 : Int), .int .u8 (x2 : Int), .int .u8 (x3 : Int)] 43) = v1 at *
  go_wp2_with fail
  refine (alive12_any _).mono ?_
  rintro e w2 ⟨rfl, b⟩
  replace pa0 := (b.cell (p := ⟨w.heap.size, 0, none⟩) pal).trans pa0
  replace pa1 := (b.cell (p := ⟨w.heap.size, 1, none⟩) pal).trans pa1
  replace pa2 := (b.cell (p := ⟨w.heap.size, 2, none⟩) pal).trans pa2
  replace pa3 := (b.cell (p := ⟨w.heap.size, 3, none⟩) pal).trans pa3
  replace pal := Nat.lt_of_lt_of_le pal b.size
  replace cc := cc.trans (b.mono cc.size)
  clear b
  go_wp2_with fail
  go_ret
  exact ⟨rfl, cc⟩

set_option maxRecDepth 100000 in
set_option maxHeartbeats 8000000 in
theorem CrcCuts_own {w : World} {A : Option Addr} {n c x0 x1 x2 x3 : Nat} {l : List Nat} (hA : BR w A n c l) (h : n ≤ 2000) (hx0 : x0 < 256) (hx1 : x1 < 256) (hx2 : x2 < 256) (hx3 : x3 < 256) (ho : l ++ [x0, x1, x2, x3] = putB l) :
    Calls Try.prog 7 #[.slice A n c, .agg #[.int .u8 (x0 : Int), .int .u8 (x1 : Int), .int .u8 (x2 : Int), .int .u8 (x3 : Int)]] w fun e w' => e = .returned (.bool true) ∧ Below w.heap.size w w' := by
  have t0 : decide (2000 < (n : Int)) = false := decide_eq_false (by omega)
  have u0 : decide (2000 < n) = false := decide_eq_false (by omega)
  have h8 : ∀ x ∈ l ++ [x0, x1, x2, x3], x < 256 := fun x hx => by rcases List.mem_append.1 hx with e | e; exact hA.2.2.1 x e; simp at e; omega
  have hlen : (l ++ [x0, x1, x2, x3]).length = n + 4 := by rw [List.length_append, ← hA.1]; rfl
  obtain ⟨c1_, c2_⟩ := cut_put (y := l ++ [x0, x1, x2, x3]) (l := l) ho
  have hsm : decide (l ++ [x0, x1, x2, x3] = putB l) = true := decide_eq_true ho
  have hH : l.map encB ++ [.int .u8 (x0 : Int), .int .u8 (x1 : Int), .int .u8 (x2 : Int), .int .u8 (x3 : Int)] = (l ++ [x0, x1, x2, x3]).map encB := by rw [List.map_append]; rfl
  have hbl : (putB l).length = n + 4 := by rw [putB_len, ← hA.1]
  have hQlt := putB_lt hA.2.2.1
  obtain ⟨Y, eY⟩ : ∃ Y, l ++ [x0, x1, x2, x3] = Y := ⟨_, rfl⟩
  obtain ⟨Z, eZ⟩ : ∃ Z, putB l = Z := ⟨_, rfl⟩
  rw [eY] at h8 hlen c1_ c2_ hsm hH
  rw [eZ] at hsm hbl hQlt
  have CU : ∀ {W : World} {C : Option Addr} {q e : Nat}, BR W C q e Y → Calls Try.prog 10 #[.slice C q e] W (GotBr W l 0) := fun h => by have hc := gCut_N h (by have := h.1; omega); rw [c1_, c2_] at hc; exact hc
  have CP : ∀ {W : World}, BR W A n c l → Calls Try.prog 18 #[.slice A n c] W (GotB W Z) := fun h => by have hc := gPutB_N h (by omega); rw [eZ] at hc; exact hc
  have CS : ∀ {W : World} {C D : Option Addr} {q e p d : Nat}, BR W C q e Y → BR W D p d Z → Calls Try.prog 17 #[.slice C q e, .slice D p d] W (GotV W (.bool true)) := fun h1 h2 => by have hc := rsameB_any h1 h2 (by have := h1.1; omega); rw [hsm] at hc; exact hc
  obtain ⟨q, hq⟩ : ∃ q, mn3 n = q := ⟨_, rfl⟩
  have q3 : q ≤ 3 ∧ q ≤ n := by unfold mn3 at hq; omega
  have hT := hA.take q3.2
  have CF : ∀ {W : World}, BR W A q c (l.take q) → Calls Try.prog 10 #[.slice A q c] W (GotBr W [] 3) := fun h => by have hc := gCut_N h (by omega); obtain ⟨e1, e2⟩ := cut_short (y := l.take q) (by rw [← h.1]; omega); rw [e1, e2] at hc; exact hc
  have hnc := hA.2.1
  have j0 : (0 : Int) ≤ (q : Int) := by omega
  have j1 : (q : Int) ≤ (c : Int) := by omega
  have j2 : (q : Int) ≤ (n : Int) := by omega
  have jn : q ≤ c := by omega
  have H8 := Lib.hid h8
  have HH := Lib.hid hH
  have HQ := Lib.hid q3
  clear ho h8 hlen c1_ c2_ hsm hH hbl hQlt eY eZ hnc q3
  have cc := Below.refl w.heap.size w
  go_enter Try.func7, Try.ntmps7
  go_upto_region 3 with fail
  have bA : Below w.heap.size w (w.alloc (.cells #[.int .u8 (x0 : Int), .int .u8 (x1 : Int), .int .u8 (x2 : Int), .int .u8 (x3 : Int)] 43)) := ((Below.refl _ w).alloc (by simp) _)
  replace hA := hA.on bA
  replace hT := hT.on bA
  replace cc := cc.trans (bA.mono cc.size)
  clear bA
  have pa0 : (w.alloc (.cells #[.int .u8 (x0 : Int), .int .u8 (x1 : Int), .int .u8 (x2 : Int), .int .u8 (x3 : Int)] 43)).cell? ⟨w.heap.size, 0, none⟩ = some (.int .u8 (x0 : Int)) := by simp [go_sem]
  have pa1 : (w.alloc (.cells #[.int .u8 (x0 : Int), .int .u8 (x1 : Int), .int .u8 (x2 : Int), .int .u8 (x3 : Int)] 43)).cell? ⟨w.heap.size, 1, none⟩ = some (.int .u8 (x1 : Int)) := by simp [go_sem]
  have pa2 : (w.alloc (.cells #[.int .u8 (x0 : Int), .int .u8 (x1 : Int), .int .u8 (x2 : Int), .int .u8 (x3 : Int)] 43)).cell? ⟨w.heap.size, 2, none⟩ = some (.int .u8 (x2 : Int)) := by simp [go_sem]
  have pa3 : (w.alloc (.cells #[.int .u8 (x0 : Int), .int .u8 (x1 : Int), .int .u8 (x2 : Int), .int .u8 (x3 : Int)] 43)).cell? ⟨w.heap.size, 3, none⟩ = some (.int .u8 (x3 : Int)) := by simp [go_sem]
  have pal : w.heap.size < (w.alloc (.cells #[.int .u8 (x0 : Int), .int .u8 (x1 : Int), .int .u8 (x2 : Int), .int .u8 (x3 : Int)] 43)).heap.size := by simp <;> omega
  generalize w.alloc (.cells #[.int .u8 (x0 : Int), .int .u8 (x1 : Int), .int .u8 (x2 : Int), .int .u8 (x3 : Int)] 43) = v1 at *
  go_cut [5] (fun v wx => ∃ C p e, v = .slice C p e ∧ BR wx C p e Y ∧ Below v1.heap.size v1 wx)
  case first =>
    obtain ⟨i0, hi, hz0, hz1, hz2⟩ := info_parts infoB
    obtain ⟨t, ht⟩ : ∃ t, v1.heap.size = t := ⟨_, rfl⟩
    have HT := Lib.hid ht
    have tw : t ≤ v1.heap.size := by omega
    have b00 : Below t v1 v1 := Below.refl t v1
    have o1 : ((v1.alloc (.cells #[] 5)).drew).ownsRow t 5 1 (.slice (some ⟨v1.heap.size, 0, none⟩) 0 0) 0 ([] : List Value) := (World.ownsRow_lit v1 #[] 0 tw (by unfold maxLen; omega) rfl).drew
    have o2 : (((v1.alloc (.cells #[] 5)).alloc (.cells #[.int .u8 (x0 : Int), .int .u8 (x1 : Int), .int .u8 (x2 : Int), .int .u8 (x3 : Int)] 5)).drew).ownsRow t 5 1 (.slice (some ⟨v1.heap.size, 0, none⟩) 0 0) 0 ([] : List Value) := ((World.ownsRow_lit v1 #[] 0 tw (by unfold maxLen; omega) rfl).alloc _).drew
    have o3 : (((v1.alloc (.cells #[.int .u8 (x0 : Int), .int .u8 (x1 : Int), .int .u8 (x2 : Int), .int .u8 (x3 : Int)] 5)).alloc (.cells #[] 5)).drew).ownsRow t 5 1 (.slice (some ⟨v1.heap.size + 1, 0, none⟩) 0 0) 0 ([] : List Value) := by have h := (World.ownsRow_lit (e := 5) (size := 1) (v1.alloc (.cells #[.int .u8 (x0 : Int), .int .u8 (x1 : Int), .int .u8 (x2 : Int), .int .u8 (x3 : Int)] 5)) #[] 0 (base := t) (by simp; omega) (by unfold maxLen; omega) rfl).drew; simpa using h
    have c1 : Below t v1 ((v1.alloc (.cells #[] 5)).drew) := below_drewN (b00.alloc tw _) 1
    have c2 : Below t v1 (((v1.alloc (.cells #[] 5)).alloc (.cells #[.int .u8 (x0 : Int), .int .u8 (x1 : Int), .int .u8 (x2 : Int), .int .u8 (x3 : Int)] 5)).drew) := below_drewN ((b00.alloc tw _).alloc (by simp; omega) _) 1
    have c3 : Below t v1 (((v1.alloc (.cells #[.int .u8 (x0 : Int), .int .u8 (x1 : Int), .int .u8 (x2 : Int), .int .u8 (x3 : Int)] 5)).alloc (.cells #[] 5)).drew) := below_drewN ((b00.alloc tw _).alloc (by simp; omega) _) 1
    have f2 : ∀ j u, [.int .u8 (x0 : Int), .int .u8 (x1 : Int), .int .u8 (x2 : Int), .int .u8 (x3 : Int)][j]? = some u → (((v1.alloc (.cells #[] 5)).alloc (.cells #[.int .u8 (x0 : Int), .int .u8 (x1 : Int), .int .u8 (x2 : Int), .int .u8 (x3 : Int)] 5)).drew).cell? ((⟨v1.heap.size + 1, 0, none⟩ : Addr).add j) = some u := by have h := four_new (v1.alloc (.cells #[] 5)) (.int .u8 (x0 : Int)) (.int .u8 (x1 : Int)) (.int .u8 (x2 : Int)) (.int .u8 (x3 : Int)) 5; simpa using h
    have f3 : ∀ j u, [.int .u8 (x0 : Int), .int .u8 (x1 : Int), .int .u8 (x2 : Int), .int .u8 (x3 : Int)][j]? = some u → (((v1.alloc (.cells #[.int .u8 (x0 : Int), .int .u8 (x1 : Int), .int .u8 (x2 : Int), .int .u8 (x3 : Int)] 5)).alloc (.cells #[] 5)).drew).cell? ((⟨v1.heap.size, 0, none⟩ : Addr).add j) = some u := fun j u e => by have h := four_new v1 (.int .u8 (x0 : Int)) (.int .u8 (x1 : Int)) (.int .u8 (x2 : Int)) (.int .u8 (x3 : Int)) 5 j u e; rw [addr_add] at h ⊢; exact cell_over h
    have HA8 := Lib.hid hA.2.2.1
    have HL := Lib.hid hA.1
    have hll : (l.map encB).length = n * 1 := by rw [List.length_map, ← hA.1]; omega
    clear CU CP CS CF hT ht
    have cells4 : ∀ {W : World}, Below v1.heap.size v1 W → w.heap.size < v1.heap.size → v1.cell? ⟨w.heap.size, 0, none⟩ = some (.int .u8 (x0 : Int)) → v1.cell? ⟨w.heap.size, 1, none⟩ = some (.int .u8 (x1 : Int)) → v1.cell? ⟨w.heap.size, 2, none⟩ = some (.int .u8 (x2 : Int)) → v1.cell? ⟨w.heap.size, 3, none⟩ = some (.int .u8 (x3 : Int)) → W.cell? ⟨w.heap.size, 0, none⟩ = some (.int .u8 (x0 : Int)) ∧ W.cell? ⟨w.heap.size, 1, none⟩ = some (.int .u8 (x1 : Int)) ∧ W.cell? ⟨w.heap.size, 2, none⟩ = some (.int .u8 (x2 : Int)) ∧ W.cell? ⟨w.heap.size, 3, none⟩ = some (.int .u8 (x3 : Int)) := fun b l h0 h1 h2 h3 => ⟨(b.cell (p := ⟨w.heap.size, 0, none⟩) l).trans h0, (b.cell (p := ⟨w.heap.size, 1, none⟩) l).trans h1, (b.cell (p := ⟨w.heap.size, 2, none⟩) l).trans h2, (b.cell (p := ⟨w.heap.size, 3, none⟩) l).trans h3⟩
    rcases Nat.eq_zero_or_pos n with n0 | n0
    · skip
      have e0 : l = [] := List.eq_nil_of_length_eq_zero (by have := HL.out; omega)
      subst n0
      subst e0
      have HH2 : Hid ([.int .u8 (x0 : Int), .int .u8 (x1 : Int), .int .u8 (x2 : Int), .int .u8 (x3 : Int)] = Y.map encB) := Lib.hid (by have h := HH.out; simpa using h)
      clear hA
      go_region_held3 (fun w' => w'.cell? ⟨w.heap.size, 0, none⟩ = some (.int .u8 (x0 : Int)) ∧ w'.cell? ⟨w.heap.size, 1, none⟩ = some (.int .u8 (x1 : Int)) ∧ w'.cell? ⟨w.heap.size, 2, none⟩ = some (.int .u8 (x2 : Int)) ∧ w'.cell? ⟨w.heap.size, 3, none⟩ = some (.int .u8 (x3 : Int)))
        (first | exact ⟨pa0, pa1, pa2, pa3⟩ | with_reducible exact ⟨cell_over (pa0), cell_over (pa1), cell_over (pa2), cell_over (pa3)⟩ | with_reducible exact ⟨cell_over (cell_over (pa0)), cell_over (cell_over (pa1)), cell_over (cell_over (pa2)), cell_over (cell_over (pa3))⟩ | exact cell2 | go_keep)
        (first
          | (refine append_zero_step rfl _ _ 23 rfl 5 i0 Try.underlying23 hi _ _ _ _ _ rfl rfl (by omega) ?_)
          | (refine step_append_lies _ rfl _ _ 23 rfl t 5 i0 (.int .u8 0) 1 1 Try.underlying23 hi hz0 hz1 hz2 rfl (by decide) _ 0 [] rfl o2 ⟨v1.heap.size + 1, 0, none⟩ 4 4 [.int .u8 (x0 : Int), .int .u8 (x1 : Int), .int .u8 (x2 : Int), .int .u8 (x3 : Int)] rfl (by simp) f2 (by simp [Value.oneCell']) (by omega) (by unfold maxLen; omega) (by omega) (by have := HT.out; first | omega | (simp; omega)) _ rfl ?_; intro g2 cap2 w4 hown2 hgrow2 hat2 hlt2; have b2 := c2.grown hgrow2 (by have := HT.out; simp; omega) (fun q e => by injection (show some v1.heap.size = some q from e) with e1; have := HT.out; omega); have cell2 := cells4 (show Below v1.heap.size v1 w4 by rw [HT.out]; exact b2) pal pa0 pa1 pa2 pa3)
          | (refine step_append_lies _ rfl _ _ 23 rfl t 5 i0 (.int .u8 0) 1 1 Try.underlying23 hi hz0 hz1 hz2 rfl (by decide) _ 0 [] rfl o3 ⟨v1.heap.size, 0, none⟩ 4 4 [.int .u8 (x0 : Int), .int .u8 (x1 : Int), .int .u8 (x2 : Int), .int .u8 (x3 : Int)] rfl (by simp) f3 (by simp [Value.oneCell']) (by omega) (by unfold maxLen; omega) (by omega) (by have := HT.out; first | omega | (simp; omega)) _ rfl ?_; intro g2 cap2 w4 hown2 hgrow2 hat2 hlt2; have b2 := c3.grown hgrow2 (by have := HT.out; simp; omega) (fun q e => by injection (show some (v1.heap.size + 1) = some q from e) with e1; have := HT.out; omega); have cell2 := cells4 (show Below v1.heap.size v1 w4 by rw [HT.out]; exact b2) pal pa0 pa1 pa2 pa3))
      all_goals (rw [List.nil_append, HH2.out] at hown2)
      all_goals (go_wp2_with fail; go_meet)
      all_goals exact ⟨_, _, _, rfl, BR.of_own hown2 H8.out, by rw [HT.out]; exact b2⟩
    · skip
      obtain ⟨bb, off, eA, hbb⟩ := hA.some n0
      subst eA
      have n1 := br_news hA (show Below v1.heap.size v1 _ by rw [HT.out]; exact c1)
      have n2 := br_news hA (show Below v1.heap.size v1 _ by rw [HT.out]; exact c2)
      have n3 := br_news hA (show Below v1.heap.size v1 _ by rw [HT.out]; exact c3)
      clear hA
      go_region_held3 (fun w' => w'.cell? ⟨w.heap.size, 0, none⟩ = some (.int .u8 (x0 : Int)) ∧ w'.cell? ⟨w.heap.size, 1, none⟩ = some (.int .u8 (x1 : Int)) ∧ w'.cell? ⟨w.heap.size, 2, none⟩ = some (.int .u8 (x2 : Int)) ∧ w'.cell? ⟨w.heap.size, 3, none⟩ = some (.int .u8 (x3 : Int)))
        (first | exact ⟨pa0, pa1, pa2, pa3⟩ | with_reducible exact ⟨cell_over (pa0), cell_over (pa1), cell_over (pa2), cell_over (pa3)⟩ | with_reducible exact ⟨cell_over (cell_over (pa0)), cell_over (cell_over (pa1)), cell_over (cell_over (pa2)), cell_over (cell_over (pa3))⟩ | exact cell1 | exact ⟨cell_over cell1.1, cell_over cell1.2.1, cell_over cell1.2.2.1, cell_over cell1.2.2.2⟩ | exact cell2 | go_keep)
        (first
          | (refine step_append_lies _ rfl _ _ 23 rfl t 5 i0 (.int .u8 0) 1 1 Try.underlying23 hi hz0 hz1 hz2 rfl (by decide) _ 0 [] rfl o1 ⟨bb, off, none⟩ n c (l.map encB) rfl hll n1 (fun u hu => by obtain ⟨x, _, rfl⟩ := List.mem_map.1 hu; rfl) (by omega) (by unfold maxLen; omega) (by omega) (by have := HT.out; first | omega | (simp; omega)) _ rfl ?_; intro g1 cap1 w1 hown1 hgrow1 hat1 hlt1; have b1 := c1.grown hgrow1 (by have := HT.out; simp; omega) (fun q e => by injection (show some (v1.heap.size) = some q from e) with e1; have := HT.out; omega); have bV : Below v1.heap.size v1 w1 := (by rw [HT.out]; exact b1); have cell1 := cells4 bV pal pa0 pa1 pa2 pa3; rw [List.nil_append] at hown1; have hownZ := hown1; rw [Nat.zero_add] at hown1; have hts : t ≤ w1.heap.size := (by have := bV.size; have := HT.out; omega))
          | (refine step_append_lies _ rfl _ _ 23 rfl t 5 i0 (.int .u8 0) 1 1 Try.underlying23 hi hz0 hz1 hz2 rfl (by decide) _ 0 [] rfl o2 ⟨bb, off, none⟩ n c (l.map encB) rfl hll n2 (fun u hu => by obtain ⟨x, _, rfl⟩ := List.mem_map.1 hu; rfl) (by omega) (by unfold maxLen; omega) (by omega) (by have := HT.out; first | omega | (simp; omega)) _ rfl ?_; intro g1 cap1 w1 hown1 hgrow1 hat1 hlt1; have b1 := c2.grown hgrow1 (by have := HT.out; simp; omega) (fun q e => by injection (show some (v1.heap.size) = some q from e) with e1; have := HT.out; omega); have bV : Below v1.heap.size v1 w1 := (by rw [HT.out]; exact b1); have cell1 := cells4 bV pal pa0 pa1 pa2 pa3; rw [List.nil_append] at hown1; have hownZ := hown1; rw [Nat.zero_add] at hown1; have hts : t ≤ w1.heap.size := (by have := bV.size; have := HT.out; omega); have f4 := four_kept (E := v1.heap.size) (F := v1.heap.size + 1) hgrow1 f2 (by omega) (by first | (simp; done) | (simp; omega)); have hg1 := (hown1.lt g1 rfl).1)
          | (refine step_append_lies _ rfl _ _ 23 rfl t 5 i0 (.int .u8 0) 1 1 Try.underlying23 hi hz0 hz1 hz2 rfl (by decide) _ 0 [] rfl o3 ⟨bb, off, none⟩ n c (l.map encB) rfl hll n3 (fun u hu => by obtain ⟨x, _, rfl⟩ := List.mem_map.1 hu; rfl) (by omega) (by unfold maxLen; omega) (by omega) (by have := HT.out; first | omega | (simp; omega)) _ rfl ?_; intro g1 cap1 w1 hown1 hgrow1 hat1 hlt1; have b1 := c3.grown hgrow1 (by have := HT.out; simp; omega) (fun q e => by injection (show some (v1.heap.size + 1) = some q from e) with e1; have := HT.out; omega); have bV : Below v1.heap.size v1 w1 := (by rw [HT.out]; exact b1); have cell1 := cells4 bV pal pa0 pa1 pa2 pa3; rw [List.nil_append] at hown1; have hownZ := hown1; rw [Nat.zero_add] at hown1; have hts : t ≤ w1.heap.size := (by have := bV.size; have := HT.out; omega); have f4 := four_kept (E := v1.heap.size + 1) (F := v1.heap.size) hgrow1 f3 (by omega) (by first | (simp; done) | (simp; omega)); have hg1 := (hown1.lt g1 rfl).1)
          | (refine step_append_lies _ rfl _ _ 23 rfl t 5 i0 (.int .u8 0) 1 1 Try.underlying23 hi hz0 hz1 hz2 rfl (by decide) _ (0 + n) (l.map encB) rfl hownZ ⟨v1.heap.size + 1, 0, none⟩ 4 4 [.int .u8 (x0 : Int), .int .u8 (x1 : Int), .int .u8 (x2 : Int), .int .u8 (x3 : Int)] rfl (by simp) f4 (by simp [Value.oneCell']) (by omega) (by unfold maxLen; omega) (by omega) (by have := HT.out; first | omega | (simp; omega)) _ rfl ?_; intro g2 cap2 w4 hown2 hgrow2 hat2 hlt2; have b2 := b1.grown hgrow2 (by first | omega | (simp; omega)) (fun q e => by injection (show some g1 = some q from e) with e1; omega); have cell2 := cells4 (show Below v1.heap.size v1 w4 by rw [HT.out]; exact b2) pal pa0 pa1 pa2 pa3)
          | (refine step_append_lies _ rfl _ _ 23 rfl t 5 i0 (.int .u8 0) 1 1 Try.underlying23 hi hz0 hz1 hz2 rfl (by decide) _ (0 + n) (l.map encB) rfl hownZ ⟨v1.heap.size, 0, none⟩ 4 4 [.int .u8 (x0 : Int), .int .u8 (x1 : Int), .int .u8 (x2 : Int), .int .u8 (x3 : Int)] rfl (by simp) f4 (by simp [Value.oneCell']) (by omega) (by unfold maxLen; omega) (by omega) (by have := HT.out; first | omega | (simp; omega)) _ rfl ?_; intro g2 cap2 w4 hown2 hgrow2 hat2 hlt2; have b2 := b1.grown hgrow2 (by first | omega | (simp; omega)) (fun q e => by injection (show some g1 = some q from e) with e1; omega); have cell2 := cells4 (show Below v1.heap.size v1 w4 by rw [HT.out]; exact b2) pal pa0 pa1 pa2 pa3)
          | (have hg1 := (hown1.lt g1 rfl).1; refine step_append_lies _ rfl _ _ 23 rfl t 5 i0 (.int .u8 0) 1 1 Try.underlying23 hi hz0 hz1 hz2 rfl (by decide) _ n (l.map encB) rfl (hown1.alloc _) ⟨w1.heap.size, 0, none⟩ 4 4 [.int .u8 (x0 : Int), .int .u8 (x1 : Int), .int .u8 (x2 : Int), .int .u8 (x3 : Int)] rfl (by simp) (four_new _ _ _ _ _ _) (by simp [Value.oneCell']) (by omega) (by unfold maxLen; omega) (by omega) (by have := HT.out; first | omega | (simp; omega)) _ rfl ?_; intro g2 cap2 w4 hown2 hgrow2 hat2 hlt2; have b2 := (b1.alloc hts _).grown hgrow2 (by first | omega | (simp; omega)) (fun q e => by injection (show some g1 = some q from e) with e1; omega); have cell2 := cells4 (show Below v1.heap.size v1 w4 by rw [HT.out]; exact b2) pal pa0 pa1 pa2 pa3))
      all_goals (rw [HH.out] at hown2)
      all_goals (try rw [Nat.zero_add] at hown2)
      all_goals (go_wp2_with fail; go_meet)
      all_goals exact ⟨_, _, _, rfl, BR.of_own hown2 H8.out, by rw [HT.out]; exact b2⟩
  case rest =>
    obtain ⟨C, p, e, rfl, hC, b⟩ := hcut
    replace hA := hA.on b
    replace hT := hT.on b
    replace pa0 := (b.cell (p := ⟨w.heap.size, 0, none⟩) pal).trans pa0
    replace pa1 := (b.cell (p := ⟨w.heap.size, 1, none⟩) pal).trans pa1
    replace pa2 := (b.cell (p := ⟨w.heap.size, 2, none⟩) pal).trans pa2
    replace pa3 := (b.cell (p := ⟨w.heap.size, 3, none⟩) pal).trans pa3
    replace pal := Nat.lt_of_lt_of_le pal b.size
    replace cc := cc.trans (b.mono cc.size)
    clear b
    go_wp2_with fail
    refine (CU hC).mono ?_
    rintro e w2 ⟨Ay, ny, cy, rfl, hy, b⟩
    replace hA := hA.on b
    replace hT := hT.on b
    replace hC := hC.on b
    replace pa0 := (b.cell (p := ⟨w.heap.size, 0, none⟩) pal).trans pa0
    replace pa1 := (b.cell (p := ⟨w.heap.size, 1, none⟩) pal).trans pa1
    replace pa2 := (b.cell (p := ⟨w.heap.size, 2, none⟩) pal).trans pa2
    replace pa3 := (b.cell (p := ⟨w.heap.size, 3, none⟩) pal).trans pa3
    replace pal := Nat.lt_of_lt_of_le pal b.size
    replace cc := cc.trans (b.mono cc.size)
    clear b
    go_wp2_with fail
    refine (CP hA).mono ?_
    rintro e w3 ⟨Au, nu, cu, rfl, hu, b⟩
    replace hA := hA.on b
    replace hT := hT.on b
    replace hC := hC.on b
    replace hy := hy.on b
    replace pa0 := (b.cell (p := ⟨w.heap.size, 0, none⟩) pal).trans pa0
    replace pa1 := (b.cell (p := ⟨w.heap.size, 1, none⟩) pal).trans pa1
    replace pa2 := (b.cell (p := ⟨w.heap.size, 2, none⟩) pal).trans pa2
    replace pa3 := (b.cell (p := ⟨w.heap.size, 3, none⟩) pal).trans pa3
    replace pal := Nat.lt_of_lt_of_le pal b.size
    replace cc := cc.trans (b.mono cc.size)
    clear b
    go_wp2_with fail
    refine (CS hC hu).mono ?_
    rintro e w4 ⟨rfl, b⟩
    replace hA := hA.on b
    replace hT := hT.on b
    replace hC := hC.on b
    replace hy := hy.on b
    replace hu := hu.on b
    replace pa0 := (b.cell (p := ⟨w.heap.size, 0, none⟩) pal).trans pa0
    replace pa1 := (b.cell (p := ⟨w.heap.size, 1, none⟩) pal).trans pa1
    replace pa2 := (b.cell (p := ⟨w.heap.size, 2, none⟩) pal).trans pa2
    replace pa3 := (b.cell (p := ⟨w.heap.size, 3, none⟩) pal).trans pa3
    replace pal := Nat.lt_of_lt_of_le pal b.size
    replace cc := cc.trans (b.mono cc.size)
    clear b
    clear hC hu
    go_wp2_with fail
    refine (CF hT).mono ?_
    rintro e w5 ⟨Az, nz, cz, rfl, hz, b⟩
    replace hA := hA.on b
    replace hT := hT.on b
    replace hy := hy.on b
    replace pa0 := (b.cell (p := ⟨w.heap.size, 0, none⟩) pal).trans pa0
    replace pa1 := (b.cell (p := ⟨w.heap.size, 1, none⟩) pal).trans pa1
    replace pa2 := (b.cell (p := ⟨w.heap.size, 2, none⟩) pal).trans pa2
    replace pa3 := (b.cell (p := ⟨w.heap.size, 3, none⟩) pal).trans pa3
    replace pal := Nat.lt_of_lt_of_le pal b.size
    replace cc := cc.trans (b.mono cc.size)
    clear b
    go_wp2_with fail
    refine (alive12_any _).mono ?_
    rintro e w6 ⟨rfl, b⟩
    replace hA := hA.on b
    replace hT := hT.on b
    replace hy := hy.on b
    replace hz := hz.on b
    replace pa0 := (b.cell (p := ⟨w.heap.size, 0, none⟩) pal).trans pa0
    replace pa1 := (b.cell (p := ⟨w.heap.size, 1, none⟩) pal).trans pa1
    replace pa2 := (b.cell (p := ⟨w.heap.size, 2, none⟩) pal).trans pa2
    replace pa3 := (b.cell (p := ⟨w.heap.size, 3, none⟩) pal).trans pa3
    replace pal := Nat.lt_of_lt_of_le pal b.size
    replace cc := cc.trans (b.mono cc.size)
    clear b
    go_wp2_with fail
    refine (rsameB_self hy hA (by rw [hy.1, ← hA.1]; omega)).mono ?_
    rintro e w7 ⟨rfl, b⟩
    replace hA := hA.on b
    replace hT := hT.on b
    replace hy := hy.on b
    replace hz := hz.on b
    replace pa0 := (b.cell (p := ⟨w.heap.size, 0, none⟩) pal).trans pa0
    replace pa1 := (b.cell (p := ⟨w.heap.size, 1, none⟩) pal).trans pa1
    replace pa2 := (b.cell (p := ⟨w.heap.size, 2, none⟩) pal).trans pa2
    replace pa3 := (b.cell (p := ⟨w.heap.size, 3, none⟩) pal).trans pa3
    replace pal := Nat.lt_of_lt_of_le pal b.size
    replace cc := cc.trans (b.mono cc.size)
    clear b
    go_wp2_with fail
    go_ret
    exact ⟨rfl, cc⟩

set_option maxRecDepth 100000 in
set_option maxHeartbeats 8000000 in
theorem CrcCuts_not {w : World} {A : Option Addr} {n c x0 x1 x2 x3 : Nat} {l : List Nat} (hA : BR w A n c l) (h : n ≤ 2000) (hx0 : x0 < 256) (hx1 : x1 < 256) (hx2 : x2 < 256) (hx3 : x3 < 256) (ho : l ++ [x0, x1, x2, x3] ≠ putB l) :
    Calls Try.prog 7 #[.slice A n c, .agg #[.int .u8 (x0 : Int), .int .u8 (x1 : Int), .int .u8 (x2 : Int), .int .u8 (x3 : Int)]] w fun e w' => e = .returned (.bool true) ∧ Below w.heap.size w w' := by
  have t0 : decide (2000 < (n : Int)) = false := decide_eq_false (by omega)
  have u0 : decide (2000 < n) = false := decide_eq_false (by omega)
  have h8 : ∀ x ∈ l ++ [x0, x1, x2, x3], x < 256 := fun x hx => by rcases List.mem_append.1 hx with e | e; exact hA.2.2.1 x e; simp at e; omega
  have hlen : (l ++ [x0, x1, x2, x3]).length = n + 4 := by rw [List.length_append, ← hA.1]; rfl
  obtain ⟨c1_, c2_⟩ := cut_ne (y := l ++ [x0, x1, x2, x3]) (by omega) (by rw [hlen, show n + 4 - 4 = l.length by rw [← hA.1]; omega, List.take_left]; exact ho)
  have hsm : decide (l ++ [x0, x1, x2, x3] = putB l) = false := decide_eq_false ho
  have hH : l.map encB ++ [.int .u8 (x0 : Int), .int .u8 (x1 : Int), .int .u8 (x2 : Int), .int .u8 (x3 : Int)] = (l ++ [x0, x1, x2, x3]).map encB := by rw [List.map_append]; rfl
  have hbl : (putB l).length = n + 4 := by rw [putB_len, ← hA.1]
  have hQlt := putB_lt hA.2.2.1
  obtain ⟨Y, eY⟩ : ∃ Y, l ++ [x0, x1, x2, x3] = Y := ⟨_, rfl⟩
  obtain ⟨Z, eZ⟩ : ∃ Z, putB l = Z := ⟨_, rfl⟩
  rw [eY] at h8 hlen c1_ c2_ hsm hH
  rw [eZ] at hsm hbl hQlt
  have CU : ∀ {W : World} {C : Option Addr} {q e : Nat}, BR W C q e Y → Calls Try.prog 10 #[.slice C q e] W (GotBr W [] 8) := fun h => by have hc := gCut_N h (by have := h.1; omega); rw [c1_, c2_] at hc; exact hc
  have CP : ∀ {W : World}, BR W A n c l → Calls Try.prog 18 #[.slice A n c] W (GotB W Z) := fun h => by have hc := gPutB_N h (by omega); rw [eZ] at hc; exact hc
  have CS : ∀ {W : World} {C D : Option Addr} {q e p d : Nat}, BR W C q e Y → BR W D p d Z → Calls Try.prog 17 #[.slice C q e, .slice D p d] W (GotV W (.bool false)) := fun h1 h2 => by have hc := rsameB_any h1 h2 (by have := h1.1; omega); rw [hsm] at hc; exact hc
  obtain ⟨q, hq⟩ : ∃ q, mn3 n = q := ⟨_, rfl⟩
  have q3 : q ≤ 3 ∧ q ≤ n := by unfold mn3 at hq; omega
  have hT := hA.take q3.2
  have CF : ∀ {W : World}, BR W A q c (l.take q) → Calls Try.prog 10 #[.slice A q c] W (GotBr W [] 3) := fun h => by have hc := gCut_N h (by omega); obtain ⟨e1, e2⟩ := cut_short (y := l.take q) (by rw [← h.1]; omega); rw [e1, e2] at hc; exact hc
  have hnc := hA.2.1
  have j0 : (0 : Int) ≤ (q : Int) := by omega
  have j1 : (q : Int) ≤ (c : Int) := by omega
  have j2 : (q : Int) ≤ (n : Int) := by omega
  have jn : q ≤ c := by omega
  have H8 := Lib.hid h8
  have HH := Lib.hid hH
  have HQ := Lib.hid q3
  clear ho h8 hlen c1_ c2_ hsm hH hbl hQlt eY eZ hnc q3
  have cc := Below.refl w.heap.size w
  go_enter Try.func7, Try.ntmps7
  go_upto_region 3 with fail
  have bA : Below w.heap.size w (w.alloc (.cells #[.int .u8 (x0 : Int), .int .u8 (x1 : Int), .int .u8 (x2 : Int), .int .u8 (x3 : Int)] 43)) := ((Below.refl _ w).alloc (by simp) _)
  replace hA := hA.on bA
  replace hT := hT.on bA
  replace cc := cc.trans (bA.mono cc.size)
  clear bA
  have pa0 : (w.alloc (.cells #[.int .u8 (x0 : Int), .int .u8 (x1 : Int), .int .u8 (x2 : Int), .int .u8 (x3 : Int)] 43)).cell? ⟨w.heap.size, 0, none⟩ = some (.int .u8 (x0 : Int)) := by simp [go_sem]
  have pa1 : (w.alloc (.cells #[.int .u8 (x0 : Int), .int .u8 (x1 : Int), .int .u8 (x2 : Int), .int .u8 (x3 : Int)] 43)).cell? ⟨w.heap.size, 1, none⟩ = some (.int .u8 (x1 : Int)) := by simp [go_sem]
  have pa2 : (w.alloc (.cells #[.int .u8 (x0 : Int), .int .u8 (x1 : Int), .int .u8 (x2 : Int), .int .u8 (x3 : Int)] 43)).cell? ⟨w.heap.size, 2, none⟩ = some (.int .u8 (x2 : Int)) := by simp [go_sem]
  have pa3 : (w.alloc (.cells #[.int .u8 (x0 : Int), .int .u8 (x1 : Int), .int .u8 (x2 : Int), .int .u8 (x3 : Int)] 43)).cell? ⟨w.heap.size, 3, none⟩ = some (.int .u8 (x3 : Int)) := by simp [go_sem]
  have pal : w.heap.size < (w.alloc (.cells #[.int .u8 (x0 : Int), .int .u8 (x1 : Int), .int .u8 (x2 : Int), .int .u8 (x3 : Int)] 43)).heap.size := by simp <;> omega
  generalize w.alloc (.cells #[.int .u8 (x0 : Int), .int .u8 (x1 : Int), .int .u8 (x2 : Int), .int .u8 (x3 : Int)] 43) = v1 at *
  go_cut [5] (fun v wx => ∃ C p e, v = .slice C p e ∧ BR wx C p e Y ∧ Below v1.heap.size v1 wx)
  case first =>
    obtain ⟨i0, hi, hz0, hz1, hz2⟩ := info_parts infoB
    obtain ⟨t, ht⟩ : ∃ t, v1.heap.size = t := ⟨_, rfl⟩
    have HT := Lib.hid ht
    have tw : t ≤ v1.heap.size := by omega
    have b00 : Below t v1 v1 := Below.refl t v1
    have o1 : ((v1.alloc (.cells #[] 5)).drew).ownsRow t 5 1 (.slice (some ⟨v1.heap.size, 0, none⟩) 0 0) 0 ([] : List Value) := (World.ownsRow_lit v1 #[] 0 tw (by unfold maxLen; omega) rfl).drew
    have o2 : (((v1.alloc (.cells #[] 5)).alloc (.cells #[.int .u8 (x0 : Int), .int .u8 (x1 : Int), .int .u8 (x2 : Int), .int .u8 (x3 : Int)] 5)).drew).ownsRow t 5 1 (.slice (some ⟨v1.heap.size, 0, none⟩) 0 0) 0 ([] : List Value) := ((World.ownsRow_lit v1 #[] 0 tw (by unfold maxLen; omega) rfl).alloc _).drew
    have o3 : (((v1.alloc (.cells #[.int .u8 (x0 : Int), .int .u8 (x1 : Int), .int .u8 (x2 : Int), .int .u8 (x3 : Int)] 5)).alloc (.cells #[] 5)).drew).ownsRow t 5 1 (.slice (some ⟨v1.heap.size + 1, 0, none⟩) 0 0) 0 ([] : List Value) := by have h := (World.ownsRow_lit (e := 5) (size := 1) (v1.alloc (.cells #[.int .u8 (x0 : Int), .int .u8 (x1 : Int), .int .u8 (x2 : Int), .int .u8 (x3 : Int)] 5)) #[] 0 (base := t) (by simp; omega) (by unfold maxLen; omega) rfl).drew; simpa using h
    have c1 : Below t v1 ((v1.alloc (.cells #[] 5)).drew) := below_drewN (b00.alloc tw _) 1
    have c2 : Below t v1 (((v1.alloc (.cells #[] 5)).alloc (.cells #[.int .u8 (x0 : Int), .int .u8 (x1 : Int), .int .u8 (x2 : Int), .int .u8 (x3 : Int)] 5)).drew) := below_drewN ((b00.alloc tw _).alloc (by simp; omega) _) 1
    have c3 : Below t v1 (((v1.alloc (.cells #[.int .u8 (x0 : Int), .int .u8 (x1 : Int), .int .u8 (x2 : Int), .int .u8 (x3 : Int)] 5)).alloc (.cells #[] 5)).drew) := below_drewN ((b00.alloc tw _).alloc (by simp; omega) _) 1
    have f2 : ∀ j u, [.int .u8 (x0 : Int), .int .u8 (x1 : Int), .int .u8 (x2 : Int), .int .u8 (x3 : Int)][j]? = some u → (((v1.alloc (.cells #[] 5)).alloc (.cells #[.int .u8 (x0 : Int), .int .u8 (x1 : Int), .int .u8 (x2 : Int), .int .u8 (x3 : Int)] 5)).drew).cell? ((⟨v1.heap.size + 1, 0, none⟩ : Addr).add j) = some u := by have h := four_new (v1.alloc (.cells #[] 5)) (.int .u8 (x0 : Int)) (.int .u8 (x1 : Int)) (.int .u8 (x2 : Int)) (.int .u8 (x3 : Int)) 5; simpa using h
    have f3 : ∀ j u, [.int .u8 (x0 : Int), .int .u8 (x1 : Int), .int .u8 (x2 : Int), .int .u8 (x3 : Int)][j]? = some u → (((v1.alloc (.cells #[.int .u8 (x0 : Int), .int .u8 (x1 : Int), .int .u8 (x2 : Int), .int .u8 (x3 : Int)] 5)).alloc (.cells #[] 5)).drew).cell? ((⟨v1.heap.size, 0, none⟩ : Addr).add j) = some u := fun j u e => by have h := four_new v1 (.int .u8 (x0 : Int)) (.int .u8 (x1 : Int)) (.int .u8 (x2 : Int)) (.int .u8 (x3 : Int)) 5 j u e; rw [addr_add] at h ⊢; exact cell_over h
    have HA8 := Lib.hid hA.2.2.1
    have HL := Lib.hid hA.1
    have hll : (l.map encB).length = n * 1 := by rw [List.length_map, ← hA.1]; omega
    clear CU CP CS CF hT ht
    have cells4 : ∀ {W : World}, Below v1.heap.size v1 W → w.heap.size < v1.heap.size → v1.cell? ⟨w.heap.size, 0, none⟩ = some (.int .u8 (x0 : Int)) → v1.cell? ⟨w.heap.size, 1, none⟩ = some (.int .u8 (x1 : Int)) → v1.cell? ⟨w.heap.size, 2, none⟩ = some (.int .u8 (x2 : Int)) → v1.cell? ⟨w.heap.size, 3, none⟩ = some (.int .u8 (x3 : Int)) → W.cell? ⟨w.heap.size, 0, none⟩ = some (.int .u8 (x0 : Int)) ∧ W.cell? ⟨w.heap.size, 1, none⟩ = some (.int .u8 (x1 : Int)) ∧ W.cell? ⟨w.heap.size, 2, none⟩ = some (.int .u8 (x2 : Int)) ∧ W.cell? ⟨w.heap.size, 3, none⟩ = some (.int .u8 (x3 : Int)) := fun b l h0 h1 h2 h3 => ⟨(b.cell (p := ⟨w.heap.size, 0, none⟩) l).trans h0, (b.cell (p := ⟨w.heap.size, 1, none⟩) l).trans h1, (b.cell (p := ⟨w.heap.size, 2, none⟩) l).trans h2, (b.cell (p := ⟨w.heap.size, 3, none⟩) l).trans h3⟩
    rcases Nat.eq_zero_or_pos n with n0 | n0
    · skip
      have e0 : l = [] := List.eq_nil_of_length_eq_zero (by have := HL.out; omega)
      subst n0
      subst e0
      have HH2 : Hid ([.int .u8 (x0 : Int), .int .u8 (x1 : Int), .int .u8 (x2 : Int), .int .u8 (x3 : Int)] = Y.map encB) := Lib.hid (by have h := HH.out; simpa using h)
      clear hA
      go_region_held3 (fun w' => w'.cell? ⟨w.heap.size, 0, none⟩ = some (.int .u8 (x0 : Int)) ∧ w'.cell? ⟨w.heap.size, 1, none⟩ = some (.int .u8 (x1 : Int)) ∧ w'.cell? ⟨w.heap.size, 2, none⟩ = some (.int .u8 (x2 : Int)) ∧ w'.cell? ⟨w.heap.size, 3, none⟩ = some (.int .u8 (x3 : Int)))
        (first | exact ⟨pa0, pa1, pa2, pa3⟩ | with_reducible exact ⟨cell_over (pa0), cell_over (pa1), cell_over (pa2), cell_over (pa3)⟩ | with_reducible exact ⟨cell_over (cell_over (pa0)), cell_over (cell_over (pa1)), cell_over (cell_over (pa2)), cell_over (cell_over (pa3))⟩ | exact cell2 | go_keep)
        (first
          | (refine append_zero_step rfl _ _ 23 rfl 5 i0 Try.underlying23 hi _ _ _ _ _ rfl rfl (by omega) ?_)
          | (refine step_append_lies _ rfl _ _ 23 rfl t 5 i0 (.int .u8 0) 1 1 Try.underlying23 hi hz0 hz1 hz2 rfl (by decide) _ 0 [] rfl o2 ⟨v1.heap.size + 1, 0, none⟩ 4 4 [.int .u8 (x0 : Int), .int .u8 (x1 : Int), .int .u8 (x2 : Int), .int .u8 (x3 : Int)] rfl (by simp) f2 (by simp [Value.oneCell']) (by omega) (by unfold maxLen; omega) (by omega) (by have := HT.out; first | omega | (simp; omega)) _ rfl ?_; intro g2 cap2 w4 hown2 hgrow2 hat2 hlt2; have b2 := c2.grown hgrow2 (by have := HT.out; simp; omega) (fun q e => by injection (show some v1.heap.size = some q from e) with e1; have := HT.out; omega); have cell2 := cells4 (show Below v1.heap.size v1 w4 by rw [HT.out]; exact b2) pal pa0 pa1 pa2 pa3)
          | (refine step_append_lies _ rfl _ _ 23 rfl t 5 i0 (.int .u8 0) 1 1 Try.underlying23 hi hz0 hz1 hz2 rfl (by decide) _ 0 [] rfl o3 ⟨v1.heap.size, 0, none⟩ 4 4 [.int .u8 (x0 : Int), .int .u8 (x1 : Int), .int .u8 (x2 : Int), .int .u8 (x3 : Int)] rfl (by simp) f3 (by simp [Value.oneCell']) (by omega) (by unfold maxLen; omega) (by omega) (by have := HT.out; first | omega | (simp; omega)) _ rfl ?_; intro g2 cap2 w4 hown2 hgrow2 hat2 hlt2; have b2 := c3.grown hgrow2 (by have := HT.out; simp; omega) (fun q e => by injection (show some (v1.heap.size + 1) = some q from e) with e1; have := HT.out; omega); have cell2 := cells4 (show Below v1.heap.size v1 w4 by rw [HT.out]; exact b2) pal pa0 pa1 pa2 pa3))
      all_goals (rw [List.nil_append, HH2.out] at hown2)
      all_goals (go_wp2_with fail; go_meet)
      all_goals exact ⟨_, _, _, rfl, BR.of_own hown2 H8.out, by rw [HT.out]; exact b2⟩
    · skip
      obtain ⟨bb, off, eA, hbb⟩ := hA.some n0
      subst eA
      have n1 := br_news hA (show Below v1.heap.size v1 _ by rw [HT.out]; exact c1)
      have n2 := br_news hA (show Below v1.heap.size v1 _ by rw [HT.out]; exact c2)
      have n3 := br_news hA (show Below v1.heap.size v1 _ by rw [HT.out]; exact c3)
      clear hA
      go_region_held3 (fun w' => w'.cell? ⟨w.heap.size, 0, none⟩ = some (.int .u8 (x0 : Int)) ∧ w'.cell? ⟨w.heap.size, 1, none⟩ = some (.int .u8 (x1 : Int)) ∧ w'.cell? ⟨w.heap.size, 2, none⟩ = some (.int .u8 (x2 : Int)) ∧ w'.cell? ⟨w.heap.size, 3, none⟩ = some (.int .u8 (x3 : Int)))
        (first | exact ⟨pa0, pa1, pa2, pa3⟩ | with_reducible exact ⟨cell_over (pa0), cell_over (pa1), cell_over (pa2), cell_over (pa3)⟩ | with_reducible exact ⟨cell_over (cell_over (pa0)), cell_over (cell_over (pa1)), cell_over (cell_over (pa2)), cell_over (cell_over (pa3))⟩ | exact cell1 | exact ⟨cell_over cell1.1, cell_over cell1.2.1, cell_over cell1.2.2.1, cell_over cell1.2.2.2⟩ | exact cell2 | go_keep)
        (first
          | (refine step_append_lies _ rfl _ _ 23 rfl t 5 i0 (.int .u8 0) 1 1 Try.underlying23 hi hz0 hz1 hz2 rfl (by decide) _ 0 [] rfl o1 ⟨bb, off, none⟩ n c (l.map encB) rfl hll n1 (fun u hu => by obtain ⟨x, _, rfl⟩ := List.mem_map.1 hu; rfl) (by omega) (by unfold maxLen; omega) (by omega) (by have := HT.out; first | omega | (simp; omega)) _ rfl ?_; intro g1 cap1 w1 hown1 hgrow1 hat1 hlt1; have b1 := c1.grown hgrow1 (by have := HT.out; simp; omega) (fun q e => by injection (show some (v1.heap.size) = some q from e) with e1; have := HT.out; omega); have bV : Below v1.heap.size v1 w1 := (by rw [HT.out]; exact b1); have cell1 := cells4 bV pal pa0 pa1 pa2 pa3; rw [List.nil_append] at hown1; have hownZ := hown1; rw [Nat.zero_add] at hown1; have hts : t ≤ w1.heap.size := (by have := bV.size; have := HT.out; omega))
          | (refine step_append_lies _ rfl _ _ 23 rfl t 5 i0 (.int .u8 0) 1 1 Try.underlying23 hi hz0 hz1 hz2 rfl (by decide) _ 0 [] rfl o2 ⟨bb, off, none⟩ n c (l.map encB) rfl hll n2 (fun u hu => by obtain ⟨x, _, rfl⟩ := List.mem_map.1 hu; rfl) (by omega) (by unfold maxLen; omega) (by omega) (by have := HT.out; first | omega | (simp; omega)) _ rfl ?_; intro g1 cap1 w1 hown1 hgrow1 hat1 hlt1; have b1 := c2.grown hgrow1 (by have := HT.out; simp; omega) (fun q e => by injection (show some (v1.heap.size) = some q from e) with e1; have := HT.out; omega); have bV : Below v1.heap.size v1 w1 := (by rw [HT.out]; exact b1); have cell1 := cells4 bV pal pa0 pa1 pa2 pa3; rw [List.nil_append] at hown1; have hownZ := hown1; rw [Nat.zero_add] at hown1; have hts : t ≤ w1.heap.size := (by have := bV.size; have := HT.out; omega); have f4 := four_kept (E := v1.heap.size) (F := v1.heap.size + 1) hgrow1 f2 (by omega) (by first | (simp; done) | (simp; omega)); have hg1 := (hown1.lt g1 rfl).1)
          | (refine step_append_lies _ rfl _ _ 23 rfl t 5 i0 (.int .u8 0) 1 1 Try.underlying23 hi hz0 hz1 hz2 rfl (by decide) _ 0 [] rfl o3 ⟨bb, off, none⟩ n c (l.map encB) rfl hll n3 (fun u hu => by obtain ⟨x, _, rfl⟩ := List.mem_map.1 hu; rfl) (by omega) (by unfold maxLen; omega) (by omega) (by have := HT.out; first | omega | (simp; omega)) _ rfl ?_; intro g1 cap1 w1 hown1 hgrow1 hat1 hlt1; have b1 := c3.grown hgrow1 (by have := HT.out; simp; omega) (fun q e => by injection (show some (v1.heap.size + 1) = some q from e) with e1; have := HT.out; omega); have bV : Below v1.heap.size v1 w1 := (by rw [HT.out]; exact b1); have cell1 := cells4 bV pal pa0 pa1 pa2 pa3; rw [List.nil_append] at hown1; have hownZ := hown1; rw [Nat.zero_add] at hown1; have hts : t ≤ w1.heap.size := (by have := bV.size; have := HT.out; omega); have f4 := four_kept (E := v1.heap.size + 1) (F := v1.heap.size) hgrow1 f3 (by omega) (by first | (simp; done) | (simp; omega)); have hg1 := (hown1.lt g1 rfl).1)
          | (refine step_append_lies _ rfl _ _ 23 rfl t 5 i0 (.int .u8 0) 1 1 Try.underlying23 hi hz0 hz1 hz2 rfl (by decide) _ (0 + n) (l.map encB) rfl hownZ ⟨v1.heap.size + 1, 0, none⟩ 4 4 [.int .u8 (x0 : Int), .int .u8 (x1 : Int), .int .u8 (x2 : Int), .int .u8 (x3 : Int)] rfl (by simp) f4 (by simp [Value.oneCell']) (by omega) (by unfold maxLen; omega) (by omega) (by have := HT.out; first | omega | (simp; omega)) _ rfl ?_; intro g2 cap2 w4 hown2 hgrow2 hat2 hlt2; have b2 := b1.grown hgrow2 (by first | omega | (simp; omega)) (fun q e => by injection (show some g1 = some q from e) with e1; omega); have cell2 := cells4 (show Below v1.heap.size v1 w4 by rw [HT.out]; exact b2) pal pa0 pa1 pa2 pa3)
          | (refine step_append_lies _ rfl _ _ 23 rfl t 5 i0 (.int .u8 0) 1 1 Try.underlying23 hi hz0 hz1 hz2 rfl (by decide) _ (0 + n) (l.map encB) rfl hownZ ⟨v1.heap.size, 0, none⟩ 4 4 [.int .u8 (x0 : Int), .int .u8 (x1 : Int), .int .u8 (x2 : Int), .int .u8 (x3 : Int)] rfl (by simp) f4 (by simp [Value.oneCell']) (by omega) (by unfold maxLen; omega) (by omega) (by have := HT.out; first | omega | (simp; omega)) _ rfl ?_; intro g2 cap2 w4 hown2 hgrow2 hat2 hlt2; have b2 := b1.grown hgrow2 (by first | omega | (simp; omega)) (fun q e => by injection (show some g1 = some q from e) with e1; omega); have cell2 := cells4 (show Below v1.heap.size v1 w4 by rw [HT.out]; exact b2) pal pa0 pa1 pa2 pa3)
          | (have hg1 := (hown1.lt g1 rfl).1; refine step_append_lies _ rfl _ _ 23 rfl t 5 i0 (.int .u8 0) 1 1 Try.underlying23 hi hz0 hz1 hz2 rfl (by decide) _ n (l.map encB) rfl (hown1.alloc _) ⟨w1.heap.size, 0, none⟩ 4 4 [.int .u8 (x0 : Int), .int .u8 (x1 : Int), .int .u8 (x2 : Int), .int .u8 (x3 : Int)] rfl (by simp) (four_new _ _ _ _ _ _) (by simp [Value.oneCell']) (by omega) (by unfold maxLen; omega) (by omega) (by have := HT.out; first | omega | (simp; omega)) _ rfl ?_; intro g2 cap2 w4 hown2 hgrow2 hat2 hlt2; have b2 := (b1.alloc hts _).grown hgrow2 (by first | omega | (simp; omega)) (fun q e => by injection (show some g1 = some q from e) with e1; omega); have cell2 := cells4 (show Below v1.heap.size v1 w4 by rw [HT.out]; exact b2) pal pa0 pa1 pa2 pa3))
      all_goals (rw [HH.out] at hown2)
      all_goals (try rw [Nat.zero_add] at hown2)
      all_goals (go_wp2_with fail; go_meet)
      all_goals exact ⟨_, _, _, rfl, BR.of_own hown2 H8.out, by rw [HT.out]; exact b2⟩
  case rest =>
    obtain ⟨C, p, e, rfl, hC, b⟩ := hcut
    replace hA := hA.on b
    replace hT := hT.on b
    replace pa0 := (b.cell (p := ⟨w.heap.size, 0, none⟩) pal).trans pa0
    replace pa1 := (b.cell (p := ⟨w.heap.size, 1, none⟩) pal).trans pa1
    replace pa2 := (b.cell (p := ⟨w.heap.size, 2, none⟩) pal).trans pa2
    replace pa3 := (b.cell (p := ⟨w.heap.size, 3, none⟩) pal).trans pa3
    replace pal := Nat.lt_of_lt_of_le pal b.size
    replace cc := cc.trans (b.mono cc.size)
    clear b
    go_wp2_with fail
    refine (CU hC).mono ?_
    rintro e w2 ⟨Ay, ny, cy, rfl, hy, b⟩
    replace hA := hA.on b
    replace hT := hT.on b
    replace hC := hC.on b
    replace pa0 := (b.cell (p := ⟨w.heap.size, 0, none⟩) pal).trans pa0
    replace pa1 := (b.cell (p := ⟨w.heap.size, 1, none⟩) pal).trans pa1
    replace pa2 := (b.cell (p := ⟨w.heap.size, 2, none⟩) pal).trans pa2
    replace pa3 := (b.cell (p := ⟨w.heap.size, 3, none⟩) pal).trans pa3
    replace pal := Nat.lt_of_lt_of_le pal b.size
    replace cc := cc.trans (b.mono cc.size)
    clear b
    go_wp2_with fail
    refine (CP hA).mono ?_
    rintro e w3 ⟨Au, nu, cu, rfl, hu, b⟩
    replace hA := hA.on b
    replace hT := hT.on b
    replace hC := hC.on b
    replace hy := hy.on b
    replace pa0 := (b.cell (p := ⟨w.heap.size, 0, none⟩) pal).trans pa0
    replace pa1 := (b.cell (p := ⟨w.heap.size, 1, none⟩) pal).trans pa1
    replace pa2 := (b.cell (p := ⟨w.heap.size, 2, none⟩) pal).trans pa2
    replace pa3 := (b.cell (p := ⟨w.heap.size, 3, none⟩) pal).trans pa3
    replace pal := Nat.lt_of_lt_of_le pal b.size
    replace cc := cc.trans (b.mono cc.size)
    clear b
    go_wp2_with fail
    refine (CS hC hu).mono ?_
    rintro e w4 ⟨rfl, b⟩
    replace hA := hA.on b
    replace hT := hT.on b
    replace hC := hC.on b
    replace hy := hy.on b
    replace hu := hu.on b
    replace pa0 := (b.cell (p := ⟨w.heap.size, 0, none⟩) pal).trans pa0
    replace pa1 := (b.cell (p := ⟨w.heap.size, 1, none⟩) pal).trans pa1
    replace pa2 := (b.cell (p := ⟨w.heap.size, 2, none⟩) pal).trans pa2
    replace pa3 := (b.cell (p := ⟨w.heap.size, 3, none⟩) pal).trans pa3
    replace pal := Nat.lt_of_lt_of_le pal b.size
    replace cc := cc.trans (b.mono cc.size)
    clear b
    clear hC hu
    obtain rfl : ny = 0 := hy.1
    go_wp2_with fail
    refine (CF hT).mono ?_
    rintro e w5 ⟨Az, nz, cz, rfl, hz, b⟩
    replace hA := hA.on b
    replace hT := hT.on b
    replace hy := hy.on b
    replace pa0 := (b.cell (p := ⟨w.heap.size, 0, none⟩) pal).trans pa0
    replace pa1 := (b.cell (p := ⟨w.heap.size, 1, none⟩) pal).trans pa1
    replace pa2 := (b.cell (p := ⟨w.heap.size, 2, none⟩) pal).trans pa2
    replace pa3 := (b.cell (p := ⟨w.heap.size, 3, none⟩) pal).trans pa3
    replace pal := Nat.lt_of_lt_of_le pal b.size
    replace cc := cc.trans (b.mono cc.size)
    clear b
    go_wp2_with fail
    refine (alive12_any _).mono ?_
    rintro e w6 ⟨rfl, b⟩
    replace hA := hA.on b
    replace hT := hT.on b
    replace hy := hy.on b
    replace hz := hz.on b
    replace pa0 := (b.cell (p := ⟨w.heap.size, 0, none⟩) pal).trans pa0
    replace pa1 := (b.cell (p := ⟨w.heap.size, 1, none⟩) pal).trans pa1
    replace pa2 := (b.cell (p := ⟨w.heap.size, 2, none⟩) pal).trans pa2
    replace pa3 := (b.cell (p := ⟨w.heap.size, 3, none⟩) pal).trans pa3
    replace pal := Nat.lt_of_lt_of_le pal b.size
    replace cc := cc.trans (b.mono cc.size)
    clear b
    go_wp2_with fail
    go_ret
    exact ⟨rfl, cc⟩

theorem CrcCuts_walk {w : World} {A : Option Addr} {n c : Nat} {l : List Nat} (hA : BR w A n c l) (x0 x1 x2 x3 : Int) (w0 : (Lit.int .u8 x0).wf = true) (w1 : (Lit.int .u8 x1).wf = true) (w2 : (Lit.int .u8 x2).wf = true) (w3 : (Lit.int .u8 x3).wf = true) : Calls Try.prog 7 #[.slice A n c, .agg #[.int .u8 x0, .int .u8 x1, .int .u8 x2, .int .u8 x3]] w fun e w' => e = .returned (.bool true) ∧ Below w.heap.size w w' := by
  obtain ⟨x0, rfl, h0⟩ := u8_nat12 w0
  obtain ⟨x1, rfl, h1⟩ := u8_nat12 w1
  obtain ⟨x2, rfl, h2⟩ := u8_nat12 w2
  obtain ⟨x3, rfl, h3⟩ := u8_nat12 w3
  by_cases h : 2000 < n
  · exact CrcCuts_few h
  by_cases ho : l ++ [x0, x1, x2, x3] = putB l
  · exact CrcCuts_own hA (by omega) h0 h1 h2 h3 ho
  · exact CrcCuts_not hA (by omega) h0 h1 h2 h3 ho

end Go.Proofs.Ytkknopahiajeeaa
