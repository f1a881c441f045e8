/-
  The walk of PackBack.
-/
import Derived.Test.YtfdapcogkbddaaaA2
import Derived.Test.YtfdapcogkbddaaaA1
namespace Go.Proofs.Ytfdapcogkbddaaa
set_option maxRecDepth 100000
open Go.RowKit
set_option linter.unusedVariables false
set_option linter.unusedSimpArgs false

theorem below_down {C D : Nat} {w w' : World} (h : Below D w w') (hd : C ≤ D) : Below C w w' := h.mono hd
theorem step_append_zero13 {P : Program} {w : World} {ops : Array Oper} {o : Oper} {a : Act} {K : Act → World → Prop} {Q : Exit → Act → World → Prop} {E : Prop} (hgd : o.guard = none) (s x : Operand) (t : TypeId)
    (ho : o.op = .call { callee := .builtin .append, args := #[s, x], argTypes := #[t, t] }) (e : TypeId) (i : TypeInfo) (ht : P.underlying t = some (.slice e)) (hi : P.info? e = some i)
    (A B : Option Addr) (n c d : Nat) (hs : a.eval s = .slice A n c) (hx : a.eval x = .slice B 0 d) (hn : n ≤ c)
    (h : K (a.put o.dst (.slice A n c)) w) : if Region.wanted o (yielded ops a.tmps) = true then Oper.wp P o a w K Q else E := by
  have hw : Region.wanted o (yielded ops a.tmps) = true := by simp [Region.wanted, hgd]
  rw [if_pos hw]
  have hr := run_append_zero (P := P) w t o.type e i ht hi A B n c d hn
  unfold Oper.wp execOp
  simp only [ho, resolve, invoke, builtin, Sem.run_bind, Sem.run_pure, Result.andThen_ok, List.map_toArray, List.map_cons, List.map_nil, hs, hx, hr]
  exact h

set_option maxRecDepth 100000 in
set_option maxHeartbeats 8000000 in
theorem PackBack_a {w : World} {A B : Option Addr} {n c m d N : Nat} {z : Int} (h : 1000 < n) :
    Calls Try.prog 5 #[.int .u64 (N : Int), .int .i64 z, .agg #[.slice A n c, .slice B m d]] w fun e w' => e = .returned (.bool true) ∧ Below w.heap.size w w' := by
  have t_n : decide (1000 < (n : Int)) = true := decide_eq_true (by omega)
  have u_n : decide (1000 < n) = true := decide_eq_true (by omega)
  clear h
  have cc := Below.refl w.heap.size w
  go_enter Try.func5, Try.ntmps5
  go_wp2_with fail
  have bA : Below w.heap.size w (w.alloc (.cells #[.slice A n c, .slice B m d] 38)) := ((Below.refl _ w).alloc (by simp) _)
  replace cc := bK cc bA
  clear bA
  have pa0 : (w.alloc (.cells #[.slice A n c, .slice B m d] 38)).cell? ⟨w.heap.size, 0, none⟩ = some (.slice A n c) := by simp [go_sem]
  have pa1 : (w.alloc (.cells #[.slice A n c, .slice B m d] 38)).cell? ⟨w.heap.size, 1, none⟩ = some (.slice B m d) := by simp [go_sem]
  have pal : w.heap.size < (w.alloc (.cells #[.slice A n c, .slice B m d] 38)).heap.size := by simp <;> omega
  generalize w.alloc (.cells #[.slice A n c, .slice B m d] 38) = v1 at *
  go_wp2_with fail
  refine (alive13_any _).mono ?_
  rintro e w2 ⟨rfl, b⟩
  replace pa0 := cK b pa0 pal
  replace pa1 := cK b pa1 pal
  replace pal := lK b pal
  replace cc := bK cc b
  clear b
  go_wp2_with fail
  go_ret
  exact ⟨rfl, cc⟩

set_option maxRecDepth 100000 in
set_option maxHeartbeats 8000000 in
theorem PackBack_b {w : World} {A B : Option Addr} {n c m d N : Nat} {z : Int} (h : n ≤ 1000) (h2 : 1000 < m) :
    Calls Try.prog 5 #[.int .u64 (N : Int), .int .i64 z, .agg #[.slice A n c, .slice B m d]] w fun e w' => e = .returned (.bool true) ∧ Below w.heap.size w w' := by
  have t_n : decide (1000 < (n : Int)) = false := decide_eq_false (by omega)
  have u_n : decide (1000 < n) = false := decide_eq_false (by omega)
  have t_m : decide (1000 < (m : Int)) = true := decide_eq_true (by omega)
  have u_m : decide (1000 < m) = true := decide_eq_true (by omega)
  clear h h2
  have cc := Below.refl w.heap.size w
  go_enter Try.func5, Try.ntmps5
  go_wp2_with fail
  have bA : Below w.heap.size w (w.alloc (.cells #[.slice A n c, .slice B m d] 38)) := ((Below.refl _ w).alloc (by simp) _)
  replace cc := bK cc bA
  clear bA
  have pa0 : (w.alloc (.cells #[.slice A n c, .slice B m d] 38)).cell? ⟨w.heap.size, 0, none⟩ = some (.slice A n c) := by simp [go_sem]
  have pa1 : (w.alloc (.cells #[.slice A n c, .slice B m d] 38)).cell? ⟨w.heap.size, 1, none⟩ = some (.slice B m d) := by simp [go_sem]
  have pal : w.heap.size < (w.alloc (.cells #[.slice A n c, .slice B m d] 38)).heap.size := by simp <;> omega
  generalize w.alloc (.cells #[.slice A n c, .slice B m d] 38) = v1 at *
  go_wp2_with fail
  refine (alive13_any _).mono ?_
  rintro e w2 ⟨rfl, b⟩
  replace pa0 := cK b pa0 pal
  replace pa1 := cK b pa1 pal
  replace pal := lK b pal
  replace cc := bK cc b
  clear b
  go_wp2_with fail
  go_ret
  exact ⟨rfl, cc⟩

set_option maxRecDepth 100000 in
set_option maxHeartbeats 8000000 in
theorem PackBack_some {w : World} {A B : Option Addr} {n c m d N : Nat} {z : Int} {l r : List Nat} (hA : BR w A n c l) (hB : BR w B m d r) (h : n ≤ 1000) (h2 : m ≤ 1000) (hN : N < 2 * 128 ^ 9) (hz : -9223372036854775808 ≤ z ∧ z ≤ 9223372036854775807) (h0 : 0 < m) :
    Calls Try.prog 5 #[.int .u64 (N : Int), .int .i64 z, .agg #[.slice A n c, .slice B m d]] w fun e w' => e = .returned (.bool true) ∧ Below w.heap.size w w' := by
  have t_n : decide (1000 < (n : Int)) = false := decide_eq_false (by omega)
  have u_n : decide (1000 < n) = false := decide_eq_false (by omega)
  have t_m : decide (1000 < (m : Int)) = false := decide_eq_false (by omega)
  have u_m : decide (1000 < m) = false := decide_eq_false (by omega)
  have m64 : l.length < 2 * 128 ^ 9 := by rw [b64_9, ← hA.1]; omega
  have hzl := zig_lt hz
  have lv1 := (vb_len N).2
  have lv2 := (vb_len (zig z)).2
  have lv3 := (vb_len l.length).2
  have T1 := vb_take (vb (zig z) ++ (vb l.length ++ (l ++ r))) hN
  have T2 := vb_take (vb l.length ++ (l ++ r)) hzl
  have T3 := rw_put (r := l) (s := r) (most := 1000) m64 (by rw [← hA.1]; omega)
  have hu := unz_zig z
  have v1 := vb_lt hN
  have v2 := vb_lt hzl
  have v3 := vb_lt m64
  have h8l := hA.2.2.1
  have h8r := hB.2.2.1
  have C1 : ∀ W : World, Calls Try.prog 15 #[.slice none 0 0, .int .u64 (N : Int)] W (GotNew W (vb N)) := fun W => pPut_N (BR.nil W none 0) (by omega) hN
  have C2 : ∀ {W : World} {C : Option Addr} {q e : Nat}, BR W C q e (vb N) → Calls Try.prog 17 #[.slice C q e, .int .i64 z] W (GotNew W (vb N ++ vb (zig z))) := fun h => pPutInt_N h (by rw [h.1]; omega) hz
  have C3 : ∀ {W : World} {C : Option Addr} {q e : Nat}, BR W C q e (vb N ++ vb (zig z)) → BR W A n c l → Calls Try.prog 21 #[.slice C q e, .slice A n c] W (GotNew W ((vb N ++ vb (zig z)) ++ (vb l.length ++ l))) := fun h h2 => pPutRow_N h (by rw [h.1, List.length_append]; omega) h2 (by omega)
  have hall : ((vb N ++ vb (zig z)) ++ (vb l.length ++ l)) ++ r = vb N ++ (vb (zig z) ++ (vb l.length ++ (l ++ r))) := by simp only [List.append_assoc]
  have l12 : (vb N ++ vb (zig z)).length ≤ 20 := by rw [List.length_append]; omega
  have lF : ((vb N ++ vb (zig z)) ++ (vb l.length ++ l)).length ≤ 2000 := by have := hA.1; simp only [List.length_append]; omega
  have v12 : ∀ x ∈ vb N ++ vb (zig z), x < 256 := fun x hx => by rcases List.mem_append.1 hx with e | e; exact v1 x e; exact v2 x e
  have v3l : ∀ x ∈ vb l.length ++ l, x < 256 := fun x hx => by rcases List.mem_append.1 hx with e | e; exact v3 x e; exact h8l x e
  have vF : ∀ x ∈ (vb N ++ vb (zig z)) ++ (vb l.length ++ l), x < 256 := fun x hx => by rcases List.mem_append.1 hx with e | e; exact v12 x e; exact v3l x e
  have vlr : ∀ x ∈ l ++ r, x < 256 := fun x hx => by rcases List.mem_append.1 hx with e | e; exact h8l x e; exact h8r x e
  have vG : ∀ x ∈ ((vb N ++ vb (zig z)) ++ (vb l.length ++ l)) ++ r, x < 256 := fun x hx => by rcases List.mem_append.1 hx with e | e; exact vF x e; exact h8r x e
  have lG : (vb N ++ (vb (zig z) ++ (vb l.length ++ (l ++ r)))).length ≤ 4000 := by rw [← hall]; have := hB.1; simp only [List.length_append] at lF ⊢; omega
  have lG2 : (vb (zig z) ++ (vb l.length ++ (l ++ r))).length ≤ 4000 := by simp only [List.length_append] at lG ⊢; omega
  have lG3 : (vb l.length ++ (l ++ r)).length ≤ 4000 := by simp only [List.length_append] at lG2 ⊢; omega
  generalize vb l.length ++ (l ++ r) = Y3 at *
  generalize vb (zig z) ++ Y3 = Y2 at *
  generalize vb N ++ Y2 = Y1 at *
  generalize (vb N ++ vb (zig z)) ++ (vb l.length ++ l) = F at *
  generalize vb N ++ vb (zig z) = V2 at *
  generalize vb N = V1 at *
  have CT1 : ∀ {W : World} {C : Option Addr} {q e : Nat}, BR W C q e Y1 → Calls Try.prog 10 #[.slice C q e] W (GotTk W (.int .u64 (N : Int)) Y2 0) := fun h => by have e := pTake_N h (by rw [h.1]; omega); rw [T1.1, T1.2.1, T1.2.2] at e; exact e
  have CT2 : ∀ {W : World} {C : Option Addr} {q e : Nat}, BR W C q e Y2 → Calls Try.prog 12 #[.slice C q e] W (GotTk W (.int .i64 z) Y3 0) := fun h => by have e := pTakeInt_N h (by rw [h.1]; omega); rw [T2.1, T2.2.1, T2.2.2, hu] at e; exact e
  have CT3 : ∀ {W : World} {C : Option Addr} {q e : Nat}, BR W C q e Y3 → Calls Try.prog 19 #[.slice C q e, .int .i64 1000] W (GotTr W l r 0) := fun h => by have e := pTakeRow_N h (by rw [h.1]; omega) (most := 1000) (by omega); rw [T3.1, T3.2.1, T3.2.2] at e; exact e
  have H1 := Lib.hid v1
  have H2 := Lib.hid v12
  have HF8 := Lib.hid vF
  have HG8 := Lib.hid vG
  have HLF := Lib.hid lF
  have HAL := Lib.hid hall
  have HM := Lib.hid h2
  have HN1 := Lib.hid h
  clear T1 T2 T3 hu v1 v2 v3 v12 v3l vF vlr vG lG lG2 lG3 lF l12 hall lv1 lv2 lv3 m64 hzl hN hz h8l h8r h h2
  obtain ⟨b2, o2, eB, hbb⟩ := hB.some h0
  subst eB
  have HL : Hid ((r.map encB).length = m * 1) := Lib.hid (by rw [List.length_map, ← hB.1]; omega)
  clear hbb
  have cc := Below.refl w.heap.size w
  go_enter Try.func5, Try.ntmps5
  go_upto_region 3 with fail
  have bA : Below w.heap.size w (w.alloc (.cells #[.slice A n c, .slice (some ⟨b2, o2, none⟩) m d] 38)) := ((Below.refl _ w).alloc (by simp) _)
  replace hA := hA.on bA
  replace hB := hB.on bA
  replace cc := bK cc bA
  clear bA
  have pa0 : (w.alloc (.cells #[.slice A n c, .slice (some ⟨b2, o2, none⟩) m d] 38)).cell? ⟨w.heap.size, 0, none⟩ = some (.slice A n c) := by simp [go_sem]
  have pa1 : (w.alloc (.cells #[.slice A n c, .slice (some ⟨b2, o2, none⟩) m d] 38)).cell? ⟨w.heap.size, 1, none⟩ = some (.slice (some ⟨b2, o2, none⟩) m d) := by simp [go_sem]
  have pal : w.heap.size < (w.alloc (.cells #[.slice A n c, .slice (some ⟨b2, o2, none⟩) m d] 38)).heap.size := by simp <;> omega
  generalize w.alloc (.cells #[.slice A n c, .slice (some ⟨b2, o2, none⟩) m d] 38) = v1 at *
  go_cut [7] (fun v wx => ∃ C p e, v = .slice C p e ∧ BR wx C p e Y1 ∧ Below v1.heap.size v1 wx)
  case first =>
    obtain ⟨i0, hi, hz0, hz1, hz2⟩ := info_parts infoB
    have BD : Below v1.heap.size v1 v1.drew := below_drewN (Below.refl _ v1) 1
    have hA0 := Lib.hid hA
    have hB0 := Lib.hid hB
    have p0 := pa0
    have p1 := pa1
    clear hA hB CT1 CT2 CT3
    go_region_held3 (fun w' => w'.cell? ⟨w.heap.size, 0, none⟩ = some (.slice A n c) ∧ w'.cell? ⟨w.heap.size, 1, none⟩ = some (.slice (some ⟨b2, o2, none⟩) m d))
      (first | exact ⟨pa0, pa1⟩ | exact ⟨p0, p1⟩ | go_keep)
      (first
        | (go_at_call 15; (with_reducible refine (C1 _).mono ?_); rintro e y1 ⟨g1, q1, d1, rfl, hO, b⟩; have qq := BD.trans (b.mono BD.size); have h1 := BR.of_own hO H1.out; have p0 := cK qq pa0 pal; have p1 := cK qq pa1 pal; clear hO b)
        | (go_at_call 17; (with_reducible refine (C2 h1).mono ?_); rintro e y2 ⟨g2, q2, d2, rfl, hO, b⟩; replace qq := bK qq b; have h2 := BR.of_own hO H2.out; have p0 := cK qq pa0 pal; have p1 := cK qq pa1 pal; clear hO b)
        | (go_at_call 21; have hAq := hA0.out.on qq; have hqs := qq.size; (with_reducible refine (C3 h2 hAq).mono ?_); rintro e y3 ⟨g3, q3, d3, rfl, hO, b⟩; replace qq := bK qq b; have hbs := b.size; have hO3 := hO; have hgt := (hO.lt g3 rfl).1; have hq3 : q3 ≤ 2000 := (by have e1 := (BR.of_own hO HF8.out).1; have e2 := HLF.out; omega); have p0 := cK qq pa0 pal; have p1 := cK qq pa1 pal; clear hO b)
        | (have n3 := br_news (hB0.out.on qq) (Below.refl _ _); refine step_append_lies _ rfl _ _ 22 rfl _ 5 i0 (.int .u8 0) 1 1 Try.underlying22 hi hz0 hz1 hz2 rfl (by decide) _ q3 (F.map encB) rfl hO3 ⟨b2, o2, none⟩ m d (r.map encB) rfl HL.out n3 (fun u hu => by obtain ⟨x, _, rfl⟩ := List.mem_map.1 hu; rfl) (by omega) (by have := HM.out; unfold maxLen; omega) (by have := HM.out; omega) (by omega) _ rfl ?_; intro g4 cap4 w4 hown4 hgrow4 hat4 hlt4; have b4 := qq.grown hgrow4 qq.size (fun q e => by injection (show some g3 = some q from e) with e1; omega); have p0 := cK b4 pa0 pal; have p1 := cK b4 pa1 pal))
    rw [← List.map_append, HAL.out] at hown4
    have hG8 := HG8.out
    rw [HAL.out] at hG8
    go_wp2_with fail
    go_meet
    exact ⟨_, _, _, rfl, BR.of_own hown4 hG8, b4⟩
  case rest =>
    obtain ⟨C, p, e, rfl, hC, b⟩ := hcut
    replace hA := hA.on b
    replace hB := hB.on b
    replace pa0 := cK b pa0 pal
    replace pa1 := cK b pa1 pal
    replace pal := lK b pal
    replace cc := bK cc b
    clear b
    go_wp2_with fail
    refine (CT1 hC).mono ?_
    rintro e w2 ⟨A1, n1, c1, rfl, h1, b⟩
    replace hA := hA.on b
    replace hB := hB.on b
    replace hC := hC.on b
    replace pa0 := cK b pa0 pal
    replace pa1 := cK b pa1 pal
    replace pal := lK b pal
    replace cc := bK cc b
    clear b
    go_wp2_with fail
    refine (CT2 h1).mono ?_
    rintro e w3 ⟨A2, n2, c2, rfl, h2, b⟩
    replace hA := hA.on b
    replace hB := hB.on b
    replace hC := hC.on b
    replace h1 := h1.on b
    replace pa0 := cK b pa0 pal
    replace pa1 := cK b pa1 pal
    replace pal := lK b pal
    replace cc := bK cc b
    clear b
    go_wp2_with fail
    refine (CT3 h2).mono ?_
    rintro e w4 ⟨A3, n3, c3, B3, m3, d3, rfl, h3, k3, b⟩
    replace hA := hA.on b
    replace hB := hB.on b
    replace hC := hC.on b
    replace h1 := h1.on b
    replace h2 := h2.on b
    replace pa0 := cK b pa0 pal
    replace pa1 := cK b pa1 pal
    replace pal := lK b pal
    replace cc := bK cc b
    clear b
    clear hC h1 h2
    go_wp2_with fail
    refine (alive13_any _).mono ?_
    rintro e w5 ⟨rfl, b⟩
    replace hA := hA.on b
    replace hB := hB.on b
    replace h3 := h3.on b
    replace k3 := k3.on b
    replace pa0 := cK b pa0 pal
    replace pa1 := cK b pa1 pal
    replace pal := lK b pal
    replace cc := bK cc b
    clear b
    go_wp2_with fail
    refine (rsameB_self h3 hA (by have := h3.1; have := hA.1; have := HN1.out; omega)).mono ?_
    rintro e w6 ⟨rfl, b⟩
    replace hA := hA.on b
    replace hB := hB.on b
    replace h3 := h3.on b
    replace k3 := k3.on b
    replace pa0 := cK b pa0 pal
    replace pa1 := cK b pa1 pal
    replace pal := lK b pal
    replace cc := bK cc b
    clear b
    go_wp2_with fail
    refine (rsameB_self k3 hB (by have := k3.1; have := hB.1; have := HM.out; omega)).mono ?_
    rintro e w7 ⟨rfl, b⟩
    replace hA := hA.on b
    replace hB := hB.on b
    replace h3 := h3.on b
    replace k3 := k3.on b
    replace pa0 := cK b pa0 pal
    replace pa1 := cK b pa1 pal
    replace pal := lK b pal
    replace cc := bK cc b
    clear b
    go_wp2_with fail
    go_ret
    exact ⟨rfl, cc⟩

set_option maxRecDepth 100000 in
set_option maxHeartbeats 8000000 in
theorem PackBack_none {w : World} {A B : Option Addr} {n c m d N : Nat} {z : Int} {l r : List Nat} (hA : BR w A n c l) (hB : BR w B m d r) (h : n ≤ 1000) (h2 : m ≤ 1000) (hN : N < 2 * 128 ^ 9) (hz : -9223372036854775808 ≤ z ∧ z ≤ 9223372036854775807) (h0 : m = 0) :
    Calls Try.prog 5 #[.int .u64 (N : Int), .int .i64 z, .agg #[.slice A n c, .slice B m d]] w fun e w' => e = .returned (.bool true) ∧ Below w.heap.size w w' := by
  have t_n : decide (1000 < (n : Int)) = false := decide_eq_false (by omega)
  have u_n : decide (1000 < n) = false := decide_eq_false (by omega)
  have t_m : decide (1000 < (m : Int)) = false := decide_eq_false (by omega)
  have u_m : decide (1000 < m) = false := decide_eq_false (by omega)
  have m64 : l.length < 2 * 128 ^ 9 := by rw [b64_9, ← hA.1]; omega
  have hzl := zig_lt hz
  have lv1 := (vb_len N).2
  have lv2 := (vb_len (zig z)).2
  have lv3 := (vb_len l.length).2
  have T1 := vb_take (vb (zig z) ++ (vb l.length ++ (l ++ r))) hN
  have T2 := vb_take (vb l.length ++ (l ++ r)) hzl
  have T3 := rw_put (r := l) (s := r) (most := 1000) m64 (by rw [← hA.1]; omega)
  have hu := unz_zig z
  have v1 := vb_lt hN
  have v2 := vb_lt hzl
  have v3 := vb_lt m64
  have h8l := hA.2.2.1
  have h8r := hB.2.2.1
  have C1 : ∀ W : World, Calls Try.prog 15 #[.slice none 0 0, .int .u64 (N : Int)] W (GotNew W (vb N)) := fun W => pPut_N (BR.nil W none 0) (by omega) hN
  have C2 : ∀ {W : World} {C : Option Addr} {q e : Nat}, BR W C q e (vb N) → Calls Try.prog 17 #[.slice C q e, .int .i64 z] W (GotNew W (vb N ++ vb (zig z))) := fun h => pPutInt_N h (by rw [h.1]; omega) hz
  have C3 : ∀ {W : World} {C : Option Addr} {q e : Nat}, BR W C q e (vb N ++ vb (zig z)) → BR W A n c l → Calls Try.prog 21 #[.slice C q e, .slice A n c] W (GotNew W ((vb N ++ vb (zig z)) ++ (vb l.length ++ l))) := fun h h2 => pPutRow_N h (by rw [h.1, List.length_append]; omega) h2 (by omega)
  have hall : ((vb N ++ vb (zig z)) ++ (vb l.length ++ l)) ++ r = vb N ++ (vb (zig z) ++ (vb l.length ++ (l ++ r))) := by simp only [List.append_assoc]
  have l12 : (vb N ++ vb (zig z)).length ≤ 20 := by rw [List.length_append]; omega
  have lF : ((vb N ++ vb (zig z)) ++ (vb l.length ++ l)).length ≤ 2000 := by have := hA.1; simp only [List.length_append]; omega
  have v12 : ∀ x ∈ vb N ++ vb (zig z), x < 256 := fun x hx => by rcases List.mem_append.1 hx with e | e; exact v1 x e; exact v2 x e
  have v3l : ∀ x ∈ vb l.length ++ l, x < 256 := fun x hx => by rcases List.mem_append.1 hx with e | e; exact v3 x e; exact h8l x e
  have vF : ∀ x ∈ (vb N ++ vb (zig z)) ++ (vb l.length ++ l), x < 256 := fun x hx => by rcases List.mem_append.1 hx with e | e; exact v12 x e; exact v3l x e
  have vlr : ∀ x ∈ l ++ r, x < 256 := fun x hx => by rcases List.mem_append.1 hx with e | e; exact h8l x e; exact h8r x e
  have vG : ∀ x ∈ ((vb N ++ vb (zig z)) ++ (vb l.length ++ l)) ++ r, x < 256 := fun x hx => by rcases List.mem_append.1 hx with e | e; exact vF x e; exact h8r x e
  have lG : (vb N ++ (vb (zig z) ++ (vb l.length ++ (l ++ r)))).length ≤ 4000 := by rw [← hall]; have := hB.1; simp only [List.length_append] at lF ⊢; omega
  have lG2 : (vb (zig z) ++ (vb l.length ++ (l ++ r))).length ≤ 4000 := by simp only [List.length_append] at lG ⊢; omega
  have lG3 : (vb l.length ++ (l ++ r)).length ≤ 4000 := by simp only [List.length_append] at lG2 ⊢; omega
  generalize vb l.length ++ (l ++ r) = Y3 at *
  generalize vb (zig z) ++ Y3 = Y2 at *
  generalize vb N ++ Y2 = Y1 at *
  generalize (vb N ++ vb (zig z)) ++ (vb l.length ++ l) = F at *
  generalize vb N ++ vb (zig z) = V2 at *
  generalize vb N = V1 at *
  have CT1 : ∀ {W : World} {C : Option Addr} {q e : Nat}, BR W C q e Y1 → Calls Try.prog 10 #[.slice C q e] W (GotTk W (.int .u64 (N : Int)) Y2 0) := fun h => by have e := pTake_N h (by rw [h.1]; omega); rw [T1.1, T1.2.1, T1.2.2] at e; exact e
  have CT2 : ∀ {W : World} {C : Option Addr} {q e : Nat}, BR W C q e Y2 → Calls Try.prog 12 #[.slice C q e] W (GotTk W (.int .i64 z) Y3 0) := fun h => by have e := pTakeInt_N h (by rw [h.1]; omega); rw [T2.1, T2.2.1, T2.2.2, hu] at e; exact e
  have CT3 : ∀ {W : World} {C : Option Addr} {q e : Nat}, BR W C q e Y3 → Calls Try.prog 19 #[.slice C q e, .int .i64 1000] W (GotTr W l r 0) := fun h => by have e := pTakeRow_N h (by rw [h.1]; omega) (most := 1000) (by omega); rw [T3.1, T3.2.1, T3.2.2] at e; exact e
  have H1 := Lib.hid v1
  have H2 := Lib.hid v12
  have HF8 := Lib.hid vF
  have HG8 := Lib.hid vG
  have HLF := Lib.hid lF
  have HAL := Lib.hid hall
  have HM := Lib.hid h2
  have HN1 := Lib.hid h
  clear T1 T2 T3 hu v1 v2 v3 v12 v3l vF vlr vG lG lG2 lG3 lF l12 hall lv1 lv2 lv3 m64 hzl hN hz h8l h8r h h2
  have hr0 : r = [] := List.eq_nil_of_length_eq_zero (by rw [← hB.1]; exact h0)
  subst h0
  subst hr0
  have cc := Below.refl w.heap.size w
  go_enter Try.func5, Try.ntmps5
  go_upto_region 3 with fail
  have bA : Below w.heap.size w (w.alloc (.cells #[.slice A n c, .slice B 0 d] 38)) := ((Below.refl _ w).alloc (by simp) _)
  replace hA := hA.on bA
  replace hB := hB.on bA
  replace cc := bK cc bA
  clear bA
  have pa0 : (w.alloc (.cells #[.slice A n c, .slice B 0 d] 38)).cell? ⟨w.heap.size, 0, none⟩ = some (.slice A n c) := by simp [go_sem]
  have pa1 : (w.alloc (.cells #[.slice A n c, .slice B 0 d] 38)).cell? ⟨w.heap.size, 1, none⟩ = some (.slice B 0 d) := by simp [go_sem]
  have pal : w.heap.size < (w.alloc (.cells #[.slice A n c, .slice B 0 d] 38)).heap.size := by simp <;> omega
  generalize w.alloc (.cells #[.slice A n c, .slice B 0 d] 38) = v1 at *
  go_cut [7] (fun v wx => ∃ C p e, v = .slice C p e ∧ BR wx C p e Y1 ∧ Below v1.heap.size v1 wx)
  case first =>
    obtain ⟨i0, hi, hz0, hz1, hz2⟩ := info_parts infoB
    have BD : Below v1.heap.size v1 v1.drew := below_drewN (Below.refl _ v1) 1
    have hA0 := Lib.hid hA
    have hB0 := Lib.hid hB
    have p0 := pa0
    have p1 := pa1
    clear hA hB CT1 CT2 CT3
    go_region_held3 (fun w' => w'.cell? ⟨w.heap.size, 0, none⟩ = some (.slice A n c) ∧ w'.cell? ⟨w.heap.size, 1, none⟩ = some (.slice B 0 d))
      (first | exact ⟨pa0, pa1⟩ | exact ⟨p0, p1⟩ | go_keep)
      (first
        | (go_at_call 15; (with_reducible refine (C1 _).mono ?_); rintro e y1 ⟨g1, q1, d1, rfl, hO, b⟩; have qq := BD.trans (b.mono BD.size); have h1 := BR.of_own hO H1.out; have p0 := cK qq pa0 pal; have p1 := cK qq pa1 pal; clear hO b)
        | (go_at_call 17; (with_reducible refine (C2 h1).mono ?_); rintro e y2 ⟨g2, q2, d2, rfl, hO, b⟩; replace qq := bK qq b; have h2 := BR.of_own hO H2.out; have p0 := cK qq pa0 pal; have p1 := cK qq pa1 pal; clear hO b)
        | (go_at_call 21; have hAq := hA0.out.on qq; have hqs := qq.size; (with_reducible refine (C3 h2 hAq).mono ?_); rintro e y3 ⟨g3, q3, d3, rfl, hO, b⟩; replace qq := bK qq b; have hbs := b.size; have hO3 := hO; have hgt := (hO.lt g3 rfl).1; have hq3 : q3 ≤ 2000 := (by have e1 := (BR.of_own hO HF8.out).1; have e2 := HLF.out; omega); have p0 := cK qq pa0 pal; have p1 := cK qq pa1 pal; clear hO b)
        | (have hqd : q3 ≤ d3 := (BR.of_own hO3 HF8.out).2.1; refine step_append_zero13 rfl _ _ 22 rfl 5 i0 Try.underlying22 hi _ _ _ _ _ rfl rfl hqd ?_))
    have hF0 := BR.of_own hO3 HF8.out
    rw [← List.append_nil F, HAL.out] at hF0
    go_wp2_with fail
    go_meet
    exact ⟨_, _, _, rfl, hF0, qq⟩
  case rest =>
    obtain ⟨C, p, e, rfl, hC, b⟩ := hcut
    replace hA := hA.on b
    replace hB := hB.on b
    replace pa0 := cK b pa0 pal
    replace pa1 := cK b pa1 pal
    replace pal := lK b pal
    replace cc := bK cc b
    clear b
    go_wp2_with fail
    refine (CT1 hC).mono ?_
    rintro e w2 ⟨A1, n1, c1, rfl, h1, b⟩
    replace hA := hA.on b
    replace hB := hB.on b
    replace hC := hC.on b
    replace pa0 := cK b pa0 pal
    replace pa1 := cK b pa1 pal
    replace pal := lK b pal
    replace cc := bK cc b
    clear b
    go_wp2_with fail
    refine (CT2 h1).mono ?_
    rintro e w3 ⟨A2, n2, c2, rfl, h2, b⟩
    replace hA := hA.on b
    replace hB := hB.on b
    replace hC := hC.on b
    replace h1 := h1.on b
    replace pa0 := cK b pa0 pal
    replace pa1 := cK b pa1 pal
    replace pal := lK b pal
    replace cc := bK cc b
    clear b
    go_wp2_with fail
    refine (CT3 h2).mono ?_
    rintro e w4 ⟨A3, n3, c3, B3, m3, d3, rfl, h3, k3, b⟩
    replace hA := hA.on b
    replace hB := hB.on b
    replace hC := hC.on b
    replace h1 := h1.on b
    replace h2 := h2.on b
    replace pa0 := cK b pa0 pal
    replace pa1 := cK b pa1 pal
    replace pal := lK b pal
    replace cc := bK cc b
    clear b
    clear hC h1 h2
    go_wp2_with fail
    refine (alive13_any _).mono ?_
    rintro e w5 ⟨rfl, b⟩
    replace hA := hA.on b
    replace hB := hB.on b
    replace h3 := h3.on b
    replace k3 := k3.on b
    replace pa0 := cK b pa0 pal
    replace pa1 := cK b pa1 pal
    replace pal := lK b pal
    replace cc := bK cc b
    clear b
    go_wp2_with fail
    refine (rsameB_self h3 hA (by have := h3.1; have := hA.1; have := HN1.out; omega)).mono ?_
    rintro e w6 ⟨rfl, b⟩
    replace hA := hA.on b
    replace hB := hB.on b
    replace h3 := h3.on b
    replace k3 := k3.on b
    replace pa0 := cK b pa0 pal
    replace pa1 := cK b pa1 pal
    replace pal := lK b pal
    replace cc := bK cc b
    clear b
    go_wp2_with fail
    refine (rsameB_self k3 hB (by have := k3.1; have := hB.1; have := HM.out; omega)).mono ?_
    rintro e w7 ⟨rfl, b⟩
    replace hA := hA.on b
    replace hB := hB.on b
    replace h3 := h3.on b
    replace k3 := k3.on b
    replace pa0 := cK b pa0 pal
    replace pa1 := cK b pa1 pal
    replace pal := lK b pal
    replace cc := bK cc b
    clear b
    go_wp2_with fail
    go_ret
    exact ⟨rfl, cc⟩

theorem u64_nat13b {a : Int} (h : (Lit.int .u64 a).wf = true) : ∃ q : Nat, a = (q : Int) ∧ q < 2 * 128 ^ 9 := by
  have : 0 ≤ a ∧ a ≤ 18446744073709551615 := bounds_u64 h
  rw [b64_9]
  exact ⟨a.toNat, by omega, by omega⟩
theorem PackBack_walk {w : World} (N : Int) (wN : (Lit.int .u64 N).wf = true) (z : Int) (wz : (Lit.int .i64 z).wf = true) {A B : Option Addr} {n c m d : Nat} {l r : List Nat} (hA : BR w A n c l) (hB : BR w B m d r) : Calls Try.prog 5 #[.int .u64 N, .int .i64 z, .agg #[.slice A n c, .slice B m d]] w fun e w' => e = .returned (.bool true) ∧ Below w.heap.size w w' := by
  obtain ⟨N, rfl, hN⟩ := u64_nat13b wN
  have hz := bounds_i64 wz
  by_cases h : 1000 < n
  · exact PackBack_a h
  by_cases h2 : 1000 < m
  · exact PackBack_b (by omega) h2
  rcases Nat.eq_zero_or_pos m with h0 | h0
  · exact PackBack_none hA hB (by omega) (by omega) hN hz h0
  · exact PackBack_some hA hB (by omega) (by omega) hN hz h0

end Go.Proofs.Ytfdapcogkbddaaa
