/-
  Several texts in one: J11b, J11c, C11.
-/
import Derived.Test.YtlmcpgahjfepjaaGreatA10
import Derived.Test.YtlmcpgahjfepjaaGreatA9

/-
  What the landed block's small calls answer: near, mannerOf, takes, greatest; rows cloned, bytes compared.
-/
namespace Go.Proofs.YtlmcpgahjfepjaaGreat
set_option maxRecDepth 100000
open Go.RowKit
set_option linter.unusedVariables false
set_option linter.unusedSimpArgs false

/-- What a kind takes: wide numbers, or those of a codebook. -/
def tkW (x : Int) : Bool := decide (x ≠ -9223372036854775808)
def tkC (k x : Int) : Bool := decide (0 ≤ x ∨ (x ≠ -9223372036854775808 ∧ sig9 k = true))
/-- The two manners as values. -/
abbrev mnW : Value := .iface 54 (.agg #[])
abbrev mnC (k : Int) : Value := .iface 55 (.int .i64 k)
/-- A row of integers that is new. -/
def GotIn (w : World) (l : List Int) (e : Ending) (w' : World) : Prop := ∃ A n c, e = .returned (.slice A n c) ∧ IR w' A n c l ∧ Below w.heap.size w w' ∧ ∀ p, A = some p → w.heap.size ≤ p.block
theorem GotIn.old {w w' : World} {l : List Int} {e : Ending} (h : GotIn w l e w') : GotI w l e w' := by obtain ⟨A, n, c, h1, h2, h3, _⟩ := h; exact ⟨A, n, c, h1, h2, h3⟩
theorem eql_i64s (w : World) (a : Option Addr) (n c : Nat) : (binOp .eql 23 (.slice a n c) (.slice none 0 0)).run Tryz.prog w = .ok (.bool a.isNone) w := Lib.run_eql_slice_nil w _ 2 a n c 0 0 Tryz.underlying23
theorem conv_br {w : World} {A : Option Addr} {n c : Nat} {C : List Nat} (h : BR w A n c C) : (convert 22 9 (.slice A n c)).run Tryz.prog w = .ok (.string (strOfNums (ints8 C))) w := by
  rcases Nat.eq_zero_or_pos n with hn | hn
  · have hC0 : C = [] := List.eq_nil_of_length_eq_zero (by rw [← h.1]; exact hn)
    subst hn; subst hC0
    rcases A with _ | a
    · exact run_convert_bytes_nil (P := Tryz.prog) w 22 5 Tryz.underlying22 Tryz.underlying5 0 c 9 Tryz.underlying9
    · rw [run_convert_bytes_string w _ _ 5 (some a) 0 c Tryz.underlying22 Tryz.underlying5 Tryz.underlying9]
      exact run_bytesToString w a 0 c [] (by simp [loadCells, go_sem] <;> rfl)
  · obtain ⟨b, off, rfl, _⟩ := h.some hn
    exact run_convert_bytes_arg (P := Tryz.prog) w 22 5 Tryz.underlying22 Tryz.underlying5 b off n c (ints8 C) (by rw [ints8_len, ← h.1]) (br_ints h) 9 Tryz.underlying9
theorem str8_eq {C D : List Nat} (hC : ∀ x ∈ C, x < 256) (hD : ∀ x ∈ D, x < 256) : strOfNums (ints8 C) = strOfNums (ints8 D) ↔ C = D := by
  constructor
  · intro h
    have h2 : (strOfNums (ints8 C)).data.toList = (strOfNums (ints8 D)).data.toList := by rw [h]
    rw [strOfNums_data, strOfNums_data] at h2
    unfold ints8 at h2
    rw [List.map_map, List.map_map] at h2
    induction C generalizing D with
    | nil => cases D with
      | nil => rfl
      | cons y D => simp at h2
    | cons x C ih => cases D with
      | nil => simp at h2
      | cons y D =>
        simp only [List.map_cons, List.cons.injEq, Function.comp] at h2
        have e1 : x = y := (ofNat8 (hC x (List.mem_cons_self ..)) (hD y (List.mem_cons_self ..))).1 (by simpa using h2.1)
        have e2 := ih (fun z hz => hC z (List.mem_cons_of_mem _ hz)) (fun z hz => hD z (List.mem_cons_of_mem _ hz)) (by
          have : (strOfNums (ints8 C)).data.toList = (strOfNums (ints8 D)).data.toList := by
            rw [strOfNums_data, strOfNums_data]; unfold ints8; rw [List.map_map, List.map_map]; exact h2.2
          exact ByteArray.ext (Array.toList_inj.1 this)) h2.2
        rw [e1, e2]
  · rintro rfl; rfl

set_option maxRecDepth 1000000 in
set_option maxHeartbeats 8000000 in
theorem bknear_N (w : World) {k num den : Int} (hn : I64 num) (hd : I64 den) (hS : Shr k num den) : Calls Tryz.prog 102 #[.int .i64 k, .int .i64 num, .int .i64 den] w (GotV w (.int .u8 ((near10 k num den : Nat) : Int))) := by
  have CN := fun W => cNear_yes W hn hd hS
  have h6 := near10_le k num den
  clear hS
  generalize near10 k num den = c at *
  have cc := Below.refl w.heap.size w
  go_enter Tryz.func102, Tryz.ntmps102
  go_wp2_with fail
  refine (CN _).mono ?_
  rintro e w1 ⟨rfl, b⟩
  replace cc := cc.trans (b.mono cc.size)
  clear b
  go_wp2_with fail
  go_ret
  exact ⟨rfl, cc⟩

set_option maxRecDepth 1000000 in
set_option maxHeartbeats 8000000 in
theorem bkman_w (w : World) {k : Int} (h : k = 4) : Calls Tryz.prog 20 #[.int .i64 k] w (GotV w (.tuple #[mnW, .int .i64 0])) := by
  subst h
  have cc := Below.refl w.heap.size w
  go_enter Tryz.func20, Tryz.ntmps20
  go_wp2_with fail
  go_ret2
  exact ⟨rfl, cc⟩

set_option maxRecDepth 1000000 in
set_option maxHeartbeats 8000000 in
theorem bkman_c (w : World) {k : Int} (h : Kind9 k) : Calls Tryz.prog 20 #[.int .i64 k] w (GotV w (.tuple #[mnC k, .int .i64 0])) := by
  have k4 : (k == 4) = false := beq_eq_false_iff_ne.2 (by unfold Kind9 at h; omega)
  have CD := fun W => bden_N W k
  have hd := (facts10 h).2.2.2.2.2.2
  have k0 : (den9 k == 0) = false := beq_eq_false_iff_ne.2 (by omega)
  clear h hd
  generalize den9 k = D at *
  have cc := Below.refl w.heap.size w
  go_enter Tryz.func20, Tryz.ntmps20
  go_wp2_with fail
  refine (CD _).mono ?_
  rintro e w1 ⟨rfl, b⟩
  replace cc := cc.trans (b.mono cc.size)
  clear b
  go_wp2_with fail
  go_ret2
  exact ⟨rfl, cc⟩

set_option maxRecDepth 1000000 in
set_option maxHeartbeats 8000000 in
theorem bkman_no (w : World) {k : Int} (h : ¬ (0 ≤ k ∧ k ≤ 4)) : Calls Tryz.prog 20 #[.int .i64 k] w (GotV w (.tuple #[.nilIface, .int .i64 1])) := by
  have k4 : (k == 4) = false := beq_eq_false_iff_ne.2 (by omega)
  have CD := fun W => bden_N W k
  have hd : den9 k = 0 := by unfold den9; rw [if_neg (by omega), if_neg (by omega)]
  rw [hd] at CD
  clear hd
  have cc := Below.refl w.heap.size w
  go_enter Tryz.func20, Tryz.ntmps20
  go_wp2_with fail
  refine (CD _).mono ?_
  rintro e w1 ⟨rfl, b⟩
  replace cc := cc.trans (b.mono cc.size)
  clear b
  go_wp2_with fail
  go_ret2
  exact ⟨rfl, cc⟩

set_option maxRecDepth 1000000 in
set_option maxHeartbeats 8000000 in
theorem bktkw_N (w : World) {x : Int} : Calls Tryz.prog 93 #[.agg #[], .int .i64 x] w (GotV w (.bool (tkW x))) := by
  have hx : (x != -9223372036854775808) = tkW x := by unfold tkW; rw [Bool.eq_iff_iff]; simp
  generalize tkW x = r at *
  have cc := (Below.refl w.heap.size w).alloc (Nat.le_refl _) (.cells #[] 54)
  go_enter Tryz.func93, Tryz.ntmps93
  go_wp2_with fail
  go_ret
  exact ⟨rfl, cc⟩

set_option maxRecDepth 1000000 in
set_option maxHeartbeats 8000000 in
theorem bktkc_p (w : World) {k x : Int} (h : 0 ≤ x) : Calls Tryz.prog 98 #[.int .i64 k, .int .i64 x] w (GotV w (.bool (tkC k x))) := by
  have t0 : decide (0 ≤ x) = true := decide_eq_true h
  have hv : tkC k x = true := decide_eq_true (.inl h)
  rw [hv]
  clear h hv
  have cc := Below.refl w.heap.size w
  go_enter Tryz.func98, Tryz.ntmps98
  go_wp2_with fail
  go_ret
  exact ⟨rfl, cc⟩

set_option maxRecDepth 1000000 in
set_option maxHeartbeats 8000000 in
theorem bktkc_l (w : World) {k x : Int} (h : x = -9223372036854775808) : Calls Tryz.prog 98 #[.int .i64 k, .int .i64 x] w (GotV w (.bool (tkC k x))) := by
  subst h
  have hv : tkC k (-9223372036854775808) = false := by unfold tkC; simp
  rw [hv]
  clear hv
  have cc := Below.refl w.heap.size w
  go_enter Tryz.func98, Tryz.ntmps98
  go_wp2_with fail
  go_ret
  exact ⟨rfl, cc⟩

set_option maxRecDepth 1000000 in
set_option maxHeartbeats 8000000 in
theorem bktkc_n (w : World) {k x : Int} (h : ¬ 0 ≤ x) (h2 : x ≠ -9223372036854775808) : Calls Tryz.prog 98 #[.int .i64 k, .int .i64 x] w (GotV w (.bool (tkC k x))) := by
  have t0 : decide (0 ≤ x) = false := decide_eq_false h
  have t1 : (x != -9223372036854775808) = true := by simp; exact h2
  have t2 : (x == -9223372036854775808) = false := beq_eq_false_iff_ne.2 h2
  have hv : tkC k x = sig9 k := by unfold tkC; rw [Bool.eq_iff_iff, decide_eq_true_eq]; exact ⟨fun e => (by rcases e with e | e; exact absurd e h; exact e.2), fun e => .inr ⟨h2, e⟩⟩
  rw [hv]
  have CS := fun W => bsig_N W k
  generalize sig9 k = r at *
  clear h h2 hv
  have cc := Below.refl w.heap.size w
  go_enter Tryz.func98, Tryz.ntmps98
  go_wp2_with fail
  refine (CS _).mono ?_
  rintro e w1 ⟨rfl, b⟩
  replace cc := cc.trans (b.mono cc.size)
  clear b
  go_wp2_with fail
  go_ret
  exact ⟨rfl, cc⟩

theorem bktkc_N (w : World) {k x : Int} : Calls Tryz.prog 98 #[.int .i64 k, .int .i64 x] w (GotV w (.bool (tkC k x))) := by
  by_cases h : 0 ≤ x
  · exact bktkc_p w h
  · by_cases h2 : x = -9223372036854775808
    · exact bktkc_l w h2
    · exact bktkc_n w h h2

attribute [local go_sem ↓] mxT_run

set_option maxRecDepth 1000000 in
set_option maxHeartbeats 8000000 in
theorem bkgreat_N {w : World} {A : Option Addr} {n c : Nat} {L : List Int} (hA : IR w A n c L) (hn : n ≤ 9223372036854775807) (hL : ∀ j : Nat, I64 (L[j]?.getD 0) ∧ L[j]?.getD 0 ≠ -9223372036854775808) :
    Calls Tryz.prog 101 #[.slice A n c] w (fun e w' => e = .returned (.int .i64 (gr L)) ∧ w' = w) := by
  go_enter Tryz.func101, Tryz.ntmps101
  go_wp2_with fail
  go_loopw [3, 8] (fun nv iv wr => ∃ i : Nat, i ≤ n ∧ iv = .int .i64 (i : Int) ∧ nv = .int .i64 (grk L i) ∧ wr = w) (fun _ iv _ => n - (intOf iv).toNat)
  case atStart => exact ⟨0, by omega, rfl, rfl, rfl⟩
  case round =>
    obtain ⟨i, hi, rfl, rfl, hbl⟩ := hrel
    subst hbl
    by_cases hlt : i < n
    · obtain ⟨bb, off, rfl, hb, hcell⟩ := hA.2.2 (by omega)
      have h1 := hcell i hlt
      have hx := hL i
      have k3 : IntKind.i64.wrap ((i : Int) + 1) = ((i + 1 : Nat) : Int) := by rw [IntWalk.i64_in _ (by omega)]; omega
      have hG : grk L (i + 1) = mxT (grk L i) (L[i]?.getD 0) := rfl
      obtain ⟨x, ex⟩ : ∃ x, L[i]?.getD 0 = x := ⟨_, rfl⟩
      rw [ex] at h1 hx hG
      have k4 : IntKind.i64.wrap (-x) = -x := IntWalk.i64_in _ (by unfold I64 at hx; omega)
      have HG := Lib.hid hG
      have MX := fun (ts : Array TypeId) (t : TypeId) (g : Int) (W : World) => mxT_run (P := Tryz.prog) W ts t g x (-x) rfl
      clear hcell hx ex hG
      generalize grk L i = g at *
      go_wp2_with fail
      go_roundw
      case rel => exact ⟨i + 1, by omega, rfl, by rw [HG.out], by trivial⟩
      case measure => simp [intOf] <;> omega
    · obtain rfl : i = n := by omega
      have hG : grk L i = gr L := by unfold gr; rw [← hA.1]
      rw [hG]
      go_wp2_with fail
      go_ret
      exact ⟨rfl, rfl⟩

set_option maxRecDepth 1000000 in
set_option maxHeartbeats 8000000 in
theorem bkclone_none (w : World) {c : Nat} : Calls Tryz.prog 94 #[.slice none 0 c] w (GotIn w []) := by
  have hq := eql_i64s
  have cc := Below.refl w.heap.size w
  go_enter Tryz.func94, Tryz.ntmps94
  go_wp2_with fail
  go_ret
  exact ⟨_, _, _, rfl, IR.nil _ _ _, cc, fun p e => by cases e⟩

set_option maxRecDepth 1000000 in
set_option maxHeartbeats 8000000 in
theorem bkclone_zero (w : World) {a : Addr} {c : Nat} : Calls Tryz.prog 94 #[.slice (some a) 0 c] w (GotIn w []) := by
  have hq := eql_i64s
  have cc := (Below.refl w.heap.size w).alloc (Nat.le_refl _) (.cells #[] 2)
  go_enter Tryz.func94, Tryz.ntmps94
  go_wp2_with fail
  go_ret
  exact ⟨_, _, _, rfl, IR.nil _ _ _, cc, fun p e => by injection e with e; subst e; exact Nat.le_refl _⟩

set_option maxRecDepth 1000000 in
set_option maxHeartbeats 8000000 in
theorem bkclone_some {w : World} {b off n c : Nat} {L : List Int} (hW : IR w (some ⟨b, off, none⟩) n c L) (hm : 0 < n) (hm2 : n ≤ 4096) : Calls Tryz.prog 94 #[.slice (some ⟨b, off, none⟩) n c] w (GotIn w L) := by
  have hq := eql_i64s
  obtain ⟨i0, hi, hz0, hz1, hz2⟩ := info_parts infoI
  obtain ⟨t, ht⟩ : ∃ t, w.heap.size = t := ⟨_, rfl⟩
  have HT := Lib.hid ht
  have hl := hW.1
  have hb : b < w.heap.size := by obtain ⟨b', o', e, hlt⟩ := hW.some hm; injection e with e; injection e with e1; rw [e1]; exact hlt
  have HNV : Hid (∀ j u, (L.map encI)[j]? = some u → (w.alloc (.cells #[] 2)).cell? ((⟨b, off, none⟩ : Addr).add j) = some u) := Lib.hid (fun j u e => by
    rw [List.getElem?_map] at e
    rcases hj : L[j]? with _ | z
    · rw [hj] at e; cases e
    · rw [hj] at e; injection e with e
      have hlt : j < L.length := (List.getElem?_eq_some_iff.1 hj).1
      have h1 := (hW.on ((Below.refl _ w).alloc (Nat.le_refl _) (.cells #[] 2))).cell (j := j) (by omega)
      rw [hj] at h1
      rw [← e, addr_add]
      exact h1)
  have HL := Lib.hid hl
  have HO : Hid ((w.alloc (.cells #[] 2)).ownsRow t 2 1 (.slice (some ⟨w.heap.size, 0, none⟩) 0 0) 0 ([] : List Value)) := Lib.hid (World.ownsRow_lit w #[] 0 (by omega) (by unfold maxLen; omega) rfl)
  have HB : Hid (Below t w (w.alloc (.cells #[] 2))) := Lib.hid ((Below.refl t w).alloc (by omega) _)
  have t_le : t ≤ w.heap.size + 1 := by rw [← HT.out]; omega
  clear ht hW hb hl
  go_enter Tryz.func94, Tryz.ntmps94
  go_wp2_with (at_builtin; refine wpList_append_lies _ rfl _ _ 23 rfl t 2 i0 (.int .i64 0) 1 8 Tryz.underlying23 hi hz0 hz1 hz2 rfl (by decide) _ 0 [] rfl HO.out ⟨b, off, none⟩ n c (L.map encI) rfl (by rw [List.length_map, HL.out]; simp) HNV.out (by simp [encI, Value.oneCell']) hm (by unfold maxLen; omega) (by omega) (by simp; omega) _ rfl ?_; intro g1 cap1 w3 hown1 hgrow1 hat hlt1)
  go_ret
  have h1 : Below t w w3 := HB.out.grown hgrow1 (by simp; omega) (fun q e => by injection (show some w.heap.size = some q from e) with e1; have := HT.out; omega)
  rw [← HT.out] at h1
  rw [List.nil_append] at hown1
  rw [Nat.zero_add] at hown1
  exact ⟨_, _, _, rfl, IR.of_own hown1, h1, fun p e => by injection e with e; subst e; have := (hown1.lt g1 rfl).1; rw [HT.out]; exact this⟩

theorem bkclone_N {w : World} {A : Option Addr} {n c : Nat} {L : List Int} (hA : IR w A n c L) (hn : n ≤ 4096) : Calls Tryz.prog 94 #[.slice A n c] w (GotIn w L) := by
  rcases Nat.eq_zero_or_pos n with h | h
  · have hL : L = [] := List.eq_nil_of_length_eq_zero (by rw [← hA.1]; exact h)
    subst h; subst hL
    rcases A with _ | a
    · exact bkclone_none w
    · exact bkclone_zero w
  · obtain ⟨b, off, rfl, _⟩ := hA.some h
    exact bkclone_some hA h hn

set_option maxRecDepth 1000000 in
set_option maxHeartbeats 8000000 in
theorem bkbeq_N {w : World} {A B : Option Addr} {n c m d : Nat} {C D : List Nat} (hC : BR w A n c C) (hD : BR w B m d D) : Calls Tryz.prog 21 #[.slice A n c, .slice B m d] w (GotV w (.bool (decide (C = D)))) := by
  have h1 := conv_br hC
  have h2 := conv_br hD
  have h3 : ((strOfNums (ints8 C)).toList == (strOfNums (ints8 D)).toList) = decide (C = D) := by rw [Bool.eq_iff_iff, beq_iff_eq, decide_eq_true_eq]; rw [ByteArray.toList_eq, ByteArray.toList_eq]; exact ⟨fun e => (str8_eq hC.2.2.1 hD.2.2.1).1 (ByteArray.ext (Array.toList_inj.1 e)), fun e => by rw [e]⟩
  clear hC hD
  generalize strOfNums (ints8 C) = p at *
  generalize strOfNums (ints8 D) = q at *
  generalize decide (C = D) = r at *
  have cc := Below.refl w.heap.size w
  go_enter Tryz.func21, Tryz.ntmps21
  go_wp2_with fail
  go_ret
  exact ⟨rfl, cc⟩
end Go.Proofs.YtlmcpgahjfepjaaGreat

/-
  The contracts of the landed block: Len, Same.
-/
namespace Go.Proofs.YtlmcpgahjfepjaaGreat
set_option maxRecDepth 100000
open Go.RowKit
set_option linter.unusedVariables false
set_option linter.unusedSimpArgs false

set_option maxRecDepth 100000 in
set_option maxHeartbeats 8000000 in
theorem bkLen_N (w : World) {k s : Int} {A B : Option Addr} {n c m d : Nat} (hn : n ≤ 9223372036854775807) (hm : m ≤ 9223372036854775807) :
    Calls Tryz.prog 11 #[.agg #[.int .i64 k, .int .i64 s, .slice A n c, .slice B m d]] w (GotV w (.int .i64 (IntKind.i64.wrap ((n : Int) + (m : Int))))) := by
  obtain ⟨q, hq⟩ : ∃ q, IntKind.i64.wrap ((n : Int) + (m : Int)) = q := ⟨_, rfl⟩
  rw [hq]
  have cc := Below.refl w.heap.size w
  go_enter Tryz.func11, Tryz.ntmps11
  go_wp2_with fail
  have bA : Below w.heap.size w (w.alloc (.cells #[.int .i64 k, .int .i64 s, .slice A n c, .slice B m d] 25)) := ((Below.refl _ w).alloc (by simp) _)
  replace cc := cc.trans (bA.mono cc.size)
  clear bA
  have ka0 : (w.alloc (.cells #[.int .i64 k, .int .i64 s, .slice A n c, .slice B m d] 25)).cell? ⟨w.heap.size, 0, none⟩ = some (.int .i64 k) := by simp [go_sem]
  have ka1 : (w.alloc (.cells #[.int .i64 k, .int .i64 s, .slice A n c, .slice B m d] 25)).cell? ⟨w.heap.size, 1, none⟩ = some (.int .i64 s) := by simp [go_sem]
  have ka2 : (w.alloc (.cells #[.int .i64 k, .int .i64 s, .slice A n c, .slice B m d] 25)).cell? ⟨w.heap.size, 2, none⟩ = some (.slice A n c) := by simp [go_sem]
  have ka3 : (w.alloc (.cells #[.int .i64 k, .int .i64 s, .slice A n c, .slice B m d] 25)).cell? ⟨w.heap.size, 3, none⟩ = some (.slice B m d) := by simp [go_sem]
  have kal : w.heap.size < (w.alloc (.cells #[.int .i64 k, .int .i64 s, .slice A n c, .slice B m d] 25)).heap.size := by simp <;> omega
  generalize w.alloc (.cells #[.int .i64 k, .int .i64 s, .slice A n c, .slice B m d] 25) = v1 at *
  go_wp2_with fail
  go_ret
  exact ⟨rfl, cc⟩

set_option maxRecDepth 100000 in
set_option maxHeartbeats 8000000 in
theorem bkieq_len (w : World) {A B : Option Addr} {n c m d : Nat} (h : n ≠ m) :
    Calls Tryz.prog 22 #[.slice A n c, .slice B m d] w (GotV w (.bool false)) := by
  have e1 : ((n : Int) == (m : Int)) = false := beq_eq_false_iff_ne.2 (by omega)
  have e2 : ((n : Int) != (m : Int)) = true := by simp; omega
  have e3 : (n == m) = false := beq_eq_false_iff_ne.2 h
  have e4 : (n != m) = true := by simp; omega
  clear h
  have cc := Below.refl w.heap.size w
  go_enter Tryz.func22, Tryz.ntmps22
  go_wp2_with fail
  go_wp2_with fail
  go_ret
  exact ⟨rfl, cc⟩

set_option maxRecDepth 100000 in
set_option maxHeartbeats 8000000 in
theorem bkieq_eq {w : World} {A B : Option Addr} {n c d : Nat} {L K : List Int} (hA : IR w A n c L) (hB : IR w B n d K) (hn : n ≤ 9223372036854775807) :
    Calls Tryz.prog 22 #[.slice A n c, .slice B n d] w (GotV w (.bool (decide (L = K)))) := by
  have HL : Hid (n = L.length) := Lib.hid hA.1
  have HL2 : Hid (n = K.length) := Lib.hid hB.1
  obtain ⟨r, hr⟩ : ∃ r, decide (L = K) = r := ⟨_, rfl⟩
  rw [hr]
  have HR := Lib.hid hr
  clear hr
  have cc := Below.refl w.heap.size w
  go_enter Tryz.func22, Tryz.ntmps22
  go_wp2_with fail
  go_wp2_with fail
  go_loopw [13] (fun iv wr => ∃ i : Nat, i ≤ n ∧ iv = .int .i64 (i : Int) ∧ (∀ j, j < i → L[j]?.getD 0 = K[j]?.getD 0) ∧ Below w.heap.size w wr) (fun iv _ => n - (intOf iv).toNat)
  case atStart => exact ⟨0, by omega, rfl, fun j h => absurd h (by omega), Below.refl _ _⟩
  case round =>
    obtain ⟨i, hi, rfl, hj, hbl⟩ := hrel
    by_cases hlt : i < n
    · obtain ⟨b1, o1, rfl, hb1, hc1⟩ := (hA.on hbl).2.2 (by omega)
      obtain ⟨b2, o2, rfl, hb2, hc2⟩ := (hB.on hbl).2.2 (by omega)
      have h1 := hc1 i hlt
      have h2 := hc2 i hlt
      have k3 : IntKind.i64.wrap ((i : Int) + 1) = ((i + 1 : Nat) : Int) := by rw [IntWalk.i64_in _ (by omega)]; omega
      clear hc1 hc2
      obtain ⟨x, hx⟩ : ∃ x, L[i]?.getD 0 = x := ⟨_, rfl⟩
      obtain ⟨y, hy⟩ : ∃ y, K[i]?.getD 0 = y := ⟨_, rfl⟩
      rw [hx] at h1
      rw [hy] at h2
      by_cases hxy : x = y
      · have t1 : (x == y) = true := beq_iff_eq.2 hxy
        have t2 : (x != y) = false := by simp; exact hxy
        have HJ : Hid (∀ j, j < i + 1 → L[j]?.getD 0 = K[j]?.getD 0) := Lib.hid (fun j h => by
          rcases Nat.lt_or_ge j i with e | e
          · exact hj j e
          · have e2 : j = i := by omega
            rw [e2, hx, hy]; exact hxy)
        clear hj hx hy hxy
        go_wp2_with fail
        go_region_held3 (fun w' => w'.cell? ⟨b1, o1 + i, none⟩ = some (.int .i64 x) ∧ w'.cell? ⟨b2, o2 + i, none⟩ = some (.int .i64 y)) (exact ⟨h1, h2⟩) (fail)
        go_wp2_with fail
        go_roundw
        case rel => exact ⟨i + 1, by omega, rfl, HJ.out, below_drewN hbl 1⟩
        case measure => simp [intOf] <;> omega
      · have t1 : (x == y) = false := beq_eq_false_iff_ne.2 hxy
        have t2 : (x != y) = true := by simp; exact hxy
        have hF : r = false := by rw [← HR.out]; exact decide_eq_false (fun h => hxy (by rw [← hx, ← hy, h]))
        subst hF
        clear hj hx hy hxy
        go_wp2_with fail
        go_region_held3 (fun w' => w'.cell? ⟨b1, o1 + i, none⟩ = some (.int .i64 x) ∧ w'.cell? ⟨b2, o2 + i, none⟩ = some (.int .i64 y)) (exact ⟨h1, h2⟩) (fail)
        go_wp2_with fail
        go_ret
        exact ⟨rfl, below_drewN hbl 1⟩
    · obtain rfl : i = n := by omega
      have hT : r = true := by
        have hl := HL.out
        have hl2 := HL2.out
        rw [← HR.out]; refine decide_eq_true (List.ext_getElem (by omega) fun j h1 h2 => ?_)
        have := hj j (by omega)
        rwa [List.getElem?_eq_getElem h1, List.getElem?_eq_getElem h2] at this
      subst hT
      clear hj
      go_wp2_with fail
      go_ret
      exact ⟨rfl, hbl⟩

theorem bkieq_N {w : World} {A B : Option Addr} {n c m d : Nat} {L K : List Int} (hA : IR w A n c L) (hB : IR w B m d K) (hn : n ≤ 9223372036854775807) : Calls Tryz.prog 22 #[.slice A n c, .slice B m d] w (GotV w (.bool (decide (L = K)))) := by
  by_cases h : n = m
  · subst h; exact bkieq_eq hA hB hn
  · rw [decide_eq_false (fun e => h (by rw [hA.1, hB.1, e]))]; exact bkieq_len w h

set_option maxRecDepth 100000 in
set_option maxHeartbeats 8000000 in
theorem bkSame_k {w : World} {ka sa : Int} {Aa Ba : Option Addr} {na ca ma da : Nat} {kb sb : Int} {Ab Bb : Option Addr} {nb cb mb db : Nat} (h : ka ≠ kb) :
    Calls Tryz.prog 9 #[.agg #[.int .i64 ka, .int .i64 sa, .slice Aa na ca, .slice Ba ma da], .agg #[.int .i64 kb, .int .i64 sb, .slice Ab nb cb, .slice Bb mb db]] w (GotV w (.bool false)) := by
  have t0 : (ka == kb) = false := beq_eq_false_iff_ne.2 h
  clear h
  have cc := Below.refl w.heap.size w
  go_enter Tryz.func9, Tryz.ntmps9
  go_wp2_with fail
  have bA : Below w.heap.size w ((w.alloc (.cells #[.int .i64 ka, .int .i64 sa, .slice Aa na ca, .slice Ba ma da] 25)).alloc (.cells #[.int .i64 kb, .int .i64 sb, .slice Ab nb cb, .slice Bb mb db] 25)) := (((Below.refl _ w).alloc (by simp) _).alloc (by simp) _)
  replace cc := cc.trans (bA.mono cc.size)
  clear bA
  have xa0 : ((w.alloc (.cells #[.int .i64 ka, .int .i64 sa, .slice Aa na ca, .slice Ba ma da] 25)).alloc (.cells #[.int .i64 kb, .int .i64 sb, .slice Ab nb cb, .slice Bb mb db] 25)).cell? ⟨w.heap.size, 0, none⟩ = some (.int .i64 ka) := by simp [go_sem]
  have xa1 : ((w.alloc (.cells #[.int .i64 ka, .int .i64 sa, .slice Aa na ca, .slice Ba ma da] 25)).alloc (.cells #[.int .i64 kb, .int .i64 sb, .slice Ab nb cb, .slice Bb mb db] 25)).cell? ⟨w.heap.size, 1, none⟩ = some (.int .i64 sa) := by simp [go_sem]
  have xa2 : ((w.alloc (.cells #[.int .i64 ka, .int .i64 sa, .slice Aa na ca, .slice Ba ma da] 25)).alloc (.cells #[.int .i64 kb, .int .i64 sb, .slice Ab nb cb, .slice Bb mb db] 25)).cell? ⟨w.heap.size, 2, none⟩ = some (.slice Aa na ca) := by simp [go_sem]
  have xa3 : ((w.alloc (.cells #[.int .i64 ka, .int .i64 sa, .slice Aa na ca, .slice Ba ma da] 25)).alloc (.cells #[.int .i64 kb, .int .i64 sb, .slice Ab nb cb, .slice Bb mb db] 25)).cell? ⟨w.heap.size, 3, none⟩ = some (.slice Ba ma da) := by simp [go_sem]
  have xal : w.heap.size < ((w.alloc (.cells #[.int .i64 ka, .int .i64 sa, .slice Aa na ca, .slice Ba ma da] 25)).alloc (.cells #[.int .i64 kb, .int .i64 sb, .slice Ab nb cb, .slice Bb mb db] 25)).heap.size := by simp <;> omega
  have xb0 : ((w.alloc (.cells #[.int .i64 ka, .int .i64 sa, .slice Aa na ca, .slice Ba ma da] 25)).alloc (.cells #[.int .i64 kb, .int .i64 sb, .slice Ab nb cb, .slice Bb mb db] 25)).cell? ⟨w.heap.size + 1, 0, none⟩ = some (.int .i64 kb) := by simp [go_sem]
  have xb1 : ((w.alloc (.cells #[.int .i64 ka, .int .i64 sa, .slice Aa na ca, .slice Ba ma da] 25)).alloc (.cells #[.int .i64 kb, .int .i64 sb, .slice Ab nb cb, .slice Bb mb db] 25)).cell? ⟨w.heap.size + 1, 1, none⟩ = some (.int .i64 sb) := by simp [go_sem]
  have xb2 : ((w.alloc (.cells #[.int .i64 ka, .int .i64 sa, .slice Aa na ca, .slice Ba ma da] 25)).alloc (.cells #[.int .i64 kb, .int .i64 sb, .slice Ab nb cb, .slice Bb mb db] 25)).cell? ⟨w.heap.size + 1, 2, none⟩ = some (.slice Ab nb cb) := by simp [go_sem]
  have xb3 : ((w.alloc (.cells #[.int .i64 ka, .int .i64 sa, .slice Aa na ca, .slice Ba ma da] 25)).alloc (.cells #[.int .i64 kb, .int .i64 sb, .slice Ab nb cb, .slice Bb mb db] 25)).cell? ⟨w.heap.size + 1, 3, none⟩ = some (.slice Bb mb db) := by simp [go_sem]
  have xbl : w.heap.size + 1 < ((w.alloc (.cells #[.int .i64 ka, .int .i64 sa, .slice Aa na ca, .slice Ba ma da] 25)).alloc (.cells #[.int .i64 kb, .int .i64 sb, .slice Ab nb cb, .slice Bb mb db] 25)).heap.size := by simp <;> omega
  generalize (w.alloc (.cells #[.int .i64 ka, .int .i64 sa, .slice Aa na ca, .slice Ba ma da] 25)).alloc (.cells #[.int .i64 kb, .int .i64 sb, .slice Ab nb cb, .slice Bb mb db] 25) = v1 at *
  go_wp2_with fail
  go_ret
  exact ⟨rfl, cc⟩

set_option maxRecDepth 100000 in
set_option maxHeartbeats 8000000 in
theorem bkSame_s {w : World} {ka sa : Int} {Aa Ba : Option Addr} {na ca ma da : Nat} {kb sb : Int} {Ab Bb : Option Addr} {nb cb mb db : Nat} (h : ka = kb) (h2 : sa ≠ sb) :
    Calls Tryz.prog 9 #[.agg #[.int .i64 ka, .int .i64 sa, .slice Aa na ca, .slice Ba ma da], .agg #[.int .i64 kb, .int .i64 sb, .slice Ab nb cb, .slice Bb mb db]] w (GotV w (.bool false)) := by
  have tk : (ka == kb) = true := beq_iff_eq.2 h
  clear h
  have t0 : (sa == sb) = false := beq_eq_false_iff_ne.2 h2
  clear h2
  have cc := Below.refl w.heap.size w
  go_enter Tryz.func9, Tryz.ntmps9
  go_wp2_with fail
  have bA : Below w.heap.size w ((w.alloc (.cells #[.int .i64 ka, .int .i64 sa, .slice Aa na ca, .slice Ba ma da] 25)).alloc (.cells #[.int .i64 kb, .int .i64 sb, .slice Ab nb cb, .slice Bb mb db] 25)) := (((Below.refl _ w).alloc (by simp) _).alloc (by simp) _)
  replace cc := cc.trans (bA.mono cc.size)
  clear bA
  have xa0 : ((w.alloc (.cells #[.int .i64 ka, .int .i64 sa, .slice Aa na ca, .slice Ba ma da] 25)).alloc (.cells #[.int .i64 kb, .int .i64 sb, .slice Ab nb cb, .slice Bb mb db] 25)).cell? ⟨w.heap.size, 0, none⟩ = some (.int .i64 ka) := by simp [go_sem]
  have xa1 : ((w.alloc (.cells #[.int .i64 ka, .int .i64 sa, .slice Aa na ca, .slice Ba ma da] 25)).alloc (.cells #[.int .i64 kb, .int .i64 sb, .slice Ab nb cb, .slice Bb mb db] 25)).cell? ⟨w.heap.size, 1, none⟩ = some (.int .i64 sa) := by simp [go_sem]
  have xa2 : ((w.alloc (.cells #[.int .i64 ka, .int .i64 sa, .slice Aa na ca, .slice Ba ma da] 25)).alloc (.cells #[.int .i64 kb, .int .i64 sb, .slice Ab nb cb, .slice Bb mb db] 25)).cell? ⟨w.heap.size, 2, none⟩ = some (.slice Aa na ca) := by simp [go_sem]
  have xa3 : ((w.alloc (.cells #[.int .i64 ka, .int .i64 sa, .slice Aa na ca, .slice Ba ma da] 25)).alloc (.cells #[.int .i64 kb, .int .i64 sb, .slice Ab nb cb, .slice Bb mb db] 25)).cell? ⟨w.heap.size, 3, none⟩ = some (.slice Ba ma da) := by simp [go_sem]
  have xal : w.heap.size < ((w.alloc (.cells #[.int .i64 ka, .int .i64 sa, .slice Aa na ca, .slice Ba ma da] 25)).alloc (.cells #[.int .i64 kb, .int .i64 sb, .slice Ab nb cb, .slice Bb mb db] 25)).heap.size := by simp <;> omega
  have xb0 : ((w.alloc (.cells #[.int .i64 ka, .int .i64 sa, .slice Aa na ca, .slice Ba ma da] 25)).alloc (.cells #[.int .i64 kb, .int .i64 sb, .slice Ab nb cb, .slice Bb mb db] 25)).cell? ⟨w.heap.size + 1, 0, none⟩ = some (.int .i64 kb) := by simp [go_sem]
  have xb1 : ((w.alloc (.cells #[.int .i64 ka, .int .i64 sa, .slice Aa na ca, .slice Ba ma da] 25)).alloc (.cells #[.int .i64 kb, .int .i64 sb, .slice Ab nb cb, .slice Bb mb db] 25)).cell? ⟨w.heap.size + 1, 1, none⟩ = some (.int .i64 sb) := by simp [go_sem]
  have xb2 : ((w.alloc (.cells #[.int .i64 ka, .int .i64 sa, .slice Aa na ca, .slice Ba ma da] 25)).alloc (.cells #[.int .i64 kb, .int .i64 sb, .slice Ab nb cb, .slice Bb mb db] 25)).cell? ⟨w.heap.size + 1, 2, none⟩ = some (.slice Ab nb cb) := by simp [go_sem]
  have xb3 : ((w.alloc (.cells #[.int .i64 ka, .int .i64 sa, .slice Aa na ca, .slice Ba ma da] 25)).alloc (.cells #[.int .i64 kb, .int .i64 sb, .slice Ab nb cb, .slice Bb mb db] 25)).cell? ⟨w.heap.size + 1, 3, none⟩ = some (.slice Bb mb db) := by simp [go_sem]
  have xbl : w.heap.size + 1 < ((w.alloc (.cells #[.int .i64 ka, .int .i64 sa, .slice Aa na ca, .slice Ba ma da] 25)).alloc (.cells #[.int .i64 kb, .int .i64 sb, .slice Ab nb cb, .slice Bb mb db] 25)).heap.size := by simp <;> omega
  generalize (w.alloc (.cells #[.int .i64 ka, .int .i64 sa, .slice Aa na ca, .slice Ba ma da] 25)).alloc (.cells #[.int .i64 kb, .int .i64 sb, .slice Ab nb cb, .slice Bb mb db] 25) = v1 at *
  go_wp2_with fail
  go_ret
  exact ⟨rfl, cc⟩

set_option maxRecDepth 100000 in
set_option maxHeartbeats 8000000 in
theorem bkSame_c {w : World} {ka sa : Int} {Aa Ba : Option Addr} {na ca ma da : Nat} {kb sb : Int} {Ab Bb : Option Addr} {nb cb mb db : Nat} (h : ka = kb) (h2 : sa = sb) {Ca : List Nat} {Wa : List Int} (hCa : BR w Aa na ca Ca) (hWa : IR w Ba ma da Wa) (hna : na ≤ 9223372036854775807) (hma : ma ≤ 9223372036854775807) {Cb : List Nat} {Wb : List Int} (hCb : BR w Ab nb cb Cb) (hWb : IR w Bb mb db Wb) (hnb : nb ≤ 9223372036854775807) (hmb : mb ≤ 9223372036854775807) :
    Calls Tryz.prog 9 #[.agg #[.int .i64 ka, .int .i64 sa, .slice Aa na ca, .slice Ba ma da], .agg #[.int .i64 kb, .int .i64 sb, .slice Ab nb cb, .slice Bb mb db]] w (GotV w (.bool (decide (Ca = Cb ∧ Wa = Wb)))) := by
  subst h
  subst h2
  obtain ⟨r, hr⟩ : ∃ r, decide (Ca = Cb ∧ Wa = Wb) = r := ⟨_, rfl⟩
  rw [hr]
  have hr2 : r = (decide (Ca = Cb) && decide (Wa = Wb)) := by rw [← hr]; simp
  clear hr
  have CC : ∀ {W : World}, BR W Aa na ca Ca → BR W Ab nb cb Cb → Calls Tryz.prog 21 #[.slice Aa na ca, .slice Ab nb cb] W (GotV W (.bool (decide (Ca = Cb)))) := fun a b => bkbeq_N a b
  have CW : ∀ {W : World}, IR W Ba ma da Wa → IR W Bb mb db Wb → Calls Tryz.prog 22 #[.slice Ba ma da, .slice Bb mb db] W (GotV W (.bool (decide (Wa = Wb)))) := fun a b => bkieq_N a b hma
  generalize decide (Ca = Cb) = p at *
  generalize decide (Wa = Wb) = q at *
  have cc := Below.refl w.heap.size w
  go_enter Tryz.func9, Tryz.ntmps9
  go_wp2_with fail
  have bA : Below w.heap.size w ((w.alloc (.cells #[.int .i64 ka, .int .i64 sa, .slice Aa na ca, .slice Ba ma da] 25)).alloc (.cells #[.int .i64 ka, .int .i64 sa, .slice Ab nb cb, .slice Bb mb db] 25)) := (((Below.refl _ w).alloc (by simp) _).alloc (by simp) _)
  replace hCa := hCa.on bA
  replace hCb := hCb.on bA
  replace hWa := hWa.on bA
  replace hWb := hWb.on bA
  replace cc := cc.trans (bA.mono cc.size)
  clear bA
  have xa0 : ((w.alloc (.cells #[.int .i64 ka, .int .i64 sa, .slice Aa na ca, .slice Ba ma da] 25)).alloc (.cells #[.int .i64 ka, .int .i64 sa, .slice Ab nb cb, .slice Bb mb db] 25)).cell? ⟨w.heap.size, 0, none⟩ = some (.int .i64 ka) := by simp [go_sem]
  have xa1 : ((w.alloc (.cells #[.int .i64 ka, .int .i64 sa, .slice Aa na ca, .slice Ba ma da] 25)).alloc (.cells #[.int .i64 ka, .int .i64 sa, .slice Ab nb cb, .slice Bb mb db] 25)).cell? ⟨w.heap.size, 1, none⟩ = some (.int .i64 sa) := by simp [go_sem]
  have xa2 : ((w.alloc (.cells #[.int .i64 ka, .int .i64 sa, .slice Aa na ca, .slice Ba ma da] 25)).alloc (.cells #[.int .i64 ka, .int .i64 sa, .slice Ab nb cb, .slice Bb mb db] 25)).cell? ⟨w.heap.size, 2, none⟩ = some (.slice Aa na ca) := by simp [go_sem]
  have xa3 : ((w.alloc (.cells #[.int .i64 ka, .int .i64 sa, .slice Aa na ca, .slice Ba ma da] 25)).alloc (.cells #[.int .i64 ka, .int .i64 sa, .slice Ab nb cb, .slice Bb mb db] 25)).cell? ⟨w.heap.size, 3, none⟩ = some (.slice Ba ma da) := by simp [go_sem]
  have xal : w.heap.size < ((w.alloc (.cells #[.int .i64 ka, .int .i64 sa, .slice Aa na ca, .slice Ba ma da] 25)).alloc (.cells #[.int .i64 ka, .int .i64 sa, .slice Ab nb cb, .slice Bb mb db] 25)).heap.size := by simp <;> omega
  have xb0 : ((w.alloc (.cells #[.int .i64 ka, .int .i64 sa, .slice Aa na ca, .slice Ba ma da] 25)).alloc (.cells #[.int .i64 ka, .int .i64 sa, .slice Ab nb cb, .slice Bb mb db] 25)).cell? ⟨w.heap.size + 1, 0, none⟩ = some (.int .i64 ka) := by simp [go_sem]
  have xb1 : ((w.alloc (.cells #[.int .i64 ka, .int .i64 sa, .slice Aa na ca, .slice Ba ma da] 25)).alloc (.cells #[.int .i64 ka, .int .i64 sa, .slice Ab nb cb, .slice Bb mb db] 25)).cell? ⟨w.heap.size + 1, 1, none⟩ = some (.int .i64 sa) := by simp [go_sem]
  have xb2 : ((w.alloc (.cells #[.int .i64 ka, .int .i64 sa, .slice Aa na ca, .slice Ba ma da] 25)).alloc (.cells #[.int .i64 ka, .int .i64 sa, .slice Ab nb cb, .slice Bb mb db] 25)).cell? ⟨w.heap.size + 1, 2, none⟩ = some (.slice Ab nb cb) := by simp [go_sem]
  have xb3 : ((w.alloc (.cells #[.int .i64 ka, .int .i64 sa, .slice Aa na ca, .slice Ba ma da] 25)).alloc (.cells #[.int .i64 ka, .int .i64 sa, .slice Ab nb cb, .slice Bb mb db] 25)).cell? ⟨w.heap.size + 1, 3, none⟩ = some (.slice Bb mb db) := by simp [go_sem]
  have xbl : w.heap.size + 1 < ((w.alloc (.cells #[.int .i64 ka, .int .i64 sa, .slice Aa na ca, .slice Ba ma da] 25)).alloc (.cells #[.int .i64 ka, .int .i64 sa, .slice Ab nb cb, .slice Bb mb db] 25)).heap.size := by simp <;> omega
  generalize (w.alloc (.cells #[.int .i64 ka, .int .i64 sa, .slice Aa na ca, .slice Ba ma da] 25)).alloc (.cells #[.int .i64 ka, .int .i64 sa, .slice Ab nb cb, .slice Bb mb db] 25) = v1 at *
  go_wp2_with fail
  refine (CC hCa hCb).mono ?_
  rintro e w2 ⟨rfl, b⟩
  replace hCa := hCa.on b
  replace hCb := hCb.on b
  replace hWa := hWa.on b
  replace hWb := hWb.on b
  replace xa0 := (b.cell (p := ⟨w.heap.size, 0, none⟩) xal).trans xa0
  replace xa1 := (b.cell (p := ⟨w.heap.size, 1, none⟩) xal).trans xa1
  replace xa2 := (b.cell (p := ⟨w.heap.size, 2, none⟩) xal).trans xa2
  replace xa3 := (b.cell (p := ⟨w.heap.size, 3, none⟩) xal).trans xa3
  replace xal := Nat.lt_of_lt_of_le xal b.size
  replace xb0 := (b.cell (p := ⟨w.heap.size + 1, 0, none⟩) xbl).trans xb0
  replace xb1 := (b.cell (p := ⟨w.heap.size + 1, 1, none⟩) xbl).trans xb1
  replace xb2 := (b.cell (p := ⟨w.heap.size + 1, 2, none⟩) xbl).trans xb2
  replace xb3 := (b.cell (p := ⟨w.heap.size + 1, 3, none⟩) xbl).trans xb3
  replace xbl := Nat.lt_of_lt_of_le xbl b.size
  replace cc := cc.trans (b.mono cc.size)
  clear b
  cases p
  · obtain rfl : r = false := by rw [hr2]; rfl
    clear hr2
    go_wp2_with fail
    go_ret
    exact ⟨rfl, cc⟩
  · obtain rfl : r = q := by rw [hr2, Bool.true_and]
    clear hr2
    go_wp2_with fail
    refine (CW hWa hWb).mono ?_
    rintro e w3 ⟨rfl, b⟩
    replace hCa := hCa.on b
    replace hCb := hCb.on b
    replace hWa := hWa.on b
    replace hWb := hWb.on b
    replace xa0 := (b.cell (p := ⟨w.heap.size, 0, none⟩) xal).trans xa0
    replace xa1 := (b.cell (p := ⟨w.heap.size, 1, none⟩) xal).trans xa1
    replace xa2 := (b.cell (p := ⟨w.heap.size, 2, none⟩) xal).trans xa2
    replace xa3 := (b.cell (p := ⟨w.heap.size, 3, none⟩) xal).trans xa3
    replace xal := Nat.lt_of_lt_of_le xal b.size
    replace xb0 := (b.cell (p := ⟨w.heap.size + 1, 0, none⟩) xbl).trans xb0
    replace xb1 := (b.cell (p := ⟨w.heap.size + 1, 1, none⟩) xbl).trans xb1
    replace xb2 := (b.cell (p := ⟨w.heap.size + 1, 2, none⟩) xbl).trans xb2
    replace xb3 := (b.cell (p := ⟨w.heap.size + 1, 3, none⟩) xbl).trans xb3
    replace xbl := Nat.lt_of_lt_of_le xbl b.size
    replace cc := cc.trans (b.mono cc.size)
    clear b
    go_wp2_with fail
    go_ret
    exact ⟨rfl, cc⟩

theorem bkSame_N {w : World} {ka sa : Int} {Aa Ba : Option Addr} {na ca ma da : Nat} {kb sb : Int} {Ab Bb : Option Addr} {nb cb mb db : Nat} {Ca : List Nat} {Wa : List Int} (hCa : BR w Aa na ca Ca) (hWa : IR w Ba ma da Wa) (hna : na ≤ 9223372036854775807) (hma : ma ≤ 9223372036854775807) {Cb : List Nat} {Wb : List Int} (hCb : BR w Ab nb cb Cb) (hWb : IR w Bb mb db Wb) (hnb : nb ≤ 9223372036854775807) (hmb : mb ≤ 9223372036854775807) : Calls Tryz.prog 9 #[.agg #[.int .i64 ka, .int .i64 sa, .slice Aa na ca, .slice Ba ma da], .agg #[.int .i64 kb, .int .i64 sb, .slice Ab nb cb, .slice Bb mb db]] w (GotV w (.bool (decide (ka = kb ∧ sa = sb ∧ Ca = Cb ∧ Wa = Wb)))) := by
  by_cases a0 : ka = kb
  · by_cases a1 : sa = sb
    · have e : decide (ka = kb ∧ sa = sb ∧ Ca = Cb ∧ Wa = Wb) = decide (Ca = Cb ∧ Wa = Wb) := decide_eq_decide.2 ⟨fun h => h.2.2, fun h => ⟨a0, a1, h⟩⟩
      rw [e]; exact bkSame_c a0 a1 hCa hWa hna hma hCb hWb hnb hmb
    · rw [decide_eq_false (fun h => a1 h.2.1)]; exact bkSame_s a0 a1
  · rw [decide_eq_false (fun h => a0 h.1)]; exact bkSame_k a0

end Go.Proofs.YtlmcpgahjfepjaaGreat

/-
  The contracts of the eleventh reference: codes.
-/
namespace Go.Proofs.YtlmcpgahjfepjaaGreat
set_option maxRecDepth 100000
open Go.RowKit
set_option linter.unusedVariables false
set_option linter.unusedSimpArgs false

theorem i64_z : I64 0 := by unfold I64; omega
theorem i64_o : I64 1 := by unfold I64; omega
theorem i64_n : I64 (-1) := by unfold I64; omega
theorem shr_z {k : Int} (h : Kind9 k) : Shr k 0 1 := ⟨h, by omega, by omega, by omega, .inl (by omega)⟩
theorem shr_o {k : Int} (h : Kind9 k) : Shr k 1 1 := ⟨h, by omega, by omega, by omega, .inl (by omega)⟩

set_option maxRecDepth 100000 in
set_option maxHeartbeats 8000000 in
theorem rcodes_t {w : World} {k s : Int} {A B : Option Addr} {n c m d : Nat} {C : List Nat} (h : Kind9 k) (hs : Shr k (-1) 1) (hC : BR w A n c C) (hn : n ≤ 9223372036854775807) :
    Calls Tryz.prog 19 #[.agg #[.int .i64 k, .int .i64 s, .slice A n c, .slice B m d]] w (GotV w (.bool (if s = 0 then C.all (fun c => c == near10 k 0 1) else decide (0 < s) && C.any (endP (near10 k 1 1) (near10 k (-1) 1) true)))) := by
  have C1 := fun W => rNear_yes W i64_z i64_o (shr_z h)
  have C2 := fun W => rNear_yes W i64_o i64_o (shr_o h)
  have C3 := fun W => rNear_yes W i64_n i64_o hs
  have b1 := near10_le k 0 1
  have b2 := near10_le k 1 1
  have b3 := near10_le k (-1) 1
  clear hs h
  generalize near10 k 0 1 = nought at *
  generalize near10 k 1 1 = top at *
  generalize near10 k (-1) 1 = low at *
  obtain ⟨P, hP⟩ : ∃ P, endP top low true = P := ⟨_, rfl⟩
  obtain ⟨Q, hQ⟩ : ∃ Q : Nat → Bool, (fun c => c == nought) = Q := ⟨_, rfl⟩
  rw [hP, hQ]
  have HP := Lib.hid hP
  have HQ := Lib.hid hQ
  obtain ⟨R, hR⟩ : ∃ R, (if s = 0 then C.all Q else decide (0 < s) && C.any P) = R := ⟨_, rfl⟩
  rw [hR]
  have HR := Lib.hid hR
  clear hP hQ hR
  have cc := Below.refl w.heap.size w
  go_enter Tryz.func19, Tryz.ntmps19
  go_wp2_with fail
  have bA : Below w.heap.size w (w.alloc (.cells #[.int .i64 k, .int .i64 s, .slice A n c, .slice B m d] 25)) := ((Below.refl _ w).alloc (by simp) _)
  replace cc := cc.trans (bA.mono cc.size)
  clear bA
  have ka0 : (w.alloc (.cells #[.int .i64 k, .int .i64 s, .slice A n c, .slice B m d] 25)).cell? ⟨w.heap.size, 0, none⟩ = some (.int .i64 k) := by simp [go_sem]
  have ka1 : (w.alloc (.cells #[.int .i64 k, .int .i64 s, .slice A n c, .slice B m d] 25)).cell? ⟨w.heap.size, 1, none⟩ = some (.int .i64 s) := by simp [go_sem]
  have ka2 : (w.alloc (.cells #[.int .i64 k, .int .i64 s, .slice A n c, .slice B m d] 25)).cell? ⟨w.heap.size, 2, none⟩ = some (.slice A n c) := by simp [go_sem]
  have ka3 : (w.alloc (.cells #[.int .i64 k, .int .i64 s, .slice A n c, .slice B m d] 25)).cell? ⟨w.heap.size, 3, none⟩ = some (.slice B m d) := by simp [go_sem]
  have kal : w.heap.size < (w.alloc (.cells #[.int .i64 k, .int .i64 s, .slice A n c, .slice B m d] 25)).heap.size := by simp <;> omega
  generalize w.alloc (.cells #[.int .i64 k, .int .i64 s, .slice A n c, .slice B m d] 25) = v1 at *
  go_wp2_with fail
  refine (C1 _).mono ?_
  rintro e w2 ⟨rfl, b⟩
  replace ka0 := (b.cell (p := ⟨w.heap.size, 0, none⟩) kal).trans ka0
  replace ka1 := (b.cell (p := ⟨w.heap.size, 1, none⟩) kal).trans ka1
  replace ka2 := (b.cell (p := ⟨w.heap.size, 2, none⟩) kal).trans ka2
  replace ka3 := (b.cell (p := ⟨w.heap.size, 3, none⟩) kal).trans ka3
  replace kal := Nat.lt_of_lt_of_le kal b.size
  replace cc := cc.trans (b.mono cc.size)
  clear b
  go_wp2_with fail
  refine (C2 _).mono ?_
  rintro e w3 ⟨rfl, b⟩
  replace ka0 := (b.cell (p := ⟨w.heap.size, 0, none⟩) kal).trans ka0
  replace ka1 := (b.cell (p := ⟨w.heap.size, 1, none⟩) kal).trans ka1
  replace ka2 := (b.cell (p := ⟨w.heap.size, 2, none⟩) kal).trans ka2
  replace ka3 := (b.cell (p := ⟨w.heap.size, 3, none⟩) kal).trans ka3
  replace kal := Nat.lt_of_lt_of_le kal b.size
  replace cc := cc.trans (b.mono cc.size)
  clear b
  go_wp2_with fail
  refine (C3 _).mono ?_
  rintro e w4 ⟨rfl, b⟩
  replace ka0 := (b.cell (p := ⟨w.heap.size, 0, none⟩) kal).trans ka0
  replace ka1 := (b.cell (p := ⟨w.heap.size, 1, none⟩) kal).trans ka1
  replace ka2 := (b.cell (p := ⟨w.heap.size, 2, none⟩) kal).trans ka2
  replace ka3 := (b.cell (p := ⟨w.heap.size, 3, none⟩) kal).trans ka3
  replace kal := Nat.lt_of_lt_of_le kal b.size
  replace cc := cc.trans (b.mono cc.size)
  clear b
  have KA2 := Lib.hid ka2
  have KA1 := Lib.hid ka1
  have KAL := Lib.hid kal
  have CCV := Lib.hid cc
  have HCV : Hid (BR w4 A n c C) := Lib.hid (hC.on cc)
  clear ka0 ka1 ka2 ka3 kal cc hC
  go_wp2_with fail
  go_loopw [9, 10, 11] (fun sv av iv wr => ∃ i : Nat, i ≤ n ∧ iv = .int .i64 (i : Int) ∧ sv = .bool (anyK P C i) ∧ av = .bool (allK Q C i) ∧ Below w4.heap.size w4 wr) (fun _ _ iv _ => n - (intOf iv).toNat)
  case atStart => exact ⟨0, by omega, rfl, by rw [anyK_zero], by rw [allK_zero], Below.refl _ _⟩
  case round =>
    obtain ⟨i, hi, rfl, rfl, rfl, hbl⟩ := hrel
    have ka1 := (hbl.cell (p := ⟨w.heap.size, 1, none⟩) KAL.out).trans KA1.out
    have ka2 := (hbl.cell (p := ⟨w.heap.size, 2, none⟩) KAL.out).trans KA2.out
    by_cases hlt : i < n
    · obtain ⟨bb, off, rfl, hb, hcell⟩ := (HCV.out.on hbl).2.2.2 (by omega)
      have h1 := hcell i hlt
      have hc6 := HCV.out.at hlt
      have hl := HCV.out.1
      have hs1 := anyK_succ P (d := 0) (i := i) (by omega : i < C.length)
      have ha1 := allK_succ Q (d := 0) (i := i) (by omega : i < C.length)
      have k3 : IntKind.i64.wrap ((i : Int) + 1) = ((i + 1 : Nat) : Int) := by rw [IntWalk.i64_in _ (by omega)]; omega
      obtain ⟨x, hx⟩ : ∃ x, C[i]?.getD 0 = x := ⟨_, rfl⟩
      rw [hx] at h1 hc6 hs1 ha1
      rw [← HP.out] at hs1
      rw [← HQ.out] at ha1
      rw [HP.out] at hs1
      rw [HQ.out] at ha1
      have hPx : P x = (x == top || (true && x == low)) := by rw [← HP.out]; rfl
      have hQx : Q x = (x == nought) := by rw [← HQ.out]
      have x6 : (x : Int) < 256 := by omega
      rw [hPx] at hs1
      rw [hQx] at ha1
      clear hcell hPx hQx hl hx
      obtain ⟨so, hso⟩ : ∃ so, anyK P C i = so := ⟨_, rfl⟩
      obtain ⟨al, hal⟩ : ∃ al, allK Q C i = al := ⟨_, rfl⟩
      rw [hso] at hs1 ⊢
      rw [hal] at ha1 ⊢
      obtain ⟨r1, hr1⟩ : ∃ r, anyK P C (i + 1) = r := ⟨_, rfl⟩
      obtain ⟨r2, hr2⟩ : ∃ r, allK Q C (i + 1) = r := ⟨_, rfl⟩
      rw [hr1] at hs1
      rw [hr2] at ha1
      have HR1 := Lib.hid hr1
      have HR2 := Lib.hid hr2
      clear hso hal hr1 hr2
      have hS : (so = true ∧ r1 = true) ∨ (so = false ∧ r1 = true ∧ (x == top) = true ∧ ((x : Int) == (top : Int)) = true) ∨ (so = false ∧ (x == top) = false ∧ ((x : Int) == (top : Int)) = false ∧ ((r1 = true ∧ (x == low) = true ∧ ((x : Int) == (low : Int)) = true) ∨ (r1 = false ∧ (x == low) = false ∧ ((x : Int) == (low : Int)) = false))) := by
        rw [hs1]
        by_cases e1 : x = top <;> by_cases e2 : x = low <;> cases so <;> simp [e1, e2] <;> omega
      have hA : (al = false ∧ r2 = false) ∨ (al = true ∧ r2 = true ∧ (x == nought) = true ∧ ((x : Int) == (nought : Int)) = true) ∨ (al = true ∧ r2 = false ∧ (x == nought) = false ∧ ((x : Int) == (nought : Int)) = false) := by
        rw [ha1]
        by_cases e1 : x = nought <;> cases al <;> simp [e1] <;> omega
      clear hs1 ha1
      rcases hS with ⟨rfl, rfl⟩ | ⟨rfl, rfl, s1, s2⟩ | ⟨rfl, s1, s2, ⟨rfl, s3, s4⟩ | ⟨rfl, s3, s4⟩⟩ <;> rcases hA with ⟨rfl, rfl⟩ | ⟨rfl, rfl, a1, a2⟩ | ⟨rfl, rfl, a1, a2⟩
      all_goals
        go_wp2_with fail
        go_roundw
        case rel => exact ⟨i + 1, by omega, rfl, by rw [HR1.out], by rw [HR2.out], hbl⟩
        case measure => simp [intOf] <;> omega
    · obtain rfl : i = n := by omega
      have cc := CCV.out.trans (hbl.mono CCV.out.size)
      have hl := HCV.out.1
      have g1 := anyK_end P C
      have g2 := allK_end Q C
      rw [← hl] at g1 g2
      have hR := HR.out
      rw [← g1, ← g2] at hR
      clear g1 g2 hl
      generalize anyK P C i = so at *
      generalize allK Q C i = al at *
      by_cases z : s = 0
      · subst z
        rw [if_pos rfl] at hR
        subst hR
        go_wp2_with fail
        go_ret
        exact ⟨rfl, cc⟩
      · rw [if_neg z] at hR
        have z1 : (s == 0) = false := beq_eq_false_iff_ne.2 z
        by_cases p : 0 < s
        · have p1 : decide (0 < s) = true := decide_eq_true p
          rw [p1, Bool.true_and] at hR
          subst hR
          go_wp2_with fail
          go_ret
          exact ⟨rfl, cc⟩
        · have p1 : decide (0 < s) = false := decide_eq_false p
          rw [p1, Bool.false_and] at hR
          subst hR
          go_wp2_with fail
          go_ret
          exact ⟨rfl, cc⟩

set_option maxRecDepth 100000 in
set_option maxHeartbeats 8000000 in
theorem rcodes_f {w : World} {k s : Int} {A B : Option Addr} {n c m d : Nat} {C : List Nat} (h : Kind9 k) (hs : ¬ Shr k (-1) 1) (hC : BR w A n c C) (hn : n ≤ 9223372036854775807) :
    Calls Tryz.prog 19 #[.agg #[.int .i64 k, .int .i64 s, .slice A n c, .slice B m d]] w (GotV w (.bool (if s = 0 then C.all (fun c => c == near10 k 0 1) else decide (0 < s) && C.any (endP (near10 k 1 1) (near10 k (-1) 1) false)))) := by
  have C1 := fun W => rNear_yes W i64_z i64_o (shr_z h)
  have C2 := fun W => rNear_yes W i64_o i64_o (shr_o h)
  have C3 := fun W => rNear_no W i64_n i64_o hs
  have b1 := near10_le k 0 1
  have b2 := near10_le k 1 1
  have b3 := near10_le k (-1) 1
  clear hs h
  generalize near10 k 0 1 = nought at *
  generalize near10 k 1 1 = top at *
  generalize near10 k (-1) 1 = low at *
  obtain ⟨P, hP⟩ : ∃ P, endP top low false = P := ⟨_, rfl⟩
  obtain ⟨Q, hQ⟩ : ∃ Q : Nat → Bool, (fun c => c == nought) = Q := ⟨_, rfl⟩
  rw [hP, hQ]
  have HP := Lib.hid hP
  have HQ := Lib.hid hQ
  obtain ⟨R, hR⟩ : ∃ R, (if s = 0 then C.all Q else decide (0 < s) && C.any P) = R := ⟨_, rfl⟩
  rw [hR]
  have HR := Lib.hid hR
  clear hP hQ hR
  have cc := Below.refl w.heap.size w
  go_enter Tryz.func19, Tryz.ntmps19
  go_wp2_with fail
  have bA : Below w.heap.size w (w.alloc (.cells #[.int .i64 k, .int .i64 s, .slice A n c, .slice B m d] 25)) := ((Below.refl _ w).alloc (by simp) _)
  replace cc := cc.trans (bA.mono cc.size)
  clear bA
  have ka0 : (w.alloc (.cells #[.int .i64 k, .int .i64 s, .slice A n c, .slice B m d] 25)).cell? ⟨w.heap.size, 0, none⟩ = some (.int .i64 k) := by simp [go_sem]
  have ka1 : (w.alloc (.cells #[.int .i64 k, .int .i64 s, .slice A n c, .slice B m d] 25)).cell? ⟨w.heap.size, 1, none⟩ = some (.int .i64 s) := by simp [go_sem]
  have ka2 : (w.alloc (.cells #[.int .i64 k, .int .i64 s, .slice A n c, .slice B m d] 25)).cell? ⟨w.heap.size, 2, none⟩ = some (.slice A n c) := by simp [go_sem]
  have ka3 : (w.alloc (.cells #[.int .i64 k, .int .i64 s, .slice A n c, .slice B m d] 25)).cell? ⟨w.heap.size, 3, none⟩ = some (.slice B m d) := by simp [go_sem]
  have kal : w.heap.size < (w.alloc (.cells #[.int .i64 k, .int .i64 s, .slice A n c, .slice B m d] 25)).heap.size := by simp <;> omega
  generalize w.alloc (.cells #[.int .i64 k, .int .i64 s, .slice A n c, .slice B m d] 25) = v1 at *
  go_wp2_with fail
  refine (C1 _).mono ?_
  rintro e w2 ⟨rfl, b⟩
  replace ka0 := (b.cell (p := ⟨w.heap.size, 0, none⟩) kal).trans ka0
  replace ka1 := (b.cell (p := ⟨w.heap.size, 1, none⟩) kal).trans ka1
  replace ka2 := (b.cell (p := ⟨w.heap.size, 2, none⟩) kal).trans ka2
  replace ka3 := (b.cell (p := ⟨w.heap.size, 3, none⟩) kal).trans ka3
  replace kal := Nat.lt_of_lt_of_le kal b.size
  replace cc := cc.trans (b.mono cc.size)
  clear b
  go_wp2_with fail
  refine (C2 _).mono ?_
  rintro e w3 ⟨rfl, b⟩
  replace ka0 := (b.cell (p := ⟨w.heap.size, 0, none⟩) kal).trans ka0
  replace ka1 := (b.cell (p := ⟨w.heap.size, 1, none⟩) kal).trans ka1
  replace ka2 := (b.cell (p := ⟨w.heap.size, 2, none⟩) kal).trans ka2
  replace ka3 := (b.cell (p := ⟨w.heap.size, 3, none⟩) kal).trans ka3
  replace kal := Nat.lt_of_lt_of_le kal b.size
  replace cc := cc.trans (b.mono cc.size)
  clear b
  go_wp2_with fail
  refine (C3 _).mono ?_
  rintro e w4 ⟨rfl, b⟩
  replace ka0 := (b.cell (p := ⟨w.heap.size, 0, none⟩) kal).trans ka0
  replace ka1 := (b.cell (p := ⟨w.heap.size, 1, none⟩) kal).trans ka1
  replace ka2 := (b.cell (p := ⟨w.heap.size, 2, none⟩) kal).trans ka2
  replace ka3 := (b.cell (p := ⟨w.heap.size, 3, none⟩) kal).trans ka3
  replace kal := Nat.lt_of_lt_of_le kal b.size
  replace cc := cc.trans (b.mono cc.size)
  clear b
  have KA2 := Lib.hid ka2
  have KA1 := Lib.hid ka1
  have KAL := Lib.hid kal
  have CCV := Lib.hid cc
  have HCV : Hid (BR w4 A n c C) := Lib.hid (hC.on cc)
  clear ka0 ka1 ka2 ka3 kal cc hC
  go_wp2_with fail
  go_loopw [9, 10, 11] (fun sv av iv wr => ∃ i : Nat, i ≤ n ∧ iv = .int .i64 (i : Int) ∧ sv = .bool (anyK P C i) ∧ av = .bool (allK Q C i) ∧ Below w4.heap.size w4 wr) (fun _ _ iv _ => n - (intOf iv).toNat)
  case atStart => exact ⟨0, by omega, rfl, by rw [anyK_zero], by rw [allK_zero], Below.refl _ _⟩
  case round =>
    obtain ⟨i, hi, rfl, rfl, rfl, hbl⟩ := hrel
    have ka1 := (hbl.cell (p := ⟨w.heap.size, 1, none⟩) KAL.out).trans KA1.out
    have ka2 := (hbl.cell (p := ⟨w.heap.size, 2, none⟩) KAL.out).trans KA2.out
    by_cases hlt : i < n
    · obtain ⟨bb, off, rfl, hb, hcell⟩ := (HCV.out.on hbl).2.2.2 (by omega)
      have h1 := hcell i hlt
      have hc6 := HCV.out.at hlt
      have hl := HCV.out.1
      have hs1 := anyK_succ P (d := 0) (i := i) (by omega : i < C.length)
      have ha1 := allK_succ Q (d := 0) (i := i) (by omega : i < C.length)
      have k3 : IntKind.i64.wrap ((i : Int) + 1) = ((i + 1 : Nat) : Int) := by rw [IntWalk.i64_in _ (by omega)]; omega
      obtain ⟨x, hx⟩ : ∃ x, C[i]?.getD 0 = x := ⟨_, rfl⟩
      rw [hx] at h1 hc6 hs1 ha1
      rw [← HP.out] at hs1
      rw [← HQ.out] at ha1
      rw [HP.out] at hs1
      rw [HQ.out] at ha1
      have hPx : P x = (x == top || (false && x == low)) := by rw [← HP.out]; rfl
      have hQx : Q x = (x == nought) := by rw [← HQ.out]
      have x6 : (x : Int) < 256 := by omega
      rw [hPx] at hs1
      rw [hQx] at ha1
      clear hcell hPx hQx hl hx
      obtain ⟨so, hso⟩ : ∃ so, anyK P C i = so := ⟨_, rfl⟩
      obtain ⟨al, hal⟩ : ∃ al, allK Q C i = al := ⟨_, rfl⟩
      rw [hso] at hs1 ⊢
      rw [hal] at ha1 ⊢
      obtain ⟨r1, hr1⟩ : ∃ r, anyK P C (i + 1) = r := ⟨_, rfl⟩
      obtain ⟨r2, hr2⟩ : ∃ r, allK Q C (i + 1) = r := ⟨_, rfl⟩
      rw [hr1] at hs1
      rw [hr2] at ha1
      have HR1 := Lib.hid hr1
      have HR2 := Lib.hid hr2
      clear hso hal hr1 hr2
      have hS : (so = true ∧ r1 = true) ∨ (so = false ∧ r1 = true ∧ (x == top) = true ∧ ((x : Int) == (top : Int)) = true) ∨ (so = false ∧ (x == top) = false ∧ ((x : Int) == (top : Int)) = false ∧ r1 = false) := by
        rw [hs1]
        by_cases e1 : x = top <;> cases so <;> simp [e1] <;> omega
      have hA : (al = false ∧ r2 = false) ∨ (al = true ∧ r2 = true ∧ (x == nought) = true ∧ ((x : Int) == (nought : Int)) = true) ∨ (al = true ∧ r2 = false ∧ (x == nought) = false ∧ ((x : Int) == (nought : Int)) = false) := by
        rw [ha1]
        by_cases e1 : x = nought <;> cases al <;> simp [e1] <;> omega
      clear hs1 ha1
      rcases hS with ⟨rfl, rfl⟩ | ⟨rfl, rfl, s1, s2⟩ | ⟨rfl, s1, s2, rfl⟩ <;> rcases hA with ⟨rfl, rfl⟩ | ⟨rfl, rfl, a1, a2⟩ | ⟨rfl, rfl, a1, a2⟩
      all_goals
        go_wp2_with fail
        go_roundw
        case rel => exact ⟨i + 1, by omega, rfl, by rw [HR1.out], by rw [HR2.out], hbl⟩
        case measure => simp [intOf] <;> omega
    · obtain rfl : i = n := by omega
      have cc := CCV.out.trans (hbl.mono CCV.out.size)
      have hl := HCV.out.1
      have g1 := anyK_end P C
      have g2 := allK_end Q C
      rw [← hl] at g1 g2
      have hR := HR.out
      rw [← g1, ← g2] at hR
      clear g1 g2 hl
      generalize anyK P C i = so at *
      generalize allK Q C i = al at *
      by_cases z : s = 0
      · subst z
        rw [if_pos rfl] at hR
        subst hR
        go_wp2_with fail
        go_ret
        exact ⟨rfl, cc⟩
      · rw [if_neg z] at hR
        have z1 : (s == 0) = false := beq_eq_false_iff_ne.2 z
        by_cases p : 0 < s
        · have p1 : decide (0 < s) = true := decide_eq_true p
          rw [p1, Bool.true_and] at hR
          subst hR
          go_wp2_with fail
          go_ret
          exact ⟨rfl, cc⟩
        · have p1 : decide (0 < s) = false := decide_eq_false p
          rw [p1, Bool.false_and] at hR
          subst hR
          go_wp2_with fail
          go_ret
          exact ⟨rfl, cc⟩

theorem rcodes_N {w : World} {k s : Int} {A B : Option Addr} {n c m d : Nat} {C : List Nat} (h : Kind9 k) (hC : BR w A n c C) (hn : n ≤ 9223372036854775807) : Calls Tryz.prog 19 #[.agg #[.int .i64 k, .int .i64 s, .slice A n c, .slice B m d]] w (GotV w (.bool (decide (OkC k s C)))) := by
  by_cases hs : Shr k (-1) 1
  · rw [okC_eq (sg := true) (decide_eq_true hs).symm]; exact rcodes_t h hs hC hn
  · rw [okC_eq (sg := false) (decide_eq_false hs).symm]; exact rcodes_f h hs hC hn

end Go.Proofs.YtlmcpgahjfepjaaGreat
