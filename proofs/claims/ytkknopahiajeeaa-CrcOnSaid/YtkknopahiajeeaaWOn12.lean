/-
  The walk of CrcOn.
-/
import Derived.Test.YtkknopahiajeeaaA2
namespace Go.Proofs.Ytkknopahiajeeaa
set_option maxRecDepth 100000
open Go.RowKit
set_option linter.unusedVariables false
set_option linter.unusedSimpArgs false

set_option maxRecDepth 100000 in
set_option maxHeartbeats 8000000 in
theorem CrcOn_few {w : World} {A B : Option Addr} {n c m d x : Nat} (hn : n ≤ 140737488351232) (hm : m ≤ 140737488351232) (h : 2000 < n + m) :
    Calls Try.prog 4 #[.slice A n c, .slice B m d, .int .u8 (x : Int)] w fun e w' => e = .returned (.bool true) ∧ Below w.heap.size w w' := by
  have k : IntKind.i64.wrap ((n : Int) + (m : Int)) = ((n + m : Nat) : Int) := by rw [IntWalk.i64_in _ (by omega)]; omega
  have t0 : decide (2000 < ((n + m : Nat) : Int)) = true := decide_eq_true (by omega)
  have t1 : decide (2000 < (n : Int) + (m : Int)) = true := decide_eq_true (by omega)
  clear h hn hm
  have cc := Below.refl w.heap.size w
  go_enter Try.func4, Try.ntmps4
  go_wp2_with fail
  refine (alive12_any _).mono ?_
  rintro e w1 ⟨rfl, b⟩
  replace cc := cc.trans (b.mono cc.size)
  clear b
  go_wp2_with fail
  go_ret
  exact ⟨rfl, cc⟩

set_option maxRecDepth 100000 in
set_option maxHeartbeats 8000000 in
theorem CrcOn_yes {w : World} {A B : Option Addr} {n c m d x : Nat} {l r : List Nat} (hA : BR w A n c l) (hB : BR w B m d r) (h : n + m ≤ 2000) (hx : x < 256) :
    Calls Try.prog 4 #[.slice A n c, .slice B m d, .int .u8 (x : Int)] w fun e w' => e = .returned (.bool true) ∧ Below w.heap.size w w' := by
  have k : IntKind.i64.wrap ((n : Int) + (m : Int)) = ((n + m : Nat) : Int) := by rw [IntWalk.i64_in _ (by omega)]; omega
  have t0 : decide (2000 < ((n + m : Nat) : Int)) = false := decide_eq_false (by omega)
  have t1 : decide (2000 < (n : Int) + (m : Int)) = false := decide_eq_false (by omega)
  obtain ⟨T, eT⟩ : ∃ T, tabV = T := ⟨_, rfl⟩
  have CT := gTable_N
  rw [eT] at CT
  have hTs : T.size = 256 := by rw [← eT]; exact tabV_size
  have hst : ∀ W : World, (storeCells ⟨W.heap.size, 0, none⟩ T.toList 0).run Try.prog (W.alloc (.cells zcT 25)) = .ok () (W.alloc (.cells T 25)) := fun W => by rw [← eT]; exact tab_store W
  have hzT := zcT_run
  have HTT := Lib.hid eT
  clear eT
  have hR := onR_lt (l := l) (show F32 < 4294967296 by decide) hA.2.2.1
  have hq : crcOn 0 l = F32 - onR F32 l := rfl
  have hone : F32 - stp (onR F32 l) x = crcOn (crcOn 0 l) [x] := by unfold crcOn; rw [Nat.sub_zero, show F32 - (F32 - onR F32 l) = onR F32 l by unfold F32 at *; omega]; rfl
  have hst2 := stp_table (R := onR F32 l) hx
  have hall : crcOn (crcOn 0 l) r = crcOn 0 (l ++ r) := crcOn_app 0 l r (by decide) hA.2.2.1
  have CF := fun {W : World} (h : BR W A n c l) => gOf_N h (by omega)
  have CA := fun {W : World} {C : Option Addr} {q e : Nat} (h : BR W C q e (l ++ r)) (hq : q ≤ 2000000) => gOf_N h (by omega)
  rw [← hall] at CA
  obtain ⟨R, eR⟩ : ∃ R, onR F32 l = R := ⟨_, rfl⟩
  obtain ⟨Q, eQ⟩ : ∃ Q, crcOn 0 l = Q := ⟨_, rfl⟩
  rw [eR] at hR hq hone hst2
  rw [eQ] at hq hone CF CA
  have hQ : Q < 4294967296 := by unfold F32 at hq; omega
  have CO := fun {W : World} (h : BR W B m d r) => gOn_N hQ h (by omega)
  have C1 := fun {W : World} {C : Option Addr} {q e : Nat} (h : BR W C q e [x]) => gOn_N hQ h (by rw [h.1]; simp)
  rw [← hone] at C1
  obtain ⟨i_, ei⟩ : ∃ i, R % 256 ^^^ x = i := ⟨_, rfl⟩
  have hi_ : i_ < 256 := by rw [← ei]; exact Nat.xor_lt_two_pow (n := 8) (Nat.mod_lt _ (by omega)) hx
  rw [ei] at hst2
  obtain ⟨tv, etv⟩ : ∃ v, stp 0 i_ = v := ⟨_, rfl⟩
  have htv : tv < 4294967296 := by rw [← etv]; exact stp_lt (by omega) hi_
  rw [etv] at hst2
  obtain ⟨nx, enx⟩ : ∃ v, stp R x = v := ⟨_, rfl⟩
  rw [enx] at hst2 C1
  have hnx : nx < 4294967296 := by rw [← enx]; exact stp_lt hR hx
  have b1 : bits .xor .u32 (Q : Int) 4294967295 = (R : Int) := by have h1 := u32_xor_nat Q F32 hQ (by decide); rw [xor_full hQ] at h1; rw [show (4294967295 : Int) = ((F32 : Nat) : Int) from rfl, h1]; unfold F32 at *; omega
  have b2 : IntKind.u8.wrap (R : Int) = ((R % 256 : Nat) : Int) := by rw [IntKind.wrap_u8]; omega
  have b3 : bits .xor .u8 ((R : Int) % 256) (x : Int) = (i_ : Int) := by rw [show (R : Int) % 256 = ((R % 256 : Nat) : Int) from rfl, u8_xor_nat (R % 256) x (Nat.mod_lt _ (by omega)) hx, ei]
  have b4 : bits .xor .u32 ((R : Int) / 256) (tv : Int) = (nx : Int) := by rw [show (R : Int) / 256 = ((R / 256 : Nat) : Int) from rfl, u32_xor_nat (R / 256) tv (by omega) htv, ← hst2]
  have b5 : bits .xor .u32 (nx : Int) 4294967295 = ((F32 - nx : Nat) : Int) := by have h1 := u32_xor_nat nx F32 hnx (by decide); rw [xor_full hnx] at h1; rw [show (4294967295 : Int) = ((F32 : Nat) : Int) from rfl, h1]
  have HV := Lib.hid etv
  have HI := Lib.hid hi_
  generalize crcOn Q r = P at *
  generalize F32 - nx = Z at *
  have i6 : (i_ : Int) < 256 := by omega
  have x6 : (x : Int) < 256 := by omega
  have HX := Lib.hid hx
  clear hR hq hone hst2 hall eR eQ hQ ei hi_ etv htv enx hnx hx
  have cc := Below.refl w.heap.size w
  go_enter Try.func4, Try.ntmps4
  go_upto_region 3 with fail
  go_cut [7] (fun v wx => ∃ C q e, v = .slice C q e ∧ BR wx C q e (l ++ r) ∧ Below w.heap.size w wx)
  case first =>
    obtain ⟨i0, hi, hz0, hz1, hz2⟩ := info_parts infoB
    obtain ⟨t, ht⟩ : ∃ t, w.heap.size = t := ⟨_, rfl⟩
    have HT := Lib.hid ht
    have tw : t ≤ w.heap.size := by omega
    have hown : (w.alloc (.cells #[] 5)).ownsRow t 5 1 (.slice (some ⟨w.heap.size, 0, none⟩) 0 0) 0 ([] : List Value) := World.ownsRow_lit w #[] 0 (by omega) (by unfold maxLen; omega) rfl
    have b0 : Below t w (w.alloc (.cells #[] 5)) := (Below.refl t w).alloc (by omega) _
    have HO := Lib.hid hown
    have HB0 := Lib.hid b0
    have H8l := Lib.hid hA.2.2.1
    have H8r := Lib.hid hB.2.2.1
    have ll := hA.1
    have lr := hB.1
    have HLl : Hid ((l.map encB).length = n * 1) := Lib.hid (by rw [List.length_map, ← ll]; omega)
    have HLr : Hid ((r.map encB).length = m * 1) := Lib.hid (by rw [List.length_map, ← lr]; omega)
    have HB := Lib.hid hB
    have bw := (Below.refl w.heap.size w).alloc (Nat.le_refl _) (.cells #[] 5)
    clear ht hown b0 hst CT hTs
    rcases Nat.eq_zero_or_pos n with n0 | n0
    · have e0 : l = [] := List.eq_nil_of_length_eq_zero (by omega)
      rcases Nat.eq_zero_or_pos m with m0 | m0
      · have e1 : r = [] := List.eq_nil_of_length_eq_zero (by omega)
        clear hA hB HB ll lr
        subst n0 m0 e0 e1
        go_wp2_with (at_builtin; refine wpList_append_zero _ rfl _ _ 23 rfl 5 i0 Try.underlying23 hi _ _ _ _ _ rfl rfl (by omega) ?_)
        go_meet
        exact ⟨_, _, _, rfl, BR.nil _ _ _, bw⟩
      · obtain ⟨bb, off, eB, hb0⟩ := hB.some m0
        have HNW := Lib.hid (br_news (by rw [eB] at hB; exact hB) bw)
        clear hA hB HB ll lr
        subst n0 e0 eB
        go_wp2_with (first | (at_builtin; refine wpList_append_zero _ rfl _ _ 23 rfl 5 i0 Try.underlying23 hi _ _ _ _ _ rfl rfl (by omega) ?_) | (at_builtin; refine wpList_append_lies _ rfl _ _ 23 rfl t 5 i0 (.int .u8 0) 1 1 Try.underlying23 hi hz0 hz1 hz2 rfl (by decide) _ 0 [] rfl HO.out ⟨bb, off, none⟩ m d (r.map encB) rfl HLr.out HNW.out (fun u hu => by obtain ⟨x, _, rfl⟩ := List.mem_map.1 hu; rfl) (by omega) (by unfold maxLen; omega) (by omega) (by first | omega | (simp; omega)) _ rfl ?_; intro g1 cap1 w3 hown1 hgrow1 hat hlt1))
        go_meet
        have h1 : Below t w w3 := HB0.out.grown hgrow1 (by simp; have := HT.out; omega) (fun q e => by injection (show some w.heap.size = some q from e) with e1; have := HT.out; omega)
        rw [← HT.out] at h1
        rw [List.nil_append] at hown1
        rw [Nat.zero_add] at hown1
        exact ⟨_, _, _, rfl, BR.of_own hown1 H8r.out, h1⟩
    · obtain ⟨bb, off, eA, ha0⟩ := hA.some n0
      have HNA := Lib.hid (br_news (by rw [eA] at hA; exact hA) bw)
      rcases Nat.eq_zero_or_pos m with m0 | m0
      · have e1 : r = [] := List.eq_nil_of_length_eq_zero (by omega)
        clear hA hB HB ll lr
        subst m0 e1 eA
        go_wp2_with (first | (at_builtin; refine wpList_append_lies _ rfl _ _ 23 rfl t 5 i0 (.int .u8 0) 1 1 Try.underlying23 hi hz0 hz1 hz2 rfl (by decide) _ 0 [] rfl HO.out ⟨bb, off, none⟩ n c (l.map encB) rfl HLl.out HNA.out (fun u hu => by obtain ⟨x, _, rfl⟩ := List.mem_map.1 hu; rfl) (by omega) (by unfold maxLen; omega) (by omega) (by first | omega | (simp; omega)) _ rfl ?_; intro g1 cap1 w3 hown1 hgrow1 hat hlt1) | (at_builtin; refine wpList_append_zero _ rfl _ _ 23 rfl 5 i0 Try.underlying23 hi _ _ _ _ _ rfl rfl (by have h2 := (BR.of_own (by rw [Nat.zero_add, List.nil_append] at hown1; exact hown1) H8l.out).2.1; omega) ?_))
        go_meet
        have h1 : Below t w w3 := HB0.out.grown hgrow1 (by simp; have := HT.out; omega) (fun q e => by injection (show some w.heap.size = some q from e) with e1; have := HT.out; omega)
        rw [← HT.out] at h1
        rw [List.nil_append] at hown1
        rw [Nat.zero_add] at hown1
        exact ⟨_, _, _, rfl, by rw [List.append_nil]; exact BR.of_own hown1 H8l.out, h1⟩
      · obtain ⟨b2, o2, eB, hb0⟩ := hB.some m0
        rw [eB] at hB
        have HBB := Lib.hid hB
        clear hA ll lr hB HB
        subst eA eB
        go_wp2_with (first | (at_builtin; refine wpList_append_lies _ rfl _ _ 23 rfl t 5 i0 (.int .u8 0) 1 1 Try.underlying23 hi hz0 hz1 hz2 rfl (by decide) _ 0 [] rfl HO.out ⟨bb, off, none⟩ n c (l.map encB) rfl HLl.out HNA.out (fun u hu => by obtain ⟨x, _, rfl⟩ := List.mem_map.1 hu; rfl) (by omega) (by unfold maxLen; omega) (by omega) (by first | omega | (simp; omega)) _ rfl ?_; intro g1 cap1 w3 hown1 hgrow1 hat hlt1; have h1 : Below t w w3 := HB0.out.grown hgrow1 (by simp; have := HT.out; omega) (fun q e => by injection (show some w.heap.size = some q from e) with e1; have := HT.out; omega); rw [List.nil_append] at hown1; rw [Nat.zero_add] at hown1; have HO1 := Lib.hid hown1; have hg1 := (hown1.lt g1 rfl).1; have hts : t ≤ w3.heap.size := (by have h2 := h1.size; have := HT.out; omega); have HN2 := Lib.hid (br_news HBB.out (by have h2 := h1; rw [← HT.out] at h2; exact h2)); have HH1 := Lib.hid h1; clear hown1 hgrow1 hat hlt1 HO HNA HBB h1) | (at_builtin; refine wpList_append_lies _ rfl _ _ 23 rfl t 5 i0 (.int .u8 0) 1 1 Try.underlying23 hi hz0 hz1 hz2 rfl (by decide) _ n (l.map encB) rfl HO1.out ⟨b2, o2, none⟩ m d (r.map encB) rfl HLr.out HN2.out (fun u hu => by obtain ⟨x, _, rfl⟩ := List.mem_map.1 hu; rfl) (by omega) (by unfold maxLen; omega) (by omega) (by first | omega | (simp; omega)) _ rfl ?_; intro g2 cap2 w4 hown2 hgrow2 hat2 hlt2))
        go_meet
        have h2 : Below t w w4 := HH1.out.grown hgrow2 hts (fun q e => by injection (show some g1 = some q from e) with e1; omega)
        rw [← HT.out] at h2
        rw [← List.map_append] at hown2
        exact ⟨_, _, _, rfl, BR.of_own hown2 (fun x hx => by rcases List.mem_append.1 hx with h | h; exact H8l.out x h; exact H8r.out x h), h2⟩
  case rest =>
    obtain ⟨C, q, e, rfl, hC, b⟩ := hcut
    replace hA := hA.on b
    replace hB := hB.on b
    replace cc := cc.trans (b.mono cc.size)
    clear b
    go_wp2_with fail
    refine (gPut_N hA (by omega)).mono ?_
    rintro e w1 ⟨g0, q0, d0, rfl, hO, b⟩
    replace hA := hA.on b
    replace hB := hB.on b
    replace hC := hC.on b
    replace cc := cc.trans (b.mono cc.size)
    clear b
    have hP := BR.of_own hO (putB_lt hA.2.2.1)
    have hPn : q0 ≤ 2000000 := by rw [hP.1, putB_len, ← hA.1]; omega
    clear hO
    go_wp2_with fail
    refine (cutPut hP hPn).mono ?_
    rintro e w2 ⟨Ay, ny, cy, rfl, hy, b⟩
    replace hA := hA.on b
    replace hB := hB.on b
    replace hC := hC.on b
    replace hP := hP.on b
    replace cc := cc.trans (b.mono cc.size)
    clear b
    clear hP hPn
    go_wp2_with fail
    refine (CF hA).mono ?_
    rintro e w3 ⟨rfl, b⟩
    replace hA := hA.on b
    replace hB := hB.on b
    replace hC := hC.on b
    replace hy := hy.on b
    replace cc := cc.trans (b.mono cc.size)
    clear b
    go_wp2_with fail
    refine (CT _).mono ?_
    rintro e w4 ⟨rfl, b⟩
    replace hA := hA.on b
    replace hB := hB.on b
    replace hC := hC.on b
    replace hy := hy.on b
    replace cc := cc.trans (b.mono cc.size)
    clear b
    go_upto_region 7 with fail
    have bA : Below w4.heap.size w4 (w4.alloc (.cells T 25)) := (Below.refl _ w4).alloc (Nat.le_refl _) _
    replace hA := hA.on bA
    replace hB := hB.on bA
    replace hC := hC.on bA
    replace hy := hy.on bA
    replace cc := cc.trans (bA.mono cc.size)
    clear bA
    have tc : (w4.alloc (.cells T 25)).cell? ⟨w4.heap.size, i_, none⟩ = some (.int .u32 (tv : Int)) := by rw [World.cell?_alloc_new, ← HTT.out, tabV_at HI.out, HV.out]
    have tbl : w4.heap.size < (w4.alloc (.cells T 25)).heap.size := by simp
    generalize w4.alloc (.cells T 25) = v5 at *
    clear hst
    go_wp2_with fail
    refine (CF hA).mono ?_
    rintro e w6 ⟨rfl, b⟩
    replace tc := (b.cell (p := ⟨w4.heap.size, i_, none⟩) tbl).trans tc
    replace tbl := Nat.lt_of_lt_of_le tbl b.size
    replace hA := hA.on b
    replace hB := hB.on b
    replace hC := hC.on b
    replace hy := hy.on b
    replace cc := cc.trans (b.mono cc.size)
    clear b
    clear tc tbl
    go_wp2_with fail
    have h1 : BR (w6.alloc (.cells #[.int .u8 (x : Int)] 5)) (some ⟨w6.heap.size, 0, none⟩) 1 1 [x] := one_row w6 HX.out
    have bA : Below w6.heap.size w6 (w6.alloc (.cells #[.int .u8 (x : Int)] 5)) := (Below.refl _ w6).alloc (Nat.le_refl _) _
    replace hA := hA.on bA
    replace hB := hB.on bA
    replace hC := hC.on bA
    replace hy := hy.on bA
    replace cc := cc.trans (bA.mono cc.size)
    clear bA
    generalize w6.alloc (.cells #[.int .u8 (x : Int)] 5) = v7 at *
    refine (C1 h1).mono ?_
    rintro e w8 ⟨rfl, b⟩
    replace hA := hA.on b
    replace hB := hB.on b
    replace hC := hC.on b
    replace hy := hy.on b
    replace h1 := h1.on b
    replace cc := cc.trans (b.mono cc.size)
    clear b
    clear h1
    go_wp2_with fail
    refine (alive12_any _).mono ?_
    rintro e w9 ⟨rfl, b⟩
    replace hA := hA.on b
    replace hB := hB.on b
    replace hC := hC.on b
    replace hy := hy.on b
    replace cc := cc.trans (b.mono cc.size)
    clear b
    go_wp2_with fail
    refine (CF hA).mono ?_
    rintro e w10 ⟨rfl, b⟩
    replace hA := hA.on b
    replace hB := hB.on b
    replace hC := hC.on b
    replace hy := hy.on b
    replace cc := cc.trans (b.mono cc.size)
    clear b
    go_wp2_with fail
    refine (CO hB).mono ?_
    rintro e w11 ⟨rfl, b⟩
    replace hA := hA.on b
    replace hB := hB.on b
    replace hC := hC.on b
    replace hy := hy.on b
    replace cc := cc.trans (b.mono cc.size)
    clear b
    go_wp2_with fail
    refine (CA hC (by rw [hC.1, List.length_append, ← hA.1, ← hB.1]; omega)).mono ?_
    rintro e w12 ⟨rfl, b⟩
    replace hA := hA.on b
    replace hB := hB.on b
    replace hC := hC.on b
    replace hy := hy.on b
    replace cc := cc.trans (b.mono cc.size)
    clear b
    go_wp2_with fail
    refine (rsameB_self hy hA (by rw [hy.1, ← hA.1]; omega)).mono ?_
    rintro e w13 ⟨rfl, b⟩
    replace hA := hA.on b
    replace hB := hB.on b
    replace hC := hC.on b
    replace hy := hy.on b
    replace cc := cc.trans (b.mono cc.size)
    clear b
    go_wp2_with fail
    go_ret
    exact ⟨rfl, cc⟩

theorem CrcOn_walk {w : World} {A B : Option Addr} {n c m d : Nat} {l r : List Nat} (hA : BR w A n c l) (hn : n ≤ 140737488351232) (hB : BR w B m d r) (hm : m ≤ 140737488351232) (x : Int) (wx : (Lit.int .u8 x).wf = true) : Calls Try.prog 4 #[.slice A n c, .slice B m d, .int .u8 x] w fun e w' => e = .returned (.bool true) ∧ Below w.heap.size w w' := by
  obtain ⟨x, rfl, hx⟩ := u8_nat12 wx
  by_cases h : 2000 < n + m
  · exact CrcOn_few hn hm h
  · exact CrcOn_yes hA hB (by omega) hx

end Go.Proofs.Ytkknopahiajeeaa
