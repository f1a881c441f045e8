/-
  The walk of ClipJoined.
-/
import Derived.Test.YtpephogadljncaaRG
import Derived.Test.YtpephogadljncaaA3
namespace Go.Proofs.Ytpephogadljncaa
set_option maxRecDepth 100000
set_option maxHeartbeats 8000000
open Go.RowKit
set_option linter.unusedVariables false
set_option linter.unusedSimpArgs false

theorem RV.add {own : Option Nat} {w : World} {xs : List Value} {L : List (List Int)} {l : List Int} {A : Option Addr} {n c : Nat} (h : RV own w xs L) (hR : IR w A n c l) (hi : ∀ z ∈ l, I64 z) (ha : ApartR own A n) : RV own w (xs ++ [.slice A n c]) (L ++ [l]) := by
  refine ⟨by simp [h.1], fun j hj => ?_⟩
  rw [List.length_append] at hj
  rcases Nat.lt_or_ge j L.length with hlt | hge
  · obtain ⟨A, n, c, h0, h1, h2, h3⟩ := h.2 j hlt
    rw [List.getElem?_append_left hlt]
    exact ⟨A, n, c, by rw [List.getElem?_append_left (by rw [h.1]; exact hlt)]; exact h0, h1, h2, h3⟩
  · have e : j = L.length := by simp at hj; omega
    subst e
    rw [List.getElem?_append_right (Nat.le_refl _), Nat.sub_self]
    exact ⟨A, n, c, by rw [List.getElem?_append_right (by rw [h.1]; exact Nat.le_refl _), h.1, Nat.sub_self]; rfl, hR, hi, ha⟩
theorem rev_push {L : List (List Int)} {i : Nat} (h : i < L.length) : L.reverse.take (i + 1) = L.reverse.take i ++ [L[L.length - 1 - i]?.getD []] := by
  rw [List.take_add_one, List.getElem?_reverse h, List.getElem?_eq_getElem (show L.length - 1 - i < L.length by omega)]
  rfl
theorem flat_push {L : List (List Int)} {i : Nat} (h : i < L.length) : (L.take (i + 1)).flatten = (L.take i).flatten ++ (L[i]?.getD []) := by
  rw [List.take_add_one, List.getElem?_eq_getElem h, List.flatten_append]
  simp
theorem flat_len (L : List (List Int)) : L.flatten.length = cnt16 L := by
  induction L with
  | nil => rfl
  | cons l L ih => rw [List.flatten_cons, List.length_append, ih]; rfl
theorem flat_le (L : List (List Int)) (i : Nat) : (L.take i).flatten.length ≤ cnt16 L := by rw [flat_len]; exact cnt_le L i
theorem rr_lit1 {w : World} {g : Nat} {A : Option Addr} {n c : Nat} {l : List Int} (h0 : w.cell? ⟨g, 0, none⟩ = some (.slice A n c)) (hl : IR w A n c l) (hi : ∀ z ∈ l, I64 z) : RR w (some ⟨g, 0, none⟩) 1 1 [l] := by
  refine ⟨rfl, Nat.le_refl _, fun _ => ⟨g, 0, rfl, cell_lt h0, fun j hj => ?_⟩⟩
  obtain rfl : j = 0 := by omega
  exact ⟨A, n, c, h0, hl, hi⟩
theorem rr_lit2 {w : World} {g : Nat} {A B : Option Addr} {n c m d : Nat} {l k : List Int} (h0 : w.cell? ⟨g, 0, none⟩ = some (.slice A n c)) (h1 : w.cell? ⟨g, 1, none⟩ = some (.slice B m d)) (hl : IR w A n c l) (hi : ∀ z ∈ l, I64 z) (hk : IR w B m d k) (hj : ∀ z ∈ k, I64 z) : RR w (some ⟨g, 0, none⟩) 2 2 [l, k] := by
  refine ⟨rfl, Nat.le_refl _, fun _ => ⟨g, 0, rfl, cell_lt h0, fun j hj2 => ?_⟩⟩
  match j, hj2 with
  | 0, _ => exact ⟨A, n, c, h0, hl, hi⟩
  | 1, _ => exact ⟨B, m, d, h1, hk, hj⟩
theorem one_newR' (w : World) (a : Value) (T : TypeId) : ∀ j u, [a][j]? = some u → (w.alloc (.cells #[a] T)).cell? ((⟨w.heap.size, 0, none⟩ : Addr).add j) = some u := by
  intro j u h
  rw [addr_add, Nat.zero_add, World.cell?_alloc_new]
  simpa using h
theorem one_i64 {z : Int} (h : I64 z) : ∀ x ∈ [z], I64 x := fun x hx => by rw [List.mem_singleton.1 hx]; exact h

theorem ClipJoined_many {w : World} {A : Option Addr} {n c : Nat} {L : List (List Int)} {z : Int} (hA : RR w A n c L) (hn : n ≤ 2305843009213693952) (hl : ∀ l ∈ L, l.length ≤ 2305843009213693952) (hf : ¬ few16 L ≤ 40) :
    Calls Try.prog 7 #[.slice A n c, .int .i64 z] w fun e w' => e = .returned (.bool true) ∧ Below w.heap.size w w' := by
  have CF := rFew16_N hA hn hl
  rw [decide_eq_false hf] at CF
  clear hA hn hl hf
  have cc := Below.refl w.heap.size w
  go_enter Try.func7, Try.ntmps7
  go_wp2_with fail
  refine (CF).mono ?_
  rintro e w1 ⟨rfl, b⟩
  replace cc := bK cc b
  clear b
  go_wp2_with fail
  refine (alive16_any _).mono ?_
  rintro e w2 ⟨rfl, b⟩
  replace cc := bK cc b
  clear b
  go_wp2_with fail
  go_ret
  exact ⟨rfl, cc⟩

theorem ClipJoined_neg {w : World} {A : Option Addr} {n c : Nat} {L : List (List Int)} {z : Int} (hA : RR w A n c L) (hn : n ≤ 2305843009213693952) (hl : ∀ l ∈ L, l.length ≤ 2305843009213693952) (hm : I64 z) (hf : few16 L ≤ 40) (hs : z < 0) :
    Calls Try.prog 7 #[.slice A n c, .int .i64 z] w fun e w' => e = .returned (.bool true) ∧ Below w.heap.size w w' := by
  have CF := rFew16_N hA hn hl
  rw [decide_eq_true hf] at CF
  obtain ⟨q1, q2⟩ := few_rows hf
  have hz := rr_i64 hA
  have hn1 : n ≤ 100 := by rw [hA.1]; omega
  have hl1 : ∀ l ∈ L, l.length ≤ 100 ∧ ∀ z ∈ l, I64 z := fun l h => ⟨by have := q2 l h; omega, hz l h⟩
  obtain ⟨i0, hi, hz0, hz1, hz2⟩ := info_parts infoI
  obtain ⟨r0, gi, gz0, gz1, gz2⟩ := info_parts infoR
  have hcn : cnt16 L ≤ 40 := by unfold few16 at hf; omega
  have hfi : ∀ x ∈ L.flatten, I64 x := fun x hx => by obtain ⟨l, h1, h2⟩ := List.mem_flatten.1 hx; exact hz l h1 x h2
  obtain ⟨Z, eZ⟩ : ∃ Z, z.natAbs = Z := ⟨_, rfl⟩
  have hZ : Z < B64 := by rw [← eZ]; exact hm.abs
  have s0 : decide (z < 0) = true := decide_eq_true hs
  obtain ⟨y, ey⟩ : ∃ y, z + 1 = y := ⟨_, rfl⟩
  have k0 : IntKind.i64.wrap (z + 1) = y := by rw [← ey]; exact IntWalk.i64_in _ (by unfold I64 at hm; omega)
  obtain ⟨y2, ey2⟩ : ∃ y2, -y = y2 := ⟨_, rfl⟩
  have k1 : IntKind.i64.wrap (-y) = y2 := by rw [← ey2]; exact IntWalk.i64_in _ (by unfold I64 at hm; omega)
  have k2 : IntKind.u64.wrap y2 = y2 := by rw [IntKind.wrap_u64]; unfold I64 at hm; omega
  have k4 : IntKind.u64.wrap (y2 + 1) = (Z : Int) := by rw [IntKind.wrap_u64]; unfold I64 at hm; omega
  have k5 : IntKind.u64.wrap z = 18446744073709551616 + z := by rw [IntKind.wrap_u64]; unfold I64 at hm; omega
  clear ey ey2
  have CN := fun {W : World} (h : RR W A n c L) => clNorm_N h hn1 hl1
  have hln := norm_len (show L.length ≤ 100 by omega) hl1
  obtain ⟨N, eN⟩ : ∃ N, norm16 L = N := ⟨_, rfl⟩
  rw [eN] at CN hln
  have eB : norm16 L.reverse = N := by unfold norm16; rw [sqA_reverse]; exact eN
  have eF : norm16 [L.flatten] = N := by unfold norm16; rw [show sqA [L.flatten] = sqA L by show sqS L.flatten + 0 = sqA L; rw [Nat.add_zero, sqA_flat]]; exact eN
  obtain ⟨Q, eQ⟩ : ∃ Q, norm16 [L.flatten, [z]] = Q := ⟨_, rfl⟩
  have hNQ : N ≤ Q := by rw [← eN, ← eQ]; refine norm_mono ?_; show sqA L ≤ sqS L.flatten + (sqS [z] + 0); rw [sqA_flat]; omega
  have hfl : L.flatten.length ≤ 100 := by rw [flat_len]; omega
  have hlQ : (limbs Q).length ≤ 3 := by rw [← eQ]; exact norm_len (by simp) (fun l hx => by rcases List.mem_cons.1 hx with e | e; rw [e]; exact ⟨hfl, hfi⟩; rw [List.mem_singleton.1 e]; exact ⟨by simp, one_i64 hm⟩)
  have CB : ∀ {W : World} {B : Option Addr} {m d : Nat}, RR W B m d L.reverse → Calls Try.prog 10 #[.slice B m d] W (GotN W N) := fun h => by rw [← eB]; exact clNorm_N h (by rw [h.1, List.length_reverse]; omega) (fun l hx => hl1 l (List.mem_reverse.1 hx))
  have CL : ∀ {W : World} {B : Option Addr} {m d : Nat}, RR W B m d [L.flatten] → Calls Try.prog 10 #[.slice B m d] W (GotN W N) := fun h => by rw [← eF]; exact clNorm_N h (by rw [h.1]; simp) (fun l hx => by rw [List.mem_singleton.1 hx]; exact ⟨hfl, hfi⟩)
  have CQ : ∀ {W : World} {B : Option Addr} {m d : Nat}, RR W B m d [L.flatten, [z]] → Calls Try.prog 10 #[.slice B m d] W (GotN W Q) := fun h => by rw [← eQ]; exact clNorm_N h (by rw [h.1]; simp) (fun l hx => by rcases List.mem_cons.1 hx with e | e; rw [e]; exact ⟨hfl, hfi⟩; rw [List.mem_singleton.1 e]; exact ⟨by simp, one_i64 hm⟩)
  have C1 : ∀ {W : World} {B : Option Addr} {m d : Nat}, RR W B m d [[z]] → Calls Try.prog 10 #[.slice B m d] W (GotN W Z) := fun h => by rw [← eZ, ← norm_one]; exact clNorm_N h (by rw [h.1]; simp) (fun l hx => by rw [List.mem_singleton.1 hx]; exact ⟨by simp, one_i64 hm⟩)
  have t3 : decide (cmpN N Q ≤ 0) = true := decide_eq_true (by unfold cmpN; split <;> (try split) <;> omega)
  obtain ⟨p, ep⟩ : ∃ p, cmpN N Q = p := ⟨_, rfl⟩
  rw [ep] at t3
  have CM : ∀ {W : World} {B B2 : Option Addr} {m d m2 d2 : Nat}, Num W B m d N → Num W B2 m2 d2 Q → Calls Try.prog 13 #[.slice B m d, .slice B2 m2 d2] W (GotV W (.int .i64 p)) := fun h h2 => by rw [← ep]; exact rcmp_N h h2 (by omega) (by omega)
  have CO := fun W : World => rof_N W Z hZ
  have HZL := Lib.hid (len_one hZ)
  have HLN := Lib.hid hln
  have HLQ := Lib.hid hlQ
  have HFI := Lib.hid hfi
  have HZ1 := Lib.hid (one_i64 hm)
  have HLEN := Lib.hid hA.1
  have HN1 := Lib.hid hn1
  have HCN := Lib.hid hcn
  have HQ1 := Lib.hid q1
  have HL1 := Lib.hid hl1
  obtain ⟨t, ht⟩ : ∃ t, w.heap.size = t := ⟨_, rfl⟩
  have HT := Lib.hid ht
  have HA0 := Lib.hid hA
  clear hn hl hf q1 q2 hz hn1 hl1 hcn hfi hZ eZ hln eN eB eF eQ hNQ hfl hlQ ep hm hs ht
  have cc := Below.refl w.heap.size w
  go_enter Try.func7, Try.ntmps7
  go_wp2_with fail
  refine (CF).mono ?_
  rintro e w1 ⟨rfl, b⟩
  replace hA := hA.on b
  replace cc := bK cc b
  clear b
  have hs1 := cc.size
  have hts0 : t ≤ w1.heap.size := by have := HT.out; omega
  have hE1 : (w1.alloc (.cells #[] 2)).ownsRow t 2 1 (.slice (some ⟨w1.heap.size, 0, none⟩) 0 0) 0 ([] : List Value) := World.ownsRow_lit w1 #[] 0 hts0 (by unfold maxLen; omega) rfl
  have hE2 : ((w1.alloc (.cells #[] 2)).alloc (.cells #[] 31)).ownsRow t 31 1 (.slice (some ⟨w1.heap.size + 1, 0, none⟩) 0 0) 0 ([] : List Value) := by have h := World.ownsRow_lit (base := t) (e := 31) (size := 1) (w1.alloc (.cells #[] 2)) #[] 0 (by simp; omega) (by unfold maxLen; omega) rfl; simpa using h
  have bE : Below t w ((w1.alloc (.cells #[] 2)).alloc (.cells #[] 31)) := (Below.alloc (Below.alloc (by rw [← HT.out]; exact cc) hts0 _) (by simp; omega) _)
  have HG0 : Hid (∃ (ga ca Ka gb cb Kb : Nat) (xs : List Value), (Value.slice (some ⟨w1.heap.size, 0, none⟩) 0 0) = .slice (some ⟨ga, 0, none⟩) Ka ca ∧ (Value.slice (some ⟨w1.heap.size + 1, 0, none⟩) 0 0) = .slice (some ⟨gb, 0, none⟩) Kb cb ∧ ((w1.alloc (.cells #[] 2)).alloc (.cells #[] 31)).ownsRow t 2 1 (.slice (some ⟨ga, 0, none⟩) Ka ca) Ka (((L.take 0).flatten).map encI) ∧ ((w1.alloc (.cells #[] 2)).alloc (.cells #[] 31)).ownsRow t 31 1 (.slice (some ⟨gb, 0, none⟩) Kb cb) Kb xs ∧ RV none w xs (L.reverse.take 0) ∧ ga ≠ gb ∧ Below t w ((w1.alloc (.cells #[] 2)).alloc (.cells #[] 31)) ∧ t ≤ ((w1.alloc (.cells #[] 2)).alloc (.cells #[] 31)).heap.size) := Lib.hid ⟨_, _, _, _, _, _, _, rfl, rfl, hE1.alloc _, hE2, RV.nil _ _, by omega, bE, by simp; omega⟩
  clear hE1 hE2 bE hts0 hs1 hA cc CF
  go_wp2_with fail
  go_loopw [5, 6, 7] (fun av bv iv wr => ∃ i : Nat, i ≤ n ∧ iv = .int .i64 (i : Int) ∧ ∃ (ga ca Ka gb cb Kb : Nat) (xs : List Value), av = .slice (some ⟨ga, 0, none⟩) Ka ca ∧ bv = .slice (some ⟨gb, 0, none⟩) Kb cb ∧ wr.ownsRow t 2 1 (.slice (some ⟨ga, 0, none⟩) Ka ca) Ka (((L.take i).flatten).map encI) ∧ wr.ownsRow t 31 1 (.slice (some ⟨gb, 0, none⟩) Kb cb) Kb xs ∧ RV none w xs (L.reverse.take i) ∧ ga ≠ gb ∧ Below t w wr ∧ t ≤ wr.heap.size) (fun _ _ iv _ => n - (intOf iv).toNat)
  case atStart => exact ⟨0, by omega, rfl, HG0.out⟩
  case round =>
    clear HG0
    obtain ⟨i, hi2, rfl, ga, ca, Ka, gb, cb, Kb, xs, rfl, rfl, hOa, hOb, hV, hne, hbl, hts⟩ := hrel
    have hcw : Below w.heap.size w wr := by rw [HT.out]; exact hbl
    by_cases hlt : i < n
    · have hA := HA0.out.on hcw
      obtain ⟨bb, off, rfl, hbb⟩ := HA0.out.some (by omega)
      have hil : i < L.length := by rw [← HLEN.out]; exact hlt
      obtain ⟨A1, n1, c1, h1, hR, hz1⟩ := rr_at hA hlt
      obtain ⟨A2, n2, c2, h2w, hR2, hz2_⟩ := rr_at HA0.out (show n - 1 - i < n by omega)
      have jl : (i : Int) < (n : Int) := by omega
      have hn100 := HN1.out
      have k3 : IntKind.i64.wrap ((i : Int) + 1) = ((i + 1 : Nat) : Int) := by rw [IntWalk.i64_in _ (by omega)]; omega
      have hfp := flat_push hil
      have hrp := rev_push hil
      rw [← HLEN.out] at hrp
      have hKa : Ka ≤ 40 := by have e := own_len hOa; have := flat_le L i; have := HCN.out; omega
      have hKb : Kb ≤ 40 := by have e := hOb.1; rw [hV.1, List.length_take] at e; have := HQ1.out; have := HLEN.out; omega
      have hn1_ : n1 ≤ 100 := by rw [hR.1]; exact (HL1.out _ (mem_at16 hil)).1
      have hV2 := hV.add hR2 hz2_ (fun _ _ _ e => by cases e)
      rw [← hrp] at hV2
      obtain ⟨j, ej⟩ : ∃ j, n - 1 - i = j := ⟨_, rfl⟩
      rw [ej] at h2w
      obtain ⟨nm, enm⟩ : ∃ q, n - 1 = q := ⟨_, rfl⟩
      have k4 : IntKind.i64.wrap ((n : Int) - 1) = (nm : Int) := by rw [IntWalk.i64_in _ (by omega)]; omega
      have k5_ : IntKind.i64.wrap ((nm : Int) - (i : Int)) = (j : Int) := by rw [IntWalk.i64_in _ (by omega)]; omega
      have j0 : (0 : Int) ≤ (j : Int) := by omega
      have j1 : (j : Int) < (n : Int) := by omega
      have ga0 := (hOa.lt ga rfl)
      have gb0 := (hOb.lt gb rfl)
      have HFP := Lib.hid hfp
      have HV2 := Lib.hid hV2
      have HOA := Lib.hid hOa
      have HOB := Lib.hid hOb
      have HBL := Lib.hid hbl
      have H2W := Lib.hid h2w
      have hbT : bb < t := by have := HT.out; obtain ⟨_, _, e, q⟩ := HA0.out.some (show 0 < n by omega); injection e with e; injection e with e1 e2; omega
      clear hfp hrp hV2 hOa hOb hV hR2 hz2_ ej enm hA hz1 h2w
      rcases Nat.eq_zero_or_pos n1 with h0 | h0
      · subst h0
        have hR0 : L[i]?.getD [] = [] := List.eq_nil_of_length_eq_zero (by rw [← hR.1])
        have HOA2 : Hid (wr.ownsRow t 2 1 (.slice (some ⟨ga, 0, none⟩) Ka ca) Ka (((L.take (i + 1)).flatten).map encI)) := Lib.hid (by rw [HFP.out, hR0, List.append_nil]; exact HOA.out)
        have hKc : Ka ≤ ca := by rcases HOA.out.2 with ⟨e1, _⟩ | ⟨_, _, _, e1, _, _, hnc, _⟩; cases e1; injection e1 with _ _ e2; omega
        have OB := HOB
        have h2 := (hcw.cell (p := ⟨bb, off + j, none⟩) (by have := HT.out; omega)).trans H2W.out
        clear hR hR0 HOA
        go_wp2_with (first | (at_builtin; refine wpList_append_zero _ rfl _ _ 31 rfl 2 i0 Try.underlying31 hi _ _ _ _ _ rfl rfl hKc ?_) | (at_builtin; refine wpList_append_lies _ rfl _ _ 22 rfl t 31 r0 (.slice none 0 0) 1 24 Try.underlying22 gi gz0 gz1 gz2 rfl (by decide) _ Kb xs rfl (OB.out.alloc _) ⟨wr.heap.size, 0, none⟩ 1 1 [.slice A2 n2 c2] rfl rfl (one_newR' _ _ _) (by simp [Value.oneCell']) (by omega) (by unfold maxLen; omega) (by omega) (by simp; omega) _ rfl ?_; intro g2 cap2 w4 hown2 hgrow2 hat2 hlt2))
        have hg2a : ga ≠ g2 := by rcases hat2 with e | e; injection (show some gb = some g2 from e) with e1; omega; simp at e; omega
        have b4 : Below t w w4 := (HBL.out.alloc (by omega) _).grown hgrow2 (by have := HT.out; simp; omega) (fun q e => by injection (show some gb = some q from e) with e1; omega)
        have hO4 := ((HOA2.out).alloc (.cells #[.slice A2 n2 c2] 31)).kept hgrow2 (Or.inr (by intro e; injection (show some ga = some gb from e) with e1; omega))
        have HO4 := Lib.hid hO4
        have HO5 := Lib.hid hown2
        have HB4 := Lib.hid b4
        have HS4 : Hid (t ≤ w4.heap.size) := Lib.hid (by have := b4.size; have := HT.out; omega)
        clear hO4 hown2 b4 hgrow2 hat2 hlt2 h2
        go_roundw
        case rel => exact ⟨i + 1, by omega, by go_num, ga, ca, Ka, g2, cap2, Kb + 1, _, rfl, rfl, HO4.out, HO5.out, HV2.out, hg2a, HB4.out, HS4.out⟩
        case measure => simp [intOf] <;> omega
      · obtain ⟨b1, o1, eA, hb1⟩ := ir_some16 hR h0
        subst eA
        have HLn : Hid (((L[i]?.getD []).map encI).length = n1 * 1) := Lib.hid (by rw [List.length_map, ← hR.1]; omega)
        have HNW := Lib.hid (ir_news hR (Below.refl _ _))
        have HH2 : Hid (∀ {W : World}, Below t w W → W.cell? ⟨bb, off + j, none⟩ = some (.slice A2 n2 c2)) := Lib.hid (fun b => (b.cell (p := ⟨bb, off + j, none⟩) hbT).trans H2W.out)
        clear hR
        go_wp2_with (first | (at_builtin; refine wpList_append_lies _ rfl _ _ 31 rfl t 2 i0 (.int .i64 0) 1 8 Try.underlying31 hi hz0 hz1 hz2 rfl (by decide) _ Ka _ rfl HOA.out ⟨b1, o1, none⟩ n1 c1 ((L[i]?.getD []).map encI) rfl HLn.out HNW.out (fun u hu => by obtain ⟨x, _, rfl⟩ := List.mem_map.1 hu; rfl) h0 (by unfold maxLen; omega) (by omega) (by omega) _ rfl ?_; intro g1 cap1 w3 hown1 hgrow1 hat1 hlt1; have b3 : Below t w w3 := HBL.out.grown hgrow1 (by have := HT.out; omega) (fun q e => by injection (show some ga = some q from e) with e1; omega); have h2 := HH2.out b3; have hs3 := hgrow1.size; have hg1b : g1 ≠ gb := (by rcases hat1 with e | e; injection (show some ga = some g1 from e) with e1; omega; omega); have OB := Lib.hid (HOB.out.kept hgrow1 (Or.inr (by intro e; injection (show some gb = some ga from e) with e1; omega))); rw [← List.map_append, ← HFP.out] at hown1; have HW1 := Lib.hid hown1; have HB3 := Lib.hid b3; have hg1l : t ≤ g1 ∧ g1 < w3.heap.size := hown1.lt g1 rfl; clear hown1 b3 hgrow1 hat1) | (at_builtin; refine wpList_append_lies _ rfl _ _ 22 rfl t 31 r0 (.slice none 0 0) 1 24 Try.underlying22 gi gz0 gz1 gz2 rfl (by decide) _ Kb xs rfl (OB.out.alloc _) ⟨w3.heap.size, 0, none⟩ 1 1 [.slice A2 n2 c2] rfl rfl (one_newR' _ _ _) (by simp [Value.oneCell']) (by omega) (by unfold maxLen; omega) (by omega) (by simp; omega) _ rfl ?_; intro g2 cap2 w4 hown2 hgrow2 hat2 hlt2))
        have hg2a : g1 ≠ g2 := by rcases hat2 with e | e; injection (show some gb = some g2 from e) with e1; omega; simp at e; omega
        have b4 : Below t w w4 := (HB3.out.alloc (by omega) _).grown hgrow2 (by have := HT.out; simp; omega) (fun q e => by injection (show some gb = some q from e) with e1; omega)
        have hO4 := ((HW1.out).alloc (.cells #[.slice A2 n2 c2] 31)).kept hgrow2 (Or.inr (by intro e; injection (show some g1 = some gb from e) with e1; omega))
        have HO4 := Lib.hid hO4
        have HO5 := Lib.hid hown2
        have HB4 := Lib.hid b4
        have HS4 : Hid (t ≤ w4.heap.size) := Lib.hid (by have := b4.size; have := HT.out; omega)
        clear hO4 hown2 b4 hgrow2 hat2 hlt2 h2
        go_roundw
        case rel => exact ⟨i + 1, by omega, by go_num, g1, cap1, (Ka + n1), g2, cap2, Kb + 1, _, rfl, rfl, HO4.out, HO5.out, HV2.out, hg2a, HB4.out, HS4.out⟩
        case measure => simp [intOf] <;> omega
    · obtain rfl : i = n := by omega
      have hA := HA0.out.on hcw
      have hRR := (hV.on hcw).rr hOb
      rw [List.take_of_length_le (by rw [List.length_reverse, ← HLEN.out]; omega)] at hRR
      rw [List.take_of_length_le (by rw [← HLEN.out]; omega)] at hOa
      have hI := IR.of_own hOa
      have cc := hcw
      clear hOa hOb hV hne hbl hts hcw
      go_wp2_with fail
      refine (CN hA).mono ?_
      rintro e w2 ⟨Ap, np_, cp, rfl, hp, b⟩
      replace hA := hA.on b
      replace hRR := hRR.on b
      replace hI := hI.on b
      replace cc := bK cc b
      clear b
      clear hA
      go_wp2_with fail
      generalize hv_ : (w2.alloc (.cells #[.int .i64 z] 2)).alloc (.cells #[.slice (some ⟨w2.heap.size, 0, none⟩) 1 1] 31) = v3
      have bA : Below w2.heap.size w2 v3 := by rw [← hv_]; exact ((Below.refl _ w2).alloc (by simp) _).alloc (by simp) _
      have hl1 : RR v3 (some ⟨w2.heap.size + 1, 0, none⟩) 1 1 [[z]] := rr_lit1 (A := some ⟨w2.heap.size, 0, none⟩) (by simp [← hv_, go_sem]) (ir_one (by simp [← hv_, go_sem])) HZ1.out
      replace hRR := hRR.on bA
      replace hI := hI.on bA
      replace hp := hp.on bA
      replace cc := bK cc bA
      clear bA
      clear hv_
      refine (C1 hl1).mono ?_
      rintro e w4 ⟨Ao, no_, co, rfl, ho, b⟩
      replace hRR := hRR.on b
      replace hI := hI.on b
      replace hp := hp.on b
      replace cc := bK cc b
      clear b
      go_wp2_with fail
      generalize hv_ : (w4.alloc (.cells #[.int .i64 z] 2)).alloc (.cells #[.slice (some ⟨ga, 0, none⟩) Ka ca, .slice (some ⟨w4.heap.size, 0, none⟩) 1 1] 31) = v5
      have bA : Below w4.heap.size w4 v5 := by rw [← hv_]; exact ((Below.refl _ w4).alloc (by simp) _).alloc (by simp) _
      have hl2 : RR v5 (some ⟨w4.heap.size + 1, 0, none⟩) 2 2 [L.flatten, [z]] := rr_lit2 (A := some ⟨ga, 0, none⟩) (B := some ⟨w4.heap.size, 0, none⟩) (by simp [← hv_, go_sem]) (by simp [← hv_, go_sem]) (hI.on bA) HFI.out (ir_one (by simp [← hv_, go_sem])) HZ1.out
      replace hRR := hRR.on bA
      replace hI := hI.on bA
      replace hp := hp.on bA
      replace ho := ho.on bA
      replace cc := bK cc bA
      clear bA
      clear hv_
      refine (CQ hl2).mono ?_
      rintro e w6 ⟨Aq, nq_, cq, rfl, hq, b⟩
      replace hRR := hRR.on b
      replace hI := hI.on b
      replace hp := hp.on b
      replace ho := ho.on b
      replace cc := bK cc b
      clear b
      go_wp2_with fail
      refine (CB hRR).mono ?_
      rintro e w7 ⟨Ar, nr_, cr, rfl, hr, b⟩
      replace hRR := hRR.on b
      replace hI := hI.on b
      replace hp := hp.on b
      replace ho := ho.on b
      replace hq := hq.on b
      replace cc := bK cc b
      clear b
      clear hRR
      go_wp2_with fail
      refine (same_N hp hr (Nat.le_trans HLN.out (by omega)) (Nat.le_trans HLN.out (by omega)) rfl).mono ?_
      rintro e w8 ⟨rfl, b⟩
      replace hI := hI.on b
      replace hp := hp.on b
      replace ho := ho.on b
      replace hq := hq.on b
      replace hr := hr.on b
      replace cc := bK cc b
      clear b
      clear hr
      go_wp2_with fail
      generalize hv_ : w8.alloc (.cells #[.slice (some ⟨ga, 0, none⟩) Ka ca] 31) = v9
      have bA : Below w8.heap.size w8 v9 := by rw [← hv_]; exact (Below.refl _ w8).alloc (by simp) _
      have hl3 : RR v9 (some ⟨w8.heap.size, 0, none⟩) 1 1 [L.flatten] := rr_lit1 (A := some ⟨ga, 0, none⟩) (by simp [← hv_, go_sem]) (hI.on bA) HFI.out
      replace hI := hI.on bA
      replace hp := hp.on bA
      replace ho := ho.on bA
      replace hq := hq.on bA
      replace cc := bK cc bA
      clear bA
      clear hv_
      refine (CL hl3).mono ?_
      rintro e w10 ⟨As, ns_, cs, rfl, hs, b⟩
      replace hI := hI.on b
      replace hp := hp.on b
      replace ho := ho.on b
      replace hq := hq.on b
      replace cc := bK cc b
      clear b
      clear hI
      go_wp2_with fail
      refine (same_N hp hs (Nat.le_trans HLN.out (by omega)) (Nat.le_trans HLN.out (by omega)) rfl).mono ?_
      rintro e w11 ⟨rfl, b⟩
      replace hp := hp.on b
      replace ho := ho.on b
      replace hq := hq.on b
      replace hs := hs.on b
      replace cc := bK cc b
      clear b
      clear hs
      go_wp2_with fail
      refine (alive16_any _).mono ?_
      rintro e w12 ⟨rfl, b⟩
      replace hp := hp.on b
      replace ho := ho.on b
      replace hq := hq.on b
      replace cc := bK cc b
      clear b
      go_wp2_with fail
      refine (CM hp hq).mono ?_
      rintro e w13 ⟨rfl, b⟩
      replace hp := hp.on b
      replace ho := ho.on b
      replace hq := hq.on b
      replace cc := bK cc b
      clear b
      go_wp2_with fail
      refine (CO _).mono ?_
      rintro e w14 ⟨Au, nu_, cu, rfl, hu, b⟩
      replace hp := hp.on b
      replace ho := ho.on b
      replace hq := hq.on b
      replace cc := bK cc b
      clear b
      go_wp2_with fail
      refine (same_N ho hu (Nat.le_trans HZL.out (by omega)) (Nat.le_trans HZL.out (by omega)) rfl).mono ?_
      rintro e w15 ⟨rfl, b⟩
      replace hp := hp.on b
      replace ho := ho.on b
      replace hq := hq.on b
      replace hu := hu.on b
      replace cc := bK cc b
      clear b
      go_wp2_with fail
      go_ret
      exact ⟨rfl, cc⟩

theorem ClipJoined_pos {w : World} {A : Option Addr} {n c : Nat} {L : List (List Int)} {z : Int} (hA : RR w A n c L) (hn : n ≤ 2305843009213693952) (hl : ∀ l ∈ L, l.length ≤ 2305843009213693952) (hm : I64 z) (hf : few16 L ≤ 40) (hs : ¬ z < 0) :
    Calls Try.prog 7 #[.slice A n c, .int .i64 z] w fun e w' => e = .returned (.bool true) ∧ Below w.heap.size w w' := by
  have CF := rFew16_N hA hn hl
  rw [decide_eq_true hf] at CF
  obtain ⟨q1, q2⟩ := few_rows hf
  have hz := rr_i64 hA
  have hn1 : n ≤ 100 := by rw [hA.1]; omega
  have hl1 : ∀ l ∈ L, l.length ≤ 100 ∧ ∀ z ∈ l, I64 z := fun l h => ⟨by have := q2 l h; omega, hz l h⟩
  obtain ⟨i0, hi, hz0, hz1, hz2⟩ := info_parts infoI
  obtain ⟨r0, gi, gz0, gz1, gz2⟩ := info_parts infoR
  have hcn : cnt16 L ≤ 40 := by unfold few16 at hf; omega
  have hfi : ∀ x ∈ L.flatten, I64 x := fun x hx => by obtain ⟨l, h1, h2⟩ := List.mem_flatten.1 hx; exact hz l h1 x h2
  obtain ⟨Z, eZ⟩ : ∃ Z, z.natAbs = Z := ⟨_, rfl⟩
  have hZ : Z < B64 := by rw [← eZ]; exact hm.abs
  have s0 : decide (z < 0) = false := decide_eq_false hs
  have k2 : IntKind.u64.wrap z = (Z : Int) := by rw [IntKind.wrap_u64]; unfold I64 at hm; omega
  have CN := fun {W : World} (h : RR W A n c L) => clNorm_N h hn1 hl1
  have hln := norm_len (show L.length ≤ 100 by omega) hl1
  obtain ⟨N, eN⟩ : ∃ N, norm16 L = N := ⟨_, rfl⟩
  rw [eN] at CN hln
  have eB : norm16 L.reverse = N := by unfold norm16; rw [sqA_reverse]; exact eN
  have eF : norm16 [L.flatten] = N := by unfold norm16; rw [show sqA [L.flatten] = sqA L by show sqS L.flatten + 0 = sqA L; rw [Nat.add_zero, sqA_flat]]; exact eN
  obtain ⟨Q, eQ⟩ : ∃ Q, norm16 [L.flatten, [z]] = Q := ⟨_, rfl⟩
  have hNQ : N ≤ Q := by rw [← eN, ← eQ]; refine norm_mono ?_; show sqA L ≤ sqS L.flatten + (sqS [z] + 0); rw [sqA_flat]; omega
  have hfl : L.flatten.length ≤ 100 := by rw [flat_len]; omega
  have hlQ : (limbs Q).length ≤ 3 := by rw [← eQ]; exact norm_len (by simp) (fun l hx => by rcases List.mem_cons.1 hx with e | e; rw [e]; exact ⟨hfl, hfi⟩; rw [List.mem_singleton.1 e]; exact ⟨by simp, one_i64 hm⟩)
  have CB : ∀ {W : World} {B : Option Addr} {m d : Nat}, RR W B m d L.reverse → Calls Try.prog 10 #[.slice B m d] W (GotN W N) := fun h => by rw [← eB]; exact clNorm_N h (by rw [h.1, List.length_reverse]; omega) (fun l hx => hl1 l (List.mem_reverse.1 hx))
  have CL : ∀ {W : World} {B : Option Addr} {m d : Nat}, RR W B m d [L.flatten] → Calls Try.prog 10 #[.slice B m d] W (GotN W N) := fun h => by rw [← eF]; exact clNorm_N h (by rw [h.1]; simp) (fun l hx => by rw [List.mem_singleton.1 hx]; exact ⟨hfl, hfi⟩)
  have CQ : ∀ {W : World} {B : Option Addr} {m d : Nat}, RR W B m d [L.flatten, [z]] → Calls Try.prog 10 #[.slice B m d] W (GotN W Q) := fun h => by rw [← eQ]; exact clNorm_N h (by rw [h.1]; simp) (fun l hx => by rcases List.mem_cons.1 hx with e | e; rw [e]; exact ⟨hfl, hfi⟩; rw [List.mem_singleton.1 e]; exact ⟨by simp, one_i64 hm⟩)
  have C1 : ∀ {W : World} {B : Option Addr} {m d : Nat}, RR W B m d [[z]] → Calls Try.prog 10 #[.slice B m d] W (GotN W Z) := fun h => by rw [← eZ, ← norm_one]; exact clNorm_N h (by rw [h.1]; simp) (fun l hx => by rw [List.mem_singleton.1 hx]; exact ⟨by simp, one_i64 hm⟩)
  have t3 : decide (cmpN N Q ≤ 0) = true := decide_eq_true (by unfold cmpN; split <;> (try split) <;> omega)
  obtain ⟨p, ep⟩ : ∃ p, cmpN N Q = p := ⟨_, rfl⟩
  rw [ep] at t3
  have CM : ∀ {W : World} {B B2 : Option Addr} {m d m2 d2 : Nat}, Num W B m d N → Num W B2 m2 d2 Q → Calls Try.prog 13 #[.slice B m d, .slice B2 m2 d2] W (GotV W (.int .i64 p)) := fun h h2 => by rw [← ep]; exact rcmp_N h h2 (by omega) (by omega)
  have CO := fun W : World => rof_N W Z hZ
  have HZL := Lib.hid (len_one hZ)
  have HLN := Lib.hid hln
  have HLQ := Lib.hid hlQ
  have HFI := Lib.hid hfi
  have HZ1 := Lib.hid (one_i64 hm)
  have HLEN := Lib.hid hA.1
  have HN1 := Lib.hid hn1
  have HCN := Lib.hid hcn
  have HQ1 := Lib.hid q1
  have HL1 := Lib.hid hl1
  obtain ⟨t, ht⟩ : ∃ t, w.heap.size = t := ⟨_, rfl⟩
  have HT := Lib.hid ht
  have HA0 := Lib.hid hA
  clear hn hl hf q1 q2 hz hn1 hl1 hcn hfi hZ eZ hln eN eB eF eQ hNQ hfl hlQ ep hm hs ht
  have cc := Below.refl w.heap.size w
  go_enter Try.func7, Try.ntmps7
  go_wp2_with fail
  refine (CF).mono ?_
  rintro e w1 ⟨rfl, b⟩
  replace hA := hA.on b
  replace cc := bK cc b
  clear b
  have hs1 := cc.size
  have hts0 : t ≤ w1.heap.size := by have := HT.out; omega
  have hE1 : (w1.alloc (.cells #[] 2)).ownsRow t 2 1 (.slice (some ⟨w1.heap.size, 0, none⟩) 0 0) 0 ([] : List Value) := World.ownsRow_lit w1 #[] 0 hts0 (by unfold maxLen; omega) rfl
  have hE2 : ((w1.alloc (.cells #[] 2)).alloc (.cells #[] 31)).ownsRow t 31 1 (.slice (some ⟨w1.heap.size + 1, 0, none⟩) 0 0) 0 ([] : List Value) := by have h := World.ownsRow_lit (base := t) (e := 31) (size := 1) (w1.alloc (.cells #[] 2)) #[] 0 (by simp; omega) (by unfold maxLen; omega) rfl; simpa using h
  have bE : Below t w ((w1.alloc (.cells #[] 2)).alloc (.cells #[] 31)) := (Below.alloc (Below.alloc (by rw [← HT.out]; exact cc) hts0 _) (by simp; omega) _)
  have HG0 : Hid (∃ (ga ca Ka gb cb Kb : Nat) (xs : List Value), (Value.slice (some ⟨w1.heap.size, 0, none⟩) 0 0) = .slice (some ⟨ga, 0, none⟩) Ka ca ∧ (Value.slice (some ⟨w1.heap.size + 1, 0, none⟩) 0 0) = .slice (some ⟨gb, 0, none⟩) Kb cb ∧ ((w1.alloc (.cells #[] 2)).alloc (.cells #[] 31)).ownsRow t 2 1 (.slice (some ⟨ga, 0, none⟩) Ka ca) Ka (((L.take 0).flatten).map encI) ∧ ((w1.alloc (.cells #[] 2)).alloc (.cells #[] 31)).ownsRow t 31 1 (.slice (some ⟨gb, 0, none⟩) Kb cb) Kb xs ∧ RV none w xs (L.reverse.take 0) ∧ ga ≠ gb ∧ Below t w ((w1.alloc (.cells #[] 2)).alloc (.cells #[] 31)) ∧ t ≤ ((w1.alloc (.cells #[] 2)).alloc (.cells #[] 31)).heap.size) := Lib.hid ⟨_, _, _, _, _, _, _, rfl, rfl, hE1.alloc _, hE2, RV.nil _ _, by omega, bE, by simp; omega⟩
  clear hE1 hE2 bE hts0 hs1 hA cc CF
  go_wp2_with fail
  go_loopw [5, 6, 7] (fun av bv iv wr => ∃ i : Nat, i ≤ n ∧ iv = .int .i64 (i : Int) ∧ ∃ (ga ca Ka gb cb Kb : Nat) (xs : List Value), av = .slice (some ⟨ga, 0, none⟩) Ka ca ∧ bv = .slice (some ⟨gb, 0, none⟩) Kb cb ∧ wr.ownsRow t 2 1 (.slice (some ⟨ga, 0, none⟩) Ka ca) Ka (((L.take i).flatten).map encI) ∧ wr.ownsRow t 31 1 (.slice (some ⟨gb, 0, none⟩) Kb cb) Kb xs ∧ RV none w xs (L.reverse.take i) ∧ ga ≠ gb ∧ Below t w wr ∧ t ≤ wr.heap.size) (fun _ _ iv _ => n - (intOf iv).toNat)
  case atStart => exact ⟨0, by omega, rfl, HG0.out⟩
  case round =>
    clear HG0
    obtain ⟨i, hi2, rfl, ga, ca, Ka, gb, cb, Kb, xs, rfl, rfl, hOa, hOb, hV, hne, hbl, hts⟩ := hrel
    have hcw : Below w.heap.size w wr := by rw [HT.out]; exact hbl
    by_cases hlt : i < n
    · have hA := HA0.out.on hcw
      obtain ⟨bb, off, rfl, hbb⟩ := HA0.out.some (by omega)
      have hil : i < L.length := by rw [← HLEN.out]; exact hlt
      obtain ⟨A1, n1, c1, h1, hR, hz1⟩ := rr_at hA hlt
      obtain ⟨A2, n2, c2, h2w, hR2, hz2_⟩ := rr_at HA0.out (show n - 1 - i < n by omega)
      have jl : (i : Int) < (n : Int) := by omega
      have hn100 := HN1.out
      have k3 : IntKind.i64.wrap ((i : Int) + 1) = ((i + 1 : Nat) : Int) := by rw [IntWalk.i64_in _ (by omega)]; omega
      have hfp := flat_push hil
      have hrp := rev_push hil
      rw [← HLEN.out] at hrp
      have hKa : Ka ≤ 40 := by have e := own_len hOa; have := flat_le L i; have := HCN.out; omega
      have hKb : Kb ≤ 40 := by have e := hOb.1; rw [hV.1, List.length_take] at e; have := HQ1.out; have := HLEN.out; omega
      have hn1_ : n1 ≤ 100 := by rw [hR.1]; exact (HL1.out _ (mem_at16 hil)).1
      have hV2 := hV.add hR2 hz2_ (fun _ _ _ e => by cases e)
      rw [← hrp] at hV2
      obtain ⟨j, ej⟩ : ∃ j, n - 1 - i = j := ⟨_, rfl⟩
      rw [ej] at h2w
      obtain ⟨nm, enm⟩ : ∃ q, n - 1 = q := ⟨_, rfl⟩
      have k4 : IntKind.i64.wrap ((n : Int) - 1) = (nm : Int) := by rw [IntWalk.i64_in _ (by omega)]; omega
      have k5_ : IntKind.i64.wrap ((nm : Int) - (i : Int)) = (j : Int) := by rw [IntWalk.i64_in _ (by omega)]; omega
      have j0 : (0 : Int) ≤ (j : Int) := by omega
      have j1 : (j : Int) < (n : Int) := by omega
      have ga0 := (hOa.lt ga rfl)
      have gb0 := (hOb.lt gb rfl)
      have HFP := Lib.hid hfp
      have HV2 := Lib.hid hV2
      have HOA := Lib.hid hOa
      have HOB := Lib.hid hOb
      have HBL := Lib.hid hbl
      have H2W := Lib.hid h2w
      have hbT : bb < t := by have := HT.out; obtain ⟨_, _, e, q⟩ := HA0.out.some (show 0 < n by omega); injection e with e; injection e with e1 e2; omega
      clear hfp hrp hV2 hOa hOb hV hR2 hz2_ ej enm hA hz1 h2w
      rcases Nat.eq_zero_or_pos n1 with h0 | h0
      · subst h0
        have hR0 : L[i]?.getD [] = [] := List.eq_nil_of_length_eq_zero (by rw [← hR.1])
        have HOA2 : Hid (wr.ownsRow t 2 1 (.slice (some ⟨ga, 0, none⟩) Ka ca) Ka (((L.take (i + 1)).flatten).map encI)) := Lib.hid (by rw [HFP.out, hR0, List.append_nil]; exact HOA.out)
        have hKc : Ka ≤ ca := by rcases HOA.out.2 with ⟨e1, _⟩ | ⟨_, _, _, e1, _, _, hnc, _⟩; cases e1; injection e1 with _ _ e2; omega
        have OB := HOB
        have h2 := (hcw.cell (p := ⟨bb, off + j, none⟩) (by have := HT.out; omega)).trans H2W.out
        clear hR hR0 HOA
        go_wp2_with (first | (at_builtin; refine wpList_append_zero _ rfl _ _ 31 rfl 2 i0 Try.underlying31 hi _ _ _ _ _ rfl rfl hKc ?_) | (at_builtin; refine wpList_append_lies _ rfl _ _ 22 rfl t 31 r0 (.slice none 0 0) 1 24 Try.underlying22 gi gz0 gz1 gz2 rfl (by decide) _ Kb xs rfl (OB.out.alloc _) ⟨wr.heap.size, 0, none⟩ 1 1 [.slice A2 n2 c2] rfl rfl (one_newR' _ _ _) (by simp [Value.oneCell']) (by omega) (by unfold maxLen; omega) (by omega) (by simp; omega) _ rfl ?_; intro g2 cap2 w4 hown2 hgrow2 hat2 hlt2))
        have hg2a : ga ≠ g2 := by rcases hat2 with e | e; injection (show some gb = some g2 from e) with e1; omega; simp at e; omega
        have b4 : Below t w w4 := (HBL.out.alloc (by omega) _).grown hgrow2 (by have := HT.out; simp; omega) (fun q e => by injection (show some gb = some q from e) with e1; omega)
        have hO4 := ((HOA2.out).alloc (.cells #[.slice A2 n2 c2] 31)).kept hgrow2 (Or.inr (by intro e; injection (show some ga = some gb from e) with e1; omega))
        have HO4 := Lib.hid hO4
        have HO5 := Lib.hid hown2
        have HB4 := Lib.hid b4
        have HS4 : Hid (t ≤ w4.heap.size) := Lib.hid (by have := b4.size; have := HT.out; omega)
        clear hO4 hown2 b4 hgrow2 hat2 hlt2 h2
        go_roundw
        case rel => exact ⟨i + 1, by omega, by go_num, ga, ca, Ka, g2, cap2, Kb + 1, _, rfl, rfl, HO4.out, HO5.out, HV2.out, hg2a, HB4.out, HS4.out⟩
        case measure => simp [intOf] <;> omega
      · obtain ⟨b1, o1, eA, hb1⟩ := ir_some16 hR h0
        subst eA
        have HLn : Hid (((L[i]?.getD []).map encI).length = n1 * 1) := Lib.hid (by rw [List.length_map, ← hR.1]; omega)
        have HNW := Lib.hid (ir_news hR (Below.refl _ _))
        have HH2 : Hid (∀ {W : World}, Below t w W → W.cell? ⟨bb, off + j, none⟩ = some (.slice A2 n2 c2)) := Lib.hid (fun b => (b.cell (p := ⟨bb, off + j, none⟩) hbT).trans H2W.out)
        clear hR
        go_wp2_with (first | (at_builtin; refine wpList_append_lies _ rfl _ _ 31 rfl t 2 i0 (.int .i64 0) 1 8 Try.underlying31 hi hz0 hz1 hz2 rfl (by decide) _ Ka _ rfl HOA.out ⟨b1, o1, none⟩ n1 c1 ((L[i]?.getD []).map encI) rfl HLn.out HNW.out (fun u hu => by obtain ⟨x, _, rfl⟩ := List.mem_map.1 hu; rfl) h0 (by unfold maxLen; omega) (by omega) (by omega) _ rfl ?_; intro g1 cap1 w3 hown1 hgrow1 hat1 hlt1; have b3 : Below t w w3 := HBL.out.grown hgrow1 (by have := HT.out; omega) (fun q e => by injection (show some ga = some q from e) with e1; omega); have h2 := HH2.out b3; have hs3 := hgrow1.size; have hg1b : g1 ≠ gb := (by rcases hat1 with e | e; injection (show some ga = some g1 from e) with e1; omega; omega); have OB := Lib.hid (HOB.out.kept hgrow1 (Or.inr (by intro e; injection (show some gb = some ga from e) with e1; omega))); rw [← List.map_append, ← HFP.out] at hown1; have HW1 := Lib.hid hown1; have HB3 := Lib.hid b3; have hg1l : t ≤ g1 ∧ g1 < w3.heap.size := hown1.lt g1 rfl; clear hown1 b3 hgrow1 hat1) | (at_builtin; refine wpList_append_lies _ rfl _ _ 22 rfl t 31 r0 (.slice none 0 0) 1 24 Try.underlying22 gi gz0 gz1 gz2 rfl (by decide) _ Kb xs rfl (OB.out.alloc _) ⟨w3.heap.size, 0, none⟩ 1 1 [.slice A2 n2 c2] rfl rfl (one_newR' _ _ _) (by simp [Value.oneCell']) (by omega) (by unfold maxLen; omega) (by omega) (by simp; omega) _ rfl ?_; intro g2 cap2 w4 hown2 hgrow2 hat2 hlt2))
        have hg2a : g1 ≠ g2 := by rcases hat2 with e | e; injection (show some gb = some g2 from e) with e1; omega; simp at e; omega
        have b4 : Below t w w4 := (HB3.out.alloc (by omega) _).grown hgrow2 (by have := HT.out; simp; omega) (fun q e => by injection (show some gb = some q from e) with e1; omega)
        have hO4 := ((HW1.out).alloc (.cells #[.slice A2 n2 c2] 31)).kept hgrow2 (Or.inr (by intro e; injection (show some g1 = some gb from e) with e1; omega))
        have HO4 := Lib.hid hO4
        have HO5 := Lib.hid hown2
        have HB4 := Lib.hid b4
        have HS4 : Hid (t ≤ w4.heap.size) := Lib.hid (by have := b4.size; have := HT.out; omega)
        clear hO4 hown2 b4 hgrow2 hat2 hlt2 h2
        go_roundw
        case rel => exact ⟨i + 1, by omega, by go_num, g1, cap1, (Ka + n1), g2, cap2, Kb + 1, _, rfl, rfl, HO4.out, HO5.out, HV2.out, hg2a, HB4.out, HS4.out⟩
        case measure => simp [intOf] <;> omega
    · obtain rfl : i = n := by omega
      have hA := HA0.out.on hcw
      have hRR := (hV.on hcw).rr hOb
      rw [List.take_of_length_le (by rw [List.length_reverse, ← HLEN.out]; omega)] at hRR
      rw [List.take_of_length_le (by rw [← HLEN.out]; omega)] at hOa
      have hI := IR.of_own hOa
      have cc := hcw
      clear hOa hOb hV hne hbl hts hcw
      go_wp2_with fail
      refine (CN hA).mono ?_
      rintro e w2 ⟨Ap, np_, cp, rfl, hp, b⟩
      replace hA := hA.on b
      replace hRR := hRR.on b
      replace hI := hI.on b
      replace cc := bK cc b
      clear b
      clear hA
      go_wp2_with fail
      generalize hv_ : (w2.alloc (.cells #[.int .i64 z] 2)).alloc (.cells #[.slice (some ⟨w2.heap.size, 0, none⟩) 1 1] 31) = v3
      have bA : Below w2.heap.size w2 v3 := by rw [← hv_]; exact ((Below.refl _ w2).alloc (by simp) _).alloc (by simp) _
      have hl1 : RR v3 (some ⟨w2.heap.size + 1, 0, none⟩) 1 1 [[z]] := rr_lit1 (A := some ⟨w2.heap.size, 0, none⟩) (by simp [← hv_, go_sem]) (ir_one (by simp [← hv_, go_sem])) HZ1.out
      replace hRR := hRR.on bA
      replace hI := hI.on bA
      replace hp := hp.on bA
      replace cc := bK cc bA
      clear bA
      clear hv_
      refine (C1 hl1).mono ?_
      rintro e w4 ⟨Ao, no_, co, rfl, ho, b⟩
      replace hRR := hRR.on b
      replace hI := hI.on b
      replace hp := hp.on b
      replace cc := bK cc b
      clear b
      go_wp2_with fail
      generalize hv_ : (w4.alloc (.cells #[.int .i64 z] 2)).alloc (.cells #[.slice (some ⟨ga, 0, none⟩) Ka ca, .slice (some ⟨w4.heap.size, 0, none⟩) 1 1] 31) = v5
      have bA : Below w4.heap.size w4 v5 := by rw [← hv_]; exact ((Below.refl _ w4).alloc (by simp) _).alloc (by simp) _
      have hl2 : RR v5 (some ⟨w4.heap.size + 1, 0, none⟩) 2 2 [L.flatten, [z]] := rr_lit2 (A := some ⟨ga, 0, none⟩) (B := some ⟨w4.heap.size, 0, none⟩) (by simp [← hv_, go_sem]) (by simp [← hv_, go_sem]) (hI.on bA) HFI.out (ir_one (by simp [← hv_, go_sem])) HZ1.out
      replace hRR := hRR.on bA
      replace hI := hI.on bA
      replace hp := hp.on bA
      replace ho := ho.on bA
      replace cc := bK cc bA
      clear bA
      clear hv_
      refine (CQ hl2).mono ?_
      rintro e w6 ⟨Aq, nq_, cq, rfl, hq, b⟩
      replace hRR := hRR.on b
      replace hI := hI.on b
      replace hp := hp.on b
      replace ho := ho.on b
      replace cc := bK cc b
      clear b
      go_wp2_with fail
      refine (CB hRR).mono ?_
      rintro e w7 ⟨Ar, nr_, cr, rfl, hr, b⟩
      replace hRR := hRR.on b
      replace hI := hI.on b
      replace hp := hp.on b
      replace ho := ho.on b
      replace hq := hq.on b
      replace cc := bK cc b
      clear b
      clear hRR
      go_wp2_with fail
      refine (same_N hp hr (Nat.le_trans HLN.out (by omega)) (Nat.le_trans HLN.out (by omega)) rfl).mono ?_
      rintro e w8 ⟨rfl, b⟩
      replace hI := hI.on b
      replace hp := hp.on b
      replace ho := ho.on b
      replace hq := hq.on b
      replace hr := hr.on b
      replace cc := bK cc b
      clear b
      clear hr
      go_wp2_with fail
      generalize hv_ : w8.alloc (.cells #[.slice (some ⟨ga, 0, none⟩) Ka ca] 31) = v9
      have bA : Below w8.heap.size w8 v9 := by rw [← hv_]; exact (Below.refl _ w8).alloc (by simp) _
      have hl3 : RR v9 (some ⟨w8.heap.size, 0, none⟩) 1 1 [L.flatten] := rr_lit1 (A := some ⟨ga, 0, none⟩) (by simp [← hv_, go_sem]) (hI.on bA) HFI.out
      replace hI := hI.on bA
      replace hp := hp.on bA
      replace ho := ho.on bA
      replace hq := hq.on bA
      replace cc := bK cc bA
      clear bA
      clear hv_
      refine (CL hl3).mono ?_
      rintro e w10 ⟨As, ns_, cs, rfl, hs, b⟩
      replace hI := hI.on b
      replace hp := hp.on b
      replace ho := ho.on b
      replace hq := hq.on b
      replace cc := bK cc b
      clear b
      clear hI
      go_wp2_with fail
      refine (same_N hp hs (Nat.le_trans HLN.out (by omega)) (Nat.le_trans HLN.out (by omega)) rfl).mono ?_
      rintro e w11 ⟨rfl, b⟩
      replace hp := hp.on b
      replace ho := ho.on b
      replace hq := hq.on b
      replace hs := hs.on b
      replace cc := bK cc b
      clear b
      clear hs
      go_wp2_with fail
      refine (alive16_any _).mono ?_
      rintro e w12 ⟨rfl, b⟩
      replace hp := hp.on b
      replace ho := ho.on b
      replace hq := hq.on b
      replace cc := bK cc b
      clear b
      go_wp2_with fail
      refine (CM hp hq).mono ?_
      rintro e w13 ⟨rfl, b⟩
      replace hp := hp.on b
      replace ho := ho.on b
      replace hq := hq.on b
      replace cc := bK cc b
      clear b
      go_wp2_with fail
      refine (CO _).mono ?_
      rintro e w14 ⟨Au, nu_, cu, rfl, hu, b⟩
      replace hp := hp.on b
      replace ho := ho.on b
      replace hq := hq.on b
      replace cc := bK cc b
      clear b
      go_wp2_with fail
      refine (same_N ho hu (Nat.le_trans HZL.out (by omega)) (Nat.le_trans HZL.out (by omega)) rfl).mono ?_
      rintro e w15 ⟨rfl, b⟩
      replace hp := hp.on b
      replace ho := ho.on b
      replace hq := hq.on b
      replace hu := hu.on b
      replace cc := bK cc b
      clear b
      go_wp2_with fail
      go_ret
      exact ⟨rfl, cc⟩

theorem ClipJoined_walk {w : World} {A : Option Addr} {n c : Nat} {L : List (List Int)} {z : Int} (hA : RR w A n c L) (hn : n ≤ 2305843009213693952) (hl : ∀ l ∈ L, l.length ≤ 2305843009213693952) (hm : I64 z) : Calls Try.prog 7 #[.slice A n c, .int .i64 z] w fun e w' => e = .returned (.bool true) ∧ Below w.heap.size w w' := by
  by_cases hf : few16 L ≤ 40
  rotate_left
  · exact ClipJoined_many hA hn hl hf
  by_cases hs : z < 0
  · exact ClipJoined_neg hA hn hl hm hf hs
  · exact ClipJoined_pos hA hn hl hm hf hs

end Go.Proofs.Ytpephogadljncaa
