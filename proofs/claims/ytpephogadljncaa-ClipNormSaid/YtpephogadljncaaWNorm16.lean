/-
  The walk of ClipNorm.
-/
import Derived.Test.YtpephogadljncaaRG
import Derived.Test.YtpephogadljncaaB12
import Derived.Test.YtpephogadljncaaWSides16
import Derived.Test.YtpephogadljncaaA3
namespace Go.Proofs.Ytpephogadljncaa
set_option maxRecDepth 100000
set_option maxHeartbeats 8000000
open Go.RowKit
set_option linter.unusedVariables false
set_option linter.unusedSimpArgs false

theorem clipR_all {L : List (List Int)} {N : Nat} {most : Int} (h : 0 < most) (hlt : most.natAbs < N) : L.map (clipR N most) = L.map (fun l => l.map (clip1 most.natAbs N)) := by
  refine List.map_congr_left (fun l _ => ?_)
  unfold clipR
  rw [if_neg (by omega), if_neg (by omega)]
theorem clipR_own {N : Nat} {most : Int} (h : 0 < most) (hle : N ≤ most.natAbs) (l : List Int) : clipR N most l = l := by
  unfold clipR
  rw [if_neg (by omega), if_pos (.inr hle)]
theorem clipR_i64 {N : Nat} {most : Int} {l : List Int} (h : ∀ z ∈ l, I64 z) : ∀ z ∈ clipR N most l, I64 z := by
  unfold clipR
  split
  · intro z hz; simp at hz
  · split
    · exact h
    · rename_i hq
      intro z hz
      obtain ⟨x, hx, rfl⟩ := List.mem_map.1 hz
      have hlt : most.natAbs < N := by rcases Nat.lt_or_ge most.natAbs N with e | e; exact e; exact absurd (.inr e) hq
      exact clip_i64 (by omega) (by omega) (h x hx)
theorem map_push {f : List Int → List Int} {L : List (List Int)} {i : Nat} (h : i < L.length) : (L.take (i + 1)).map f = (L.take i).map f ++ [f (L[i]?.getD [])] := by
  rw [List.take_add_one, List.getElem?_eq_getElem h, List.map_append]; rfl
theorem rsame9_self16n {w : World} {A B : Option Addr} {n c m d : Nat} {L : List Int} (hA : IR w A n c L) (hB : IR w B m d L) (hn : n ≤ 9223372036854775807) : Calls Try.prog 14 #[.slice A n c, .slice B m d] w (GotV w (.bool true)) := by
  have h := rsame9_any hA hB hn
  rw [decide_eq_true rfl] at h
  exact h
theorem one_newR (w : World) (a : Value) (T : TypeId) : ∀ j u, [a][j]? = some u → (w.alloc (.cells #[a] T)).cell? ((⟨w.heap.size, 0, none⟩ : Addr).add j) = some u := by
  intro j u h
  rw [addr_add, Nat.zero_add, World.cell?_alloc_new]
  simpa using h
attribute [local go_sem] field16

theorem ClipNorm_many {w : World} {A : Option Addr} {n c : Nat} {L : List (List Int)} {most : Int} (hA : RR w A n c L) (hn : n ≤ 2305843009213693952) (hl : ∀ l ∈ L, l.length ≤ 2305843009213693952) (hf : ¬ few16 L ≤ 40) :
    Calls Try.prog 3 #[.slice A n c, .int .i64 most] w fun e w' => e = .returned (.bool true) ∧ Below w.heap.size w w' := by
  have CF := rFew16_N hA hn hl
  rw [decide_eq_false hf] at CF
  clear hA hn hl hf
  have cc := Below.refl w.heap.size w
  go_enter Try.func3, Try.ntmps3
  go_wp2_with fail
  refine (CF).mono ?_
  rintro e w1 ⟨rfl, b⟩
  replace cc := bK cc b
  clear b
  go_wp2_with fail
  refine (alive16_any _).mono ?_
  rintro e w2 ⟨rfl, b⟩
  replace cc := bK cc b
  clear b
  go_wp2_with fail
  go_ret
  exact ⟨rfl, cc⟩

theorem ClipNorm_low {w : World} {A : Option Addr} {n c : Nat} {L : List (List Int)} {most : Int} (hA : RR w A n c L) (hn : n ≤ 2305843009213693952) (hl : ∀ l ∈ L, l.length ≤ 2305843009213693952) (hf : few16 L ≤ 40) (h1 : most < 1) :
    Calls Try.prog 3 #[.slice A n c, .int .i64 most] w fun e w' => e = .returned (.bool true) ∧ Below w.heap.size w w' := by
  have CF := rFew16_N hA hn hl
  rw [decide_eq_true hf] at CF
  have t1 : decide (most < 1) = true := decide_eq_true h1
  clear hA hn hl hf h1
  have cc := Below.refl w.heap.size w
  go_enter Try.func3, Try.ntmps3
  go_wp2_with fail
  refine (CF).mono ?_
  rintro e w1 ⟨rfl, b⟩
  replace cc := bK cc b
  clear b
  go_wp2_with fail
  refine (alive16_any _).mono ?_
  rintro e w2 ⟨rfl, b⟩
  replace cc := bK cc b
  clear b
  go_wp2_with fail
  go_ret
  exact ⟨rfl, cc⟩

theorem ClipNorm_own {w : World} {A : Option Addr} {n c : Nat} {L : List (List Int)} {most : Int} (hA : RR w A n c L) (hn : n ≤ 2305843009213693952) (hl : ∀ l ∈ L, l.length ≤ 2305843009213693952) (hm : I64 most) (hf : few16 L ≤ 40) (h1 : ¬ most < 1) (hN : norm16 L ≤ most.natAbs) :
    Calls Try.prog 3 #[.slice A n c, .int .i64 most] w fun e w' => e = .returned (.bool true) ∧ Below w.heap.size w w' := by
  have CF := rFew16_N hA hn hl
  rw [decide_eq_true hf] at CF
  obtain ⟨q1, q2⟩ := few_rows hf
  have hz := rr_i64 hA
  have hn1 : n ≤ 100 := by rw [hA.1]; omega
  have hl1 : ∀ l ∈ L, l.length ≤ 100 ∧ ∀ z ∈ l, I64 z := fun l h => ⟨by have := q2 l h; omega, hz l h⟩
  have t1 : decide (most < 1) = false := decide_eq_false (by omega)
  obtain ⟨i0, hi, hz0, hz1, hz2⟩ := info_parts infoR
  have CN := fun {W : World} (h : RR W A n c L) => clNorm_N h hn1 hl1
  have hln := norm_len (show L.length ≤ 100 by omega) hl1
  have CO := fun W : World => rzof_N W most hm
  obtain ⟨N, eN⟩ : ∃ N, norm16 L = N := ⟨_, rfl⟩
  rw [eN] at CN hln hN
  obtain ⟨M, eM⟩ : ∃ M, most.natAbs = M := ⟨_, rfl⟩
  have hM1 := len_one (show most.natAbs < B64 by unfold I64 at hm; unfold B64; omega)
  rw [eM] at hM1 hN
  have t2 : decide (cmpN N M ≤ 0) = true := decide_eq_true (by unfold cmpN; split <;> (try split) <;> omega)
  obtain ⟨q, eq⟩ : ∃ q, cmpN N M = q := ⟨_, rfl⟩
  rw [eq] at t2
  have C1 : ∀ {W : World} {B B2 : Option Addr} {m d m2 d2 : Nat}, Num W B m d N → Num W B2 m2 d2 M → Calls Try.prog 13 #[.slice B m d, .slice B2 m2 d2] W (GotV W (.int .i64 q)) := fun h h2 => by rw [← eq]; exact rcmp_N h h2 (by omega) (by omega)
  have HEM : Hid (∀ {W : World} {b : Bool} {B : Option Addr} {m d : Nat}, Zn W b B m d most → Num W B m d M) := Lib.hid (fun h => by rw [← eM]; exact h.1)
  have HLN := Lib.hid hln
  have HM1 := Lib.hid hM1
  have HL1 := Lib.hid hl1
  have HM := Lib.hid hm
  have HN1 := Lib.hid hn1
  have HLEN := Lib.hid hA.1
  have HQ1 := Lib.hid q1
  have HQ2 := Lib.hid q2
  have H1 := Lib.hid h1
  have HOWN : Hid (∀ l, clipR N most l = l) := Lib.hid (fun l => clipR_own (by omega) (by omega) l)
  clear hn hl hf q1 q2 hz hn1 hl1 hln h1 hM1 eN eM eq hm hN
  have cc := Below.refl w.heap.size w
  go_enter Try.func3, Try.ntmps3
  go_wp2_with fail
  refine (CF).mono ?_
  rintro e w1 ⟨rfl, b⟩
  replace hA := hA.on b
  replace cc := bK cc b
  clear b
  go_wp2_with fail
  refine (CN hA).mono ?_
  rintro e w2 ⟨Ap, np_, cp, rfl, hp, b⟩
  replace hA := hA.on b
  replace cc := bK cc b
  clear b
  go_wp2_with fail
  refine (CO _).mono ?_
  rintro e w3 ⟨bz, Az, nz, cz, rfl, hz, b⟩
  replace hA := hA.on b
  replace hp := hp.on b
  replace cc := bK cc b
  clear b
  have hb := HEM.out hz
  clear hz
  obtain ⟨t, ht⟩ : ∃ t, w3.heap.size = t := ⟨_, rfl⟩
  have HT := Lib.hid ht
  have hE : (w3.alloc (.cells #[] 31)).ownsRow t 31 1 (.slice (some ⟨w3.heap.size, 0, none⟩) 0 0) 0 ([] : List Value) := World.ownsRow_lit w3 #[] 0 (by omega) (by unfold maxLen; omega) rfl
  have b0 : Below t w3 (w3.alloc (.cells #[] 31)) := (Below.refl _ _).alloc (by omega) _
  have HG0 : Hid (∃ (g cap K : Nat) (xs : List Value), (Value.slice (some ⟨w3.heap.size, 0, none⟩) 0 0) = .slice (some ⟨g, 0, none⟩) K cap ∧ (w3.alloc (.cells #[] 31)).ownsRow t 31 1 (.slice (some ⟨g, 0, none⟩) K cap) K xs ∧ RV (some g) (w3.alloc (.cells #[] 31)) xs ((L.take 0).map (clipR N most)) ∧ Below t w3 (w3.alloc (.cells #[] 31)) ∧ t ≤ (w3.alloc (.cells #[] 31)).heap.size) := Lib.hid ⟨_, _, _, _, rfl, hE, RV.nil _ _, b0, by simp; omega⟩
  have HA := Lib.hid hA
  have HP := Lib.hid hp
  have HB := Lib.hid hb
  have HCC := Lib.hid cc
  clear hE b0 ht hA hp hb cc CN CO
  go_wp2_with fail
  go_loopw [7, 8] (fun ov iv wr => ∃ i : Nat, i ≤ n ∧ iv = .int .i64 (i : Int) ∧ ∃ (g cap K : Nat) (xs : List Value), ov = .slice (some ⟨g, 0, none⟩) K cap ∧ wr.ownsRow t 31 1 (.slice (some ⟨g, 0, none⟩) K cap) K xs ∧ RV (some g) wr xs ((L.take i).map (clipR N most)) ∧ Below t w3 wr ∧ t ≤ wr.heap.size) (fun _ iv _ => n - (intOf iv).toNat)
  case atStart => exact ⟨0, by omega, rfl, HG0.out⟩
  case round =>
    clear HG0
    obtain ⟨i, hi2, rfl, g, cap, K, xs, rfl, hO, hV, hbl, hts⟩ := hrel
    have hcv : Below w3.heap.size w3 wr := by rw [HT.out]; exact hbl
    have hKx : K = xs.length := by have := hO.1; omega
    by_cases hlt : i < n
    · have hA := HA.out.on hcv
      have hp := HP.out.on hcv
      have hb := HB.out.on hcv
      obtain ⟨bb, off, rfl, hbb⟩ := hA.some (by omega)
      obtain ⟨A1, n1, c1, h1, hR, hz1⟩ := rr_at hA hlt
      have hil : i < L.length := by rw [← HLEN.out]; exact hlt
      have hl100 : n1 ≤ 100 := by rw [hR.1]; exact (HL1.out _ (mem_at16 hil)).1
      have jl : (i : Int) < (n : Int) := by omega
      have k3 : IntKind.i64.wrap ((i : Int) + 1) = ((i + 1 : Nat) : Int) := by have := HN1.out; rw [IntWalk.i64_in _ (by omega)]; omega
      have hK40 : K ≤ 40 := by rw [hKx, hV.1, List.length_map, List.length_take]; have := HQ1.out; omega
      have hpu := map_push (f := clipR N most) hil
      have hcl := clipR_len N (show ¬ most < 0 by have := H1.out; omega) (L[i]?.getD [])
      have he0 : clipE most = 0 := by unfold clipE; rw [if_neg (by have := H1.out; omega)]
      rw [← hR.1] at hcl
      have hci := clipR_i64 (N := N) (most := most) hz1
      have CC := fun {W : World} {B : Option Addr} {m d : Nat} (a : IR W A1 n1 c1 (L[i]?.getD [])) (b : Num W B m d N) => clClip_N a b HM.out (Nat.le_trans HLN.out (by omega)) hl100 hz1
      rw [he0] at CC
      have hqw := HOWN.out (L[i]?.getD [])
      generalize L[i]?.getD [] = R at *
      obtain ⟨CR, eCR⟩ : ∃ CR, clipR N most R = CR := ⟨_, rfl⟩
      rw [eCR] at CC hpu hcl hci hqw
      have HPU := Lib.hid hpu
      have HCL := Lib.hid hcl
      have HCI := Lib.hid hci
      have HO := Lib.hid hO
      have HV := Lib.hid hV
      have HBL := Lib.hid hbl
      have H100 := Lib.hid hl100
      have HQW := Lib.hid hqw
      clear hA hz1 hl100 hcl hpu hci eCR he0 hil hO hV hbl hcv hKx hqw
      have cc := Below.refl wr.heap.size wr
      go_wp2_with fail
      refine (CC hR hp).mono ?_
      rintro e w4 ⟨Ax, nx_, cx, rfl, hx, hnew, b⟩
      replace h1 := cK b h1 hbb
      replace hbb := lK b hbb
      replace hR := hR.on b
      replace hp := hp.on b
      replace hb := hb.on b
      replace cc := bK cc b
      clear b
      have en : nx_ = n1 := by rw [hx.1]; exact HCL.out
      subst en
      have HNW := Lib.hid hnew
      clear hnew
      go_wp2_with fail
      refine (C1 hp hb).mono ?_
      rintro e w5 ⟨rfl, b⟩
      replace h1 := cK b h1 hbb
      replace hbb := lK b hbb
      replace hR := hR.on b
      replace hp := hp.on b
      replace hb := hb.on b
      replace hx := hx.on b
      replace cc := bK cc b
      clear b
      go_wp2_with fail
      refine (rsame9_self16n hx (by rw [HQW.out]; exact hR) (by have := H100.out; omega)).mono ?_
      rintro e w6 ⟨rfl, b⟩
      replace h1 := cK b h1 hbb
      replace hbb := lK b hbb
      replace hR := hR.on b
      replace hp := hp.on b
      replace hb := hb.on b
      replace hx := hx.on b
      replace cc := bK cc b
      clear b
      obtain ⟨hO3, hbl3, hts3, hg3, hgl⟩ := own_afterR HO.out HBL.out hts cc
      have HO3 := Lib.hid hO3
      have HB3 := Lib.hid hbl3
      have hV3 : RV (some g) w6 xs ((L.take i).map (clipR N most)) := HV.out.on cc
      have hap : ApartR (some g) Ax nx_ := fun hp q e e2 => by injection e2 with e2; have := HNW.out hp q e; omega
      have HV3 := Lib.hid hV3
      have HAP := Lib.hid hap
      have HX := Lib.hid hx
      clear hO3 hbl3 hV3 hap hgl hR hp hb h1 hx cc
      have bA := below_one w6 (.cells #[.slice Ax nx_ cx] 31)
      have HV4 := Lib.hid (HV3.out.on bA)
      have HX4 := Lib.hid (HX.out.on bA)
      clear bA
      go_wp2_with (at_builtin; refine wpList_append_lies _ rfl _ _ 22 rfl t 31 i0 (.slice none 0 0) 1 24 Try.underlying22 hi hz0 hz1 hz2 rfl (by decide) _ K xs rfl (HO3.out.alloc _) ⟨w6.heap.size, 0, none⟩ 1 1 [.slice Ax nx_ cx] rfl rfl (one_newR _ _ _) (by simp [Value.oneCell']) (by omega) (by unfold maxLen; omega) (by omega) (by simp; omega) _ rfl ?_; intro g1 cap1 w7 hown1 hgrow1 hat hlt1)
      have b7 : Below t w3 w7 := (HB3.out.alloc hts3 _).grown hgrow1 (by simp; omega) (fun q e => by injection (show some g = some q from e) with e1; omega)
      have hV7 := HV4.out.push (gq := g1) hgrow1 hat HX4.out HCI.out HAP.out
      have HV7 := Lib.hid hV7
      have HO7 := Lib.hid hown1
      have HB7 := Lib.hid b7
      have HS7 : Hid (t ≤ w7.heap.size) := Lib.hid (by have := b7.size; have := HT.out; omega)
      clear hV7 hown1 b7 hgrow1 hat hlt1
      go_roundw
      case rel => exact ⟨i + 1, by omega, by go_num, g1, cap1, K + 1, _, rfl, HO7.out, by rw [HPU.out]; exact HV7.out, HB7.out, HS7.out⟩
      case measure => simp [intOf] <;> omega
    · obtain rfl : i = n := by omega
      have hp := HP.out.on hcv
      have hb := HB.out.on hcv
      have hRR := hV.rr hO
      rw [List.take_of_length_le (by rw [← HLEN.out]; omega)] at hRR
      have cc := HCC.out.trans (hcv.mono HCC.out.size)
      clear hO hV hbl hts hcv hKx
      go_wp2_with fail
      refine (C1 hp hb).mono ?_
      rintro e w7 ⟨rfl, b⟩
      replace hp := hp.on b
      replace hb := hb.on b
      replace hRR := hRR.on b
      replace cc := bK cc b
      clear b
      go_wp2_with fail
      refine (alive16_any _).mono ?_
      rintro e w8 ⟨rfl, b⟩
      replace hp := hp.on b
      replace hb := hb.on b
      replace hRR := hRR.on b
      replace cc := bK cc b
      clear b
      go_wp2_with fail
      go_ret
      exact ⟨rfl, cc⟩

theorem ClipNorm_cut {w : World} {A : Option Addr} {n c : Nat} {L : List (List Int)} {most : Int} (hA : RR w A n c L) (hn : n ≤ 2305843009213693952) (hl : ∀ l ∈ L, l.length ≤ 2305843009213693952) (hm : I64 most) (hf : few16 L ≤ 40) (h1 : ¬ most < 1) (hN : most.natAbs < norm16 L) :
    Calls Try.prog 3 #[.slice A n c, .int .i64 most] w fun e w' => e = .returned (.bool true) ∧ Below w.heap.size w w' := by
  have CF := rFew16_N hA hn hl
  rw [decide_eq_true hf] at CF
  obtain ⟨q1, q2⟩ := few_rows hf
  have hz := rr_i64 hA
  have hn1 : n ≤ 100 := by rw [hA.1]; omega
  have hl1 : ∀ l ∈ L, l.length ≤ 100 ∧ ∀ z ∈ l, I64 z := fun l h => ⟨by have := q2 l h; omega, hz l h⟩
  have t1 : decide (most < 1) = false := decide_eq_false (by omega)
  obtain ⟨i0, hi, hz0, hz1, hz2⟩ := info_parts infoR
  have CN := fun {W : World} (h : RR W A n c L) => clNorm_N h hn1 hl1
  have hln := norm_len (show L.length ≤ 100 by omega) hl1
  have CO := fun W : World => rzof_N W most hm
  have hcl := clip_norm (m := most.natAbs) L (by omega)
  rw [← clipR_all (L := L) (by omega) (by omega)] at hcl
  obtain ⟨N, eN⟩ : ∃ N, norm16 L = N := ⟨_, rfl⟩
  rw [eN] at CN hln hN hcl
  obtain ⟨M, eM⟩ : ∃ M, most.natAbs = M := ⟨_, rfl⟩
  have hM1 := len_one (show most.natAbs < B64 by unfold I64 at hm; unfold B64; omega)
  rw [eM] at hM1 hN hcl
  have t2 : decide (cmpN N M ≤ 0) = false := decide_eq_false (by unfold cmpN; split <;> (try split) <;> omega)
  obtain ⟨q, eq⟩ : ∃ q, cmpN N M = q := ⟨_, rfl⟩
  rw [eq] at t2
  have C1 : ∀ {W : World} {B B2 : Option Addr} {m d m2 d2 : Nat}, Num W B m d N → Num W B2 m2 d2 M → Calls Try.prog 13 #[.slice B m d, .slice B2 m2 d2] W (GotV W (.int .i64 q)) := fun h h2 => by rw [← eq]; exact rcmp_N h h2 (by omega) (by omega)
  have HEM : Hid (∀ {W : World} {b : Bool} {B : Option Addr} {m d : Nat}, Zn W b B m d most → Num W B m d M) := Lib.hid (fun h => by rw [← eM]; exact h.1)
  have HLN := Lib.hid hln
  have HM1 := Lib.hid hM1
  have HL1 := Lib.hid hl1
  have HM := Lib.hid hm
  have HN1 := Lib.hid hn1
  have HLEN := Lib.hid hA.1
  have HQ1 := Lib.hid q1
  have HQ2 := Lib.hid q2
  have H1 := Lib.hid h1
  obtain ⟨S, eS⟩ : ∃ S, sqA (L.map (clipR N most)) = S := ⟨_, rfl⟩
  rw [eS] at hcl
  have HSS := Lib.hid eS
  have t3 : decide (cmpN S (M * M) ≤ 0) = true := decide_eq_true (by unfold cmpN; split <;> (try split) <;> omega)
  obtain ⟨p, ep⟩ : ∃ p, cmpN S (M * M) = p := ⟨_, rfl⟩
  rw [ep] at t3
  have hMM := limbs_length_mul hM1 hM1
  have hSl := Nat.le_trans (limbs_length_mono hcl) hMM
  have C2 : ∀ {W : World} {B B2 : Option Addr} {m d m2 d2 : Nat}, Num W B m d S → Num W B2 m2 d2 (M * M) → Calls Try.prog 13 #[.slice B m d, .slice B2 m2 d2] W (GotV W (.int .i64 p)) := fun h h2 => by rw [← ep]; exact rcmp_N h h2 (by omega) (by omega)
  clear eS hcl ep hMM hSl
  clear hn hl hf q1 q2 hz hn1 hl1 hln h1 hM1 eN eM eq hm hN
  have cc := Below.refl w.heap.size w
  go_enter Try.func3, Try.ntmps3
  go_wp2_with fail
  refine (CF).mono ?_
  rintro e w1 ⟨rfl, b⟩
  replace hA := hA.on b
  replace cc := bK cc b
  clear b
  go_wp2_with fail
  refine (CN hA).mono ?_
  rintro e w2 ⟨Ap, np_, cp, rfl, hp, b⟩
  replace hA := hA.on b
  replace cc := bK cc b
  clear b
  go_wp2_with fail
  refine (CO _).mono ?_
  rintro e w3 ⟨bz, Az, nz, cz, rfl, hz, b⟩
  replace hA := hA.on b
  replace hp := hp.on b
  replace cc := bK cc b
  clear b
  have hb := HEM.out hz
  clear hz
  obtain ⟨t, ht⟩ : ∃ t, w3.heap.size = t := ⟨_, rfl⟩
  have HT := Lib.hid ht
  have hE : (w3.alloc (.cells #[] 31)).ownsRow t 31 1 (.slice (some ⟨w3.heap.size, 0, none⟩) 0 0) 0 ([] : List Value) := World.ownsRow_lit w3 #[] 0 (by omega) (by unfold maxLen; omega) rfl
  have b0 : Below t w3 (w3.alloc (.cells #[] 31)) := (Below.refl _ _).alloc (by omega) _
  have HG0 : Hid (∃ (g cap K : Nat) (xs : List Value), (Value.slice (some ⟨w3.heap.size, 0, none⟩) 0 0) = .slice (some ⟨g, 0, none⟩) K cap ∧ (w3.alloc (.cells #[] 31)).ownsRow t 31 1 (.slice (some ⟨g, 0, none⟩) K cap) K xs ∧ RV (some g) (w3.alloc (.cells #[] 31)) xs ((L.take 0).map (clipR N most)) ∧ Below t w3 (w3.alloc (.cells #[] 31)) ∧ t ≤ (w3.alloc (.cells #[] 31)).heap.size) := Lib.hid ⟨_, _, _, _, rfl, hE, RV.nil _ _, b0, by simp; omega⟩
  have HA := Lib.hid hA
  have HP := Lib.hid hp
  have HB := Lib.hid hb
  have HCC := Lib.hid cc
  clear hE b0 ht hA hp hb cc CN CO
  go_wp2_with fail
  go_loopw [7, 8] (fun ov iv wr => ∃ i : Nat, i ≤ n ∧ iv = .int .i64 (i : Int) ∧ ∃ (g cap K : Nat) (xs : List Value), ov = .slice (some ⟨g, 0, none⟩) K cap ∧ wr.ownsRow t 31 1 (.slice (some ⟨g, 0, none⟩) K cap) K xs ∧ RV (some g) wr xs ((L.take i).map (clipR N most)) ∧ Below t w3 wr ∧ t ≤ wr.heap.size) (fun _ iv _ => n - (intOf iv).toNat)
  case atStart => exact ⟨0, by omega, rfl, HG0.out⟩
  case round =>
    clear HG0
    obtain ⟨i, hi2, rfl, g, cap, K, xs, rfl, hO, hV, hbl, hts⟩ := hrel
    have hcv : Below w3.heap.size w3 wr := by rw [HT.out]; exact hbl
    have hKx : K = xs.length := by have := hO.1; omega
    by_cases hlt : i < n
    · have hA := HA.out.on hcv
      have hp := HP.out.on hcv
      have hb := HB.out.on hcv
      obtain ⟨bb, off, rfl, hbb⟩ := hA.some (by omega)
      obtain ⟨A1, n1, c1, h1, hR, hz1⟩ := rr_at hA hlt
      have hil : i < L.length := by rw [← HLEN.out]; exact hlt
      have hl100 : n1 ≤ 100 := by rw [hR.1]; exact (HL1.out _ (mem_at16 hil)).1
      have jl : (i : Int) < (n : Int) := by omega
      have k3 : IntKind.i64.wrap ((i : Int) + 1) = ((i + 1 : Nat) : Int) := by have := HN1.out; rw [IntWalk.i64_in _ (by omega)]; omega
      have hK40 : K ≤ 40 := by rw [hKx, hV.1, List.length_map, List.length_take]; have := HQ1.out; omega
      have hpu := map_push (f := clipR N most) hil
      have hcl := clipR_len N (show ¬ most < 0 by have := H1.out; omega) (L[i]?.getD [])
      have he0 : clipE most = 0 := by unfold clipE; rw [if_neg (by have := H1.out; omega)]
      rw [← hR.1] at hcl
      have hci := clipR_i64 (N := N) (most := most) hz1
      have CC := fun {W : World} {B : Option Addr} {m d : Nat} (a : IR W A1 n1 c1 (L[i]?.getD [])) (b : Num W B m d N) => clClip_N a b HM.out (Nat.le_trans HLN.out (by omega)) hl100 hz1
      rw [he0] at CC
      generalize L[i]?.getD [] = R at *
      obtain ⟨CR, eCR⟩ : ∃ CR, clipR N most R = CR := ⟨_, rfl⟩
      rw [eCR] at CC hpu hcl hci
      have HPU := Lib.hid hpu
      have HCL := Lib.hid hcl
      have HCI := Lib.hid hci
      have HO := Lib.hid hO
      have HV := Lib.hid hV
      have HBL := Lib.hid hbl
      have H100 := Lib.hid hl100
      clear hA hz1 hl100 hcl hpu hci eCR he0 hil hO hV hbl hcv hKx
      have cc := Below.refl wr.heap.size wr
      go_wp2_with fail
      refine (CC hR hp).mono ?_
      rintro e w4 ⟨Ax, nx_, cx, rfl, hx, hnew, b⟩
      replace h1 := cK b h1 hbb
      replace hbb := lK b hbb
      replace hR := hR.on b
      replace hp := hp.on b
      replace hb := hb.on b
      replace cc := bK cc b
      clear b
      have en : nx_ = n1 := by rw [hx.1]; exact HCL.out
      subst en
      have HNW := Lib.hid hnew
      clear hnew
      go_wp2_with fail
      refine (C1 hp hb).mono ?_
      rintro e w5 ⟨rfl, b⟩
      replace h1 := cK b h1 hbb
      replace hbb := lK b hbb
      replace hR := hR.on b
      replace hp := hp.on b
      replace hb := hb.on b
      replace hx := hx.on b
      replace cc := bK cc b
      clear b
      obtain ⟨hO3, hbl3, hts3, hg3, hgl⟩ := own_afterR HO.out HBL.out hts cc
      have HO3 := Lib.hid hO3
      have HB3 := Lib.hid hbl3
      have hV3 : RV (some g) w5 xs ((L.take i).map (clipR N most)) := HV.out.on cc
      have hap : ApartR (some g) Ax nx_ := fun hp q e e2 => by injection e2 with e2; have := HNW.out hp q e; omega
      have HV3 := Lib.hid hV3
      have HAP := Lib.hid hap
      have HX := Lib.hid hx
      clear hO3 hbl3 hV3 hap hgl hR hp hb h1 hx cc
      have bA := below_one w5 (.cells #[.slice Ax nx_ cx] 31)
      have HV4 := Lib.hid (HV3.out.on bA)
      have HX4 := Lib.hid (HX.out.on bA)
      clear bA
      go_wp2_with (at_builtin; refine wpList_append_lies _ rfl _ _ 22 rfl t 31 i0 (.slice none 0 0) 1 24 Try.underlying22 hi hz0 hz1 hz2 rfl (by decide) _ K xs rfl (HO3.out.alloc _) ⟨w5.heap.size, 0, none⟩ 1 1 [.slice Ax nx_ cx] rfl rfl (one_newR _ _ _) (by simp [Value.oneCell']) (by omega) (by unfold maxLen; omega) (by omega) (by simp; omega) _ rfl ?_; intro g1 cap1 w7 hown1 hgrow1 hat hlt1)
      have b7 : Below t w3 w7 := (HB3.out.alloc hts3 _).grown hgrow1 (by simp; omega) (fun q e => by injection (show some g = some q from e) with e1; omega)
      have hV7 := HV4.out.push (gq := g1) hgrow1 hat HX4.out HCI.out HAP.out
      have HV7 := Lib.hid hV7
      have HO7 := Lib.hid hown1
      have HB7 := Lib.hid b7
      have HS7 : Hid (t ≤ w7.heap.size) := Lib.hid (by have := b7.size; have := HT.out; omega)
      clear hV7 hown1 b7 hgrow1 hat hlt1
      go_roundw
      case rel => exact ⟨i + 1, by omega, by go_num, g1, cap1, K + 1, _, rfl, HO7.out, by rw [HPU.out]; exact HV7.out, HB7.out, HS7.out⟩
      case measure => simp [intOf] <;> omega
    · obtain rfl : i = n := by omega
      have hp := HP.out.on hcv
      have hb := HB.out.on hcv
      have hRR := hV.rr hO
      rw [List.take_of_length_le (by rw [← HLEN.out]; omega)] at hRR
      have cc := HCC.out.trans (hcv.mono HCC.out.size)
      clear hO hV hbl hts hcv hKx
      go_wp2_with fail
      refine (C1 hp hb).mono ?_
      rintro e w6 ⟨rfl, b⟩
      replace hp := hp.on b
      replace hb := hb.on b
      replace hRR := hRR.on b
      replace cc := bK cc b
      clear b
      go_wp2_with fail
      refine (alive16_any _).mono ?_
      rintro e w7 ⟨rfl, b⟩
      replace hp := hp.on b
      replace hb := hb.on b
      replace hRR := hRR.on b
      replace cc := bK cc b
      clear b
      have CS := fun {W : World} {B : Option Addr} {m d : Nat} (h : RR W B m d (L.map (clipR N most))) (hm : m ≤ 100) => rSquares16_N h hm (fun l hl => by obtain ⟨x, hx, rfl⟩ := List.mem_map.1 hl; exact ⟨by rw [clipR_len N (by have := H1.out; omega)]; have := HQ2.out x hx; omega, clipR_i64 (HL1.out x hx).2⟩)
      rw [HSS.out] at CS
      have hK1 : K ≤ 100 := by rw [hRR.1, List.length_map]; have := HQ1.out; omega
      go_wp2_with fail
      refine (CS hRR hK1).mono ?_
      rintro e w8 ⟨As, ns_, cs, rfl, hs, b⟩
      replace hp := hp.on b
      replace hb := hb.on b
      replace hRR := hRR.on b
      replace cc := bK cc b
      clear b
      go_wp2_with fail
      refine (rmul_N hb hb (Nat.le_trans HM1.out (by omega)) (Nat.le_trans HM1.out (by omega))).mono ?_
      rintro e w9 ⟨Amm, nmm_, cmm, rfl, hmm, b⟩
      replace hp := hp.on b
      replace hb := hb.on b
      replace hRR := hRR.on b
      replace hs := hs.on b
      replace cc := bK cc b
      clear b
      go_wp2_with fail
      refine (C2 hs hmm).mono ?_
      rintro e w10 ⟨rfl, b⟩
      replace hp := hp.on b
      replace hb := hb.on b
      replace hRR := hRR.on b
      replace hs := hs.on b
      replace hmm := hmm.on b
      replace cc := bK cc b
      clear b
      go_wp2_with fail
      go_ret
      exact ⟨rfl, cc⟩

theorem ClipNorm_walk {w : World} {A : Option Addr} {n c : Nat} {L : List (List Int)} {most : Int} (hA : RR w A n c L) (hn : n ≤ 2305843009213693952) (hl : ∀ l ∈ L, l.length ≤ 2305843009213693952) (hm : I64 most) : Calls Try.prog 3 #[.slice A n c, .int .i64 most] w fun e w' => e = .returned (.bool true) ∧ Below w.heap.size w w' := by
  by_cases hf : few16 L ≤ 40
  rotate_left
  · exact ClipNorm_many hA hn hl hf
  by_cases h1 : most < 1
  · exact ClipNorm_low hA hn hl hf h1
  by_cases hN : norm16 L ≤ most.natAbs
  · exact ClipNorm_own hA hn hl hm hf h1 hN
  · exact ClipNorm_cut hA hn hl hm hf h1 (by omega)

end Go.Proofs.Ytpephogadljncaa
