/-
  The walk of ClipRoot.
-/
import Derived.Test.YtpephogadljncaaA8
import Derived.Test.YtpephogadljncaaA3
namespace Go.Proofs.Ytpephogadljncaa
set_option maxRecDepth 100000
set_option maxHeartbeats 8000000
open Go.RowKit
set_option linter.unusedVariables false
set_option linter.unusedSimpArgs false

theorem ClipRoot_many {w : World} {A : Option Addr} {n c : Nat} {L : List (List Int)} (hA : RR w A n c L) (hn : n ≤ 2305843009213693952) (hl : ∀ l ∈ L, l.length ≤ 2305843009213693952) (hf : ¬ few16 L ≤ 40) :
    Calls Try.prog 4 #[.slice A n c] w fun e w' => e = .returned (.bool true) ∧ Below w.heap.size w w' := by
  have CF := rFew16_N hA hn hl
  rw [decide_eq_false hf] at CF
  clear hA hn hl hf
  have cc := Below.refl w.heap.size w
  go_enter Try.func4, Try.ntmps4
  go_wp2_with fail
  refine (CF).mono ?_
  rintro e w1 ⟨rfl, b⟩
  replace cc := bK cc b
  clear b
  go_wp2_with fail
  refine (alive16_any _).mono ?_
  rintro e w2 ⟨rfl, b⟩
  replace cc := bK cc b
  clear b
  go_wp2_with fail
  go_ret
  exact ⟨rfl, cc⟩

theorem ClipRoot_z {w : World} {A : Option Addr} {n c : Nat} {L : List (List Int)} (hA : RR w A n c L) (hn : n ≤ 2305843009213693952) (hl : ∀ l ∈ L, l.length ≤ 2305843009213693952) (hf : few16 L ≤ 40) (h0 : norm16 L = 0) :
    Calls Try.prog 4 #[.slice A n c] w fun e w' => e = .returned (.bool true) ∧ Below w.heap.size w w' := by
  have CF := rFew16_N hA hn hl
  rw [decide_eq_true hf] at CF
  obtain ⟨q1, q2⟩ := few_rows hf
  have hz := rr_i64 hA
  have hn1 : n ≤ 100 := by rw [hA.1]; omega
  have hl1 : ∀ l ∈ L, l.length ≤ 100 ∧ ∀ z ∈ l, I64 z := fun l h => ⟨by have := q2 l h; omega, hz l h⟩
  have CN := fun {W : World} (h : RR W A n c L) => clNorm_N h hn1 hl1
  have CS := fun {W : World} (h : RR W A n c L) => rSquares16_N h hn1 hl1
  have hls := sqA_len (show L.length ≤ 100 by omega) hl1
  have hup := norm_up L
  have hle := norm_least L
  have hz0 := norm_zero L
  have hln := norm_len (show L.length ≤ 100 by omega) hl1
  obtain ⟨N, eN⟩ : ∃ N, norm16 L = N := ⟨_, rfl⟩
  obtain ⟨S, eS⟩ : ∃ S, sqA L = S := ⟨_, rfl⟩
  rw [eN] at CN hup hle hz0 hln h0
  rw [eS] at CS hls hup hle hz0
  have hm2 := limbs_length_mul hln hln
  have t0 : decide (cmpN (N * N) S < 0) = false := decide_eq_false (by unfold cmpN; split <;> (try split) <;> omega)
  obtain ⟨q, eq⟩ : ∃ q, cmpN (N * N) S = q := ⟨_, rfl⟩
  have C1 : ∀ {W : World} {B B2 : Option Addr} {m d m2 d2 : Nat}, Num W B m d (N * N) → Num W B2 m2 d2 S → Calls Try.prog 13 #[.slice B m d, .slice B2 m2 d2] W (GotV W (.int .i64 q)) := fun h h2 => by rw [← eq]; exact rcmp_N h h2 (by omega) (by omega)
  rw [eq] at t0
  have HLN := Lib.hid hln
  have CO := fun W : World => rof_N W 1 (by decide)
  have hS0 : S = 0 := hz0.1 h0
  have HN0 := Lib.hid h0
  have HS0 := Lib.hid hS0
  clear h0 hS0
  clear hn hl hf q1 q2 hz hn1 hl1 hup hle hz0 hln hls eN eS hm2 eq
  have cc := Below.refl w.heap.size w
  go_enter Try.func4, Try.ntmps4
  go_wp2_with fail
  refine (CF).mono ?_
  rintro e w1 ⟨rfl, b⟩
  replace hA := hA.on b
  replace cc := bK cc b
  clear b
  go_wp2_with fail
  refine (CN hA).mono ?_
  rintro e w2 ⟨Ap, np_, cp, rfl, hp, b⟩
  replace hA := hA.on b
  replace cc := bK cc b
  clear b
  go_wp2_with fail
  refine (CS hA).mono ?_
  rintro e w3 ⟨As, ns_, cs, rfl, hs, b⟩
  replace hA := hA.on b
  replace hp := hp.on b
  replace cc := bK cc b
  clear b
  clear hA
  go_wp2_with fail
  refine (rright_N hp (Nat.le_trans HLN.out (by omega))).mono ?_
  rintro e w4 ⟨rfl, b⟩
  replace hp := hp.on b
  replace hs := hs.on b
  replace cc := bK cc b
  clear b
  go_wp2_with fail
  refine (rmul_N hp hp (Nat.le_trans HLN.out (by omega)) (Nat.le_trans HLN.out (by omega))).mono ?_
  rintro e w5 ⟨Am, nm_, cm, rfl, hm, b⟩
  replace hp := hp.on b
  replace hs := hs.on b
  replace cc := bK cc b
  clear b
  go_wp2_with fail
  refine (C1 hm hs).mono ?_
  rintro e w6 ⟨rfl, b⟩
  replace hp := hp.on b
  replace hs := hs.on b
  replace hm := hm.on b
  replace cc := bK cc b
  clear b
  clear hm
  go_wp2_with fail
  refine (CO _).mono ?_
  rintro e w7 ⟨Ao, no_, co, rfl, ho, b⟩
  replace hp := hp.on b
  replace hs := hs.on b
  replace cc := bK cc b
  clear b
  go_wp2_with fail
  refine (rsub_less_N hp ho (Nat.le_trans HLN.out (by omega)) (Nat.le_trans (len_one (by decide)) (by omega)) (by have := HN0.out; omega)).mono ?_
  rintro e w8 ⟨rfl, b⟩
  replace hp := hp.on b
  replace hs := hs.on b
  replace ho := ho.on b
  replace cc := bK cc b
  clear b
  go_wp2_with fail
  refine (alive16_any _).mono ?_
  rintro e w9 ⟨rfl, b⟩
  replace hp := hp.on b
  replace hs := hs.on b
  replace ho := ho.on b
  replace cc := bK cc b
  clear b
  have es : ns_ = 0 := by rw [hs.len, HS0.out, limbs_zero]; rfl
  subst es
  clear hs hp ho
  go_wp2_with fail
  go_ret
  exact ⟨rfl, cc⟩

theorem ClipRoot_y {w : World} {A : Option Addr} {n c : Nat} {L : List (List Int)} (hA : RR w A n c L) (hn : n ≤ 2305843009213693952) (hl : ∀ l ∈ L, l.length ≤ 2305843009213693952) (hf : few16 L ≤ 40) (h0 : norm16 L ≠ 0) :
    Calls Try.prog 4 #[.slice A n c] w fun e w' => e = .returned (.bool true) ∧ Below w.heap.size w w' := by
  have CF := rFew16_N hA hn hl
  rw [decide_eq_true hf] at CF
  obtain ⟨q1, q2⟩ := few_rows hf
  have hz := rr_i64 hA
  have hn1 : n ≤ 100 := by rw [hA.1]; omega
  have hl1 : ∀ l ∈ L, l.length ≤ 100 ∧ ∀ z ∈ l, I64 z := fun l h => ⟨by have := q2 l h; omega, hz l h⟩
  have CN := fun {W : World} (h : RR W A n c L) => clNorm_N h hn1 hl1
  have CS := fun {W : World} (h : RR W A n c L) => rSquares16_N h hn1 hl1
  have hls := sqA_len (show L.length ≤ 100 by omega) hl1
  have hup := norm_up L
  have hle := norm_least L
  have hz0 := norm_zero L
  have hln := norm_len (show L.length ≤ 100 by omega) hl1
  obtain ⟨N, eN⟩ : ∃ N, norm16 L = N := ⟨_, rfl⟩
  obtain ⟨S, eS⟩ : ∃ S, sqA L = S := ⟨_, rfl⟩
  rw [eN] at CN hup hle hz0 hln h0
  rw [eS] at CS hls hup hle hz0
  have hm2 := limbs_length_mul hln hln
  have t0 : decide (cmpN (N * N) S < 0) = false := decide_eq_false (by unfold cmpN; split <;> (try split) <;> omega)
  obtain ⟨q, eq⟩ : ∃ q, cmpN (N * N) S = q := ⟨_, rfl⟩
  have C1 : ∀ {W : World} {B B2 : Option Addr} {m d m2 d2 : Nat}, Num W B m d (N * N) → Num W B2 m2 d2 S → Calls Try.prog 13 #[.slice B m d, .slice B2 m2 d2] W (GotV W (.int .i64 q)) := fun h h2 => by rw [← eq]; exact rcmp_N h h2 (by omega) (by omega)
  rw [eq] at t0
  have HLN := Lib.hid hln
  have CO := fun W : World => rof_N W 1 (by decide)
  have hlt := hle h0
  have h1N : 1 ≤ N := by omega
  have hlm : (limbs (N - 1)).length ≤ 3 := Nat.le_trans (limbs_length_mono (Nat.sub_le N 1)) hln
  have hm3 := limbs_length_mul hlm hlm
  have t1 : decide (cmpN ((N - 1) * (N - 1)) S < 0) = true := decide_eq_true (by unfold cmpN; rw [if_pos hlt]; omega)
  obtain ⟨p, ep⟩ : ∃ p, cmpN ((N - 1) * (N - 1)) S = p := ⟨_, rfl⟩
  rw [ep] at t1
  obtain ⟨M, eM⟩ : ∃ M, N - 1 = M := ⟨_, rfl⟩
  rw [eM] at ep hlm hm3
  have C2 : ∀ {W : World} {B B2 : Option Addr} {m d m2 d2 : Nat}, Num W B m d (M * M) → Num W B2 m2 d2 S → Calls Try.prog 13 #[.slice B m d, .slice B2 m2 d2] W (GotV W (.int .i64 p)) := fun h h2 => by rw [← ep]; exact rcmp_N h h2 (by omega) (by omega)
  have HLM := Lib.hid hlm
  have CSub : ∀ {W : World} {B B2 : Option Addr} {m d m2 d2 : Nat}, Num W B m d N → Num W B2 m2 d2 1 → Calls Try.prog 18 #[.slice B m d, .slice B2 m2 d2] W (GotP W M 0) := fun h h2 => by rw [← eM]; exact rsub_N h h2 (by omega) (Nat.le_trans (len_one (by decide)) (by omega)) h1N
  clear h0 hlt h1N hlm hm3 ep eM
  clear hn hl hf q1 q2 hz hn1 hl1 hup hle hz0 hln hls eN eS hm2 eq
  have cc := Below.refl w.heap.size w
  go_enter Try.func4, Try.ntmps4
  go_wp2_with fail
  refine (CF).mono ?_
  rintro e w1 ⟨rfl, b⟩
  replace hA := hA.on b
  replace cc := bK cc b
  clear b
  go_wp2_with fail
  refine (CN hA).mono ?_
  rintro e w2 ⟨Ap, np_, cp, rfl, hp, b⟩
  replace hA := hA.on b
  replace cc := bK cc b
  clear b
  go_wp2_with fail
  refine (CS hA).mono ?_
  rintro e w3 ⟨As, ns_, cs, rfl, hs, b⟩
  replace hA := hA.on b
  replace hp := hp.on b
  replace cc := bK cc b
  clear b
  clear hA
  go_wp2_with fail
  refine (rright_N hp (Nat.le_trans HLN.out (by omega))).mono ?_
  rintro e w4 ⟨rfl, b⟩
  replace hp := hp.on b
  replace hs := hs.on b
  replace cc := bK cc b
  clear b
  go_wp2_with fail
  refine (rmul_N hp hp (Nat.le_trans HLN.out (by omega)) (Nat.le_trans HLN.out (by omega))).mono ?_
  rintro e w5 ⟨Am, nm_, cm, rfl, hm, b⟩
  replace hp := hp.on b
  replace hs := hs.on b
  replace cc := bK cc b
  clear b
  go_wp2_with fail
  refine (C1 hm hs).mono ?_
  rintro e w6 ⟨rfl, b⟩
  replace hp := hp.on b
  replace hs := hs.on b
  replace hm := hm.on b
  replace cc := bK cc b
  clear b
  clear hm
  go_wp2_with fail
  refine (CO _).mono ?_
  rintro e w7 ⟨Ao, no_, co, rfl, ho, b⟩
  replace hp := hp.on b
  replace hs := hs.on b
  replace cc := bK cc b
  clear b
  go_wp2_with fail
  refine (CSub hp ho).mono ?_
  rintro e w8 ⟨Al, nl_, cl, rfl, hl, b⟩
  replace hp := hp.on b
  replace hs := hs.on b
  replace ho := ho.on b
  replace cc := bK cc b
  clear b
  go_wp2_with fail
  refine (alive16_any _).mono ?_
  rintro e w9 ⟨rfl, b⟩
  replace hp := hp.on b
  replace hs := hs.on b
  replace ho := ho.on b
  replace hl := hl.on b
  replace cc := bK cc b
  clear b
  go_wp2_with fail
  refine (rmul_N hl hl (Nat.le_trans HLM.out (by omega)) (Nat.le_trans HLM.out (by omega))).mono ?_
  rintro e w10 ⟨At, nt_, ct, rfl, ht, b⟩
  replace hp := hp.on b
  replace hs := hs.on b
  replace ho := ho.on b
  replace hl := hl.on b
  replace cc := bK cc b
  clear b
  go_wp2_with fail
  refine (C2 ht hs).mono ?_
  rintro e w11 ⟨rfl, b⟩
  replace hp := hp.on b
  replace hs := hs.on b
  replace ho := ho.on b
  replace hl := hl.on b
  replace ht := ht.on b
  replace cc := bK cc b
  clear b
  go_wp2_with fail
  go_ret
  exact ⟨rfl, cc⟩

theorem ClipRoot_walk {w : World} {A : Option Addr} {n c : Nat} {L : List (List Int)} (hA : RR w A n c L) (hn : n ≤ 2305843009213693952) (hl : ∀ l ∈ L, l.length ≤ 2305843009213693952) : Calls Try.prog 4 #[.slice A n c] w fun e w' => e = .returned (.bool true) ∧ Below w.heap.size w w' := by
  by_cases hf : few16 L ≤ 40
  · by_cases h0 : norm16 L = 0
    · exact ClipRoot_z hA hn hl hf h0
    · exact ClipRoot_y hA hn hl hf h0
  · exact ClipRoot_many hA hn hl hf

end Go.Proofs.Ytpephogadljncaa
