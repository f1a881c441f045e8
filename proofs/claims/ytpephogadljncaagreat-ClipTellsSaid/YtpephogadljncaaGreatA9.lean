/-
  Several texts in one: C16d, C16e, JKc, JKd, JKe, V1, V2, V3, V4, V5, V6, KS, H7, H8, K9.
-/
import Derived.Test.YtpephogadljncaaGreatA8
import Derived.Test.YtpephogadljncaaGreatA7
import Derived.Test.YtpephogadljncaaGreatA4
import Derived.Test.YtpephogadljncaaGreatA3
import Derived.Lib.Hide
import Derived.Lib.SliceRun
import Derived.Test.YtpephogadljncaaGreatA5
import Derived.Test.YtpephogadljncaaGreatA2
import Derived.Test.YtpephogadljncaaGreatA6
import Derived.Test.YtpephogadljncaaGreatA1

/-
  The contract of the sixteenth reference: Mean.
-/
namespace Go.Proofs.YtpephogadljncaaGreat
set_option maxRecDepth 100000
set_option maxHeartbeats 8000000
open Go.RowKit
set_option linter.unusedVariables false
set_option linter.unusedSimpArgs false

/-- Are rows as long as the first one? Their mean, and its error. -/
def OkM (L : List (List Int)) : Prop := ∀ l ∈ L, l.length = (L[0]?.getD []).length
def meanL (L : List (List Int)) : List Int := (List.range (L[0]?.getD []).length).map (mean16 L)
theorem colS_i64 {L : List (List Int)} (hl : ∀ l ∈ L, l.length ≤ 100 ∧ ∀ z ∈ l, I64 z) {k : Nat} (h : ∀ l ∈ L, k < l.length) (h0 : L.length ≠ 0) : I64 (mean16 L k) := by
  have := mean_in (L := L) (k := k) (a := -9223372036854775808) (b := 9223372036854775807) h0 (fun l hx => by
    have h1 := h l hx
    have h2 := (hl l hx).2
    have h3 : I64 (l[k]?.getD 0) := by rw [List.getElem?_eq_getElem h1]; exact h2 _ (List.getElem_mem h1)
    exact h3)
  exact this
theorem colS_len {L : List (List Int)} (hn : L.length ≤ 100) (hl : ∀ l ∈ L, l.length ≤ 100 ∧ ∀ z ∈ l, I64 z) {k i : Nat} : (limbs (colS k (L.take i)).natAbs).length ≤ 2 := by
  have h1 := colS_in (L := L.take i) (k := k) (a := -9223372036854775808) (b := 9223372036854775807) (fun l hx => by
    have h2 := (hl l (List.mem_of_mem_take hx)).2
    rcases Nat.lt_or_ge k l.length with h | h
    · rw [List.getElem?_eq_getElem h]; exact h2 _ (List.getElem_mem h)
    · rw [List.getElem?_eq_none h]; show (_ : Int) ≤ 0 ∧ (0 : Int) ≤ _; omega)
  have h2 : (L.take i).length ≤ 100 := by rw [List.length_take]; omega
  refine limbs_length_le (Nat.lt_of_lt_of_le (m := 922337203685477580800 + 1) ?_ (by decide))
  omega
theorem sz2_of {n : Int} (h : (limbs n.natAbs).length ≤ 2) : Sz ((n : Int) : Rat) 2 := ⟨h, by rw [of_den]; exact Nat.le_trans (limbs_length_le (k := 1) (by decide)) (by omega)⟩
theorem mean_nea {S : Int} {n : Nat} (hn : n ≠ 0) : nea ((S : Rat) / ((((n : Nat) : Int)) : Rat)) 0 = rn S n := by
  have h0 : ((n : Nat) : Rat) ≠ 0 := fun e => hn (Rat.natCast_eq_zero_iff.1 e)
  have h : ((S : Rat) / ((((n : Nat) : Int)) : Rat)) * ((n : Nat) : Rat) = (S : Rat) := by
    rw [Rat.intCast_natCast]
    exact Rat.div_mul_cancel h0
  have := rn_of hn h
  rw [← this]
  unfold nea
  rw [show dw 0 = 1 from rfl, Rat.mul_one]
theorem range_push {f : Nat → Int} (k : Nat) : (List.range (k + 1)).map f = (List.range k).map f ++ [f k] := by rw [List.range_succ, List.map_append]; rfl
theorem rr_zero {w : World} {b off n c : Nat} {L : List (List Int)} (h : RR w (some ⟨b, off, none⟩) n c L) (h0 : 0 < n) : ∃ A' n' c', w.cell? ⟨b, off, none⟩ = some (.slice A' n' c') ∧ IR w A' n' c' (L[0]?.getD []) := by
  obtain ⟨A', n', c', h1, h2, _⟩ := rr_at h h0
  exact ⟨A', n', c', h1, h2⟩

theorem rMean16_none {w : World} {A : Option Addr} {n c : Nat} {L : List (List Int)} (hA : RR w A n c L) (h0 : n = 0) :
    Calls Tryz.prog 8 #[.slice A n c] w (GotIp w [] 9) := by
  have t0 : ((n : Int) == 0) = true := beq_iff_eq.2 (by omega)
  have cc := Below.refl w.heap.size w
  clear h0 hA
  go_enter Tryz.func8, Tryz.ntmps8
  go_wp2_with fail
  go_ret2
  exact ⟨_, _, _, rfl, ⟨rfl, Nat.le_refl _, fun h => absurd h (by omega)⟩, cc⟩

theorem rMean16_no {w : World} {A : Option Addr} {n c : Nat} {L : List (List Int)} (hA : RR w A n c L) (hn : n ≤ 100) (hl : ∀ l ∈ L, l.length ≤ 100 ∧ ∀ z ∈ l, I64 z) (h0 : 0 < n) (hk : ¬ OkM L) :
    Calls Tryz.prog 8 #[.slice A n c] w (GotIp w [] 5) := by
  have t0 : ((n : Int) == 0) = false := beq_eq_false_iff_ne.2 (by omega)
  have t0b : (n == 0) = false := beq_eq_false_iff_ne.2 (by omega)
  obtain ⟨i0, hi, hz0, hz1, hz2⟩ := info_parts infoI
  have hln := hA.1
  obtain ⟨bb, off, rfl, hbb⟩ := hA.some h0
  obtain ⟨d, hd⟩ : ∃ d, (L[0]?.getD []).length = d := ⟨_, rfl⟩
  have hd100 : d ≤ 100 := by rw [← hd]; exact (hl _ (mem_at16 (by omega))).1
  have HAV := Lib.hid hA
  have HNN := Lib.hid hn
  have HL := Lib.hid hl
  have HLN := Lib.hid hln
  have HD := Lib.hid hd
  have HOK := Lib.hid hk
  have HBB := Lib.hid hbb
  have HN0 := Lib.hid h0
  have HD1 := Lib.hid hd100
  have nl : n ≤ 9223372036854775807 := by omega
  obtain ⟨t, ht⟩ : ∃ t, w.heap.size = t := ⟨_, rfl⟩
  have HT := Lib.hid ht
  have hE : (w.alloc (.cells #[] 2)).ownsRow t 2 1 (.slice (some ⟨w.heap.size, 0, none⟩) 0 0) 0 ([] : List Value) := World.ownsRow_lit w #[] 0 (by omega) (by unfold maxLen; omega) rfl
  have b0 : Below t w (w.alloc (.cells #[] 2)) := (Below.refl _ _).alloc (by omega) _
  have HB0 := Lib.hid (show Below w.heap.size w (w.alloc (.cells #[] 2)) by rw [ht]; exact b0)
  have HOE := Lib.hid hE
  have HB1 := Lib.hid b0
  clear hA hn hl hln hd hk hbb h0 hd100 ht hE b0
  go_enter Tryz.func8, Tryz.ntmps8
  go_wp2_with fail
  go_loopw [5] (fun iv wr => ∃ i : Nat, i ≤ n ∧ iv = .int .i64 (i : Int) ∧ Hid (∀ j, j < i → (L[j]?.getD []).length = d) ∧ Below (w.alloc (.cells #[] 2)).heap.size (w.alloc (.cells #[] 2)) wr) (fun iv _ => n - (intOf iv).toNat)
  case atStart => exact ⟨0, by omega, rfl, Lib.hid (fun j h => by omega), Below.refl _ _⟩
  case round =>
    obtain ⟨i, hi2, rfl, hsame, hb0⟩ := hrel
    have hcw0 := HB0.out.trans (hb0.mono HB0.out.size)
    have hA := HAV.out.on hcw0
    have HB9 := Lib.hid hb0
    have HCW0 := Lib.hid hcw0
    have hn0 := HN0.out
    obtain ⟨A0, n0, c0, h0, hR0⟩ := rr_zero hA HN0.out
    have e0 : n0 = d := by rw [hR0.1]; exact HD.out
    subst e0
    by_cases hlt : i < n
    · obtain ⟨A1, n1, c1, h1, hR1, _⟩ := rr_at hA hlt
      have e1 := hR1.1
      have jl : (i : Int) < (n : Int) := by omega
      have j0 : (0 : Int) < (n : Int) := by omega
      have HE1 := Lib.hid e1
      clear hA hR0 hR1 e1 hcw0 hb0
      by_cases hq : n1 = n0
      · have q1 : ((n1 : Int) != (n0 : Int)) = false := by rw [hq]; simp
        have q2 : (n1 != n0) = false := by rw [hq]; simp
        have HS2 : Hid (∀ j, j < i + 1 → (L[j]?.getD []).length = n0) := Lib.hid (fun j hj => by rcases Nat.lt_or_ge j i with e | e; exact hsame.out j e; rw [show j = i by omega, ← HE1.out]; exact hq)
        have k3 : IntKind.i64.wrap ((i : Int) + 1) = ((i + 1 : Nat) : Int) := by rw [IntWalk.i64_in _ (by omega)]; omega
        clear hq
        go_wp2_with fail
        go_region_held3 (fun w' => w'.cell? ⟨bb, off + i, none⟩ = some (.slice A1 n1 c1) ∧ w'.cell? ⟨bb, off, none⟩ = some (.slice A0 n0 c0)) (exact ⟨h1, h0⟩) (fail)
        go_wp2_with fail
        go_roundw
        case rel => exact ⟨i + 1, by omega, by go_num, HS2, below_drewN HB9.out 1⟩
        case measure => simp [intOf] <;> omega
      · have q1 : ((n1 : Int) != (n0 : Int)) = true := by simp; omega
        have q2 : (n1 != n0) = true := by simp; omega
        go_wp2_with fail
        go_region_held3 (fun w' => w'.cell? ⟨bb, off + i, none⟩ = some (.slice A1 n1 c1) ∧ w'.cell? ⟨bb, off, none⟩ = some (.slice A0 n0 c0)) (exact ⟨h1, h0⟩) (fail)
        go_wp2_with fail
        go_ret2
        exact ⟨_, _, _, rfl, ⟨rfl, Nat.le_refl _, fun h => absurd h (by omega)⟩, below_drewN HCW0.out 1⟩
    · exact absurd (fun l hl => by obtain ⟨j, hj, rfl⟩ := List.mem_iff_getElem.1 hl; have := hsame.out j (by have := HLN.out; omega); rw [List.getElem?_eq_getElem hj] at this; rw [HD.out]; exact this) HOK.out

theorem rMean16_yes {w : World} {A : Option Addr} {n c : Nat} {L : List (List Int)} (hA : RR w A n c L) (hn : n ≤ 100) (hl : ∀ l ∈ L, l.length ≤ 100 ∧ ∀ z ∈ l, I64 z) (h0 : 0 < n) (hk : OkM L) :
    Calls Tryz.prog 8 #[.slice A n c] w (GotIp w (meanL L) 0) := by
  have t0 : ((n : Int) == 0) = false := beq_eq_false_iff_ne.2 (by omega)
  have t0b : (n == 0) = false := beq_eq_false_iff_ne.2 (by omega)
  obtain ⟨i0, hi, hz0, hz1, hz2⟩ := info_parts infoI
  have hln := hA.1
  obtain ⟨bb, off, rfl, hbb⟩ := hA.some h0
  obtain ⟨d, hd⟩ : ∃ d, (L[0]?.getD []).length = d := ⟨_, rfl⟩
  have hd100 : d ≤ 100 := by rw [← hd]; exact (hl _ (mem_at16 (by omega))).1
  have HAV := Lib.hid hA
  have HNN := Lib.hid hn
  have HL := Lib.hid hl
  have HLN := Lib.hid hln
  have HD := Lib.hid hd
  have HOK := Lib.hid hk
  have HBB := Lib.hid hbb
  have HN0 := Lib.hid h0
  have HD1 := Lib.hid hd100
  have nl : n ≤ 9223372036854775807 := by omega
  obtain ⟨t, ht⟩ : ∃ t, w.heap.size = t := ⟨_, rfl⟩
  have HT := Lib.hid ht
  have hE : (w.alloc (.cells #[] 2)).ownsRow t 2 1 (.slice (some ⟨w.heap.size, 0, none⟩) 0 0) 0 ([] : List Value) := World.ownsRow_lit w #[] 0 (by omega) (by unfold maxLen; omega) rfl
  have b0 : Below t w (w.alloc (.cells #[] 2)) := (Below.refl _ _).alloc (by omega) _
  have hG0 : Grown t w (w.alloc (.cells #[] 2)) (.slice (some ⟨w.heap.size, 0, none⟩) 0 0) ((List.range 0).map (mean16 L)) := ⟨_, _, _, rfl, hE, b0, by simp; omega⟩
  clear hG0
  have HB0 := Lib.hid (show Below w.heap.size w (w.alloc (.cells #[] 2)) by rw [ht]; exact b0)
  have HOE := Lib.hid hE
  have HB1 := Lib.hid b0
  clear hA hn hl hln hd hk hbb h0 hd100 ht hE b0
  go_enter Tryz.func8, Tryz.ntmps8
  go_wp2_with fail
  go_loopw [5] (fun iv wr => ∃ i : Nat, i ≤ n ∧ iv = .int .i64 (i : Int) ∧ Hid (∀ j, j < i → (L[j]?.getD []).length = d) ∧ Below (w.alloc (.cells #[] 2)).heap.size (w.alloc (.cells #[] 2)) wr) (fun iv _ => n - (intOf iv).toNat)
  case atStart => exact ⟨0, by omega, rfl, Lib.hid (fun j h => by omega), Below.refl _ _⟩
  case round =>
    obtain ⟨i, hi2, rfl, hsame, hb0⟩ := hrel
    have hcw0 := HB0.out.trans (hb0.mono HB0.out.size)
    have hA := HAV.out.on hcw0
    have HB9 := Lib.hid hb0
    have HCW0 := Lib.hid hcw0
    have hn0 := HN0.out
    obtain ⟨A0, n0, c0, h0, hR0⟩ := rr_zero hA HN0.out
    have e0 : n0 = d := by rw [hR0.1]; exact HD.out
    subst e0
    by_cases hlt : i < n
    · obtain ⟨A1, n1, c1, h1, hR1, _⟩ := rr_at hA hlt
      have e1 := hR1.1
      have jl : (i : Int) < (n : Int) := by omega
      have j0 : (0 : Int) < (n : Int) := by omega
      have HE1 := Lib.hid e1
      clear hA hR0 hR1 e1 hcw0 hb0
      by_cases hq : n1 = n0
      · have q1 : ((n1 : Int) != (n0 : Int)) = false := by rw [hq]; simp
        have q2 : (n1 != n0) = false := by rw [hq]; simp
        have HS2 : Hid (∀ j, j < i + 1 → (L[j]?.getD []).length = n0) := Lib.hid (fun j hj => by rcases Nat.lt_or_ge j i with e | e; exact hsame.out j e; rw [show j = i by omega, ← HE1.out]; exact hq)
        have k3 : IntKind.i64.wrap ((i : Int) + 1) = ((i + 1 : Nat) : Int) := by rw [IntWalk.i64_in _ (by omega)]; omega
        clear hq
        go_wp2_with fail
        go_region_held3 (fun w' => w'.cell? ⟨bb, off + i, none⟩ = some (.slice A1 n1 c1) ∧ w'.cell? ⟨bb, off, none⟩ = some (.slice A0 n0 c0)) (exact ⟨h1, h0⟩) (fail)
        go_wp2_with fail
        go_roundw
        case rel => exact ⟨i + 1, by omega, by go_num, HS2, below_drewN HB9.out 1⟩
        case measure => simp [intOf] <;> omega
      · exact absurd (by rw [HE1.out, HOK.out _ (mem_at16 (by rw [← HLN.out]; exact hlt))]; exact HD.out) hq
    · obtain rfl : i = n := by omega
      clear hA hR0 h0
      obtain ⟨hO9, hb9, hs9, _⟩ := own_after HOE.out HB1.out (by have := HT.out; simp; omega) hb0
      have HG0 : Hid (Grown t w wr (.slice (some ⟨w.heap.size, 0, none⟩) 0 0) ((List.range 0).map (mean16 L))) := Lib.hid ⟨_, _, _, rfl, hO9, hb9, hs9⟩
      clear hO9 hb9 hs9 hb0 hcw0 HOE HB1
      go_wp2_with fail
      go_loopw [4, 6] (fun ov kv wr => ∃ k : Nat, k ≤ n0 ∧ kv = .int .i64 (k : Int) ∧ Grown t w wr ov ((List.range k).map (mean16 L))) (fun _ kv _ => n0 - (intOf kv).toNat)
      case atStart => exact ⟨0, by omega, rfl, HG0.out⟩
      case round =>
        obtain ⟨k, hk2, rfl, g, cap, K, rfl, hO, hbl, hts⟩ := hrel
        obtain ⟨wv, rfl⟩ : ∃ W, W = wr := ⟨_, rfl⟩
        have hcw : Below w.heap.size w wv := by rw [HT.out]; exact hbl
        have hA := HAV.out.on hcw
        obtain ⟨A1, n1, c1, h0, hR0⟩ := rr_zero hA HN0.out
        have e0 : n1 = n0 := by rw [hR0.1]; exact HD.out
        subst e0
        have HCW := Lib.hid hcw
        have HBR := Lib.hid (Nat.lt_of_lt_of_le HBB.out hcw.size)
        clear hR0 hA
        by_cases hlt2 : k < n1
        · have HO := Lib.hid hO
          have HBL := Lib.hid hbl
          have hll : K ≤ 100 := by have e := own_len hO; rw [List.length_map, List.length_range] at e; have := HD1.out; omega
          have jk : (k : Int) < (n1 : Int) := by omega
          have hd1_ := HD1.out
          have kk3 : IntKind.i64.wrap ((k : Int) + 1) = ((k + 1 : Nat) : Int) := by rw [IntWalk.i64_in _ (by omega)]; omega
          have HCK : Hid (∀ l ∈ L, k < l.length) := Lib.hid (fun l hx => by rw [HOK.out l hx, HD.out]; exact hlt2)
          obtain ⟨S, eS⟩ : ∃ S : Nat → Int, (fun j => colS k (L.take j)) = S := ⟨_, rfl⟩
          have HS0 : Hid (S 0 = 0) := Lib.hid (by rw [← eS]; rfl)
          have HS1 : Hid (∀ j, j < i → S (j + 1) = S j + (L[j]?.getD [])[k]?.getD 0) := Lib.hid (fun j hj => by rw [← eS]; exact colS_take k L j (by rw [← HLN.out]; exact hj))
          have HSL : Hid (∀ j, Sz ((S j : Int) : Rat) 2) := Lib.hid (fun j => by rw [← eS]; exact sz2_of (colS_len (by rw [← HLN.out]; exact HNN.out) HL.out))
          have HM : Hid (nea (((S i : Int) : Rat) / ((((i : Nat) : Int)) : Rat)) 0 = mean16 L k) := Lib.hid (by rw [mean_nea (by have := HN0.out; omega), ← eS]; unfold mean16; show rn (colS k (L.take i)) i = _; rw [HLN.out, List.take_of_length_le (Nat.le_refl _)])
          have HMI : Hid (I64 (mean16 L k)) := Lib.hid (colS_i64 HL.out HCK.out (by have := HN0.out; have := HLN.out; omega))
          obtain ⟨M, eM⟩ : ∃ M, mean16 L k = M := ⟨_, rfl⟩
          have HPU : Hid ((List.range (k + 1)).map (mean16 L) = (List.range k).map (mean16 L) ++ [M]) := Lib.hid (by rw [range_push, eM])
          rw [eM] at HM HMI
          have CZ := fun W : World => rtof_N W 0 (by unfold I64; omega)
          have CI := fun W : World => rtof_N W (i : Int) (by have := HNN.out; unfold I64; omega)
          clear hO hbl hcw hlt2 eS eM
          have cc := Below.refl wv.heap.size wv
          go_wp2_with fail
          refine (CZ _).mono ?_
          rintro e w1 ⟨bx, Ax, nx, cx, Bx, mx, dx, rfl, hx, b⟩
          replace cc := bK cc b
          clear b
          have hw1_ := cc.size
          go_upto_region 13 with fail
          generalize hv_ : w1.alloc (.cells #[.bool bx, .slice Ax nx cx, .slice Bx mx dx] 48) = v2
          have bA : Below w1.heap.size w1 v2 := by rw [← hv_]; exact below_one _ _
          replace hx := hx.on bA
          replace cc := bK cc bA
          clear bA
          obtain ⟨xs0, xs1, xs2⟩ : Cs3 v2 w1.heap.size (.bool bx) (.slice Ax nx cx) (.slice Bx mx dx) := by simp [Cs3, ← hv_, go_sem]
          obtain ⟨xsr0, xsr1, xsr2⟩ : Fz3 v2 w1.heap.size := by simp [Fz3, ← hv_, go_sem]
          have xsl : w1.heap.size < v2.heap.size := by simp [← hv_]
          clear hv_
          have ex0 : ((0 : Int) : Rat) = ((S 0 : Int) : Rat) := by rw [HS0.out]
          rw [ex0] at hx
          have HI : Hid (BoxR v2 (w1.heap.size) bx Ax nx cx Bx mx dx ∧ Rt v2 bx Ax nx cx Bx mx dx ((S 0 : Int) : Rat) ∧ (v2.frozen? ⟨w1.heap.size, 0, none⟩ = false ∧ v2.frozen? ⟨w1.heap.size, 1, none⟩ = false ∧ v2.frozen? ⟨w1.heap.size, 2, none⟩ = false)) := Lib.hid ⟨⟨xs0, xs1, xs2⟩, hx, xsr0, xsr1, xsr2⟩
          have HC := Lib.hid cc
          have HLX := Lib.hid xsl
          have HGW : Hid (wv.heap.size ≤ w1.heap.size) := Lib.hid (by omega)
          clear hx cc xsl ex0 xs0 xs1 xs2 xsr0 xsr1 xsr2 CZ
          go_wp2_with fail
          go_loopw [8] (fun iv wq => ∃ (j : Nat) (bz : Bool) (Az : Option Addr) (nz cz : Nat) (Bz : Option Addr) (mz dz : Nat), j ≤ i ∧ iv = .int .i64 (j : Int) ∧ BoxR wq (w1.heap.size) bz Az nz cz Bz mz dz ∧ Rt wq bz Az nz cz Bz mz dz ((S j : Int) : Rat) ∧ (wq.frozen? ⟨w1.heap.size, 0, none⟩ = false ∧ wq.frozen? ⟨w1.heap.size, 1, none⟩ = false ∧ wq.frozen? ⟨w1.heap.size, 2, none⟩ = false) ∧ Below wv.heap.size wv wq ∧ v2.heap.size ≤ wq.heap.size) (fun iv _ => i - (intOf iv).toNat)
          case atStart => exact ⟨0, _, _, _, _, _, _, _, by omega, rfl, HI.out.1, HI.out.2.1, HI.out.2.2, HC.out, Nat.le_refl _⟩
          case round =>
            clear HI HC
            obtain ⟨j, bz, Az, nz, cz, Bz, mz, dz, hj, rfl, ⟨xs0, xs1, xs2⟩, hx, ⟨xsr0, xsr1, xsr2⟩, cc, hsz⟩ := hrel
            have xsl := Nat.lt_of_lt_of_le HLX.out hsz
            have hgw := HGW.out
            by_cases hlt3 : j < i
            · have hA := HAV.out.on (HCW.out.trans (cc.mono HCW.out.size))
              obtain ⟨A2, n2, c2, h2, hR2, hz2_⟩ := rr_at hA hlt3
              have en2 : k < n2 := by rw [hR2.1]; exact HCK.out _ (mem_at16 (by rw [← HLN.out]; exact hlt3))
              obtain ⟨b2, o2, rfl, hb2⟩ := ir_some16 hR2 (by omega)
              have h3 := ir_cell16 hR2 en2
              have hv6 := i64_of_mem hz2_ (j := k) (by rw [← hR2.1]; exact en2)
              have hS := HS1.out j hlt3
              obtain ⟨v, ev⟩ : ∃ v, (L[j]?.getD [])[k]?.getD 0 = v := ⟨_, rfl⟩
              rw [ev] at h3 hv6 hS
              have hb1 := Nat.lt_of_lt_of_le HBR.out cc.size
              have jj : (j : Int) < (i : Int) := by omega
              have jk2 : (k : Int) < (n2 : Int) := by omega
              have k3 : IntKind.i64.wrap ((j : Int) + 1) = ((j + 1 : Nat) : Int) := by rw [IntWalk.i64_in _ (by omega)]; omega
              have CV := fun W : World => rtof_N W v hv6
              have hsv : Sz ((v : Int) : Rat) 40 := (sz_of (len_one hv6.abs)).le (by omega)
              have hsx := (HSL.out j).le (show 2 ≤ 40 by omega)
              have eR : ((S j : Int) : Rat) + ((v : Int) : Rat) = ((S (j + 1) : Int) : Rat) := by rw [hS, Rat.intCast_add]
              have HER := Lib.hid eR
              have HSV := Lib.hid hsv
              have HSX := Lib.hid hsx
              have HZ_ := Lib.hid hsz
              clear hA hR2 hz2_ hv6 hS ev eR hsv hsx hsz
              go_wp2_with fail
              have BD : Below wr.heap.size wr wr.drew := below_drewN (Below.refl _ wr) 1
              go_region_with (first | (go_at_call 21; refine (CV _).mono ?_; rintro e z1 ⟨bv, Av, nv, cv, Bv, mv, dv, rfl, hv, b⟩; have hx1 := (hx.on BD).on b; have b1 := BD.trans (b.mono BD.size); have x0 := cK b1 xs0 xsl; have x1 := cK b1 xs1 xsl; have x2 := cK b1 xs2 xsl; have r0 := fK b1 xsr0 xsl; have r1 := fK b1 xsr1 xsl; have r2 := fK b1 xsr2 xsl; have xl1 := Nat.lt_of_lt_of_le xsl b1.size; clear b) | (go_at_call 22; refine (rtadd_N hx1 HSX.out hv HSV.out).mono ?_; rintro e z2 ⟨bu, Au, nu, cu, Bu, mu, du, rfl, hu, b⟩; have y0 := cK b x0 xl1; have y1 := cK b x1 xl1; have y2 := cK b x2 xl1; have s0 := fK b r0 xl1; have s1 := fK b r1 xl1; have s2 := fK b r2 xl1; have b2_ := b1.trans (b.mono b1.size); have xl2 := Nat.lt_of_lt_of_le xl1 b.size; clear b))
              all_goals rw [HER.out] at hu
              all_goals have bb_ : BoxR z2 (w1.heap.size) bz Az nz cz Bz mz dz := ⟨y0, y1, y2⟩
              all_goals have c2_ := cc.trans (b2_.mono cc.size)
              all_goals have HE : Hid (BoxR (putR z2 (w1.heap.size) (.bool bu) (.slice Au nu cu) (.slice Bu mu du)) (w1.heap.size) bu Au nu cu Bu mu du ∧ Rt (putR z2 (w1.heap.size) (.bool bu) (.slice Au nu cu) (.slice Bu mu du)) bu Au nu cu Bu mu du ((S (j + 1) : Int) : Rat) ∧ ((putR z2 (w1.heap.size) (.bool bu) (.slice Au nu cu) (.slice Bu mu du)).frozen? ⟨w1.heap.size, 0, none⟩ = false ∧ (putR z2 (w1.heap.size) (.bool bu) (.slice Au nu cu) (.slice Bu mu du)).frozen? ⟨w1.heap.size, 1, none⟩ = false ∧ (putR z2 (w1.heap.size) (.bool bu) (.slice Au nu cu) (.slice Bu mu du)).frozen? ⟨w1.heap.size, 2, none⟩ = false) ∧ Below wv.heap.size wv (putR z2 (w1.heap.size) (.bool bu) (.slice Au nu cu) (.slice Bu mu du)) ∧ v2.heap.size ≤ (putR z2 (w1.heap.size) (.bool bu) (.slice Au nu cu) (.slice Bu mu du)).heap.size) := Lib.hid ⟨bb_.put _ _ _ _ _ _ _, Rt.putR hu bb_ _ _ _, ⟨by simpa [go_sem] using s0, by simpa [go_sem] using s1, by simpa [go_sem] using s2⟩, below_putR c2_ hgw _ _ _, by have := HZ_.out; have := b2_.size; simp; omega⟩
              all_goals clear bb_ hx hx1 hu c2_ cc x0 x1 x2 r0 r1 r2
              all_goals go_wp2_with fail
              all_goals go_roundw
              all_goals first | exact ⟨j + 1, _, _, _, _, _, _, _, by omega, by go_num, HE.out⟩ | (simp [intOf] <;> omega)
            · obtain rfl : j = i := by omega
              have hsx := (HSL.out j).le (show 2 ≤ 40 by omega)
              have hsn : Sz ((((j : Nat) : Int)) : Rat) 40 := (sz_of (len_one (show ((j : Nat) : Int).natAbs < B64 by have := HNN.out; unfold B64; omega))).le (by omega)
              have hne : ((((j : Nat) : Int)) : Rat).num ≠ 0 := by have := HN0.out; rw [Rat.num_intCast]; omega
              have hsq : Sz (((S j : Int) : Rat) / ((((j : Nat) : Int)) : Rat)) 15 := ((HSL.out j).div (sz_of (len_one (show ((j : Nat) : Int).natAbs < B64 by have := HNN.out; unfold B64; omega))) hne).le (by omega)
              clear HLX hsz xsr0 xsr1 xsr2
              generalize ((S j : Int) : Rat) = X at *
              generalize ((((j : Nat) : Int)) : Rat) = Y at *
              go_upto_region 17 with fail
              go_cut [9] (fun u wx => ∃ (g_ : Nat) (b_ : Bool) (A_ : Option Addr) (n_ c_ : Nat) (B_ : Option Addr) (m_ d_ : Nat), u = .pointer (some ⟨g_, 0, none⟩) ∧ LoneR wr wx g_ b_ A_ n_ c_ B_ m_ d_ (X / Y))
              case first =>
                have BB0 : Below wr.heap.size wr wr.drew := below_drewN (Below.refl _ wr) 1
                have BB1 : Below wr.heap.size wr (wr.alloc (.cells #[.bool false, .slice none 0 0, .slice none 0 0] 48)).drew := below_drewN (below_one _ _) 1
                go_region_held3 (fun w' => w'.cell? ⟨w1.heap.size, 0, none⟩ = some (.bool bz) ∧ w'.cell? ⟨w1.heap.size, 1, none⟩ = some (.slice Az nz cz) ∧ w'.cell? ⟨w1.heap.size, 2, none⟩ = some (.slice Bz mz dz))
                  (first | with_reducible exact ⟨xs0, xs1, xs2⟩ | with_reducible exact ⟨keep_alloc (xs0), keep_alloc (xs1), keep_alloc (xs2)⟩ | with_reducible exact ⟨keep_alloc (keep_alloc (xs0)), keep_alloc (keep_alloc (xs1)), keep_alloc (keep_alloc (xs2))⟩ | with_reducible exact ⟨(cK qq xs0 xsl), (cK qq xs1 xsl), (cK qq xs2 xsl)⟩ | with_reducible exact ⟨keep_alloc ((cK qq xs0 xsl)), keep_alloc ((cK qq xs1 xsl)), keep_alloc ((cK qq xs2 xsl))⟩ | with_reducible exact ⟨keep_alloc (keep_alloc ((cK qq xs0 xsl))), keep_alloc (keep_alloc ((cK qq xs1 xsl))), keep_alloc (keep_alloc ((cK qq xs2 xsl)))⟩ | with_reducible exact ⟨((cell_putR (by omega)).trans (cK qq xs0 xsl)), ((cell_putR (by omega)).trans (cK qq xs1 xsl)), ((cell_putR (by omega)).trans (cK qq xs2 xsl))⟩ | with_reducible exact ⟨((cell_store (by omega)).trans (cK qq xs0 xsl)), ((cell_store (by omega)).trans (cK qq xs1 xsl)), ((cell_store (by omega)).trans (cK qq xs2 xsl))⟩ | with_reducible exact ⟨keep_alloc (((cell_putR (by omega)).trans (cK qq xs0 xsl))), keep_alloc (((cell_putR (by omega)).trans (cK qq xs1 xsl))), keep_alloc (((cell_putR (by omega)).trans (cK qq xs2 xsl)))⟩ | with_reducible exact ⟨keep_alloc (((cell_store (by omega)).trans (cK qq xs0 xsl))), keep_alloc (((cell_store (by omega)).trans (cK qq xs1 xsl))), keep_alloc (((cell_store (by omega)).trans (cK qq xs2 xsl)))⟩ | with_reducible exact ⟨keep_alloc (keep_alloc (((cell_putR (by omega)).trans (cK qq xs0 xsl)))), keep_alloc (keep_alloc (((cell_putR (by omega)).trans (cK qq xs1 xsl)))), keep_alloc (keep_alloc (((cell_putR (by omega)).trans (cK qq xs2 xsl))))⟩ | with_reducible exact ⟨keep_alloc (keep_alloc (((cell_store (by omega)).trans (cK qq xs0 xsl)))), keep_alloc (keep_alloc (((cell_store (by omega)).trans (cK qq xs1 xsl)))), keep_alloc (keep_alloc (((cell_store (by omega)).trans (cK qq xs2 xsl))))⟩ | with_reducible exact ⟨((cell_putR (by omega)).trans ((cell_putR (by omega)).trans (cK qq xs0 xsl))), ((cell_putR (by omega)).trans ((cell_putR (by omega)).trans (cK qq xs1 xsl))), ((cell_putR (by omega)).trans ((cell_putR (by omega)).trans (cK qq xs2 xsl)))⟩ | with_reducible exact ⟨((cell_store (by omega)).trans ((cell_store (by omega)).trans (cK qq xs0 xsl))), ((cell_store (by omega)).trans ((cell_store (by omega)).trans (cK qq xs1 xsl))), ((cell_store (by omega)).trans ((cell_store (by omega)).trans (cK qq xs2 xsl)))⟩ | with_reducible exact ⟨keep_alloc (((cell_putR (by omega)).trans ((cell_putR (by omega)).trans (cK qq xs0 xsl)))), keep_alloc (((cell_putR (by omega)).trans ((cell_putR (by omega)).trans (cK qq xs1 xsl)))), keep_alloc (((cell_putR (by omega)).trans ((cell_putR (by omega)).trans (cK qq xs2 xsl))))⟩ | with_reducible exact ⟨keep_alloc (((cell_store (by omega)).trans ((cell_store (by omega)).trans (cK qq xs0 xsl)))), keep_alloc (((cell_store (by omega)).trans ((cell_store (by omega)).trans (cK qq xs1 xsl)))), keep_alloc (((cell_store (by omega)).trans ((cell_store (by omega)).trans (cK qq xs2 xsl))))⟩ | with_reducible exact ⟨keep_alloc (keep_alloc (((cell_putR (by omega)).trans ((cell_putR (by omega)).trans (cK qq xs0 xsl))))), keep_alloc (keep_alloc (((cell_putR (by omega)).trans ((cell_putR (by omega)).trans (cK qq xs1 xsl))))), keep_alloc (keep_alloc (((cell_putR (by omega)).trans ((cell_putR (by omega)).trans (cK qq xs2 xsl)))))⟩ | with_reducible exact ⟨keep_alloc (keep_alloc (((cell_store (by omega)).trans ((cell_store (by omega)).trans (cK qq xs0 xsl))))), keep_alloc (keep_alloc (((cell_store (by omega)).trans ((cell_store (by omega)).trans (cK qq xs1 xsl))))), keep_alloc (keep_alloc (((cell_store (by omega)).trans ((cell_store (by omega)).trans (cK qq xs2 xsl)))))⟩ | go_keep)
                  (first
                    | (go_at_call 21; (with_reducible refine (CI _).mono ?_); rintro e y1 ⟨bs, As, ns, cs, Bs, ms, ds, rfl, hs, q⟩; have qq := BB0.trans (q.mono BB0.size); have hx' := (hx.on BB0).on q; have qs1 := qq.size; clear q)
                    | (go_at_call 21; (with_reducible refine (CI _).mono ?_); rintro e y1 ⟨bs, As, ns, cs, Bs, ms, ds, rfl, hs, q⟩; have qq := BB1.trans (q.mono BB1.size); have hx' := (hx.on BB1).on q; have qs1 := qq.size; obtain ⟨bo_0, fo_0, bo_1, fo_1, bo_2, fo_2, ol⟩ := zb3 (g := wr.heap.size) q (by simp) (by simp [Cs3, go_sem]) (by simp [Fz3, go_sem]); clear q)
                    | (go_at_call 23; have up := Below.refl y1.heap.size y1; (with_reducible refine (rtdiv_N (hx'.on up) hsx (hs.on up) hsn hne).mono ?_); rintro e y2 ⟨bo, Ao, no, co, Bo, mo, do_, rfl, o, q⟩; replace qq := uK qq up q; replace hx' := (hx'.on up).on q; replace hs := (hs.on up).on q; (try (rewrite [cR up ol, cR q (lK up ol)] at bo_0 bo_1 bo_2; rewrite [fR up ol, fR q (lK up ol)] at fo_0 fo_1 fo_2; replace ol := lK q (lK up ol))); have qs2 := qq.size; clear q up)
                    | (go_at_call 23; have up := below_one y1 (.cells #[.bool false, .slice none 0 0, .slice none 0 0] 48); (with_reducible refine (rtdiv_N (hx'.on up) hsx (hs.on up) hsn hne).mono ?_); rintro e y2 ⟨bo, Ao, no, co, Bo, mo, do_, rfl, o, q⟩; replace qq := uK qq up q; replace hx' := (hx'.on up).on q; replace hs := (hs.on up).on q; (try (rewrite [cR up ol, cR q (lK up ol)] at bo_0 bo_1 bo_2; rewrite [fR up ol, fR q (lK up ol)] at fo_0 fo_1 fo_2; replace ol := lK q (lK up ol))); have qs2 := qq.size; obtain ⟨bo_0, fo_0, bo_1, fo_1, bo_2, fo_2, ol⟩ := zb3 (g := y1.heap.size) q (by simp) (by simp [Cs3, go_sem]) (by simp [Fz3, go_sem]); clear q up))
                all_goals (go_wp2_with fail; go_meet)
                all_goals refine ⟨_, bo, Ao, no, co, Bo, mo, do_, rfl, ?_⟩
                all_goals first
                  | with_reducible exact loneRA o qq _
                  | with_reducible exact loneRB bo_0 bo_1 bo_2 o qq (by omega)
              case rest =>
                obtain ⟨gq, bq, Aq, nq, cq, Bq, mq, dq, rfl, ⟨q0, q1, q2⟩, hq, b, qge⟩ := hcut
                have ql := cell_lt q0
                simp only at ql
                have qqxs : w1.heap.size < gq := Nat.lt_of_lt_of_le xsl qge
                replace hx := hx.on b
                rewrite [cR b xsl] at xs0 xs1 xs2
                replace xsl := lK b xsl
                replace cc := bK cc b
                clear b
                go_wp2_with fail
                have CO := rof8_N hq hsq (j := 0) (by omega) (by omega)
                rw [show nea (X / Y) (0 : Int).toNat = M from HM.out, (nI_yes HMI.out).1, (nI_yes HMI.out).2] at CO
                refine CO.mono ?_
                rintro e w6 ⟨rfl, b⟩
                replace cc := bK cc b
                clear b CO
                obtain ⟨hO3, hbl3, hts3, hg3⟩ := own_after HO.out HBL.out hts cc
                have HO3 := Lib.hid hO3
                have HB3 := Lib.hid hbl3
                clear hO3 hbl3 cc hx hq
                go_wp2_with (at_builtin; refine wpList_append_lies _ rfl _ _ 28 rfl t 2 i0 (.int .i64 0) 1 8 Tryz.underlying28 hi hz0 hz1 hz2 rfl (by decide) _ _ _ rfl (HO3.out.alloc _) ⟨w6.heap.size, 0, none⟩ 1 1 [.int .i64 M] rfl rfl (cell_one_new _ _ _) (by simp [Value.oneCell']) (by omega) (by unfold maxLen; omega) (by omega) (by simp; omega) _ rfl ?_; intro g1 cap1 w7 hown1 hgrow1 hat hlt1)
                go_roundw
                case rel => exact ⟨k + 1, by omega, by go_num, by rw [HPU.out]; exact Grown.push HB3.out hts3 HT.out hg3 hown1 hgrow1⟩
                case measure => simp [intOf] <;> omega
        · obtain rfl : k = n1 := by omega
          have hI := IR.of_own hO
          have hE : meanL L = (List.range k).map (mean16 L) := by unfold meanL; rw [HD.out]
          have HI2 := Lib.hid hI
          have HEE := Lib.hid hE
          clear hO hI hE hbl
          go_wp2_with fail
          go_ret2
          exact ⟨_, _, _, rfl, by rw [HEE.out]; exact HI2.out, HCW.out⟩

end Go.Proofs.YtpephogadljncaaGreat

/-
  The contract of the sixteenth reference: Few; Mean and Clip in one.
-/
namespace Go.Proofs.YtpephogadljncaaGreat
set_option maxRecDepth 100000
open Go.RowKit
set_option linter.unusedVariables false
set_option linter.unusedSimpArgs false

/-- How many rows, and numbers, there are. -/
def cnt16 : List (List Int) → Nat
  | [] => 0
  | l :: L => l.length + cnt16 L
def few16 (L : List (List Int)) : Nat := L.length + cnt16 L
theorem cnt_append (L M : List (List Int)) : cnt16 (L ++ M) = cnt16 L + cnt16 M := by
  induction L with
  | nil => show cnt16 M = 0 + cnt16 M; omega
  | cons x l ih => show x.length + cnt16 (l ++ M) = x.length + cnt16 l + cnt16 M; omega
theorem cnt_take (L : List (List Int)) (i : Nat) (h : i < L.length) : cnt16 (L.take (i + 1)) = cnt16 (L.take i) + (L[i]?.getD []).length := by
  rw [List.take_add_one, List.getElem?_eq_getElem h, cnt_append]
  rfl
theorem cnt_le (L : List (List Int)) (i : Nat) : cnt16 (L.take i) ≤ cnt16 L := by
  have h := cnt_append (L.take i) (L.drop i)
  rw [List.take_append_drop] at h
  omega
theorem cnt_mem {L : List (List Int)} {l : List Int} (h : l ∈ L) : l.length ≤ cnt16 L := by
  induction L with
  | nil => simp at h
  | cons x M ih =>
    show l.length ≤ x.length + cnt16 M
    rcases List.mem_cons.1 h with e | e
    · rw [e]; omega
    · have := ih e; omega
theorem few_rows {L : List (List Int)} (h : few16 L ≤ 40) : L.length ≤ 40 ∧ ∀ l ∈ L, l.length ≤ 40 := by
  unfold few16 at h
  exact ⟨by omega, fun l hl => by have := cnt_mem hl; omega⟩

set_option maxHeartbeats 8000000 in
theorem rFew16_N {w : World} {A : Option Addr} {n c : Nat} {L : List (List Int)} (hA : RR w A n c L) (hn : n ≤ 2305843009213693952) (hl : ∀ l ∈ L, l.length ≤ 2305843009213693952) : Calls Tryz.prog 4 #[.slice A n c, .int .i64 40] w (GotV w (.bool (decide (few16 L ≤ 40)))) := by
  have hln := hA.1
  obtain ⟨B, hB⟩ : ∃ B, decide (few16 L ≤ 40) = B := ⟨_, rfl⟩
  rw [hB]
  have HB := Lib.hid hB
  clear hB
  obtain ⟨T, hT⟩ : ∃ T : Nat → Nat, (fun i => n + cnt16 (L.take i)) = T := ⟨_, rfl⟩
  have HT0 : Hid (T 0 = n) := Lib.hid (by rw [← hT]; show n + cnt16 (L.take 0) = n; rw [List.take_zero]; rfl)
  have HTS : Hid (∀ i, i < n → T (i + 1) = T i + (L[i]?.getD []).length) := Lib.hid (fun i hi => by rw [← hT]; show n + cnt16 (L.take (i + 1)) = n + cnt16 (L.take i) + _; rw [cnt_take L i (by omega)]; omega)
  have HTN : Hid (T n = few16 L) := Lib.hid (by rw [← hT]; show n + cnt16 (L.take n) = _; rw [hln, List.take_of_length_le (Nat.le_refl _)]; rfl)
  have HTL : Hid (∀ i, T i ≤ few16 L) := Lib.hid (fun i => by rw [← hT]; show n + cnt16 (L.take i) ≤ _; have := cnt_le L i; unfold few16; omega)
  have HL : Hid (∀ i, i < n → (L[i]?.getD []).length ≤ 2305843009213693952) := Lib.hid (fun i hi => hl _ (mem_at16 (by omega)))
  have HAV := Lib.hid hA
  have HN := Lib.hid hn
  have nl : n ≤ 9223372036854775807 := by omega
  clear hT hln hl hA hn
  have cc := Below.refl w.heap.size w
  go_enter Tryz.func4, Tryz.ntmps4
  go_wp2_with fail
  go_loop [5, 6] (fun sv iv => ∃ i : Nat, i ≤ n ∧ iv = .int .i64 (i : Int) ∧ sv = .int .i64 ((T i : Nat) : Int) ∧ Hid (i = 0 ∨ T i ≤ 40)) (fun _ iv => n - (intOf iv).toNat)
  case atStart => exact ⟨0, by omega, rfl, by rw [HT0.out], Lib.hid (.inl rfl)⟩
  case round =>
    obtain ⟨i, hi, rfl, rfl, ht⟩ := hrel
    have hn := HN.out
    have hT2 : T i ≤ 2305843009213693952 := by rcases ht.out with e | e; rw [e, HT0.out]; exact hn; omega
    by_cases hlt : i < n
    · have hA := HAV.out
      obtain ⟨b, off, rfl, hb⟩ := hA.some (by omega)
      obtain ⟨A', n', c', hc, hR, _⟩ := rr_at hA hlt
      have hS := HTS.out i hlt
      have hL := HL.out i hlt
      rw [← hR.1] at hS hL
      have hLe := HTL.out (i + 1)
      have k3 : IntKind.i64.wrap ((i : Int) + 1) = ((i + 1 : Nat) : Int) := by rw [IntWalk.i64_in _ (by omega)]; omega
      have k4 : IntKind.i64.wrap ((T i : Int) + (n' : Int)) = ((T (i + 1) : Nat) : Int) := by rw [IntWalk.i64_in _ (by omega), hS]; omega
      have jl : (i : Int) < (n : Int) := by omega
      obtain ⟨x, ex⟩ : ∃ x, T i = x := ⟨_, rfl⟩
      obtain ⟨y, ey⟩ : ∃ y, T (i + 1) = y := ⟨_, rfl⟩
      rw [ex, ey] at k4
      rw [ex]
      rw [ey] at hLe
      have HY := Lib.hid ey
      clear hA hR hS hL hT2 ex ey ht
      by_cases hq : 40 < y
      · have t1 : decide (40 < (y : Int)) = true := decide_eq_true (by omega)
        obtain rfl : B = false := by rw [← HB.out]; exact decide_eq_false (by omega)
        clear hLe hq
        go_wp2_with fail
        go_ret
        exact ⟨rfl, cc⟩
      · have t1 : decide (40 < (y : Int)) = false := decide_eq_false (by omega)
        have HQ : Hid (i + 1 = 0 ∨ T (i + 1) ≤ 40) := Lib.hid (.inr (by rw [HY.out]; omega))
        clear hLe hq
        go_wp2_with fail
        go_round
        case rel => exact ⟨i + 1, by omega, by go_num, by rw [HY.out], HQ⟩
        case measure => simp [intOf] <;> omega
    · obtain rfl : i = n := by omega
      have HE : Hid (B = decide ((T i : Int) ≤ 40)) := Lib.hid (by rw [← HB.out, HTN.out]; exact decide_eq_decide.2 (by omega))
      generalize T i = y at *
      clear ht hT2
      go_wp2_with fail
      go_ret
      exact ⟨by rw [HE.out]; rfl, cc⟩

/-- A row of integers and a code are answered; the row is new. -/
def GotIpF (w : World) (l : List Int) (r : Int) (e : Ending) (w' : World) : Prop := ∃ A n c, e = .returned (.tuple #[.slice A n c, .int .i64 r]) ∧ IR w' A n c l ∧ (0 < n → ∀ q, A = some q → w.heap.size ≤ q.block) ∧ Below w.heap.size w w'
theorem GotIpF.weak {w w' : World} {l : List Int} {r : Int} {e : Ending} (h : GotIpF w l r e w') : GotIp w l r e w' := by
  obtain ⟨A, n, c, h1, h2, _, h3⟩ := h
  exact ⟨A, n, c, h1, h2, h3⟩
instance (L : List (List Int)) : Decidable (OkM L) := by unfold OkM; exact inferInstance
/-- Rows' mean, or nothing; its error. -/
def mnL (L : List (List Int)) : List Int := if L = [] ∨ ¬ OkM L then [] else meanL L
def mnE (L : List (List Int)) : Int := if L = [] then 9 else if OkM L then 0 else 5
theorem rMean16_N {w : World} {A : Option Addr} {n c : Nat} {L : List (List Int)} (hA : RR w A n c L) (hn : n ≤ 100) (hl : ∀ l ∈ L, l.length ≤ 100 ∧ ∀ z ∈ l, I64 z) : Calls Tryz.prog 8 #[.slice A n c] w (GotIp w (mnL L) (mnE L)) := by
  unfold mnL mnE
  have hln := hA.1
  by_cases h0 : L = []
  · rw [if_pos (.inl h0), if_pos h0]
    exact rMean16_none hA (by rw [hln, h0]; rfl)
  · have hp : 0 < n := by
      rcases Nat.eq_zero_or_pos n with e | e
      · exact absurd (List.eq_nil_of_length_eq_zero (by omega)) h0
      · exact e
    by_cases hk : OkM L
    · rw [if_neg (fun e => e.elim h0 (fun e2 => e2 hk)), if_neg h0, if_pos hk]
      exact rMean16_yes hA hn hl hp hk
    · rw [if_pos (.inr hk), if_neg h0, if_neg hk]
      exact rMean16_no hA hn hl hp hk
theorem rClip16_N {w : World} {A B : Option Addr} {n c m d N : Nat} {l : List Int} {most : Int} (hA : IR w A n c l) (hB : Num w B m d N) (hm : I64 most) (hN : (limbs N).length ≤ 300) (hn : n ≤ 100) (hl : ∀ z ∈ l, I64 z) : Calls Tryz.prog 14 #[.slice A n c, .slice B m d, .int .i64 most] w (GotIp w (clipR N most l) (clipE most)) := by
  unfold clipR clipE
  by_cases h : most < 0
  · rw [if_pos h, if_pos h]; exact rClip16_neg hA hB h
  rw [if_neg h, if_neg h]
  by_cases hz : most = 0
  · rw [if_pos (.inl hz)]
    rcases Nat.eq_zero_or_pos n with e | e
    · exact rClip16_zn hA hB hz (by omega) e
    · exact rClip16_zs hA hB hz (by omega) e hn
  by_cases hle : N ≤ most.natAbs
  · rw [if_pos (.inr hle)]
    rcases Nat.eq_zero_or_pos n with e | e
    · exact rClip16_ln hA hB hz (by omega) hm.2 ⟨hN, hle⟩ e
    · exact rClip16_ls hA hB hz (by omega) hm.2 ⟨hN, hle⟩ e hn
  · rw [if_neg (fun e => e.elim hz hle)]
    exact rClip16_cut hA hB (by omega) hm.2 hN (by omega) hn hl
end Go.Proofs.YtpephogadljncaaGreat

/-
  The contracts of the landed clip's part, of what Clip does with a number, and of the library's Clone.
-/
namespace Go.Proofs.YtpephogadljncaaGreat
set_option maxRecDepth 100000
set_option maxHeartbeats 8000000
open Go.RowKit
set_option linter.unusedVariables false
set_option linter.unusedSimpArgs false
attribute [local go_sem] field16

theorem kPart_N {W : World} {Am An : Option Addr} {nm cm nn cn M N : Nat} {x : Int} (hx : I64 x) (hM : Num W Am nm cm M) (hN : Num W An nn cn N) (lm : (limbs M).length ≤ 1) (ln : (limbs N).length ≤ 300) (hlt : M < N) :
    Calls Tryz.prog 36 #[.int .i64 x, .slice Am nm cm, .slice An nn cn] W (GotV W (.int .i64 (clip1 M N x))) := by
  have HX6 := Lib.hid hx
  have HG6 : Hid (I64 (clip1 M N x)) := Lib.hid (clip_i64 (by omega) (by omega) hx)
  have HGZ : Hid (∀ {V : World} {A' : Option Addr} {n' c' : Nat}, Num V A' n' c' (x.natAbs * M / N) → ∀ b, b = (decide (x < 0) && decide (0 < n')) → Zn V b A' n' c' (clip1 M N x)) := Lib.hid (fun h b hb => clip_zn h b hb)
  have CO := fun V : World => zof_N V x hx
  have CD := fun {V : World} {A' B' : Option Addr} {n' c' m' d' : Nat} (h : Num V A' n' c' (x.natAbs * M)) (h' : Num V B' m' d' N) => ddiv_N h h' (Nat.le_trans (limbs_length_mul (len_one hx.abs) lm) (by omega)) ln (by omega)
  have HLM := Lib.hid lm
  have cc := Below.refl W.heap.size W
  obtain ⟨y, hy⟩ : ∃ y, clip1 M N x = y := ⟨_, rfl⟩
  rw [hy] at HG6 HGZ ⊢
  clear hx lm ln hlt hy
  go_enter Tryz.func36, Tryz.ntmps36
  go_wp2_with fail
  refine (CO _).mono ?_
  rintro e w3 ⟨bz, Az, nz, cz, rfl, hz, b⟩
  have hM1 := hM.on b
  have hN1 := hN.on b
  replace cc := bK cc b
  clear b hM hN CO
  go_wp2_with fail
  generalize hv_ : w3.alloc (.cells #[.bool bz, .slice Az nz cz] 42) = v3
  have bA : Below w3.heap.size w3 v3 := by rw [← hv_]; exact below_one _ _
  obtain ⟨zc0, zc1⟩ : Cs2 v3 w3.heap.size (.bool bz) (.slice Az nz cz) := by simp [Cs2, ← hv_, go_sem]
  have zl : w3.heap.size < v3.heap.size := by simp [← hv_]
  have hZ := (hz.on bA).1
  have hbz := hz.2
  replace hM1 := hM1.on bA
  replace hN1 := hN1.on bA
  replace cc := bK cc bA
  clear hz bA
  clear hv_
  obtain ⟨p, hp_⟩ : ∃ p, w3.heap.size = p := ⟨_, rfl⟩
  rw [hp_] at zc0 zc1 zl ⊢
  clear hp_
  refine (mul_N hZ hM1 (Nat.le_trans (len_one HX6.out.abs) (by omega)) (Nat.le_trans HLM.out (by omega))).mono ?_
  rintro e w4 ⟨Ap, np, cp, rfl, hp, b⟩
  rewrite [cR b zl] at zc0 zc1
  replace zl := lK b zl
  replace hN1 := hN1.on b
  replace cc := bK cc b
  clear b hZ hM1
  go_wp2_with fail
  refine (CD hp hN1).mono ?_
  rintro e w5 ⟨Aq, nq, cq, Ar, nr, cr, rfl, hq, hr, b⟩
  rewrite [cR b zl] at zc0 zc1
  replace zl := lK b zl
  have HCC := Lib.hid (cc.trans (b.mono cc.size))
  clear b hr hp hN1 CD cc
  have HQ := Lib.hid hq
  have HBZ := Lib.hid hbz
  clear hq hbz
  cases bz
  · go_wp2_with fail
    have hz9 : Zn w5 false Aq nq cq y := HGZ.out HQ.out false (by rw [← HBZ.out, Bool.false_and])
    refine (zint_yes hz9 HG6.out).mono ?_
    rintro e w6 ⟨rfl, b⟩
    have hB3 := HCC.out.trans (b.mono HCC.out.size)
    clear b zc0 zc1 zl hz9
    go_wp2_with fail
    go_ret
    exact ⟨rfl, hB3⟩
  · go_wp2_with fail
    have hz9 : Zn w5 (decide (0 < nq)) Aq nq cq y := HGZ.out HQ.out _ (by rw [← HBZ.out, Bool.true_and])
    refine (zint_yes hz9 HG6.out).mono ?_
    rintro e w6 ⟨rfl, b⟩
    have hB3 := HCC.out.trans (b.mono HCC.out.size)
    clear b zc0 zc1 zl hz9
    go_wp2_with fail
    go_ret
    exact ⟨rfl, hB3⟩

/-- A row of noughts of the call's own, filled from its head on. -/
def fil16 (G : Int → Int) (l : List Int) (i : Nat) : List Int := (l.take i).map G ++ List.replicate (l.length - i) 0
theorem fil16_zero (G : Int → Int) (l : List Int) : fil16 G l 0 = List.replicate l.length 0 := by simp [fil16]
theorem fil16_len (G : Int → Int) (l : List Int) {i : Nat} (h : i ≤ l.length) : (fil16 G l i).length = l.length := by simp [fil16]; omega
theorem fil16_end (G : Int → Int) (l : List Int) : fil16 G l l.length = l.map G := by simp [fil16]
theorem fil16_set (G : Int → Int) {l : List Int} {i : Nat} (h : i < l.length) : (fil16 G l i).set i (G (l[i]?.getD 0)) = fil16 G l (i + 1) := by
  unfold fil16
  rw [List.take_add_one, List.getElem?_eq_getElem h, List.map_append, List.set_append_right _ _ (by simp; omega)]
  have e : l.length - i = (l.length - (i + 1)) + 1 := by omega
  rw [e, List.replicate_succ, List.append_assoc]
  congr 1
  have e2 : i - ((l.take i).map G).length = 0 := by simp; omega
  rw [e2, List.set_cons_zero]
  rfl
/-- A made row of noughts. -/
def zi16 (q : Nat) : Obj := .cells (madeCells #[.int .i64 0] q) 2
theorem zi16_run (q : Nat) (hq : q ≤ 1000000) (W : World) : (Instr.makeSlice 28 (.int .i64 (q : Int)) (.int .i64 (q : Int))).run Tryz.prog W = .ok (.slice (some ⟨W.heap.size, 0, none⟩) q q) (W.alloc (zi16 q)) := by
  obtain ⟨i0, hi, hz0, hz1, hz2⟩ := info_parts infoI
  have h := run_make (P := Tryz.prog) W 28 2 i0 (.int .i64 0) Tryz.underlying28 hi hz0 .i64 .i64 (q : Int) (q : Int) (by omega) (Int.le_refl _) (by rw [hz2]; omega) (by omega)
  rw [hz1, Int.toNat_natCast, Nat.mul_one] at h
  exact h
theorem zi16_own (q : Nat) (hq : q ≤ 1000000) (W : World) (t : Nat) (ht : t ≤ W.heap.size) : (W.alloc (zi16 q)).ownsRow t 2 1 (.slice (some ⟨W.heap.size, 0, none⟩) q q) q ((List.replicate q 0).map encI) := by
  refine ⟨by simp, .inr ⟨W.heap.size, q, madeCells #[.int .i64 0] q, rfl, ht, heap_alloc_new W _, Nat.le_refl _, by unfold maxLen; omega, by rw [size_madeCells, Nat.mul_one], ?_⟩⟩
  rw [toList_madeCells_one, List.map_replicate, Nat.mul_one, List.take_of_length_le (by simp)]
  rfl
theorem own_on16 {t n cap : Nat} {w w' : World} {e : TypeId} {g : Nat} {xs : List Value} (hO : w.ownsRow t e 1 (.slice (some ⟨g, 0, none⟩) n cap) n xs) (b : Below w.heap.size w w') : w'.ownsRow t e 1 (.slice (some ⟨g, 0, none⟩) n cap) n xs := by
  have hl := hO.lt g rfl
  obtain ⟨h1, h2⟩ := hO
  refine ⟨h1, ?_⟩
  rcases h2 with h2 | ⟨g', cap', cur, hv, hg, hh, r⟩
  · exact Or.inl h2
  · refine Or.inr ⟨g', cap', cur, hv, hg, ?_, r⟩
    have : g' = g := by injection hv with e; injection e with e2; injection e2 with e3; exact e3.symm
    subst this
    rw [b.block g' hl.2]; exact hh
theorem one_up16 (w : World) (o : Obj) : Below w.heap.size w (w.alloc o) := (Below.refl _ w).alloc (Nat.le_refl _) _
theorem boxed_up {W W' : World} {g : Nat} {t : TypeId} {v : Value} (h : Boxed W g t v) (b : Below W.heap.size W W') : Boxed W' g t v := (b.block g h.lt).trans h

theorem kClip1_N {V W : World} {gm gn gl g k n : Nat} {Am An : Option Addr} {nm cm nn cn M N : Nat} {l : List Int} {G : Int → Int} (hG : clip1 M N = G) (hV : V.heap.size = g) (bm : Boxed V gm 24 (.slice Am nm cm)) (bn : Boxed V gn 24 (.slice An nn cn)) (hM : Num V Am nm cm M) (hN : Num V An nn cn N) (lm : (limbs M).length ≤ 1) (ln : (limbs N).length ≤ 300) (hlt : M < N)
    (hn : n = l.length) (hk : k < n) (hn2 : n ≤ 1000) (hx : I64 (l[k]?.getD 0)) (hB : Below g V W) (bl : Boxed W gl 28 (.slice (some ⟨g, 0, none⟩) n n)) (hgl : g < gl) (hO : W.ownsRow g 2 1 (.slice (some ⟨g, 0, none⟩) n n) n ((fil16 G l k).map encI)) :
    Calls Tryz.prog 35 #[.int .i64 (k : Int), .int .i64 (l[k]?.getD 0), .pointer (some ⟨gm, 0, none⟩), .pointer (some ⟨gn, 0, none⟩), .pointer (some ⟨gl, 0, none⟩)] W (fun e W' => e = .returned (.tuple #[]) ∧ Below g V W' ∧ W'.ownsRow g 2 1 (.slice (some ⟨g, 0, none⟩) n n) n ((fil16 G l (k + 1)).map encI) ∧ ∀ g' t' v', g' ≠ g → Boxed W g' t' v' → Boxed W' g' t' v') := by
  have hS := fil16_set G (show k < l.length by omega)
  have hLn := fil16_len G l (show k ≤ l.length by omega)
  have CP := fun {U : World} (hM : Num U Am nm cm M) (hN : Num U An nn cn N) => kPart_N (x := l[k]?.getD 0) hx hM hN lm ln hlt
  rw [hG] at CP
  obtain ⟨x, ex⟩ : ∃ x, l[k]?.getD 0 = x := ⟨_, rfl⟩
  rw [ex] at CP hS ⊢
  obtain ⟨y, ey⟩ : ∃ y, G x = y := ⟨_, rfl⟩
  rw [ey] at CP hS
  have hgm : gm < g := by rw [← hV]; exact bm.lt
  have hgn : gn < g := by rw [← hV]; exact bn.lt
  have wm : Boxed W gm 24 (.slice Am nm cm) := (hB.block gm hgm).trans bm
  have wn : Boxed W gn 24 (.slice An nn cn) := (hB.block gn hgn).trans bn
  rw [← hV] at hB
  have wM := hM.on hB
  have wN := hN.on hB
  rw [hV] at hB
  have m0 := wm.cell
  have n0 := wn.cell
  have l0 := bl.cell
  have jl : (k : Int) < (n : Int) := by omega
  have HS := Lib.hid hS
  have HLn := Lib.hid (show (fil16 G l k).length = n by rw [hn]; exact hLn)
  have HO := Lib.hid hO
  have HB := Lib.hid hB
  have HGL := Lib.hid hgl
  have HK := Lib.hid hk
  have hg0 : g < W.heap.size := (hO.lt g rfl).2
  clear hx lm ln hlt hn hO hB hgl ex ey hS hLn bm bn hM hN hV hG hgm hgn wm wn
  go_enter Tryz.func35, Tryz.ntmps35
  go_upto_region 0 with fail
  have BD : Below W.heap.size W W.drew := below_drewN (Below.refl _ W) 1
  go_region_with (first | (go_at_call 36; refine (CP (wM.on BD) (wN.on BD)).mono ?_; rintro e z1 ⟨rfl, b⟩; have b1 := BD.trans (b.mono BD.size); have l1 := (boxed_up bl b1).cell; have hO1 := own_on16 HO.out b1; have c1 : z1.cell? ⟨g, k, none⟩ = some (.int .i64 ((fil16 G l k)[k]?.getD 0)) := (by rw [hO1.cellAt k (by have := HK.out; omega), List.getElem?_map, List.getElem?_eq_getElem (by have := HLn.out; have := HK.out; omega)]; rfl); have f1 := hO1.frozenAt k; clear b))
  all_goals have hst := hO1.stored k (.int .i64 y)
  all_goals have HST : Hid ((z1.setCell ⟨g, k, none⟩ (.int .i64 y)).ownsRow g 2 1 (.slice (some ⟨g, 0, none⟩) n n) n ((fil16 G l (k + 1)).map encI)) := Lib.hid (by rw [← HS.out, List.map_set]; exact hst.1)
  all_goals have HBB := Lib.hid ((HB.out.trans (b1.mono (by have := hg0; omega))).setCell (p := ⟨g, k, none⟩) (Nat.le_refl _) (.int .i64 y))
  all_goals have HKB : Hid (∀ g' t' v', g' ≠ g → Boxed W g' t' v' → Boxed (z1.setCell ⟨g, k, none⟩ (.int .i64 y)) g' t' v') := Lib.hid (fun g' t' v' hne hb => (heap_setCell_other z1 ⟨g, k, none⟩ g' (.int .i64 y) hne).trans (boxed_up hb b1))
  all_goals clear hst hO1 b1 wM wN bl
  all_goals go_wp2_with fail
  all_goals go_end0
  all_goals exact ⟨rfl, HBB.out, HST.out, HKB.out⟩

theorem kClone_N {w : World} {A : Option Addr} {n c : Nat} {l : List Int} (hA : IR w A n c l) (hn : n ≤ 4000000) :
    Calls Tryz.prog 34 #[.slice A n c] w (fun e w' => ∃ A' n' c', e = .returned (.slice A' n' c') ∧ IR w' A' n' c' l ∧ (0 < n' → ∀ q, A' = some q → w.heap.size ≤ q.block) ∧ Below w.heap.size w w') := by
  obtain ⟨i0, hi, hz0, hz1, hz2⟩ := info_parts infoI
  have hll := hA.1
  have cc := Below.refl w.heap.size w
  rcases A with _ | a
  · have h0 : n = 0 := by
      rcases Nat.eq_zero_or_pos n with e | e
      · exact e
      · obtain ⟨_, _, e2, _⟩ := hA.2.2 e; cases e2
    have hl0 : l = [] := List.eq_nil_of_length_eq_zero (by omega)
    subst hl0
    subst h0
    clear hA hll hn
    have hnl := fun W => Lib.run_eql_slice_nil (P := Tryz.prog) W 28 2 none 0 c 0 0 Tryz.underlying28
    simp only [Option.isNone_none] at hnl
    go_enter Tryz.func34, Tryz.ntmps34
    go_wp2_with fail
    go_ret
    exact ⟨_, _, _, rfl, IR.nil _ _ _, fun h => absurd h (by omega), cc⟩
  · have hnl := fun W => Lib.run_eql_slice_nil (P := Tryz.prog) W 28 2 (some a) n c 0 0 Tryz.underlying28
    simp only [Option.isNone_some] at hnl
    have hE : (w.alloc (.cells #[] 2)).ownsRow w.heap.size 2 1 (.slice (some ⟨w.heap.size, 0, none⟩) 0 0) 0 ([] : List Value) := World.ownsRow_lit w #[] 0 (Nat.le_refl _) (by unfold maxLen; omega) rfl
    have b0 : Below w.heap.size w (w.alloc (.cells #[] 2)) := (Below.refl _ w).alloc (Nat.le_refl _) _
    have HE := Lib.hid hE
    have HB0 := Lib.hid b0
    clear hE
    rcases Nat.eq_zero_or_pos n with h0 | h0
    · have hl0 : l = [] := List.eq_nil_of_length_eq_zero (by omega)
      subst hl0
      subst h0
      clear hA hll hn b0
      go_enter Tryz.func34, Tryz.ntmps34
      go_wp2_with (at_builtin; refine wpList_append_zero _ rfl _ _ 28 rfl 2 i0 Tryz.underlying28 hi _ _ _ _ _ rfl rfl (by omega) ?_)
      go_ret
      exact ⟨_, _, _, rfl, IR.nil _ _ _, fun h => absurd h (by omega), HB0.out⟩
    · obtain ⟨bb, off, eA, hb0⟩ := ir_some16 hA h0
      injection eA with eA
      subst eA
      have HL : Hid ((l.map encI).length = n * 1) := Lib.hid (by rw [List.length_map, ← hA.1]; omega)
      have HNW := Lib.hid (ir_news hA b0)
      clear hA hb0 hll b0
      go_enter Tryz.func34, Tryz.ntmps34
      go_wp2_with (at_builtin; refine wpList_append_lies _ rfl _ _ 28 rfl w.heap.size 2 i0 (.int .i64 0) 1 8 Tryz.underlying28 hi hz0 hz1 hz2 rfl (by decide) _ 0 [] rfl HE.out ⟨bb, off, none⟩ n c (l.map encI) rfl HL.out HNW.out (fun u hu => by obtain ⟨x, _, rfl⟩ := List.mem_map.1 hu; rfl) (by omega) (by unfold maxLen; omega) (by omega) (by first | omega | (simp <;> omega)) _ rfl ?_; intro g1 cap1 w3 hown1 hgrow1 hat1 hlt1)
      have b1 : Below w.heap.size w w3 := HB0.out.grown hgrow1 (by simp) (fun q e => by injection (show some w.heap.size = some q from e) with e1; omega)
      rw [List.nil_append] at hown1
      rw [Nat.zero_add] at hown1
      have hg1 := (hown1.lt g1 rfl).1
      go_ret
      exact ⟨_, _, _, by first | rfl | simp, IR.of_own hown1, fun _ q e => by injection e with e; subst e; exact hg1, b1⟩

end Go.Proofs.YtpephogadljncaaGreat

/-
  The contract of the landed clip's Clip.
-/
namespace Go.Proofs.YtpephogadljncaaGreat
set_option maxRecDepth 100000
set_option maxHeartbeats 8000000
open Go.RowKit
set_option linter.unusedVariables false
set_option linter.unusedSimpArgs false

/-- How far the row is filled. -/
def at16 (n i k : Nat) : Nat := if i = 0 then k else n
theorem kCut_N {V : World} {gm gn n c : Nat} {A Am An : Option Addr} {nm cm nn cn M N : Nat} {l : List Int} {G : Int → Int} (hG : clip1 M N = G) (hA : IR V A n c l) (bm : Boxed V gm 24 (.slice Am nm cm)) (bn : Boxed V gn 24 (.slice An nn cn)) (hM : Num V Am nm cm M) (hN : Num V An nn cn N) (lm : (limbs M).length ≤ 1) (ln : (limbs N).length ≤ 300) (hlt : M < N) (hn2 : n ≤ 1000) (hl : ∀ z ∈ l, I64 z) :
    Calls Tryz.prog 16 #[.slice (some ⟨V.heap.size + 2, 0, none⟩) 1 1, .func (.func 35) #[] #[.pointer (some ⟨gm, 0, none⟩), .pointer (some ⟨gn, 0, none⟩), .pointer (some ⟨V.heap.size + 1, 0, none⟩)]] (((V.alloc (zi16 n)).alloc (.cells #[.slice (some ⟨V.heap.size, 0, none⟩) n n] 28)).alloc (.cells #[.slice A n c] 28))
      (fun e W' => e = .returned (.tuple #[]) ∧ Below V.heap.size V W' ∧ Boxed W' (V.heap.size + 1) 28 (.slice (some ⟨V.heap.size, 0, none⟩) n n) ∧ W'.ownsRow V.heap.size 2 1 (.slice (some ⟨V.heap.size, 0, none⟩) n n) n ((l.map G).map encI)) := by
  have hln := hA.1
  have b1 : Below V.heap.size V (V.alloc (zi16 n)) := (Below.refl _ _).alloc (Nat.le_refl _) _
  have e1 : (V.alloc (zi16 n)).heap.size = V.heap.size + 1 := by simp
  have o1 := zi16_own n (by omega) V V.heap.size (Nat.le_refl _)
  have b2 := one_up16 (V.alloc (zi16 n)) (.cells #[.slice (some ⟨V.heap.size, 0, none⟩) n n] 28)
  have x2 := Boxed.new (V.alloc (zi16 n)) 28 (.slice (some ⟨V.heap.size, 0, none⟩) n n)
  rw [e1] at x2
  have o2 := own_on16 o1 b2
  have e2 : ((V.alloc (zi16 n)).alloc (.cells #[.slice (some ⟨V.heap.size, 0, none⟩) n n] 28)).heap.size = V.heap.size + 2 := by simp
  have b12 := b1.trans (b2.mono b1.size)
  clear b1 b2 o1
  generalize (V.alloc (zi16 n)).alloc (.cells #[.slice (some ⟨V.heap.size, 0, none⟩) n n] 28) = U at *
  have b3 := one_up16 U (.cells #[.slice A n c] 28)
  have x3 := Boxed.new U 28 (.slice A n c)
  rw [e2] at x3
  have o3 := own_on16 o2 b3
  have y2 := boxed_up x2 b3
  have b123 := b12.trans (b3.mono b12.size)
  clear b3 b12 o2 x2
  generalize U.alloc (.cells #[.slice A n c] 28) = Z at *
  clear e1 e2
  have h := kWalk_S (w := Z) (V := fun _ => A) (N := fun _ => n) (C := fun _ => c) (A := some ⟨V.heap.size + 2, 0, none⟩) (n := 1) (c := 1) (F := 35) (caps := #[.pointer (some ⟨gm, 0, none⟩), .pointer (some ⟨gn, 0, none⟩), .pointer (some ⟨V.heap.size + 1, 0, none⟩)]) (L := [l])
    (fun i k W => Below V.heap.size V W ∧ Boxed W (V.heap.size + 1) 28 (.slice (some ⟨V.heap.size, 0, none⟩) n n) ∧ Boxed W (V.heap.size + 2) 28 (.slice A n c) ∧ W.ownsRow V.heap.size 2 1 (.slice (some ⟨V.heap.size, 0, none⟩) n n) n ((fil16 G l (at16 n i k)).map encI)) (fun args W => rfl) rfl (by omega) (fun x hx => by rw [List.mem_singleton] at hx; subst hx; omega)
    (fun i k W h hp => ⟨_, _, rfl, fun j hj => by
      obtain rfl : j = 0 := by omega
      exact ⟨h.2.2.1.cell, hA.on h.1⟩⟩)
    ⟨b123, y2, x3, by show Z.ownsRow V.heap.size _ 1 _ n ((fil16 G l 0).map encI); rw [fil16_zero, ← hln]; exact o3⟩
    (fun W i k hi hk h => by
      obtain rfl : i = 0 := by omega
      obtain ⟨h1, h2, h3, h4⟩ := h
      have hk2 : k < n := by rw [hln]; exact hk
      refine (kClip1_N hG rfl bm bn hM hN lm ln hlt hln hk2 hn2 (hl _ (mem_at16 hk)) h1 h2 (by omega) h4).mono ?_
      rintro e W' ⟨rfl, q1, q2, q3⟩
      exact ⟨rfl, q1, q3 _ _ _ (by omega) h2, q3 _ _ _ (by omega) h3, q2⟩)
    (fun W i hi h => by
      obtain rfl : i = 0 := by omega
      obtain ⟨h1, h2, h3, h4⟩ := h
      refine ⟨h1, h2, h3, ?_⟩
      have e : at16 n 0 ([l][0]?.getD []).length = at16 n (0 + 1) 0 := by show l.length = n; exact hln.symm
      rw [← e]; exact h4)
  refine h.mono ?_
  rintro e W' ⟨rfl, h1, h2, _, h4⟩
  refine ⟨rfl, h1, h2, ?_⟩
  have e : fil16 G l (at16 n 1 0) = l.map G := by show fil16 G l n = _; rw [hln]; exact fil16_end G l
  rw [← e]; exact h4

theorem clClip_neg {w : World} {A B : Option Addr} {n c m d : Nat} {most : Int} (h : most < 0) : Calls Tryz.prog 13 #[.slice A n c, .slice B m d, .int .i64 most] w (GotIpF w [] 1) := by
  have t0 : decide (most < 0) = true := decide_eq_true h
  have b0 := one_up16 w (.cells #[.slice B m d] 24)
  clear h
  go_enter Tryz.func13, Tryz.ntmps13
  go_wp2_with fail
  go_ret2
  exact ⟨_, _, _, rfl, IR.nil _ _ _, fun h => absurd h (by omega), b0⟩

theorem clClip_none {w : World} {A B : Option Addr} {n c m d N : Nat} {l : List Int} {most : Int} (hA : IR w A n c l) (h : most = 0) (hn : n ≤ 100) : Calls Tryz.prog 13 #[.slice A n c, .slice B m d, .int .i64 most] w (GotIpF w l 0) := by
  have t0 : decide (most < 0) = false := decide_eq_false (by omega)
  have t1 : (most == 0) = true := beq_iff_eq.2 h
  have k1 : IntKind.u64.wrap most = ((0 : Nat) : Int) := by rw [h]; rfl
  have CO := fun W : World => of_N W 0 (by unfold B64; omega)
  have CC := fun {W : World} (h : IR W A n c l) => kClone_N h (show n ≤ 4000000 by omega)
  have cc := one_up16 w (.cells #[.slice B m d] 24)
  replace hA := hA.on cc
  clear h hn
  go_enter Tryz.func13, Tryz.ntmps13
  go_wp2_with fail
  refine (CO _).mono ?_
  rintro e w1 ⟨Am, nm, cm, rfl, hm, b⟩
  replace hA := hA.on b
  replace cc := bK cc b
  have b2 := one_up16 w1 (.cells #[.slice Am nm cm] 24)
  replace hA := hA.on b2
  replace cc := bK cc b2
  clear b b2 hm CO
  go_wp2_with fail
  refine (CC hA).mono ?_
  rintro e w2 ⟨A', n', c', rfl, hI, hf, b⟩
  have HF : Hid (0 < n' → ∀ q, A' = some q → w.heap.size ≤ q.block) := Lib.hid (fun h q e => Nat.le_trans cc.size (hf h q e))
  have HI := Lib.hid hI
  replace cc := bK cc b
  clear b hf CC hI hA
  go_wp2_with fail
  go_ret2
  exact ⟨_, _, _, rfl, HI.out, HF.out, cc⟩

theorem clClip_less {w : World} {A B : Option Addr} {n c m d N : Nat} {l : List Int} {most : Int} (hA : IR w A n c l) (hB : Num w B m d N) (h : most ≠ 0) (h1 : 0 ≤ most) (h2 : most ≤ 9223372036854775807) (hN : (limbs N).length ≤ 300) (hle : N ≤ most.natAbs) (hn : n ≤ 100) : Calls Tryz.prog 13 #[.slice A n c, .slice B m d, .int .i64 most] w (GotIpF w l 0) := by
  have t0 : decide (most < 0) = false := decide_eq_false (by omega)
  have t1 : (most == 0) = false := beq_eq_false_iff_ne.2 h
  have hm1 := len_one (show most.natAbs < B64 by unfold B64; omega)
  have k1 : IntKind.u64.wrap most = (most.natAbs : Int) := by rw [IntKind.wrap_u64]; omega
  have CO := fun W : World => of_N W most.natAbs (by unfold B64; omega)
  obtain ⟨M, eM⟩ : ∃ M, most.natAbs = M := ⟨_, rfl⟩
  rw [eM] at hm1 k1 CO hle
  have CC := fun {W : World} (h : IR W A n c l) => kClone_N h (show n ≤ 4000000 by omega)
  have CN := fun {W : World} {B' : Option Addr} {m' d' : Nat} (h : Num W B m d N) (h' : Num W B' m' d' M) => cmp_N h h' (by omega) (Nat.le_trans hm1 (by omega))
  have hcm : cmpN N M ≤ 0 := by unfold cmpN; split <;> omega
  obtain ⟨q, hq⟩ : ∃ q, cmpN N M = q := ⟨_, rfl⟩
  rw [hq] at CN hcm
  have t2 : decide (q ≤ 0) = true := decide_eq_true hcm
  have cc := one_up16 w (.cells #[.slice B m d] 24)
  have xn := Boxed.new w 24 (.slice B m d)
  replace hA := hA.on cc
  replace hB := hB.on cc
  clear h h1 h2 hN hle hn hm1 eM hcm hq
  go_enter Tryz.func13, Tryz.ntmps13
  go_wp2_with fail
  generalize w.alloc (.cells #[.slice B m d] 24) = w0 at *
  refine (CO _).mono ?_
  rintro e w1 ⟨Am, nm, cm, rfl, hm, b⟩
  replace hA := hA.on b
  replace hB := hB.on b
  replace xn := boxed_up xn b
  replace cc := bK cc b
  have b2 := one_up16 w1 (.cells #[.slice Am nm cm] 24)
  have xm := Boxed.new w1 24 (.slice Am nm cm)
  replace hA := hA.on b2
  replace hB := hB.on b2
  replace hm := hm.on b2
  replace xn := boxed_up xn b2
  replace cc := bK cc b2
  have n0 := xn.cell
  clear b b2 CO
  go_wp2_with fail
  refine (CN hB hm).mono ?_
  rintro e w2 ⟨rfl, b⟩
  replace hA := hA.on b
  replace cc := bK cc b
  clear b CN hB hm xm xn n0
  go_wp2_with fail
  refine (CC hA).mono ?_
  rintro e w3 ⟨A', n', c', rfl, hI, hf, b⟩
  have HF : Hid (0 < n' → ∀ q, A' = some q → w.heap.size ≤ q.block) := Lib.hid (fun h q e => Nat.le_trans cc.size (hf h q e))
  have HI := Lib.hid hI
  replace cc := bK cc b
  clear b hf CC hI hA
  go_wp2_with fail
  go_ret2
  exact ⟨_, _, _, rfl, HI.out, HF.out, cc⟩

theorem clClip_cut {w : World} {A B : Option Addr} {n c m d N : Nat} {l : List Int} {most : Int} (hA : IR w A n c l) (hB : Num w B m d N) (h : most ≠ 0) (h1 : 0 ≤ most) (h2 : most ≤ 9223372036854775807) (hN : (limbs N).length ≤ 300) (hlt : most.natAbs < N) (hn : n ≤ 100) (hl : ∀ z ∈ l, I64 z) : Calls Tryz.prog 13 #[.slice A n c, .slice B m d, .int .i64 most] w (GotIpF w (l.map (clip1 most.natAbs N)) 0) := by
  have t0 : decide (most < 0) = false := decide_eq_false (by omega)
  have t1 : (most == 0) = false := beq_eq_false_iff_ne.2 h
  have hm1 := len_one (show most.natAbs < B64 by unfold B64; omega)
  have k1 : IntKind.u64.wrap most = (most.natAbs : Int) := by rw [IntKind.wrap_u64]; omega
  have CO := fun W : World => of_N W most.natAbs (by unfold B64; omega)
  obtain ⟨M, eM⟩ : ∃ M, most.natAbs = M := ⟨_, rfl⟩
  rw [eM] at hm1 k1 CO hlt ⊢
  have CN := fun {W : World} {B' : Option Addr} {m' d' : Nat} (h : Num W B m d N) (h' : Num W B' m' d' M) => cmp_N h h' (by omega) (Nat.le_trans hm1 (by omega))
  have hcm : ¬ cmpN N M ≤ 0 := by unfold cmpN; rw [if_neg (by omega), if_pos (by omega)]; omega
  obtain ⟨q, hq⟩ : ∃ q, cmpN N M = q := ⟨_, rfl⟩
  rw [hq] at CN hcm
  have t2 : decide (q ≤ 0) = false := decide_eq_false hcm
  obtain ⟨G, eG⟩ : ∃ G : Int → Int, clip1 M N = G := ⟨_, rfl⟩
  rw [eG]
  have CK := fun {V : World} {gm gn nm cm : Nat} {Am : Option Addr} (hA : IR V A n c l) (bm : Boxed V gm 24 (.slice Am nm cm)) (bn : Boxed V gn 24 (.slice B m d)) (hM : Num V Am nm cm M) (hB : Num V B m d N) => kCut_N eG hA bm bn hM hB hm1 hN hlt (by omega) hl
  have hmk := zi16_run n (by omega)
  have cc := one_up16 w (.cells #[.slice B m d] 24)
  have xn := Boxed.new w 24 (.slice B m d)
  replace hA := hA.on cc
  replace hB := hB.on cc
  have HLL := Lib.hid hA.1
  clear h h1 h2 hN hlt hn hm1 eM hcm hq hl eG
  go_enter Tryz.func13, Tryz.ntmps13
  go_wp2_with fail
  generalize w.alloc (.cells #[.slice B m d] 24) = w0 at *
  refine (CO _).mono ?_
  rintro e w1 ⟨Am, nm, cm, rfl, hm, b⟩
  replace hA := hA.on b
  replace hB := hB.on b
  replace xn := boxed_up xn b
  replace cc := bK cc b
  have b2 := one_up16 w1 (.cells #[.slice Am nm cm] 24)
  have xm := Boxed.new w1 24 (.slice Am nm cm)
  replace hA := hA.on b2
  replace hB := hB.on b2
  replace hm := hm.on b2
  replace xn := boxed_up xn b2
  replace cc := bK cc b2
  have n0 := xn.cell
  clear b b2 CO
  go_wp2_with fail
  refine (CN hB hm).mono ?_
  rintro e w2 ⟨rfl, b⟩
  replace hA := hA.on b
  replace hB := hB.on b
  replace hm := hm.on b
  replace xn := boxed_up xn b
  replace xm := boxed_up xm b
  replace cc := bK cc b
  have HK := Lib.hid (CK hA xm xn hm hB)
  clear b CN hB hm xm xn n0 CK hA
  go_wp2_with fail
  refine HK.out.mono ?_
  rintro e w3 ⟨rfl, hB3, x3, o3⟩
  have l0 := x3.cell
  have HI := Lib.hid (IR.of_own o3)
  have HCC := Lib.hid (cc.trans (hB3.mono cc.size))
  have HSZ := Lib.hid cc.size
  clear hB3 x3 o3 cc HK
  go_wp2_with fail
  go_ret2
  exact ⟨_, _, _, rfl, HI.out, fun _ q e => by injection e with e; subst e; exact HSZ.out, HCC.out⟩

theorem clClip_N {w : World} {A B : Option Addr} {n c m d N : Nat} {l : List Int} {most : Int} (hA : IR w A n c l) (hB : Num w B m d N) (hm : I64 most) (hN : (limbs N).length ≤ 300) (hn : n ≤ 100) (hl : ∀ z ∈ l, I64 z) : Calls Tryz.prog 13 #[.slice A n c, .slice B m d, .int .i64 most] w (GotIpF w (clipR N most l) (clipE most)) := by
  unfold clipR clipE
  by_cases h : most < 0
  · rw [if_pos h, if_pos h]; exact clClip_neg h
  rw [if_neg h, if_neg h]
  by_cases hz : most = 0
  · rw [if_pos (.inl hz)]; exact clClip_none (N := N) hA hz hn
  by_cases hle : N ≤ most.natAbs
  · rw [if_pos (.inr hle)]; exact clClip_less hA hB hz (by omega) hm.2 hN hle hn
  · rw [if_neg (fun e => e.elim hz hle)]
    exact clClip_cut hA hB hz (by omega) hm.2 hN (by omega) hn hl
end Go.Proofs.YtpephogadljncaaGreat

/-
  Rows of integers of the call's own; what the landed clip's Mean does with a number.
-/
namespace Go.Proofs.YtpephogadljncaaGreat
set_option maxRecDepth 100000
open Go.RowKit
set_option linter.unusedVariables false
set_option linter.unusedSimpArgs false

/-- The block holds m integers, S 0, S 1 and so on; no cell of it is a number. -/
def ZS (w : World) (g m : Nat) (S : Nat → Int) : Prop :=
  (∃ cs, w.heap[g]? = some (.cells cs 42 (0, 0))) ∧ NoInt w g ∧ ∀ j, j < m → ∃ b A n c, w.cell? ⟨g, j * 2, none⟩ = some (.bool b) ∧ w.cell? ⟨g, j * 2 + 1, none⟩ = some (.slice A n c) ∧ Zn w b A n c (S j)
theorem ZS.lt {w : World} {g m : Nat} {S : Nat → Int} (h : ZS w g m S) : g < w.heap.size := by
  obtain ⟨⟨cs, hc⟩, _⟩ := h
  exact (Array.getElem?_eq_some_iff.1 hc).1
theorem ZS.on {w w' : World} {g m : Nat} {S : Nat → Int} (h : ZS w g m S) (b : Below w.heap.size w w') : ZS w' g m S := by
  have hl := h.lt
  obtain ⟨⟨cs, hc⟩, h2, h3⟩ := h
  refine ⟨⟨cs, (b.block g hl).trans hc⟩, fun o k z e => h2 o k z ((b.cell (p := ⟨g, o, none⟩) hl).symm.trans e), fun j hj => ?_⟩
  obtain ⟨b', A, n, c, q1, q2, q3⟩ := h3 j hj
  exact ⟨b', A, n, c, cK b q1 hl, cK b q2 hl, q3.on b⟩
theorem ZS.congr {w : World} {g m : Nat} {S T : Nat → Int} (h : ZS w g m S) (e : ∀ j, j < m → S j = T j) : ZS w g m T := ⟨h.1, h.2.1, fun j hj => by rw [← e j hj]; exact h.2.2 j hj⟩
theorem ZS.frozen {w : World} {g m o : Nat} {S : Nat → Int} (h : ZS w g m S) : w.frozen? ⟨g, o, none⟩ = false := by
  obtain ⟨⟨cs, hc⟩, _⟩ := h
  exact frozen_of_row w g o cs _ hc
theorem zn_far {w : World} {b : Bool} {A : Option Addr} {n c g o : Nat} {z : Int} {v : Value} (h : Zn w b A n c z) (hg : NoInt w g) : Zn (w.setCell ⟨g, o, none⟩ v) b A n c z := ⟨num_far h.1 hg, h.2⟩
theorem noint_set {w : World} {g o : Nat} {u v : Value} (h : NoInt w g) (hq : w.cell? ⟨g, o, none⟩ = some u) (hv : ∀ k z, v ≠ .int k z) : NoInt (w.setCell ⟨g, o, none⟩ v) g := by
  intro o' k z e
  by_cases ho : o' = o
  · subst ho
    rw [World.cell?_setCell_same (h := hq)] at e
    injection e with e
    exact hv k z e
  · rw [World.cell?_setCell_other (h := by intro e2; injection e2 with _ e3; exact ho e3.symm)] at e
    exact h o' k z e
/-- One integer is written. -/
theorem ZS.put {w : World} {g m k : Nat} {S : Nat → Int} {b : Bool} {A : Option Addr} {n c : Nat} {z : Int} (h : ZS w g m S) (hk : k < m) (hz : Zn w b A n c z) :
    ZS ((w.setCell ⟨g, k * 2, none⟩ (.bool b)).setCell ⟨g, k * 2 + 1, none⟩ (.slice A n c)) g m (fun j => if j = k then z else S j) := by
  obtain ⟨⟨cs, hc⟩, h2, h3⟩ := h
  obtain ⟨b0, A0, n0, c0, p1, p2, p3⟩ := h3 k hk
  have hne : ∀ {a b : Nat}, a ≠ b → (⟨g, a, none⟩ : Addr) ≠ ⟨g, b, none⟩ := fun h e => by injection e with _ e3; exact h e3
  have n1 : NoInt (w.setCell ⟨g, k * 2, none⟩ (.bool b)) g := noint_set h2 p1 (fun _ _ e => by cases e)
  have p2' : (w.setCell ⟨g, k * 2, none⟩ (.bool b)).cell? ⟨g, k * 2 + 1, none⟩ = some (.slice A0 n0 c0) := by rw [World.cell?_setCell_other (h := hne (by omega))]; exact p2
  have n2 : NoInt ((w.setCell ⟨g, k * 2, none⟩ (.bool b)).setCell ⟨g, k * 2 + 1, none⟩ (.slice A n c)) g := noint_set n1 p2' (fun _ _ e => by cases e)
  refine ⟨⟨_, heap_setCell_same _ g _ _ _ _ (heap_setCell_same w g _ cs _ _ hc)⟩, n2, fun j hj => ?_⟩
  by_cases e : j = k
  · subst e
    refine ⟨b, A, n, c, ?_, ?_, ?_⟩
    · rw [World.cell?_setCell_other (h := hne (by omega)), World.cell?_setCell_same (h := p1)]
    · exact World.cell?_setCell_same _ _ _ p2'
    · show Zn _ b A n c (if j = j then z else S j); rw [if_pos rfl]; exact zn_far (zn_far hz h2) n1
  · obtain ⟨b', A', n', c', q1, q2, q3⟩ := h3 j hj
    refine ⟨b', A', n', c', ?_, ?_, ?_⟩
    · rw [World.cell?_setCell_other (h := hne (by omega)), World.cell?_setCell_other (h := hne (by omega))]; exact q1
    · rw [World.cell?_setCell_other (h := hne (by omega)), World.cell?_setCell_other (h := hne (by omega))]; exact q2
    · show Zn _ b' A' n' c' (if j = k then z else S j); rw [if_neg e]; exact zn_far (zn_far q3 h2) n1
theorem infoZ16 : (Tryz.prog.info? 42).map (fun i => (i.zero, i.size, i.bytes)) = some (some (.agg #[.bool false, .slice none 0 0]), 2, 32) := by kernel_rfl
/-- A made row of integers. -/
def zz16 (q : Nat) : Obj := .cells (madeCells #[.bool false, .slice none 0 0] (q * 2)) 42
theorem zz16_run (q : Nat) (hq : q ≤ 1000000) (W : World) : (Instr.makeSlice 39 (.int .i64 (q : Int)) (.int .i64 (q : Int))).run Tryz.prog W = .ok (.slice (some ⟨W.heap.size, 0, none⟩) q q) (W.alloc (zz16 q)) := by
  obtain ⟨i0, hi, hz0, hz1, hz2⟩ := info_parts infoZ16
  have h := run_make (P := Tryz.prog) W 39 42 i0 (.agg #[.bool false, .slice none 0 0]) Tryz.underlying39 hi hz0 .i64 .i64 (q : Int) (q : Int) (by omega) (Int.le_refl _) (by rw [hz2]; omega) (by omega)
  rw [hz1, Int.toNat_natCast] at h
  exact h
theorem made_at16 (q j : Nat) (h : j < q) : (madeCells #[Value.bool false, .slice none 0 0] (q * 2))[j * 2]? = some (.bool false) ∧ (madeCells #[Value.bool false, .slice none 0 0] (q * 2))[j * 2 + 1]? = some (.slice none 0 0) := by
  have e1 : j * 2 % 2 = 0 := by omega
  have e2 : (j * 2 + 1) % 2 = 1 := by omega
  constructor
  · simp only [madeCells, Array.getElem?_map]
    rw [Array.getElem?_eq_getElem (by simp; omega)]
    simp [e1]
  · simp only [madeCells, Array.getElem?_map]
    rw [Array.getElem?_eq_getElem (by simp; omega)]
    simp [e2]
theorem made_no16 (q o : Nat) (k : IntKind) (z : Int) : (madeCells #[Value.bool false, .slice none 0 0] q)[o]? ≠ some (.int k z) := by
  intro e
  simp only [madeCells, Array.getElem?_map] at e
  rcases Nat.lt_or_ge o q with h | h
  · rw [Array.getElem?_eq_getElem (by simp; omega)] at e
    have : o % 2 = 0 ∨ o % 2 = 1 := by omega
    rcases this with h2 | h2
    · simp [h2] at e
    · simp [h2] at e
  · rw [Array.getElem?_eq_none (by simp; omega)] at e; cases e
theorem cell_block16 {w : World} {g : Nat} {cs : Array Value} {t : TypeId} (hb : w.heap[g]? = some (.cells cs t (0, 0))) (o : Nat) : w.cell? ⟨g, o, none⟩ = cs[o]? := by simp [World.cell?, hb]
theorem zz16_zs (q : Nat) (W : World) : ZS (W.alloc (zz16 q)) W.heap.size q (fun _ => 0) := by
  have hb : (W.alloc (zz16 q)).heap[W.heap.size]? = some (.cells (madeCells #[.bool false, .slice none 0 0] (q * 2)) 42 (0, 0)) := heap_alloc_new W _
  have hc : ∀ o, (W.alloc (zz16 q)).cell? ⟨W.heap.size, o, none⟩ = (madeCells #[Value.bool false, .slice none 0 0] (q * 2))[o]? := cell_block16 hb
  refine ⟨⟨_, hb⟩, fun o k z e => made_no16 _ o k z ((hc o).symm.trans e), fun j hj => ⟨false, none, 0, 0, (hc _).trans (made_at16 q j hj).1, (hc _).trans (made_at16 q j hj).2, ⟨num_nil _ _ _, rfl⟩⟩⟩

set_option maxHeartbeats 8000000 in
theorem kMean1_N {w0 W : World} {g gs m k : Nat} {S : Nat → Int} {x : Int} (hz : ZS W g m S) (bx : Boxed W gs 39 (.slice (some ⟨g, 0, none⟩) m m)) (hne : gs ≠ g) (hk : k < m) (hm : m ≤ 1000) (hx : I64 x) (hS : (limbs (S k).natAbs).length ≤ 2) (hB : Below w0.heap.size w0 W) (hg : w0.heap.size ≤ g) :
    Calls Tryz.prog 17 #[.int .i64 (k : Int), .int .i64 x, .pointer (some ⟨gs, 0, none⟩)] W (fun e W' => e = .returned (.tuple #[]) ∧ ZS W' g m (fun j => if j = k then S k + x else S j) ∧ Boxed W' gs 39 (.slice (some ⟨g, 0, none⟩) m m) ∧ Below w0.heap.size w0 W') := by
  have CO := fun V : World => zof_N V x hx
  have HLX := Lib.hid (len_one hx.abs)
  have HLS := Lib.hid hS
  have HG := Lib.hid hg
  have HK := Lib.hid hk
  have HNE := Lib.hid hne
  have HZ0 := Lib.hid hz
  have HB0 := Lib.hid hB
  have hgl := hz.lt
  obtain ⟨b, A, n, c, e0, e1, hZ⟩ := hz.2.2 k hk
  have s0 := bx.cell
  have jl : (k : Int) < (m : Int) := by omega
  obtain ⟨X, eX⟩ : ∃ X, S k = X := ⟨_, rfl⟩
  rw [eX] at HLS hZ ⊢
  clear hx hS hg hk hne hz hB eX
  go_enter Tryz.func17, Tryz.ntmps17
  go_upto_region 0 with fail
  have BD : Below W.heap.size W W.drew := below_drewN (Below.refl _ W) 1
  go_region_with (first | (go_at_call 19; refine (CO _).mono ?_; rintro e z1 ⟨bv, Av, nv, cv, rfl, hv, b_⟩; have b1 := BD.trans (b_.mono BD.size); have hx1 := hZ.on b1; have bx1 := boxed_up bx b1; have l1 := bx1.cell; have c0 := cK b1 e0 hgl; have c1 := cK b1 e1 hgl; have gl1 := Nat.lt_of_lt_of_le hgl b1.size; clear b_) | (go_at_call 18; refine (zadd_N hx1 hv (Nat.le_trans HLS.out (by omega)) (Nat.le_trans HLX.out (by omega))).mono ?_; rintro e z2 ⟨bu, Au, nu, cu, rfl, hu, b_⟩; have b2 := b1.trans (b_.mono b1.size); have bx2 := boxed_up bx1 b_; have l2 := bx2.cell; have d0 := cK b_ c0 gl1; have d1 := cK b_ c1 gl1; have f0 := (HZ0.out.on b2).frozen (o := k * 2); have f1 := (HZ0.out.on b2).frozen (o := k * 2 + 1); clear b_))
  all_goals have HZ2 := Lib.hid ((HZ0.out.on b2).put HK.out hu)
  all_goals have HX2 : Hid (Boxed ((z2.setCell ⟨g, k * 2, none⟩ (.bool bu)).setCell ⟨g, k * 2 + 1, none⟩ (.slice Au nu cu)) gs 39 (.slice (some ⟨g, 0, none⟩) m m)) := Lib.hid (((heap_setCell_other _ ⟨g, k * 2 + 1, none⟩ gs _ HNE.out).trans (heap_setCell_other z2 ⟨g, k * 2, none⟩ gs _ HNE.out)).trans bx2)
  all_goals have HB2 := Lib.hid (((HB0.out.trans (b2.mono HB0.out.size)).setCell (p := ⟨g, k * 2, none⟩) HG.out (.bool bu)).setCell (p := ⟨g, k * 2 + 1, none⟩) HG.out (.slice Au nu cu))
  all_goals clear bx2 b2 bx1 b1 hu hv hx1 bx hZ
  all_goals go_end0
  all_goals exact ⟨rfl, HZ2.out, HX2.out, HB2.out⟩

end Go.Proofs.YtpephogadljncaaGreat

/-
  The contract of the library's Div64, for any divisor.
-/
namespace Go.Proofs.YtpephogadljncaaGreat
set_option maxRecDepth 100000
open Go.RowKit

theorem norm64 {H L Y s : Nat} (hs : s = 64 - blen Y) (hH : H < Y) (hL : L < B64) (hY : Y < B64) :
    s < 64 ∧ Y * 2 ^ s < B64 ∧ B64 ≤ 2 * (Y * 2 ^ s) ∧ shlD H s + shrD L s < Y * 2 ^ s ∧ shlD L s < B64 ∧
    ((shlD H s + shrD L s) * B64 + shlD L s) / (Y * 2 ^ s) = (H * B64 + L) / Y ∧ ((shlD H s + shrD L s) * B64 + shlD L s) % (Y * 2 ^ s) / 2 ^ s = (H * B64 + L) % Y := by
  have h0 : Y ≠ 0 := by omega
  have b1 := blen_pos h0
  have b2 : blen Y ≤ 64 := blen_le (by rw [← B64_two]; exact hY)
  have b3 := lt_blen Y
  have b4 := blen_ge h0
  have e1 : 2 ^ blen Y * 2 ^ s = B64 := by rw [B64_two, ← Nat.pow_add]; congr 1; omega
  have e2 : 2 * (2 ^ (blen Y - 1) * 2 ^ s) = B64 := by
    rw [← e1, ← Nat.mul_assoc, Nat.mul_comm 2, ← Nat.pow_succ]; congr 3; omega
  have hp : 0 < 2 ^ s := Nat.pow_pos (by omega)
  have c1 : Y * 2 ^ s < B64 := by rw [← e1]; exact Nat.mul_lt_mul_of_pos_right b3 hp
  have c2 : B64 ≤ 2 * (Y * 2 ^ s) := by rw [← e2]; exact Nat.mul_le_mul_left _ (Nat.mul_le_mul_right _ b4)
  have c3 : H * 2 ^ s < B64 := Nat.lt_of_le_of_lt (Nat.mul_le_mul_right _ (by omega)) c1
  have c4 : shlD H s = H * 2 ^ s := Nat.mod_eq_of_lt c3
  have c5 : shlD L s + B64 * shrD L s = L * 2 ^ s := sh_split L (by omega)
  have c6 : shlD L s < B64 := Nat.mod_lt _ B64_pos
  have c7 : (shlD H s + shrD L s) * B64 + shlD L s = (H * B64 + L) * 2 ^ s := by
    rw [c4, Nat.add_mul, Nat.add_mul, ← c5]
    have : H * 2 ^ s * B64 = H * B64 * 2 ^ s := by ac_rfl
    rw [this, Nat.mul_comm (shrD L s)]
    omega
  have c8 : shlD H s + shrD L s < Y * 2 ^ s := by
    refine Nat.lt_of_mul_lt_mul_right (a := B64) ?_
    have k1 : H * B64 + L < Y * B64 := by
      have := Nat.mul_le_mul_right B64 (show H + 1 ≤ Y from hH)
      rw [Nat.add_mul] at this
      omega
    have k2 := Nat.mul_lt_mul_of_pos_right k1 hp
    have k3 : Y * 2 ^ s * B64 = Y * B64 * 2 ^ s := by ac_rfl
    rw [k3]
    omega
  refine ⟨by omega, c1, c2, c8, c6, ?_, ?_⟩
  · rw [c7, Nat.mul_div_mul_right _ _ hp]
  · rw [c7, Nat.mul_mod_mul_right, Nat.mul_div_cancel _ hp]
theorem shr_nat (n s : Nat) : ((n : Int)) / 2 ^ s = ((n / 2 ^ s : Nat) : Int) := by simp

set_option maxHeartbeats 4000000 in
theorem div64_full (H L Y : Nat) (w : World) (h0 : H ≠ 0) (hH : H < Y) (hL : L < B64) (hYB : Y < B64) :
    Calls Tryz.prog 127 #[.int .u64 (H : Int), .int .u64 (L : Int), .int .u64 (Y : Int)] w fun e w' => e = .returned (.tuple #[.int .u64 ((H * B64 + L) / Y : Nat), .int .u64 ((H * B64 + L) % Y : Nat)]) ∧ w = w' := by
  have hy0 : ((Y : Int) == 0) = false := by simp; omega
  have hle : decide (Y ≤ H) = false := by simp; omega
  have hh0 : ((H : Int) == 0) = false := by simp; omega
  obtain ⟨s, hs⟩ : ∃ s, s = 64 - blen Y := ⟨_, rfl⟩
  have hn := norm64 hs hH hL hYB
  have hc := shrD_lt (s := s) hL (by omega)
  have hor := or_shl H (s := s) (c := shrD L s) (by omega) hc
  have CL : Calls Tryz.prog 98 #[.int .u64 (Y : Int)] w fun e w' => e = .returned (.int .i64 (s : Int)) ∧ w = w' := by rw [hs]; exact lead_any Y w hYB
  obtain ⟨y, hyd⟩ : ∃ y, y = Y * 2 ^ s := ⟨_, rfl⟩
  obtain ⟨hi, hhd⟩ : ∃ hi, hi = shlD H s + shrD L s := ⟨_, rfl⟩
  obtain ⟨lo, hld⟩ : ∃ lo, lo = shlD L s := ⟨_, rfl⟩
  obtain ⟨t, htd⟩ : ∃ t, t = 64 - s := ⟨_, rfl⟩
  obtain ⟨c, hcd⟩ : ∃ c, c = shrD L s := ⟨_, rfl⟩
  rw [← hyd, ← hhd, ← hld] at hn
  rw [← hhd, ← hcd] at hor
  obtain ⟨hs64, hy, ht, hhi, hlo, hdiv, hmod⟩ := hn
  rw [← hdiv, ← hmod]
  have HN := Lib.hid (show y = Y * 2 ^ s from hyd)
  have as1 : IntKind.u64.wrap (s : Int) = (s : Int) := by rw [IntKind.wrap_u64]; omega
  have as2 : IntKind.u64.wrap (64 - (s : Int)) = (t : Int) := by rw [IntKind.wrap_u64, htd]; omega
  have as3 : IntKind.u64.wrap ((Y : Int) * 2 ^ s) = (y : Int) := by
    have : ((Y : Int) * 2 ^ s) = ((Y * 2 ^ s : Nat) : Int) := by simp
    rw [this, ← hyd]; exact wrap_nat hy
  have as4 : IntKind.u64.wrap ((L : Int) * 2 ^ s) = (lo : Int) := by
    rw [hld, IntKind.wrap_u64, show (18446744073709551616 : Int) = (B64 : Int) from rfl]
    unfold shlD
    simp
  have am : min t 64 = t := by omega
  have as5 : (L : Int) / 2 ^ t = (c : Int) := by rw [htd, hcd]; exact shr_eq L s
  clear hs hcd hhd hld hyd htd hc hdiv hmod hH hL
  have HS := Lib.hid hs64
  obtain ⟨y1, hy1⟩ : ∃ y1, y1 = hiH y := ⟨_, rfl⟩
  obtain ⟨y0, hyl⟩ : ∃ y0, y0 = loH y := ⟨_, rfl⟩
  obtain ⟨l1, hl1⟩ : ∃ l1, l1 = hiH lo := ⟨_, rfl⟩
  obtain ⟨l0, hll⟩ : ∃ l0, l0 = loH lo := ⟨_, rfl⟩
  have a2 : (y : Int) / 4294967296 = (y1 : Int) := by rw [hy1]; unfold hiH H32; omega
  have a3 : bits .and .u64 (y : Int) 4294967295 = (y0 : Int) := by rw [u64_and32, hyl]; unfold loH H32; omega
  have a5 : (lo : Int) / 4294967296 = (l1 : Int) := by rw [hl1]; unfold hiH H32; omega
  have a6 : bits .and .u64 (lo : Int) 4294967295 = (l0 : Int) := by rw [u64_and32, hll]; unfold loH H32; omega
  have hY := Half.start (u := hi) (y := y) (y1 := y1) (y0 := y0) (d := l1) (by rw [hy1, hyl]; unfold hiH loH; rw [Nat.mul_comm]; exact (Nat.div_add_mod y H32).symm) (by rw [hyl]; exact loH_lt y) (by rw [hy1]; exact hiH_lt hy)
    (by rw [hy1]; unfold hiH H32; unfold B64 at ht; omega) hhi (by rw [hl1]; exact hiH_lt hlo)
  have b1 : ¬ y1 = 0 := by have := hY.top; unfold H32 at this; omega
  have hr := Half.r_lt (u := hi) hY.top
  obtain ⟨q, hq⟩ : ∃ q, q = hi / y1 := ⟨_, rfl⟩
  obtain ⟨r, hr'⟩ : ∃ r, r = hi % y1 := ⟨_, rfl⟩
  rw [← hq, ← hr'] at hY
  rw [← hr'] at hr
  have a10 : IntKind.u64.wrap ((hi : Int) / (y1 : Int)) = (q : Int) := by
    rw [hq, IntKind.wrap_u64]
    have h1 : hi / y1 ≤ hi := Nat.div_le_self _ _
    have h2 : ((hi / y1 : Nat) : Int) = (hi : Int) / (y1 : Int) := by simp
    rw [← h2]
    unfold B64 at hy
    omega
  have a11 : IntKind.u64.wrap ((hi : Int) - IntKind.u64.wrap ((q : Int) * (y1 : Int))) = (r : Int) := by
    have h1 := hY.hq
    have h2 : ((q * y1 : Nat) : Int) = (q : Int) * (y1 : Int) := by simp
    rw [← h2, IntKind.wrap_u64, IntKind.wrap_u64]
    unfold B64 at hy
    omega
  have HQ := Lib.hid hq
  have HR := Lib.hid hr'
  have HY1 := Lib.hid hy1
  have HYL := Lib.hid hyl
  have HL1 := Lib.hid hl1
  have HLL := Lib.hid hll
  have HYY := Lib.hid hY
  clear hq hr' hy1 hyl hl1 hll hY
  go_enter Tryz.func127, Tryz.ntmps127
  go_upto_block 0 with (go_at_call 98; refine CL.mono ?_; rintro e w' ⟨rfl, rfl⟩)
  go_cut [15] (fun qv wx => ∃ q : Nat, qv = .int .u64 (q : Int) ∧ q < H32 ∧ Hid (q = (hi * H32 + l1) / y) ∧ w = wx)
  case first =>
    go_wp2_with fail
    go_loop [15, 16] (fun qv rv => ∃ q r : Nat, qv = .int .u64 (q : Int) ∧ rv = .int .u64 (r : Int) ∧ Half hi y y1 y0 l1 q r ∧ r < H32) (fun qv _ => (intOf qv).toNat)
    case atStart => exact ⟨q, r, rfl, rfl, HYY.out, by have := HYY.out.h1; omega⟩
    case round =>
      obtain ⟨q, r, rfl, rfl, hH, hr32⟩ := hrel
      have hq2 := hH.q_le
      have hd32 := hH.hd
      have hy32 := hH.h1
      obtain ⟨m1, hm1⟩ : ∃ m1, m1 = q * y0 := ⟨_, rfl⟩
      obtain ⟨m2, hm2⟩ : ∃ m2, m2 = H32 * r + l1 := ⟨_, rfl⟩
      have c4 : IntKind.u64.wrap (IntKind.u64.wrap (4294967296 * (r : Int)) + (l1 : Int)) = (m2 : Int) := by rw [hm2]; exact wrap_fit hr32 hd32
      by_cases hb : tooBig q y0 r l1
      · have hH' := hH.step hb
        have hpos := (hH.pos hb).2
        have hask := hH.ask hb hm1 hm2
        obtain ⟨q', hq'⟩ : ∃ q', q' = q - 1 := ⟨_, rfl⟩
        obtain ⟨r', hr'⟩ : ∃ r', r' = r + y1 := ⟨_, rfl⟩
        rw [← hq', ← hr'] at hH'
        have c1 : IntKind.u64.wrap ((q : Int) - 1) = (q' : Int) := by
          rw [IntKind.wrap_u64]; unfold H32 at hq2; omega
        have c2 : IntKind.u64.wrap ((r : Int) + (y1 : Int)) = (r' : Int) := by
          rw [IntKind.wrap_u64]; unfold H32 at hr32 hy32; omega
        have hlt : q' < q := by omega
        have HH := Lib.hid hH'
        clear hH' hH hb hm1 hm2 hq' hr' hpos hq2 hd32 hy32
        by_cases hx : H32 ≤ r'
        · have g2 : (4294967296 : Int) ≤ (r' : Int) := by unfold H32 at hx; omega
          have hfin := HH.out.fin (.inl hx)
          have HF := Lib.hid hfin
          clear hfin hx
          rcases hask with g1 | ⟨g1, c3, g3⟩
          all_goals
            go_wp2_with fail
            go_meet
            exact ⟨q', rfl, HF.out.2, Lib.hid HF.out.1, rfl⟩
        · have g2 : ¬ (4294967296 : Int) ≤ (r' : Int) := by unfold H32 at hx; omega
          have hr3 : r' < H32 := by omega
          clear hx
          rcases hask with g1 | ⟨g1, c3, g3⟩
          all_goals
            go_wp2_with fail
            go_round
            case rel => exact ⟨q', r', rfl, rfl, HH.out, hr3⟩
            case measure => simp [intOf]; omega
      · have hfin := hH.fin (.inr hb)
        obtain ⟨g1, c3, g3⟩ := hH.ask_no hb hm1 hm2
        have HF := Lib.hid hfin
        clear hfin hH hb hm1 hm2 hq2 hd32 hy32
        go_wp2_with fail
        go_meet
        exact ⟨q, rfl, HF.out.2, Lib.hid HF.out.1, rfl⟩
  case rest =>
    obtain ⟨q1, rfl, hq1, HQ1, rfl⟩ := hcut
    obtain ⟨u, hu⟩ : ∃ u, u = (hi * H32 + l1) % y := ⟨_, rfl⟩
    have hy0' : 0 < y := by omega
    have huy : u < y := by rw [hu]; exact Nat.mod_lt _ hy0'
    have d1 : IntKind.u64.wrap (IntKind.u64.wrap (IntKind.u64.wrap ((hi : Int) * 4294967296) + (l1 : Int)) - IntKind.u64.wrap ((q1 : Int) * (y : Int))) = (u : Int) := by
      have e : u + y * q1 = hi * H32 + l1 := by rw [hu, HQ1.out]; exact Nat.mod_add_div _ _
      have e2 : ((q1 : Int) * (y : Int)) = ((y * q1 : Nat) : Int) := by rw [Nat.mul_comm]; simp
      rw [e2, IntKind.wrap_u64, IntKind.wrap_u64, IntKind.wrap_u64, IntKind.wrap_u64]
      generalize y * q1 = z at *
      unfold H32 at e
      unfold B64 at hy
      omega
    have hY := Half.start (u := u) (d := l0) HYY.out.hy HYY.out.h0 HYY.out.h1 HYY.out.top huy (by rw [HLL.out]; exact loH_lt lo)
    have hr2 := Half.r_lt (u := u) hY.top
    obtain ⟨q2, hq2⟩ : ∃ q, q = u / y1 := ⟨_, rfl⟩
    obtain ⟨r2, hr2'⟩ : ∃ r, r = u % y1 := ⟨_, rfl⟩
    rw [← hq2, ← hr2'] at hY
    rw [← hr2'] at hr2
    have d2 : IntKind.u64.wrap ((u : Int) / (y1 : Int)) = (q2 : Int) := by
      rw [hq2, IntKind.wrap_u64]
      have h1 : u / y1 ≤ u := Nat.div_le_self _ _
      have h2 : ((u / y1 : Nat) : Int) = (u : Int) / (y1 : Int) := by simp
      rw [← h2]
      unfold B64 at hy
      omega
    have d3 : IntKind.u64.wrap ((u : Int) - IntKind.u64.wrap ((q2 : Int) * (y1 : Int))) = (r2 : Int) := by
      have h1 := hY.hq
      have h2 : ((q2 * y1 : Nat) : Int) = (q2 : Int) * (y1 : Int) := by simp
      rw [← h2, IntKind.wrap_u64, IntKind.wrap_u64]
      unfold B64 at hy
      omega
    have HU := Lib.hid hu
    have HZ := Lib.hid hY
    clear hu hY hq2 hr2'
    go_upto_block 2 with fail
    go_cut [18] (fun qv wx => ∃ q : Nat, qv = .int .u64 (q : Int) ∧ q < H32 ∧ Hid (q = (u * H32 + l0) / y) ∧ w = wx)
    case first =>
      go_wp2_with fail
      go_loop [18, 16] (fun qv rv => ∃ q r : Nat, qv = .int .u64 (q : Int) ∧ rv = .int .u64 (r : Int) ∧ Half u y y1 y0 l0 q r ∧ r < H32) (fun qv _ => (intOf qv).toNat)
      case atStart => exact ⟨q2, r2, rfl, rfl, HZ.out, by have := HZ.out.h1; omega⟩
      case round =>
        obtain ⟨q, r, rfl, rfl, hH, hr32⟩ := hrel
        have hq2 := hH.q_le
        have hd32 := hH.hd
        have hy32 := hH.h1
        obtain ⟨m1, hm1⟩ : ∃ m1, m1 = q * y0 := ⟨_, rfl⟩
        obtain ⟨m2, hm2⟩ : ∃ m2, m2 = H32 * r + l0 := ⟨_, rfl⟩
        have c4 : IntKind.u64.wrap (IntKind.u64.wrap (4294967296 * (r : Int)) + (l0 : Int)) = (m2 : Int) := by rw [hm2]; exact wrap_fit hr32 hd32
        by_cases hb : tooBig q y0 r l0
        · have hH' := hH.step hb
          have hpos := (hH.pos hb).2
          have hask := hH.ask hb hm1 hm2
          obtain ⟨q', hq'⟩ : ∃ q', q' = q - 1 := ⟨_, rfl⟩
          obtain ⟨r', hr'⟩ : ∃ r', r' = r + y1 := ⟨_, rfl⟩
          rw [← hq', ← hr'] at hH'
          have c1 : IntKind.u64.wrap ((q : Int) - 1) = (q' : Int) := by
            rw [IntKind.wrap_u64]; unfold H32 at hq2; omega
          have c2 : IntKind.u64.wrap ((r : Int) + (y1 : Int)) = (r' : Int) := by
            rw [IntKind.wrap_u64]; unfold H32 at hr32 hy32; omega
          have hlt : q' < q := by omega
          have HH := Lib.hid hH'
          clear hH' hH hb hm1 hm2 hq' hr' hpos hq2 hd32 hy32
          by_cases hx : H32 ≤ r'
          · have g2 : (4294967296 : Int) ≤ (r' : Int) := by unfold H32 at hx; omega
            have hfin := HH.out.fin (.inl hx)
            have HF := Lib.hid hfin
            clear hfin hx
            rcases hask with g1 | ⟨g1, c3, g3⟩
            all_goals
              go_wp2_with fail
              go_meet
              exact ⟨q', rfl, HF.out.2, Lib.hid HF.out.1, rfl⟩
          · have g2 : ¬ (4294967296 : Int) ≤ (r' : Int) := by unfold H32 at hx; omega
            have hr3 : r' < H32 := by omega
            clear hx
            rcases hask with g1 | ⟨g1, c3, g3⟩
            all_goals
              go_wp2_with fail
              go_round
              case rel => exact ⟨q', r', rfl, rfl, HH.out, hr3⟩
              case measure => simp [intOf]; omega
        · have hfin := hH.fin (.inr hb)
          obtain ⟨g1, c3, g3⟩ := hH.ask_no hb hm1 hm2
          have HF := Lib.hid hfin
          clear hfin hH hb hm1 hm2 hq2 hd32 hy32
          go_wp2_with fail
          go_meet
          exact ⟨q, rfl, HF.out.2, Lib.hid HF.out.1, rfl⟩
    case rest =>
      obtain ⟨q0, rfl, hq0, HQ0, rfl⟩ := hcut
      have hB := both_halves (hi := hi) (l1 := l1) (l0 := l0) hy0' HQ1.out HU.out HQ0.out
      have hlo2 : l1 * H32 + l0 = lo := by rw [HL1.out, HLL.out]; unfold hiH loH; rw [Nat.mul_comm]; exact Nat.div_add_mod lo H32
      rw [hlo2] at hB
      have e1 : IntKind.u64.wrap (IntKind.u64.wrap ((q1 : Int) * 4294967296) + (q0 : Int)) = ((q1 * H32 + q0 : Nat) : Int) := by
        rw [IntKind.wrap_u64, IntKind.wrap_u64]
        unfold H32 at hq1 hq0 ⊢
        omega
      have e2 : IntKind.u64.wrap (IntKind.u64.wrap (IntKind.u64.wrap ((u : Int) * 4294967296) + (l0 : Int)) - IntKind.u64.wrap ((q0 : Int) * (y : Int))) = (((u * H32 + l0) % y : Nat) : Int) := by
        have e : (u * H32 + l0) % y + y * q0 = u * H32 + l0 := by rw [HQ0.out]; exact Nat.mod_add_div _ _
        have hlt : (u * H32 + l0) % y < y := Nat.mod_lt _ hy0'
        have e2 : ((q0 : Int) * (y : Int)) = ((y * q0 : Nat) : Int) := by rw [Nat.mul_comm]; simp
        rw [e2, IntKind.wrap_u64, IntKind.wrap_u64, IntKind.wrap_u64, IntKind.wrap_u64]
        generalize y * q0 = z at *
        generalize (u * H32 + l0) % y = v at *
        unfold H32 at e
        unfold B64 at hy
        omega
      have HB := Lib.hid hB
      have E1 := Lib.hid e1
      have E2 := Lib.hid e2
      clear hB hlo2 e1 e2
      go_wp2_with fail
      go_ret2
      refine ⟨ret_two ?_ ?_, rfl⟩
      · rw [E1.out, HB.out.1]
      · rw [← HB.out.2, ← shr_nat, ← E2.out]

theorem div64_N (H L Y : Nat) (w : World) (hH : H < Y) (hL : L < B64) (hY : Y < B64) :
    Calls Tryz.prog 127 #[.int .u64 (H : Int), .int .u64 (L : Int), .int .u64 (Y : Int)] w fun e w' => e = .returned (.tuple #[.int .u64 ((H * B64 + L) / Y : Nat), .int .u64 ((H * B64 + L) % Y : Nat)]) ∧ ∃ n, w' = w.drewN n := by
  by_cases h0 : H = 0
  · subst h0
    rw [Nat.zero_mul, Nat.zero_add]
    exact div64_zero L Y w hL hH
  · refine (div64_full H L Y w h0 hH hL hY).mono ?_
    rintro e w' ⟨rfl, rfl⟩
    exact ⟨rfl, 0, rfl⟩
end Go.Proofs.YtpephogadljncaaGreat

/-
  The contracts of the landed fix: size, isFrac, product, plus, mantissa.
-/
namespace Go.Proofs.YtpephogadljncaaGreat
set_option maxRecDepth 100000
set_option maxHeartbeats 8000000
open Go.RowKit
set_option linter.unusedVariables false
set_option linter.unusedSimpArgs false




theorem isf_0 (w : World) {j : Int} (h : j < 0) :
    Calls Tryz.prog 80 #[.int .i64 j] w (GotV w (.bool false)) := by
  have t1 : decide (0 ≤ j) = false := decide_eq_false (by omega)
  go_enter Tryz.func80, Tryz.ntmps80
  go_wp2_with fail
  go_ret
  exact ⟨rfl, Below.refl _ _⟩

theorem isf_1 (w : World) {j : Int} (h0 : 0 ≤ j) (h1 : 40 < j) :
    Calls Tryz.prog 80 #[.int .i64 j] w (GotV w (.bool false)) := by
  have t1 : decide (0 ≤ j) = true := decide_eq_true h0
  have t2 : decide (j ≤ 40) = false := decide_eq_false (by omega)
  go_enter Tryz.func80, Tryz.ntmps80
  go_wp2_with fail
  go_ret
  exact ⟨rfl, Below.refl _ _⟩

theorem isf_2 (w : World) {j : Int} (h0 : 0 ≤ j) (h1 : j ≤ 40) :
    Calls Tryz.prog 80 #[.int .i64 j] w (GotV w (.bool true)) := by
  have t1 : decide (0 ≤ j) = true := decide_eq_true h0
  have t2 : decide (j ≤ 40) = true := decide_eq_true (by omega)
  go_enter Tryz.func80, Tryz.ntmps80
  go_wp2_with fail
  go_ret
  exact ⟨rfl, Below.refl _ _⟩

theorem isf_no (w : World) {j : Int} (h : j < 0 ∨ 40 < j) :
    Calls Tryz.prog 80 #[.int .i64 j] w (GotV w (.bool false)) := by
  by_cases h0 : 0 ≤ j
  · exact isf_1 w h0 (by omega)
  · exact isf_0 w (by omega)



theorem mant_yes {w : World} {b : Bool} {A : Option Addr} {n c : Nat} {z : Int} (hz : Zn w b A n c z) (hx : (limbs z.natAbs).length ≤ 300) (hi : I64 z) :
    Calls Tryz.prog 82 #[.agg #[.bool b, .slice A n c]] w (GotV w (.tuple #[.int .i64 (z), .int .i64 (0)])) := by
  have cc := Below.refl w.heap.size w
  go_enter Tryz.func82, Tryz.ntmps82
  go_wp2_with fail
  generalize hv_ : w.alloc (.cells #[.bool b, .slice A n c] 42) = v1
  have bA : Below w.heap.size w v1 := by rw [← hv_]; exact ((Below.refl _ w).alloc (by simp) _)
  replace hz := hz.on bA
  replace cc := bK cc bA
  clear bA
  obtain ⟨ka0, ka1⟩ : Cs2 v1 w.heap.size (.bool b) (.slice A n c) := by simp [Cs2, ← hv_, go_sem]
  have kal : w.heap.size < v1.heap.size := by simp [← hv_] <;> omega
  clear hv_
  refine (zint_yes hz hi).mono ?_
  rintro e w2 ⟨rfl, b⟩
  replace hz := hz.on b
  rewrite [cR b kal] at ka0 ka1
  replace kal := lK b kal
  replace cc := bK cc b
  clear b
  go_wp2_with fail
  go_ret2
  exact ⟨rfl, cc⟩

theorem mant_no {w : World} {b : Bool} {A : Option Addr} {n c : Nat} {z : Int} (hz : Zn w b A n c z) (hx : (limbs z.natAbs).length ≤ 300) (hi : ¬ I64 z) :
    Calls Tryz.prog 82 #[.agg #[.bool b, .slice A n c]] w (GotV w (.tuple #[.int .i64 (0), .int .i64 (2)])) := by
  have cc := Below.refl w.heap.size w
  go_enter Tryz.func82, Tryz.ntmps82
  go_wp2_with fail
  generalize hv_ : w.alloc (.cells #[.bool b, .slice A n c] 42) = v1
  have bA : Below w.heap.size w v1 := by rw [← hv_]; exact ((Below.refl _ w).alloc (by simp) _)
  replace hz := hz.on bA
  replace cc := bK cc bA
  clear bA
  obtain ⟨ka0, ka1⟩ : Cs2 v1 w.heap.size (.bool b) (.slice A n c) := by simp [Cs2, ← hv_, go_sem]
  have kal : w.heap.size < v1.heap.size := by simp [← hv_] <;> omega
  clear hv_
  refine (zint_no hz hx hi).mono ?_
  rintro e w2 ⟨rfl, b⟩
  replace hz := hz.on b
  rewrite [cR b kal] at ka0 ka1
  replace kal := lK b kal
  replace cc := bK cc b
  clear b
  go_wp2_with fail
  go_ret2
  exact ⟨rfl, cc⟩

theorem mant_N {w : World} {b : Bool} {A : Option Addr} {n c : Nat} {z : Int} (hz : Zn w b A n c z) (hx : (limbs z.natAbs).length ≤ 300) :
    Calls Tryz.prog 82 #[.agg #[.bool b, .slice A n c]] w (GotV w (.tuple #[.int .i64 (nI (z)), .int .i64 (nE (z))])) := by
  by_cases hi : I64 z
  · rw [(nI_yes hi).1, (nI_yes hi).2]; exact mant_yes hz hx hi
  · rw [(nI_no hi).1, (nI_no hi).2]; exact mant_no hz hx hi

end Go.Proofs.YtpephogadljncaaGreat

/-
  The contract of the landed fix: nearest.
-/
namespace Go.Proofs.YtpephogadljncaaGreat
open Go.RowKit
set_option linter.unusedVariables false
set_option linter.unusedSimpArgs false

theorem near_parts {X d : Nat} (hd : 0 < d) : ∃ T r k, X / d = T ∧ X % d = r ∧ T * d + r = X ∧ r < d ∧ (X + d / 2) / d = T + k ∧ ((r + d / 2 < d ∧ k = 0) ∨ (d ≤ r + d / 2 ∧ k = 1)) := by
  have h1 := Nat.div_add_mod X d
  have h2 := Nat.mod_lt X hd
  have h3 : (X + d / 2) / d = X / d + (X % d + d / 2) / d := by
    have : X + d / 2 = d * (X / d) + (X % d + d / 2) := by omega
    rw [this, Nat.mul_add_div hd]
  refine ⟨X / d, X % d, (X % d + d / 2) / d, rfl, rfl, by rw [Nat.mul_comm]; exact h1, h2, h3, ?_⟩
  rcases Nat.lt_or_ge (X % d + d / 2) d with h | h
  · exact .inl ⟨h, Nat.div_eq_of_lt h⟩
  · exact .inr ⟨h, Nat.div_eq_of_lt_le (by omega) (by omega)⟩
theorem near_odd {X d : Nat} (hd : 0 < d) (p : d % 2 = 1) : (((X + d / 2) / d : Nat) : Int) = rn (X : Int) d := by
  obtain ⟨T, r, k, e1, e2, e3, h2, e4, h5⟩ := near_parts (X := X) hd
  rw [rn_nat X d (by omega), e4, e1]
  unfold fars
  rw [e1, e2]
  rcases h5 with ⟨h5, rfl⟩ | ⟨h5, rfl⟩
  · have f1 : ¬ d < r + r := by omega
    have f2 : ¬ r + r = d := by omega
    simp [f1, f2]
  · have f1 : d < r + r := by omega
    simp [f1]
theorem near_ne {X d : Nat} (hd : 0 < d) (p : d % 2 = 0) (hne : (X + d / 2) / d * d ≠ X + d / 2) : (((X + d / 2) / d : Nat) : Int) = rn (X : Int) d := by
  obtain ⟨T, r, k, e1, e2, e3, h2, e4, h5⟩ := near_parts (X := X) hd
  rw [rn_nat X d (by omega), e4, e1]
  rw [e4, Nat.add_mul] at hne
  unfold fars
  rw [e1, e2]
  rcases h5 with ⟨h5, rfl⟩ | ⟨h5, rfl⟩
  · have f1 : ¬ d < r + r := by omega
    have f2 : ¬ r + r = d := by omega
    simp [f1, f2]
  · have f1 : d < r + r := by omega
    simp [f1]
theorem near_eq {X d : Nat} (hd : 0 < d) (p : d % 2 = 0) (he : (X + d / 2) / d * d = X + d / 2) : (((X + d / 2) / d - (X + d / 2) / d % 2 : Nat) : Int) = rn (X : Int) d := by
  obtain ⟨T, r, k, e1, e2, e3, h2, e4, h5⟩ := near_parts (X := X) hd
  rw [rn_nat X d (by omega), e4, e1]
  rw [e4, Nat.add_mul] at he
  unfold fars
  rw [e1, e2]
  rcases h5 with ⟨h5, rfl⟩ | ⟨h5, rfl⟩
  · omega
  · have f1 : ¬ d < r + r := by omega
    have f2 : r + r = d := by omega
    by_cases hT : T % 2 = 1
    · simp [f1, f2, hT]; omega
    · simp [f1, f2, hT]; omega
theorem near_least {X d : Nat} (hd : 0 < d) : (((X + d / 2) / d : Nat) : Int) - 1 ≤ rn (X : Int) d := by
  by_cases p : d % 2 = 1
  · rw [near_odd hd p]; omega
  · by_cases he : (X + d / 2) / d * d = X + d / 2
    · rw [← near_eq hd (by omega) he]; omega
    · rw [near_ne hd (by omega) he]; omega
theorem rn_sgn (b : Bool) (X : Nat) {d : Nat} (hd : d ≠ 0) : rn (sgn b X) d = if b then -rn (X : Int) d else rn (X : Int) d := by
  cases b
  · rfl
  · exact rn_neg (X : Int) hd
theorem near_far {b : Bool} {X d : Nat} (hd : 0 < d) (h : d * B64 ≤ X + d / 2) : ¬ I64 (rn (sgn b X) d) := by
  have h1 : B64 ≤ (X + d / 2) / d := (Nat.le_div_iff_mul_le hd).2 (by rw [Nat.mul_comm]; exact h)
  have h2 := near_least (X := X) hd
  have h3 : (18446744073709551616 : Int) ≤ (((X + d / 2) / d : Nat) : Int) := by unfold B64 at h1; omega
  rw [rn_sgn b X (by omega)]
  unfold I64
  cases b <;> simp <;> omega
theorem plus_val {l h m : Nat} : (h + sumHi l m 0) * B64 + sumLo l m 0 = l + B64 * h + m := by
  unfold sumHi sumLo
  have h1 := Nat.div_add_mod (l + m + 0) B64
  rw [Nat.add_mul, Nat.mul_comm h, Nat.mul_comm ((l + m + 0) / B64)]
  omega
theorem limbs_eq {t d lo hi : Nat} (hlo : lo < B64) : (mulLo t d = lo ∧ mulHi t d = hi) ↔ t * d = hi * B64 + lo := by
  unfold mulLo mulHi
  have h1 := Nat.div_add_mod (t * d) B64
  constructor
  · rintro ⟨a, b⟩
    rw [a, b, Nat.mul_comm] at h1
    exact h1.symm
  · intro h
    rw [h]
    refine ⟨?_, ?_⟩
    · rw [Nat.add_comm, Nat.add_mul_mod_self_right, Nat.mod_eq_of_lt hlo]
    · rw [Nat.add_comm, Nat.add_mul_div_right _ _ B64_pos, Nat.div_eq_of_lt hlo, Nat.zero_add]
theorem zn_less {w : World} {A : Option Addr} {n c q : Nat} (h : Num w A n c q) (hq : 0 < q) : Zn w true A n c (-(q : Int)) := ⟨by rw [Int.natAbs_neg, Int.natAbs_natCast]; exact h, by simp; omega⟩
theorem got_drewn {w : World} {v : Value} {e : Ending} {w' : World} (h : e = .returned v ∧ ∃ n, w' = w.drewN n) : GotV w v e w' := by
  obtain ⟨rfl, n, rfl⟩ := h
  exact ⟨rfl, below_drewN (Below.refl _ _) n⟩

end Go.Proofs.YtpephogadljncaaGreat

/-
  The contract of the landed fix: nearest, whole.
-/
namespace Go.Proofs.YtpephogadljncaaGreat
open Go.RowKit
set_option linter.unusedVariables false
set_option linter.unusedSimpArgs false

theorem wrap_half8 {d : Nat} (hd : d < B64) : IntKind.u64.wrap ((d : Int) / 2) = ((d / 2 : Nat) : Int) := by
  rw [IntKind.wrap_u64]; unfold B64 at hd; omega
theorem mul_limbs (x y : Nat) : mulLo x y + B64 * mulHi x y = x * y := by
  unfold mulLo mulHi
  rw [Nat.add_comm]
  exact Nat.div_add_mod _ _
theorem hi_small {x y : Nat} (hx : x ≤ 9223372036854775808) (hy : y ≤ 9223372036854775808) : mulHi x y + 1 < B64 := by
  have h1 : x * y ≤ 9223372036854775808 * 9223372036854775808 := Nat.mul_le_mul hx hy
  have h2 : mulHi x y ≤ 9223372036854775808 * 9223372036854775808 / B64 := Nat.div_le_div_right h1
  have h3 : (9223372036854775808 * 9223372036854775808 : Nat) / B64 ≤ 4611686018427387904 := by unfold B64; decide
  have h4 : B64 = 18446744073709551616 := rfl
  omega
theorem i64_size {a : Int} (h : I64 a) : a.natAbs ≤ 9223372036854775808 := by unfold I64 at h; omega
theorem pow_size {k : Nat} (h : k ≤ 40) : 2 ^ k ≤ 1099511627776 := Nat.le_trans (Nat.pow_le_pow_right (by omega) h) (by decide)


end Go.Proofs.YtpephogadljncaaGreat

/-
  The contracts of the landed fix: Add, Sub.
-/
namespace Go.Proofs.YtpephogadljncaaGreat
open Go.RowKit
set_option linter.unusedVariables false
set_option linter.unusedSimpArgs false







end Go.Proofs.YtpephogadljncaaGreat

/-
  The contracts of the landed fix: Mul, Div, Scale.
-/
namespace Go.Proofs.YtpephogadljncaaGreat
open Go.RowKit
set_option linter.unusedVariables false
set_option linter.unusedSimpArgs false

theorem sgn_prod {a b : Int} {n : Bool} (hn : (decide (a < 0) != decide (b < 0)) = n) : sgn n (a.natAbs * b.natAbs) = a * b := by rw [← hn]; exact sgn_mul rfl rfl
theorem sgn_quot {a b : Int} {n : Bool} (k : Nat) (hn : (decide (a < 0) != decide (b < 0)) = n) (hb : b ≠ 0) : sgn n (a.natAbs * 2 ^ k) = b.sign * (a * ((2 ^ k : Nat) : Int)) := by
  have h1 : b.sign * (a * ((2 ^ k : Nat) : Int)) = (a * b.sign) * ((2 ^ k : Nat) : Int) := by rw [← Int.mul_assoc, Int.mul_comm b.sign]
  rw [h1, ← hn]
  obtain ⟨o, eo⟩ : ∃ o : Nat, 2 ^ k = o := ⟨_, rfl⟩
  rw [eo]
  rcases Int.lt_trichotomy b 0 with h | h | h
  · rw [Int.sign_eq_neg_one_of_neg h]
    by_cases ha : a < 0
    · have e : a * -1 = (a.natAbs : Int) := by omega
      rw [e]; unfold sgn; simp [ha, h]
    · have e : a * -1 = -(a.natAbs : Int) := by omega
      rw [e, Int.neg_mul]; unfold sgn; simp [ha, h]
  · exact absurd h hb
  · rw [Int.sign_eq_one_of_pos h, Int.mul_one]
    have h' : ¬ b < 0 := by omega
    by_cases ha : a < 0
    · have e : a = -(a.natAbs : Int) := by omega
      have e2 : a * (o : Int) = -((a.natAbs * o : Nat) : Int) := by rw [Int.natCast_mul, ← Int.neg_mul, ← e]
      rw [e2]; unfold sgn; simp [ha, h']
    · have e : a = (a.natAbs : Int) := by omega
      have e2 : a * (o : Int) = ((a.natAbs * o : Nat) : Int) := by rw [Int.natCast_mul, ← e]
      rw [e2]; unfold sgn; simp [ha, h']








end Go.Proofs.YtpephogadljncaaGreat

/-
  Spans: values, boxes, what is answered.
-/
namespace Go.Proofs.YtpephogadljncaaGreat
open Go.RowKit
set_option linter.unusedVariables false
set_option linter.unusedSimpArgs false

/-- A span: both ends. -/
def St (w : World) (b : Bool) (A : Option Addr) (n c : Nat) (B : Option Addr) (m d : Nat) (v : Bool) (V : Option Addr) (r k : Nat) (U : Option Addr) (o q : Nat) (x y : Rat) : Prop := Rt w b A n c B m d x ∧ Rt w v V r k U o q y
/-- A call has answered a span; and one with a code. -/
def GotSt (w : World) (x y : Rat) (e : Ending) (w' : World) : Prop := ∃ b A n c B m d v V r k U o q, e = .returned (.agg #[.bool b, .slice A n c, .slice B m d, .bool v, .slice V r k, .slice U o q]) ∧ St w' b A n c B m d v V r k U o q x y ∧ Below w.heap.size w w'
def GotSp (w : World) (x y : Rat) (z : Int) (e : Ending) (w' : World) : Prop := ∃ b A n c B m d v V r k U o q, e = .returned (.tuple #[.agg #[.bool b, .slice A n c, .slice B m d, .bool v, .slice V r k, .slice U o q], .int .i64 z]) ∧ St w' b A n c B m d v V r k U o q x y ∧ Below w.heap.size w w'
/-- A box of six cells, none of which is a digit. -/
def Held (W : World) (g : Nat) : Prop := ∀ i, i < 6 → ∃ u, W.cell? ⟨g, i, none⟩ = some u ∧ ∀ k n, u ≠ .int k n
theorem held6 {W : World} {g : Nat} {b v : Bool} {A B V U : Option Addr} {n c m d r k o q : Nat} (h0 : W.cell? ⟨g, 0, none⟩ = some (.bool b)) (h1 : W.cell? ⟨g, 1, none⟩ = some (.slice A n c)) (h2 : W.cell? ⟨g, 2, none⟩ = some (.slice B m d)) (h3 : W.cell? ⟨g, 3, none⟩ = some (.bool v)) (h4 : W.cell? ⟨g, 4, none⟩ = some (.slice V r k)) (h5 : W.cell? ⟨g, 5, none⟩ = some (.slice U o q)) : Held W g := by
  intro i hi
  match i, hi with
  | 0, _ => exact ⟨_, h0, fun _ _ e => by cases e⟩
  | 1, _ => exact ⟨_, h1, fun _ _ e => by cases e⟩
  | 2, _ => exact ⟨_, h2, fun _ _ e => by cases e⟩
  | 3, _ => exact ⟨_, h3, fun _ _ e => by cases e⟩
  | 4, _ => exact ⟨_, h4, fun _ _ e => by cases e⟩
  | 5, _ => exact ⟨_, h5, fun _ _ e => by cases e⟩
theorem Held.set {W : World} {g j : Nat} {v : Value} (h : Held W g) (hj : j < 6) (hv : ∀ k n, v ≠ .int k n) : Held (W.setCell ⟨g, j, none⟩ v) g := by
  intro i hi
  obtain ⟨u, h1, h2⟩ := h i hi
  by_cases e : j = i
  · subst e
    exact ⟨v, World.cell?_setCell_same _ _ _ h1, hv⟩
  · exact ⟨u, (World.cell?_setCell_other _ _ _ _ (addr_ne e)).trans h1, h2⟩
theorem Num.held {W : World} {g j : Nat} {v : Value} {A : Option Addr} {n c x : Nat} (hn : Num W A n c x) (h : Held W g) (hj : j < 6) : Num (W.setCell ⟨g, j, none⟩ v) A n c x := by
  obtain ⟨u, h1, h2⟩ := h j hj
  exact hn.set_other h1 h2
/-- All six cells are written. -/
@[reducible] def putS (W : World) (g : Nat) (a b c d e f : Value) : World := (((((W.setCell ⟨g, 0, none⟩ a).setCell ⟨g, 1, none⟩ b).setCell ⟨g, 2, none⟩ c).setCell ⟨g, 3, none⟩ d).setCell ⟨g, 4, none⟩ e).setCell ⟨g, 5, none⟩ f
theorem cell_putS {w : World} {s b o : Nat} {u1 u2 u3 u4 u5 u6 : Value} (h : b ≠ s) : (putS w s u1 u2 u3 u4 u5 u6).cell? ⟨b, o, none⟩ = w.cell? ⟨b, o, none⟩ := by
  unfold putS
  iterate 6 rw [World.cell?_setCell_other (h := addr_ne' (Ne.symm h))]
theorem below_putS {C g : Nat} {V W : World} (h : Below C V W) (hg : C ≤ g) (a b c d e f : Value) : Below C V (putS W g a b c d e f) := (((((h.setCell (p := ⟨g, 0, none⟩) hg a).setCell (p := ⟨g, 1, none⟩) hg b).setCell (p := ⟨g, 2, none⟩) hg c).setCell (p := ⟨g, 3, none⟩) hg d).setCell (p := ⟨g, 4, none⟩) hg e).setCell (p := ⟨g, 5, none⟩) hg f
section
variable {W : World} {g : Nat}
theorem Num.putS {A : Option Addr} {n c x : Nat} (hn : Num W A n c x) (h : Held W g) (b v : Bool) (u1 u2 u4 u5 : Option Addr × Nat × Nat) : Num (putS W g (.bool b) (.slice u1.1 u1.2.1 u1.2.2) (.slice u2.1 u2.2.1 u2.2.2) (.bool v) (.slice u4.1 u4.2.1 u4.2.2) (.slice u5.1 u5.2.1 u5.2.2)) A n c x := by
  have k0 := h.set (j := 0) (v := .bool b) (by omega) (fun _ _ e => by cases e)
  have k1 := k0.set (j := 1) (v := .slice u1.1 u1.2.1 u1.2.2) (by omega) (fun _ _ e => by cases e)
  have k2 := k1.set (j := 2) (v := .slice u2.1 u2.2.1 u2.2.2) (by omega) (fun _ _ e => by cases e)
  have k3 := k2.set (j := 3) (v := .bool v) (by omega) (fun _ _ e => by cases e)
  have k4 := k3.set (j := 4) (v := .slice u4.1 u4.2.1 u4.2.2) (by omega) (fun _ _ e => by cases e)
  exact (((((hn.held h (by omega)).held k0 (by omega)).held k1 (by omega)).held k2 (by omega)).held k3 (by omega)).held k4 (by omega)
theorem Rt.putS {b0 : Bool} {A0 B0 : Option Addr} {n0 c0 m0 d0 : Nat} {x : Rat} (hr : Rt W b0 A0 n0 c0 B0 m0 d0 x) (h : Held W g) (b v : Bool) {A1 A2 A4 A5 : Option Addr} {n1 c1 n2 c2 n4 c4 n5 c5 : Nat} : Rt (putS W g (.bool b) (.slice A1 n1 c1) (.slice A2 n2 c2) (.bool v) (.slice A4 n4 c4) (.slice A5 n5 c5)) b0 A0 n0 c0 B0 m0 d0 x :=
  ⟨⟨hr.1.1.putS h b v (A1, n1, c1) (A2, n2, c2) (A4, n4, c4) (A5, n5, c5), hr.1.2⟩, hr.2.putS h b v (A1, n1, c1) (A2, n2, c2) (A4, n4, c4) (A5, n5, c5)⟩
end

end Go.Proofs.YtpephogadljncaaGreat

/-
  The contracts of the seventh reference: Same, Has, In.
-/
namespace Go.Proofs.YtpephogadljncaaGreat
open Go.RowKit
set_option linter.unusedVariables false
set_option linter.unusedSimpArgs false






theorem cmpQ_le {a b : Rat} : cmpQ a b ≤ 0 ↔ a ≤ b := by unfold cmpQ; grind





end Go.Proofs.YtpephogadljncaaGreat

/-
  The contracts of the seventh reference: Add.
-/
namespace Go.Proofs.YtpephogadljncaaGreat
open Go.RowKit
set_option linter.unusedVariables false
set_option linter.unusedSimpArgs false


end Go.Proofs.YtpephogadljncaaGreat

/-
  The contracts of the eighth reference: Add, Sub, Mul, Div, Scale.
-/
namespace Go.Proofs.YtpephogadljncaaGreat
open Go.RowKit
set_option linter.unusedVariables false
set_option linter.unusedSimpArgs false

theorem bak_sz8 {a : Int} (h : I64 a) {k : Nat} (hk : k ≤ 500) : Sz (bak a k) 8 := bak_sz (Nat.le_trans (len_one h.abs) (by omega)) (by omega) hk
theorem of_nought {a : Int} : ((a : Int) : Rat).num = a := rfl



theorem prod_sz {a b : Int} (ha : I64 a) (hb : I64 b) {k : Nat} (hk : k ≤ 40) : Sz (bak a k * bak b k) 15 := by
  have h1 : ∀ {z : Int}, I64 z → Sz (bak z k) 7 := fun {z} h => sz_mk (pow_ne k) (Nat.le_trans (len_one h.abs) (by omega)) (Nat.le_trans (len_one (Nat.lt_of_le_of_lt (Nat.pow_le_pow_right (by omega) hk) (by decide))) (by omega))
  exact ((h1 ha).mul (h1 hb)).le (by omega)








end Go.Proofs.YtpephogadljncaaGreat
