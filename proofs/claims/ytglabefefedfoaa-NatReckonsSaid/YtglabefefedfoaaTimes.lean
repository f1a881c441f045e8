/-
  The contract of nat.addTimes: a multiple of one number is added to a row of digits of the caller's, from a place on.
-/
import Derived.Test.YtglabefefedfoaaShare
import Derived.Test.YtglabefefedfoaaMulW
namespace Go.Proofs.Ytglabefefedfoaa
open Go.RowKit

theorem add64_run0 (x y : Nat) (w : World) :
    (callFunc 39 #[.int .u64 (x : Int), .int .u64 (y : Int), .int .u64 0]).run Try.prog w = .ok (.value (.tuple #[.int .u64 (sumLo x y 0 : Int), .int .u64 (sumHi x y 0 : Int)])) w := add64_run x y 0 (by omega) w

/-- A slice of digits is kept where only one block, which lies not below B, is written. -/
theorem Lim.grown {B : Nat} {w w' : World} {A : Option Addr} {n c : Nat} {l : List Nat} {g : Nat} (h : Lim B w A n c l) (hg : w.grownBy w' (some g)) (hB : B ≤ g) (hBw : B ≤ w.heap.size) : Lim B w' A n c l :=
  ⟨h.1, h.2.1, h.2.2.1, fun hn => by
    obtain ⟨b, off, e, hlt, hc⟩ := h.2.2.2 hn
    exact ⟨b, off, e, hlt, fun j hj => (World.cell?_of_block (a := ⟨b, off + j, none⟩) (hg.block b (by omega) (by simp; omega))).trans (hc j hj)⟩⟩

/-- What has been reckoned when k digits are done: the row Q and the carry c. -/
def TimesAt (P Q : List Nat) (i k x : Nat) (l : List Nat) (c : Nat) : Prop :=
  Dig Q ∧ Q.length = P.length ∧ c < B64 ∧ (∀ j, i + k ≤ j → Q[j]?.getD 0 = P[j]?.getD 0) ∧ val Q + B64 ^ (i + k) * c = val P + B64 ^ i * (x * val (l.take k))

theorem TimesAt.start {P : List Nat} (h : Dig P) (i x : Nat) (l : List Nat) : TimesAt P P i 0 x l 0 :=
  ⟨h, rfl, B64_pos, fun _ _ => rfl, by simp [val_nil]⟩

theorem TimesAt.step {P Q l : List Nat} {i k x c : Nat} (h : TimesAt P Q i k x l c) (hx : x < B64) (hl : Dig l) (hk : i + k < P.length) :
    TimesAt P (Q.set (i + k) (macLo x (l[k]?.getD 0) (Q[i + k]?.getD 0) c)) i (k + 1) x l (macHi x (l[k]?.getD 0) (Q[i + k]?.getD 0) c) := by
  obtain ⟨hd, hlen, hc, hsame, hv⟩ := h
  refine ⟨hd.set _ (macLo_lt _ _ _ _), by rw [List.length_set, hlen], macHi_lt hx (hl.get k) (hd.get _) hc, fun j hj => ?_, ?_⟩
  · rw [List.getElem?_set_ne (by omega)]; exact hsame j (by omega)
  · have hs := val_set (l := Q) (k := i + k) (by omega) (macLo x (l[k]?.getD 0) (Q[i + k]?.getD 0) c)
    have hm := mac_split x (l[k]?.getD 0) (Q[i + k]?.getD 0) c
    rw [val_take_succ, ← Nat.add_assoc, Nat.pow_succ, Nat.mul_assoc]
    generalize macLo x (l[k]?.getD 0) (Q[i + k]?.getD 0) c = lo at *
    generalize macHi x (l[k]?.getD 0) (Q[i + k]?.getD 0) c = hi at *
    generalize Q[i + k]?.getD 0 = q at *
    generalize l[k]?.getD 0 = y at *
    have h1 : B64 ^ (i + k) * lo + B64 ^ (i + k) * (B64 * hi) = B64 ^ (i + k) * (x * y) + B64 ^ (i + k) * q + B64 ^ (i + k) * c := by
      rw [← Nat.mul_add, hm, Nat.mul_add, Nat.mul_add]
    have h2 : B64 ^ i * (x * (val (l.take k) + B64 ^ k * y)) = B64 ^ i * (x * val (l.take k)) + B64 ^ (i + k) * (x * y) := by
      rw [Nat.mul_add, Nat.mul_add, Nat.pow_add]
      have : B64 ^ i * (x * (B64 ^ k * y)) = B64 ^ i * B64 ^ k * (x * y) := by ac_rfl
      rw [this]
    rw [h2]
    omega

theorem TimesAt.done {P Q l : List Nat} {i x c : Nat} (h : TimesAt P Q i l.length x l c) (hk : i + l.length < P.length) (hz : P[i + l.length]?.getD 0 = 0) :
    Dig (Q.set (i + l.length) c) ∧ (Q.set (i + l.length) c).length = P.length ∧ (∀ j, i + l.length < j → (Q.set (i + l.length) c)[j]?.getD 0 = P[j]?.getD 0) ∧ val (Q.set (i + l.length) c) = val P + B64 ^ i * (x * val l) := by
  obtain ⟨hd, hlen, hc, hsame, hv⟩ := h
  refine ⟨hd.set _ hc, by rw [List.length_set, hlen], fun j hj => ?_, ?_⟩
  · rw [List.getElem?_set_ne (by omega)]; exact hsame j (by omega)
  · have hs := val_set (l := Q) (k := i + l.length) (by omega) c
    rw [hsame _ (Nat.le_refl _), hz, Nat.mul_zero, Nat.add_zero] at hs
    rw [List.take_of_length_le (Nat.le_refl _)] at hv
    omega

theorem wrap_mac {x y q c : Nat} (hx : x < B64) (hy : y < B64) (hq : q < B64) (hc : c < B64) :
    IntKind.u64.wrap (IntKind.u64.wrap ((mulHi x y : Int) + (sumHi (mulLo x y) q 0 : Int)) + (sumHi (sumLo (mulLo x y) q 0) c 0 : Int)) = (macHi x y q c : Int) := by
  have h := macHi_lt hx hy hq hc
  have e := macHi_eq x y q c
  simp only [IntKind.wrap_u64]
  rw [← e] at h ⊢
  unfold B64 at h
  omega

set_option maxRecDepth 100000 in
set_option maxHeartbeats 2000000 in
theorem times_any (base g N cap i n' c' m d x : Nat) (B : Option Addr) (P lb : List Nat) (w : World)
    (hb : Lim base w B m d lb) (hrow : w.ownsRow base 24 1 (.slice (some ⟨g, 0, none⟩) N cap) N (P.map encD)) (hP : Dig P) (hx : x < B64) (hN : N ≤ 8589934592) (hi : i + n' = N) (hm : m < n') (hz : P[i + m]?.getD 0 = 0) :
    Calls Try.prog 40 #[.slice (some ⟨g, i, none⟩) n' c', .slice B m d, .int .u64 (x : Int)] w fun e w' => e = .returned (.tuple #[]) ∧ ∃ P', Dig P' ∧ (∀ j, i + m < j → P'[j]?.getD 0 = P[j]?.getD 0) ∧ val P' = val P + B64 ^ i * (x * val lb) ∧
      w'.ownsRow base 24 1 (.slice (some ⟨g, 0, none⟩) N cap) N (P'.map encD) ∧ w.grownBy w' (some g) := by
  have hbg := hrow.lt g rfl
  have hPl : P.length = N := by have := hrow.1; simpa using this
  have HPL := Lib.hid hPl
  have hml := Lib.hid hb.1
  have HI := Lib.hid hi
  have hiN : i + n' ≤ N := by omega
  clear hPl hi
  go_enter Try.func40, Try.ntmps40
  go_wp2
  go_loopw [6, 15] (fun cv iv wr => ∃ (k : Nat) (Q : List Nat) (cc : Nat), k ≤ m ∧ iv = .int .i64 k ∧ cv = .int .u64 (cc : Int) ∧ TimesAt P Q i k x lb cc ∧ wr.ownsRow base 24 1 (.slice (some ⟨g, 0, none⟩) N cap) N (Q.map encD) ∧ w.grownBy wr (some g))
    (fun _ iv _ => m - (intOf iv).toNat)
  case atStart => exact ⟨0, P, 0, Nat.zero_le _, rfl, rfl, TimesAt.start hP i x lb, hrow, World.grownBy.refl w _⟩
  case round =>
    obtain ⟨k, Q, cc, hk, rfl, rfl, hT, hown, hgr⟩ := hrel
    by_cases hlt : k < m
    · obtain ⟨b, off, rfl, hblt, hcell⟩ := (hb.grown hgr hbg.1 (by omega)).2.2.2 (by omega)
      have h1 := hcell k hlt
      have h2 : wr.cell? ⟨g, i + k, none⟩ = some (.int .u64 ((Q[i + k]?.getD 0 : Nat) : Int)) := by
        have hQl : Q.length = N := by rw [hT.2.1]; exact HPL.out
        rw [hown.cellAt (i + k) (by omega), List.getElem?_map, List.getElem?_eq_getElem (by omega)]
        simp [encD]
      have h3 := hown.frozenAt (i + k)
      have hyl : lb[k]?.getD 0 < B64 := hb.2.2.1.get k
      have hql : Q[i + k]?.getD 0 < B64 := hT.1.get _
      have h39 := add64_run0
      have hcc : cc < B64 := hT.2.2.1
      have HT := Lib.hid hT
      have HO := Lib.hid hown
      have HG := Lib.hid hgr
      clear hcell hT hown hgr
      go_wp2_with (go_at_call 43; refine (mul64_any _ _ _ hx hyl).mono ?_; rintro e w' ⟨rfl, rfl⟩)
      have hst := HO.out.stored (i + k) (.int .u64 (sumLo (sumLo (mulLo x (lb[k]?.getD 0)) (Q[i + k]?.getD 0) 0) cc 0 : Int))
      refine ⟨⟨k + 1, Q.set (i + k) (macLo x (lb[k]?.getD 0) (Q[i + k]?.getD 0) cc), macHi x (lb[k]?.getD 0) (Q[i + k]?.getD 0) cc, by omega, by go_num, ?_, HT.out.step hx hb.2.2.1 (by have := HPL.out; omega), ?_, HG.out.trans hst.2⟩, by simp [intOf]; omega⟩
      · rw [wrap_mac hx hyl hql hcc]
      · have h5 := hst.1
        rw [macLo_eq] at h5
        rw [macLo_eq, List.map_set]
        exact h5
    · obtain rfl : k = m := by omega
      have hown' := hown
      have h3 := hown.frozenAt (i + k)
      have hQl : Q.length = N := by rw [hT.2.1]; exact HPL.out
      have h2 : wr.cell? ⟨g, i + k, none⟩ = some (.int .u64 ((Q[i + k]?.getD 0 : Nat) : Int)) := by
        rw [hown.cellAt (i + k) (by omega), List.getElem?_map, List.getElem?_eq_getElem (by omega)]
        simp [encD]
      have HT := Lib.hid hT
      have HO := Lib.hid hown
      have HG := Lib.hid hgr
      have HQ := Lib.hid hQl
      clear hT hown hgr hQl hown'
      go_wp2
      go_end0
      have hst := HO.out.stored (i + k) (.int .u64 (cc : Int))
      have hT' := HT.out
      rw [hml.out] at hT' hz
      obtain ⟨q1, q2, q3, q4⟩ := hT'.done (by have := HPL.out; have := hml.out; omega) hz
      rw [← hml.out] at q1 q2 q3 q4
      refine ⟨rfl, _, q1, q3, q4, ?_, HG.out.trans hst.2⟩
      have h5 := hst.1
      rw [List.map_set]
      exact h5

end Go.Proofs.Ytglabefefedfoaa
