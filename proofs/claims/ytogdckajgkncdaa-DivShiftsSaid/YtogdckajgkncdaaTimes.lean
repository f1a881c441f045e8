/-
  The contract of nat.addTimes: a multiple of one number is added to a row of digits of the caller's, from a place on.
-/
import Derived.Test.YtogdckajgkncdaaShare
import Derived.Test.YtogdckajgkncdaaMulW
namespace Go.Proofs.Ytogdckajgkncdaa
open Go.RowKit

theorem add64_run0 (x y : Nat) (w : World) :
    (callFunc 58 #[.int .u64 (x : Int), .int .u64 (y : Int), .int .u64 0]).run Try.prog w = .ok (.value (.tuple #[.int .u64 (sumLo x y 0 : Int), .int .u64 (sumHi x y 0 : Int)])) w := add64_run x y 0 (by omega) w

/-- A slice of digits is kept where only one block, which lies not below B, is written. -/
theorem Lim.grown {B : Nat} {w w' : World} {A : Option Addr} {n c : Nat} {l : List Nat} {g : Nat} (h : Lim B w A n c l) (hg : w.grownBy w' (some g)) (hB : B ≤ g) (hBw : B ≤ w.heap.size) : Lim B w' A n c l :=
  ⟨h.1, h.2.1, h.2.2.1, fun hn => by
    obtain ⟨b, off, e, hlt, hc⟩ := h.2.2.2 hn
    exact ⟨b, off, e, hlt, fun j hj => (World.cell?_of_block (a := ⟨b, off + j, none⟩) (hg.block b (by omega) (by simp; omega))).trans (hc j hj)⟩⟩

/-- What has been reckoned when k digits are done: the row Q and the carry c. -/
def TimesAt (P Q : List Nat) (i k x : Nat) (l : List Nat) (c : Nat) : Prop :=
  Dig Q ∧ Q.length = P.length ∧ c < B64 ∧ (∀ j, i + k ≤ j → Q[j]?.getD 0 = P[j]?.getD 0) ∧ val Q + B64 ^ (i + k) * c = val P + B64 ^ i * (x * val (l.take k))

theorem TimesAt.start {P : List Nat} (h : Dig P) (i x : Nat) (l : List Nat) : TimesAt P P i 0 x l 0 :=
  ⟨h, rfl, B64_pos, fun _ _ => rfl, by simp [val_nil]⟩

theorem TimesAt.step {P Q l : List Nat} {i k x c : Nat} (h : TimesAt P Q i k x l c) (hx : x < B64) (hl : Dig l) (hk : i + k < P.length) :
    TimesAt P (Q.set (i + k) (macLo x (l[k]?.getD 0) (Q[i + k]?.getD 0) c)) i (k + 1) x l (macHi x (l[k]?.getD 0) (Q[i + k]?.getD 0) c) := by
  obtain ⟨hd, hlen, hc, hsame, hv⟩ := h
  refine ⟨hd.set _ (macLo_lt _ _ _ _), by rw [List.length_set, hlen], macHi_lt hx (hl.get k) (hd.get _) hc, fun j hj => ?_, ?_⟩
  · rw [List.getElem?_set_ne (by omega)]; exact hsame j (by omega)
  · have hs := val_set (l := Q) (k := i + k) (by omega) (macLo x (l[k]?.getD 0) (Q[i + k]?.getD 0) c)
    have hm := mac_split x (l[k]?.getD 0) (Q[i + k]?.getD 0) c
    rw [val_take_succ, ← Nat.add_assoc, Nat.pow_succ, Nat.mul_assoc]
    generalize macLo x (l[k]?.getD 0) (Q[i + k]?.getD 0) c = lo at *
    generalize macHi x (l[k]?.getD 0) (Q[i + k]?.getD 0) c = hi at *
    generalize Q[i + k]?.getD 0 = q at *
    generalize l[k]?.getD 0 = y at *
    have h1 : B64 ^ (i + k) * lo + B64 ^ (i + k) * (B64 * hi) = B64 ^ (i + k) * (x * y) + B64 ^ (i + k) * q + B64 ^ (i + k) * c := by
      rw [← Nat.mul_add, hm, Nat.mul_add, Nat.mul_add]
    have h2 : B64 ^ i * (x * (val (l.take k) + B64 ^ k * y)) = B64 ^ i * (x * val (l.take k)) + B64 ^ (i + k) * (x * y) := by
      rw [Nat.mul_add, Nat.mul_add, Nat.pow_add]
      have : B64 ^ i * (x * (B64 ^ k * y)) = B64 ^ i * B64 ^ k * (x * y) := by ac_rfl
      rw [this]
    rw [h2]
    omega

theorem TimesAt.done {P Q l : List Nat} {i x c : Nat} (h : TimesAt P Q i l.length x l c) (hk : i + l.length < P.length) (hz : P[i + l.length]?.getD 0 = 0) :
    Dig (Q.set (i + l.length) c) ∧ (Q.set (i + l.length) c).length = P.length ∧ (∀ j, i + l.length < j → (Q.set (i + l.length) c)[j]?.getD 0 = P[j]?.getD 0) ∧ val (Q.set (i + l.length) c) = val P + B64 ^ i * (x * val l) := by
  obtain ⟨hd, hlen, hc, hsame, hv⟩ := h
  refine ⟨hd.set _ hc, by rw [List.length_set, hlen], fun j hj => ?_, ?_⟩
  · rw [List.getElem?_set_ne (by omega)]; exact hsame j (by omega)
  · have hs := val_set (l := Q) (k := i + l.length) (by omega) c
    rw [hsame _ (Nat.le_refl _), hz, Nat.mul_zero, Nat.add_zero] at hs
    rw [List.take_of_length_le (Nat.le_refl _)] at hv
    omega

theorem wrap_mac {x y q c : Nat} (hx : x < B64) (hy : y < B64) (hq : q < B64) (hc : c < B64) :
    IntKind.u64.wrap (IntKind.u64.wrap ((mulHi x y : Int) + (sumHi (mulLo x y) q 0 : Int)) + (sumHi (sumLo (mulLo x y) q 0) c 0 : Int)) = (macHi x y q c : Int) := by
  have h := macHi_lt hx hy hq hc
  have e := macHi_eq x y q c
  simp only [IntKind.wrap_u64]
  rw [← e] at h ⊢
  unfold B64 at h
  omega

end Go.Proofs.Ytogdckajgkncdaa
