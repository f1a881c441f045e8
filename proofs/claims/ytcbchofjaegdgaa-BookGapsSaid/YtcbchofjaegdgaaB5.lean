/-
  The contracts of the ninth reference: Signed, Den, Gap, Same.
-/
import Derived.Test.YtcbchofjaegdgaaB4
namespace Go.Proofs.Ytcbchofjaegdgaa
set_option maxRecDepth 100000
open Go.RowKit
set_option linter.unusedVariables false
set_option linter.unusedSimpArgs false

/-- The greater of two, behind a name. -/
def mxI (a b : Int) : Int := max a b
theorem mxI_run {P : Program} (w : World) (ts : Array TypeId) (t : TypeId) (x y : Int) : (Builtin.max_ ts t #[.int .i64 x, .int .i64 y]).run P w = .ok (.int .i64 (mxI x y)) w := by
  rw [run_max_int2]
  congr 2
  unfold mxI
  split <;> omega
/-- The greatest of the first m gaps. -/
def gk (L : List Int) : Nat → Int
  | 0 => 0
  | m + 1 => mxI (gk L m) (L[m + 1]?.getD 0 - L[m]?.getD 0)
def gap9 (k : Int) : Int := gk (book9 k) ((book9 k).length - 1)
def sig9 (k : Int) : Bool := decide (k = 0 ∨ k = 2)
theorem book9_small : ∀ k : Int, ∀ x ∈ book9 k, -400000000000 ≤ x ∧ x ≤ 400000000000 := by
  intro k x hx
  have h : ∀ L : List Int, L.all (fun x => decide (-400000000000 ≤ x ∧ x ≤ 400000000000)) = true → x ∈ L → -400000000000 ≤ x ∧ x ≤ 400000000000 := fun L a b => of_decide_eq_true (List.all_eq_true.1 a x b)
  unfold book9 at hx
  split at hx
  · exact h _ (by decide +kernel) hx
  split at hx
  · exact h _ (by decide +kernel) hx
  split at hx
  · exact h _ (by decide +kernel) hx
  split at hx
  · exact h _ (by decide +kernel) hx
  · cases hx
theorem book9_len (k : Int) : (book9 k).length ≤ 256 := by
  unfold book9
  split
  · decide +kernel
  split
  · decide +kernel
  split
  · decide +kernel
  split
  · decide +kernel
  · simp
theorem book9_at (k : Int) (j : Nat) : -400000000000 ≤ (book9 k)[j]?.getD 0 ∧ (book9 k)[j]?.getD 0 ≤ 400000000000 := by
  rcases Nat.lt_or_ge j (book9 k).length with h | h
  · rw [List.getElem?_eq_getElem h]
    exact book9_small k _ (List.getElem_mem h)
  · rw [List.getElem?_eq_none h]; decide

set_option maxHeartbeats 1000000 in
theorem rden9_N (w : World) (k : Int) :
    Calls Try.prog 13 #[.int .i64 k] w (GotV w (.int .i64 (den9 k))) := by
  by_cases h : Kind9 k
  · rcases h with rfl | rfl | rfl | rfl
    · go_enter Try.func13, Try.ntmps13
      go_wp2_with fail
      go_ret
      exact ⟨rfl, Below.refl _ _⟩
    · go_enter Try.func13, Try.ntmps13
      go_wp2_with fail
      go_ret
      exact ⟨rfl, Below.refl _ _⟩
    · go_enter Try.func13, Try.ntmps13
      go_wp2_with fail
      go_ret
      exact ⟨rfl, Below.refl _ _⟩
    · go_enter Try.func13, Try.ntmps13
      go_wp2_with fail
      go_ret
      exact ⟨rfl, Below.refl _ _⟩
  · have k0 : (k == 0) = false := by simp; exact fun e => h (.inl e)
    have k1 : (k == 1) = false := by simp; exact fun e => h (.inr (.inl e))
    have k2 : (k == 2) = false := by simp; exact fun e => h (.inr (.inr (.inl e)))
    have k3 : (k == 3) = false := by simp; exact fun e => h (.inr (.inr (.inr e)))
    have e1 : den9 k = 0 := by unfold den9; simp at k0 k1 k2 k3; simp [k0, k1, k2, k3]
    rw [e1]
    clear h
    go_enter Try.func13, Try.ntmps13
    go_wp2_with fail
    go_ret
    exact ⟨rfl, Below.refl _ _⟩

set_option maxHeartbeats 1000000 in
theorem rsig9_N (w : World) (k : Int) :
    Calls Try.prog 17 #[.int .i64 k] w (GotV w (.bool (sig9 k))) := by
  by_cases h : Kind9 k
  · rcases h with rfl | rfl | rfl | rfl
    · go_enter Try.func17, Try.ntmps17
      go_wp2_with fail
      go_ret
      exact ⟨rfl, Below.refl _ _⟩
    · go_enter Try.func17, Try.ntmps17
      go_wp2_with fail
      go_ret
      exact ⟨rfl, Below.refl _ _⟩
    · go_enter Try.func17, Try.ntmps17
      go_wp2_with fail
      go_ret
      exact ⟨rfl, Below.refl _ _⟩
    · go_enter Try.func17, Try.ntmps17
      go_wp2_with fail
      go_ret
      exact ⟨rfl, Below.refl _ _⟩
  · have k0 : (k == 0) = false := by simp; exact fun e => h (.inl e)
    have k1 : (k == 1) = false := by simp; exact fun e => h (.inr (.inl e))
    have k2 : (k == 2) = false := by simp; exact fun e => h (.inr (.inr (.inl e)))
    have k3 : (k == 3) = false := by simp; exact fun e => h (.inr (.inr (.inr e)))
    have e1 : sig9 k = false := by unfold sig9; simp at k0 k1 k2 k3; simp [k0, k2]
    rw [e1]
    clear h
    go_enter Try.func17, Try.ntmps17
    go_wp2_with fail
    go_ret
    exact ⟨rfl, Below.refl _ _⟩

attribute [local go_sem ↓] mxI_run
set_option maxRecDepth 100000 in
set_option maxHeartbeats 4000000 in
theorem rgap9_N (w : World) (k : Int) :
    Calls Try.prog 15 #[.int .i64 k] w (GotV w (.int .i64 (gap9 k))) := by
  have CB := rbook9_N w k
  have hlen := book9_len k
  have hat := book9_at k
  unfold gap9
  obtain ⟨L, eL⟩ : ∃ L, book9 k = L := ⟨_, rfl⟩
  obtain ⟨r, er⟩ : ∃ r, code9 k = r := ⟨_, rfl⟩
  rw [eL] at CB hlen hat ⊢
  rw [er] at CB
  clear eL er
  go_enter Try.func15, Try.ntmps15
  go_wp2_with fail
  refine CB.mono ?_
  rintro e w1 ⟨A, n, c, rfl, hL, b⟩
  have hn := hL.1
  have HN := Lib.hid hn
  have hn2 : n ≤ 256 := by omega
  rw [← hn]
  clear hn hlen CB
  go_wp2_with fail
  go_loopw [5, 6] (fun ov iv wr => ∃ m i : Nat, i = m + 1 ∧ (i ≤ n ∨ m = 0) ∧ iv = .int .i64 (i : Int) ∧ ov = .int .i64 (gk L m) ∧ Below w1.heap.size w1 wr) (fun _ iv _ => 257 - (intOf iv).toNat)
  case atStart => exact ⟨0, 1, rfl, .inr rfl, rfl, rfl, Below.refl _ _⟩
  case round =>
    obtain ⟨m, i, hi, hor, rfl, rfl, hbl⟩ := hrel
    by_cases hlt : i < n
    · obtain ⟨bb, off, rfl, hb, hcell⟩ := (hL.on hbl).2.2 (by omega)
      have h1 := hcell i hlt
      have h0 := hcell m (by omega)
      have a1 := hat i
      have a0 := hat m
      have hG : gk L i = mxI (gk L m) (L[i]?.getD 0 - L[m]?.getD 0) := by rw [hi]; rfl
      obtain ⟨x, ex⟩ : ∃ x, L[i]?.getD 0 = x := ⟨_, rfl⟩
      obtain ⟨y, ey⟩ : ∃ y, L[m]?.getD 0 = y := ⟨_, rfl⟩
      rw [ex] at h1 a1 hG
      rw [ey] at h0 a0 hG
      obtain ⟨v, ev⟩ : ∃ v, x - y = v := ⟨_, rfl⟩
      rw [ev] at hG
      have k1 : IntKind.i64.wrap (x - y) = v := by rw [← ev]; exact IntWalk.i64_in _ (by omega)
      have k2 : IntKind.i64.wrap ((i : Int) - 1) = (m : Int) := by rw [IntWalk.i64_in _ (by omega)]; omega
      have k3 : IntKind.i64.wrap ((i : Int) + 1) = ((i + 1 : Nat) : Int) := by rw [IntWalk.i64_in _ (by omega)]; omega
      have hm : m < n := by omega
      have HG := Lib.hid hG
      have HI := Lib.hid hi
      clear hcell ex ey ev hG hi hat hor a1 a0
      generalize gk L m = g at *
      go_wp2_with fail
      go_region_held3 (fun w' => w'.cell? ⟨bb, off + i, none⟩ = some (.int .i64 x) ∧ w'.cell? ⟨bb, off + m, none⟩ = some (.int .i64 y)) (exact ⟨h1, h0⟩) (fail)
      go_wp2_with fail
      go_roundw
      case rel => exact ⟨i, i + 1, rfl, .inl (by omega), rfl, by rw [HG.out], below_drewN hbl 1⟩
      case measure => simp [intOf] <;> omega
    · have hm : m = n - 1 := by omega
      go_wp2_with fail
      go_ret
      exact ⟨by rw [hm, HN.out]; rfl, b.trans (hbl.mono b.size)⟩

set_option maxRecDepth 100000 in
set_option maxHeartbeats 4000000 in
theorem rsame9_N {w : World} {A B : Option Addr} {n c m d : Nat} {L : List Int} (hA : IR w A n c L) (hB : IR w B m d L) (hl : L.length ≤ 256) :
    Calls Try.prog 11 #[.slice A n c, .slice B m d] w (GotV w (.bool true)) := by
  obtain rfl : n = m := by rw [hA.1, hB.1]
  have hn2 : n ≤ 256 := by rw [hA.1]; exact hl
  clear hl
  go_enter Try.func11, Try.ntmps11
  go_wp2_with fail
  go_loopw [5] (fun iv wr => ∃ i : Nat, i ≤ n ∧ iv = .int .i64 (i : Int) ∧ Below w.heap.size w wr) (fun iv _ => 256 - (intOf iv).toNat)
  case atStart => exact ⟨0, by omega, rfl, Below.refl _ _⟩
  case round =>
    obtain ⟨i, hi, rfl, hbl⟩ := hrel
    by_cases hlt : i < n
    · obtain ⟨b1, o1, rfl, hb1, hc1⟩ := (hA.on hbl).2.2 (by omega)
      obtain ⟨b2, o2, rfl, hb2, hc2⟩ := (hB.on hbl).2.2 (by omega)
      have h1 := hc1 i hlt
      have h2 := hc2 i hlt
      have k3 : IntKind.i64.wrap ((i : Int) + 1) = ((i + 1 : Nat) : Int) := by rw [IntWalk.i64_in _ (by omega)]; omega
      clear hc1 hc2
      generalize L[i]?.getD 0 = x at *
      go_wp2_with fail
      go_region_held3 (fun w' => w'.cell? ⟨b1, o1 + i, none⟩ = some (.int .i64 x) ∧ w'.cell? ⟨b2, o2 + i, none⟩ = some (.int .i64 x)) (exact ⟨h1, h2⟩) (fail)
      go_wp2_with fail
      go_roundw
      case rel => exact ⟨i + 1, by omega, rfl, below_drewN hbl 1⟩
      case measure => simp [intOf] <;> omega
    · go_wp2_with fail
      go_ret
      exact ⟨rfl, hbl⟩
end Go.Proofs.Ytcbchofjaegdgaa
