/-
  The landed book: Den, Signed, Gap.
-/
import Derived.Test.YtcbchofjaegdgaaJ3
namespace Go.Proofs.Ytcbchofjaegdgaa
set_option maxRecDepth 100000
open Go.RowKit
set_option linter.unusedVariables false
set_option linter.unusedSimpArgs false


set_option maxHeartbeats 1000000 in
theorem bden_N (w : World) (k : Int) :
    Calls Try.prog 12 #[.int .i64 k] w (GotV w (.int .i64 (den9 k))) := by
  by_cases h : Kind9 k
  · rcases h with rfl | rfl | rfl | rfl
    · go_enter Try.func12, Try.ntmps12
      go_wp2_with fail
      go_ret
      exact ⟨rfl, Below.refl _ _⟩
    · go_enter Try.func12, Try.ntmps12
      go_wp2_with fail
      go_ret
      exact ⟨rfl, Below.refl _ _⟩
    · go_enter Try.func12, Try.ntmps12
      go_wp2_with fail
      go_ret
      exact ⟨rfl, Below.refl _ _⟩
    · go_enter Try.func12, Try.ntmps12
      go_wp2_with fail
      go_ret
      exact ⟨rfl, Below.refl _ _⟩
  · have k0 : (k == 0) = false := by simp; exact fun e => h (.inl e)
    have k1 : (k == 1) = false := by simp; exact fun e => h (.inr (.inl e))
    have k2 : (k == 2) = false := by simp; exact fun e => h (.inr (.inr (.inl e)))
    have k3 : (k == 3) = false := by simp; exact fun e => h (.inr (.inr (.inr e)))
    have e1 : den9 k = 0 := by unfold den9; simp at k0 k1 k2 k3; simp [k0, k1, k2, k3]
    rw [e1]
    clear h
    go_enter Try.func12, Try.ntmps12
    go_wp2_with fail
    go_ret
    exact ⟨rfl, Below.refl _ _⟩

set_option maxHeartbeats 1000000 in
theorem bsig_N (w : World) (k : Int) :
    Calls Try.prog 16 #[.int .i64 k] w (GotV w (.bool (sig9 k))) := by
  by_cases h : Kind9 k
  · rcases h with rfl | rfl | rfl | rfl
    · go_enter Try.func16, Try.ntmps16
      go_wp2_with fail
      go_ret
      exact ⟨rfl, Below.refl _ _⟩
    · go_enter Try.func16, Try.ntmps16
      go_wp2_with fail
      go_ret
      exact ⟨rfl, Below.refl _ _⟩
    · go_enter Try.func16, Try.ntmps16
      go_wp2_with fail
      go_ret
      exact ⟨rfl, Below.refl _ _⟩
    · go_enter Try.func16, Try.ntmps16
      go_wp2_with fail
      go_ret
      exact ⟨rfl, Below.refl _ _⟩
  · have k0 : (k == 0) = false := by simp; exact fun e => h (.inl e)
    have k1 : (k == 1) = false := by simp; exact fun e => h (.inr (.inl e))
    have k2 : (k == 2) = false := by simp; exact fun e => h (.inr (.inr (.inl e)))
    have k3 : (k == 3) = false := by simp; exact fun e => h (.inr (.inr (.inr e)))
    have e1 : sig9 k = false := by unfold sig9; simp at k0 k1 k2 k3; simp [k0, k2]
    rw [e1]
    clear h
    go_enter Try.func16, Try.ntmps16
    go_wp2_with fail
    go_ret
    exact ⟨rfl, Below.refl _ _⟩

attribute [local go_sem ↓] mxI_run
set_option maxRecDepth 100000 in
set_option maxHeartbeats 4000000 in
theorem bgap_N (w : World) (k : Int) :
    Calls Try.prog 14 #[.int .i64 k] w (GotV w (.int .i64 (gap9 k))) := by
  have CB := bbook_N w k
  have hlen := book9_len k
  have hat := book9_at k
  unfold gap9
  obtain ⟨L, eL⟩ : ∃ L, book9 k = L := ⟨_, rfl⟩
  obtain ⟨r, er⟩ : ∃ r, code9 k = r := ⟨_, rfl⟩
  rw [eL] at CB hlen hat ⊢
  rw [er] at CB
  clear eL er
  go_enter Try.func14, Try.ntmps14
  go_wp2_with fail
  refine CB.mono ?_
  rintro e w1 ⟨A, n, c, rfl, hL, b⟩
  have hn := hL.1
  have HN := Lib.hid hn
  have hn2 : n ≤ 256 := by omega
  rw [← hn]
  clear hn hlen CB
  go_wp2_with fail
  go_loopw [5, 6] (fun ov iv wr => ∃ m i : Nat, i = m + 1 ∧ (i ≤ n ∨ m = 0) ∧ iv = .int .i64 (i : Int) ∧ ov = .int .i64 (gk L m) ∧ Below w1.heap.size w1 wr) (fun _ iv _ => 257 - (intOf iv).toNat)
  case atStart => exact ⟨0, 1, rfl, .inr rfl, rfl, rfl, Below.refl _ _⟩
  case round =>
    obtain ⟨m, i, hi, hor, rfl, rfl, hbl⟩ := hrel
    by_cases hlt : i < n
    · obtain ⟨bb, off, rfl, hb, hcell⟩ := (hL.on hbl).2.2 (by omega)
      have h1 := hcell i hlt
      have h0 := hcell m (by omega)
      have a1 := hat i
      have a0 := hat m
      have hG : gk L i = mxI (gk L m) (L[i]?.getD 0 - L[m]?.getD 0) := by rw [hi]; rfl
      obtain ⟨x, ex⟩ : ∃ x, L[i]?.getD 0 = x := ⟨_, rfl⟩
      obtain ⟨y, ey⟩ : ∃ y, L[m]?.getD 0 = y := ⟨_, rfl⟩
      rw [ex] at h1 a1 hG
      rw [ey] at h0 a0 hG
      obtain ⟨v, ev⟩ : ∃ v, x - y = v := ⟨_, rfl⟩
      rw [ev] at hG
      have k1 : IntKind.i64.wrap (x - y) = v := by rw [← ev]; exact IntWalk.i64_in _ (by omega)
      have k2 : IntKind.i64.wrap ((i : Int) - 1) = (m : Int) := by rw [IntWalk.i64_in _ (by omega)]; omega
      have k3 : IntKind.i64.wrap ((i : Int) + 1) = ((i + 1 : Nat) : Int) := by rw [IntWalk.i64_in _ (by omega)]; omega
      have hm : m < n := by omega
      have HG := Lib.hid hG
      have HI := Lib.hid hi
      clear hcell ex ey ev hG hi hat hor a1 a0
      generalize gk L m = g at *
      go_wp2_with fail
      go_region_held3 (fun w' => w'.cell? ⟨bb, off + i, none⟩ = some (.int .i64 x) ∧ w'.cell? ⟨bb, off + m, none⟩ = some (.int .i64 y)) (exact ⟨h1, h0⟩) (fail)
      go_wp2_with fail
      go_roundw
      case rel => exact ⟨i, i + 1, rfl, .inl (by omega), rfl, by rw [HG.out], below_drewN hbl 1⟩
      case measure => simp [intOf] <;> omega
    · have hm : m = n - 1 := by omega
      go_wp2_with fail
      go_ret
      exact ⟨by rw [hm, HN.out]; rfl, b.trans (hbl.mono b.size)⟩

end Go.Proofs.Ytcbchofjaegdgaa
