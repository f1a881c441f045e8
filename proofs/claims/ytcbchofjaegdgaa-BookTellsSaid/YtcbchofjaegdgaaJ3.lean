/-
  The landed book: line, Book.
-/
import Derived.Test.YtcbchofjaegdgaaJ2
namespace Go.Proofs.Ytcbchofjaegdgaa
set_option maxRecDepth 100000
open Go.RowKit
set_option linter.unusedVariables false
set_option linter.unusedSimpArgs false


/-- The first c numbers of a line are laid down. -/
def lin9 (f s : Int) : Nat → List Int
  | 0 => List.replicate 256 0
  | c + 1 => (lin9 f s c).set c (f + s * (c : Int))
theorem lin9_len (f s : Int) : ∀ c, (lin9 f s c).length = 256
  | 0 => List.length_replicate
  | c + 1 => by show ((lin9 f s c).set c _).length = 256; rw [List.length_set]; exact lin9_len f s c
theorem lin9_line : lin9 (-255) 2 256 = linek 256 := by decide +kernel
theorem lin9_uline : lin9 0 1 256 = ulinek 256 := by decide +kernel

set_option maxRecDepth 100000 in
set_option maxHeartbeats 4000000 in
theorem bline9 (w : World) : Calls Try.prog 20 #[.int .i64 (-255), .int .i64 2] w (GotI w (linek 256)) := by
  obtain ⟨i0, hi, hz0, hz1, hz2⟩ := info_parts infoI
  obtain ⟨s, hs⟩ : ∃ s, w.heap.size = s := ⟨_, rfl⟩
  have HS := Lib.hid hs
  clear hs
  go_enter Try.func20, Try.ntmps20
  go_wp2_with (at_make; refine wpList_make_full _ rfl _ _ 22 rfl s 2 i0 (.int .i64 0) 1 Try.underlying22 hi hz0 hz1 .i64 .i64 _ _ 256 rfl rfl (by omega) (by omega) (by rw [hz2]; omega) (by unfold maxLen; omega) (by rw [HS.out]; omega) ?_; intro w1 hown1 hgrow1; rw [made_zeroI] at hown1)
  rw [HS.out] at hown1 ⊢
  have hB1 : Below s w w1 := (Below.refl s w).grown hgrow1 (by have := HS.out; omega) (fun k h => by cases h)
  go_loopw [6, 10] (fun _ iv wr => ∃ c : Nat, c ≤ 256 ∧ iv = .int .i64 (c : Int) ∧ wr.ownsRow s 2 1 (.slice (some ⟨s, 0, none⟩) 256 256) 256 ((lin9 (-255) 2 c).map encI) ∧ Below s w wr) (fun _ iv _ => 256 - (intOf iv).toNat)
  case atStart => exact ⟨0, by omega, rfl, hown1, hB1⟩
  case round =>
    clear hown1 hgrow1 hB1
    obtain ⟨c, hc, rfl, hrow, hbl⟩ := hrel
    by_cases hlt : c < 256
    · have hlen := lin9_len (-255) 2 c
      have hci : (c : Int) < 256 := by omega
      have cR := hrow.cellAt c (by omega)
      obtain ⟨v1, ev1⟩ := atI (j := c) hlen (by omega)
      rw [ev1] at cR
      have fR := hrow.frozenAt c
      obtain ⟨u, eu⟩ : ∃ u : Int, 2 * (c : Int) = u := ⟨_, rfl⟩
      obtain ⟨x, ex⟩ : ∃ x : Int, (-255) + u = x := ⟨_, rfl⟩
      have k1 : IntKind.i64.wrap (2 * (c : Int)) = u := by rw [IntWalk.i64_in _ (by omega)]; exact eu
      have k2 : IntKind.i64.wrap ((-255) + u) = x := by rw [IntWalk.i64_in _ (by omega)]; exact ex
      obtain ⟨hrow2, hgr2⟩ := hrow.stored c (.int .i64 x)
      have hB2 : Below s w (wr.setCell ⟨s, c, none⟩ (.int .i64 x)) := hbl.setCell (p := ⟨s, c, none⟩) (by simp) _
      have hN : ((lin9 (-255) 2 c).map encI).set c (.int .i64 x) = (lin9 (-255) 2 (c + 1)).map encI := by show _ = ((lin9 (-255) 2 c).set c ((-255) + 2 * (c : Int))).map encI; rw [List.map_set, eu, ex]; rfl
      rw [hN] at hrow2
      have HR := Lib.hid hrow2
      have HB := Lib.hid hB2
      clear hN hrow2 hB2 hrow hbl hgr2 ev1 hlen eu ex
      go_wp2_with fail
      go_roundw
      case rel => exact ⟨c + 1, by omega, by go_num, HR.out, HB.out⟩
      case measure => simp [intOf] <;> omega
    · obtain rfl : c = 256 := by omega
      rw [lin9_line] at hrow
      go_wp2_with fail
      go_ret
      exact ⟨_, _, _, rfl, IR.of_own hrow, by rw [HS.out]; exact hbl⟩

set_option maxRecDepth 100000 in
set_option maxHeartbeats 4000000 in
theorem buline9 (w : World) : Calls Try.prog 20 #[.int .i64 0, .int .i64 1] w (GotI w (ulinek 256)) := by
  obtain ⟨i0, hi, hz0, hz1, hz2⟩ := info_parts infoI
  obtain ⟨s, hs⟩ : ∃ s, w.heap.size = s := ⟨_, rfl⟩
  have HS := Lib.hid hs
  clear hs
  go_enter Try.func20, Try.ntmps20
  go_wp2_with (at_make; refine wpList_make_full _ rfl _ _ 22 rfl s 2 i0 (.int .i64 0) 1 Try.underlying22 hi hz0 hz1 .i64 .i64 _ _ 256 rfl rfl (by omega) (by omega) (by rw [hz2]; omega) (by unfold maxLen; omega) (by rw [HS.out]; omega) ?_; intro w1 hown1 hgrow1; rw [made_zeroI] at hown1)
  rw [HS.out] at hown1 ⊢
  have hB1 : Below s w w1 := (Below.refl s w).grown hgrow1 (by have := HS.out; omega) (fun k h => by cases h)
  go_loopw [6, 10] (fun _ iv wr => ∃ c : Nat, c ≤ 256 ∧ iv = .int .i64 (c : Int) ∧ wr.ownsRow s 2 1 (.slice (some ⟨s, 0, none⟩) 256 256) 256 ((lin9 0 1 c).map encI) ∧ Below s w wr) (fun _ iv _ => 256 - (intOf iv).toNat)
  case atStart => exact ⟨0, by omega, rfl, hown1, hB1⟩
  case round =>
    clear hown1 hgrow1 hB1
    obtain ⟨c, hc, rfl, hrow, hbl⟩ := hrel
    by_cases hlt : c < 256
    · have hlen := lin9_len 0 1 c
      have hci : (c : Int) < 256 := by omega
      have cR := hrow.cellAt c (by omega)
      obtain ⟨v1, ev1⟩ := atI (j := c) hlen (by omega)
      rw [ev1] at cR
      have fR := hrow.frozenAt c
      obtain ⟨u, eu⟩ : ∃ u : Int, 1 * (c : Int) = u := ⟨_, rfl⟩
      obtain ⟨x, ex⟩ : ∃ x : Int, 0 + u = x := ⟨_, rfl⟩
      have k1 : IntKind.i64.wrap (1 * (c : Int)) = u := by rw [IntWalk.i64_in _ (by omega)]; exact eu
      have k2 : IntKind.i64.wrap (0 + u) = x := by rw [IntWalk.i64_in _ (by omega)]; exact ex
      have k3 : IntKind.i64.wrap (c : Int) = u := by rw [IntWalk.i64_in _ (by omega)]; omega
      have k4 : IntKind.i64.wrap u = x := by rw [IntWalk.i64_in _ (by omega)]; omega
      obtain ⟨hrow2, hgr2⟩ := hrow.stored c (.int .i64 x)
      have hB2 : Below s w (wr.setCell ⟨s, c, none⟩ (.int .i64 x)) := hbl.setCell (p := ⟨s, c, none⟩) (by simp) _
      have hN : ((lin9 0 1 c).map encI).set c (.int .i64 x) = (lin9 0 1 (c + 1)).map encI := by show _ = ((lin9 0 1 c).set c (0 + 1 * (c : Int))).map encI; rw [List.map_set, eu, ex]; rfl
      rw [hN] at hrow2
      have HR := Lib.hid hrow2
      have HB := Lib.hid hB2
      clear hN hrow2 hB2 hrow hbl hgr2 ev1 hlen eu ex
      go_wp2_with fail
      go_roundw
      case rel => exact ⟨c + 1, by omega, by go_num, HR.out, HB.out⟩
      case measure => simp [intOf] <;> omega
    · obtain rfl : c = 256 := by omega
      rw [lin9_uline] at hrow
      go_wp2_with fail
      go_ret
      exact ⟨_, _, _, rfl, IR.of_own hrow, by rw [HS.out]; exact hbl⟩

set_option maxRecDepth 100000 in
set_option maxHeartbeats 4000000 in
theorem bbook9_0 (w : World) : Calls Try.prog 8 #[.int .i64 0] w (GotIp w (tree9 true) 0) := by
  have hq : Boxed (w.alloc (.cells #[.int .i64 1] 2)) w.heap.size 2 (.int .i64 ((many9 true 0 : Nat) : Int)) := Boxed.new w _ _
  have hb : Below w.heap.size w (w.alloc (.cells #[.int .i64 1] 2)) := (Below.refl _ w).alloc (Nat.le_refl _) _
  go_enter Try.func8, Try.ntmps8
  go_wp2_with fail
  refine (middles_any 1 _).mono ?_
  rintro e w' ⟨rfl, rfl⟩
  obtain ⟨W, hW⟩ : ∃ W, w.alloc (.cells #[.int .i64 1] 2) = W := ⟨_, rfl⟩
  rw [hW] at hq hb
  try rw [hW]
  have CT := tree_t _ _ hq
  clear hq
  go_wp2_with fail
  refine CT.mono ?_
  rintro e w2 ⟨A, n, c, rfl, h, b⟩
  go_wp2_with fail
  go_ret2
  exact ⟨A, n, c, rfl, h, hb.trans (b.mono hb.size)⟩

set_option maxRecDepth 100000 in
set_option maxHeartbeats 4000000 in
theorem bbook9_1 (w : World) : Calls Try.prog 8 #[.int .i64 1] w (GotIp w (tree9 false) 0) := by
  have hq : Boxed (w.alloc (.cells #[.int .i64 2] 2)) w.heap.size 2 (.int .i64 ((many9 false 0 : Nat) : Int)) := Boxed.new w _ _
  have hb : Below w.heap.size w (w.alloc (.cells #[.int .i64 2] 2)) := (Below.refl _ w).alloc (Nat.le_refl _) _
  go_enter Try.func8, Try.ntmps8
  go_wp2_with fail
  refine (middles_any 2 _).mono ?_
  rintro e w' ⟨rfl, rfl⟩
  obtain ⟨W, hW⟩ : ∃ W, w.alloc (.cells #[.int .i64 2] 2) = W := ⟨_, rfl⟩
  rw [hW] at hq hb
  try rw [hW]
  have CT := tree_f _ _ hq
  clear hq
  go_wp2_with fail
  refine CT.mono ?_
  rintro e w2 ⟨A, n, c, rfl, h, b⟩
  go_wp2_with fail
  go_ret2
  exact ⟨A, n, c, rfl, h, hb.trans (b.mono hb.size)⟩

set_option maxRecDepth 100000 in
set_option maxHeartbeats 4000000 in
theorem bbook9_2 (w : World) : Calls Try.prog 8 #[.int .i64 2] w (GotIp w (linek 256) 0) := by
  go_enter Try.func8, Try.ntmps8
  go_wp2_with fail
  refine (bline9 _).mono ?_
  rintro e w' ⟨A, n, c, rfl, h, b⟩
  go_wp2_with fail
  go_ret2
  exact ⟨A, n, c, rfl, h, b⟩

set_option maxRecDepth 100000 in
set_option maxHeartbeats 4000000 in
theorem bbook9_3 (w : World) : Calls Try.prog 8 #[.int .i64 3] w (GotIp w (ulinek 256) 0) := by
  go_enter Try.func8, Try.ntmps8
  go_wp2_with fail
  refine (buline9 _).mono ?_
  rintro e w' ⟨A, n, c, rfl, h, b⟩
  go_wp2_with fail
  go_ret2
  exact ⟨A, n, c, rfl, h, b⟩

set_option maxRecDepth 100000 in
set_option maxHeartbeats 4000000 in
theorem bbook9_no (w : World) {k : Int} (h : ¬ Kind9 k) : Calls Try.prog 8 #[.int .i64 k] w (GotIp w [] 1) := by
  have k0 : (k == 0) = false := by simp; exact fun e => h (.inl e)
  have k1 : (k == 1) = false := by simp; exact fun e => h (.inr (.inl e))
  have k2 : (k == 2) = false := by simp; exact fun e => h (.inr (.inr (.inl e)))
  have k3 : (k == 3) = false := by simp; exact fun e => h (.inr (.inr (.inr e)))
  clear h
  go_enter Try.func8, Try.ntmps8
  go_wp2_with fail
  go_ret2
  exact ⟨_, _, _, rfl, IR.nil _ _ _, Below.refl _ _⟩
theorem bbook_N (w : World) (k : Int) : Calls Try.prog 8 #[.int .i64 k] w (GotIp w (book9 k) (code9 k)) := by
  by_cases h : Kind9 k
  · rcases h with rfl | rfl | rfl | rfl
    · exact bbook9_0 w
    · exact bbook9_1 w
    · exact bbook9_2 w
    · exact bbook9_3 w
  · have e1 : book9 k = [] := by unfold book9; unfold Kind9 at h; rw [if_neg (fun e => h (.inl e)), if_neg (fun e => h (.inr (.inl e))), if_neg (fun e => h (.inr (.inr (.inl e)))), if_neg (fun e => h (.inr (.inr (.inr e))))]
    rw [e1, show code9 k = 1 from if_neg h]
    exact bbook9_no w h
end Go.Proofs.Ytcbchofjaegdgaa
