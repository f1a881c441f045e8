/-
  The contracts of the ninth reference: Book.
-/
import Derived.Test.YtcbchofjaegdgaaB3
namespace Go.Proofs.Ytcbchofjaegdgaa
set_option maxRecDepth 100000
open Go.RowKit
set_option linter.unusedVariables false
set_option linter.unusedSimpArgs false

def linek (m : Nat) : List Int := (List.range m).map fun (c : Nat) => 2 * (c : Int) - 255
def ulinek (m : Nat) : List Int := (List.range m).map fun (c : Nat) => (c : Int)
theorem linek_succ (m : Nat) : linek (m + 1) = linek m ++ [2 * (m : Int) - 255] := by unfold linek; rw [List.range_succ, List.map_append]; rfl
theorem ulinek_succ (m : Nat) : ulinek (m + 1) = ulinek m ++ [(m : Int)] := by unfold ulinek; rw [List.range_succ, List.map_append]; rfl
theorem linek_len (m : Nat) : (linek m).length = m := by unfold linek; simp
theorem ulinek_len (m : Nat) : (ulinek m).length = m := by unfold ulinek; simp
/-- A kind's numbers. -/
def book9 (k : Int) : List Int := if k = 0 then tree9 true else if k = 1 then tree9 false else if k = 2 then linek 256 else if k = 3 then ulinek 256 else []
/-- Is there such a kind? -/
def Kind9 (k : Int) : Prop := k = 0 ∨ k = 1 ∨ k = 2 ∨ k = 3
instance (k : Int) : Decidable (Kind9 k) := by unfold Kind9; infer_instance
def code9 (k : Int) : Int := if Kind9 k then 0 else 1

set_option maxRecDepth 100000 in
set_option maxHeartbeats 4000000 in
theorem rbook9_0 (w : World) :
    Calls Try.prog 9 #[.int .i64 0] w (GotIp w (tree9 true) 0) := by
  go_enter Try.func9, Try.ntmps9
  go_wp2_with fail
  refine (rtree9_t _).mono ?_
  rintro e w' ⟨A, n, c, rfl, h, b⟩
  go_wp2_with fail
  go_ret2
  exact ⟨A, n, c, rfl, h, b⟩
set_option maxRecDepth 100000 in
set_option maxHeartbeats 4000000 in
theorem rbook9_1 (w : World) :
    Calls Try.prog 9 #[.int .i64 1] w (GotIp w (tree9 false) 0) := by
  go_enter Try.func9, Try.ntmps9
  go_wp2_with fail
  refine (rtree9_f _).mono ?_
  rintro e w' ⟨A, n, c, rfl, h, b⟩
  go_wp2_with fail
  go_ret2
  exact ⟨A, n, c, rfl, h, b⟩
set_option maxRecDepth 100000 in
set_option maxHeartbeats 4000000 in
theorem rbook9_no (w : World) {k : Int} (h : ¬ Kind9 k) :
    Calls Try.prog 9 #[.int .i64 k] w (GotIp w [] 1) := by
  have k0 : (k == 0) = false := by simp; exact fun e => h (.inl e)
  have k1 : (k == 1) = false := by simp; exact fun e => h (.inr (.inl e))
  have k2 : (k == 2) = false := by simp; exact fun e => h (.inr (.inr (.inl e)))
  have k3 : (k == 3) = false := by simp; exact fun e => h (.inr (.inr (.inr e)))
  have k4 : (k != 2) = true := by simp; exact fun e => h (.inr (.inr (.inl e)))
  have k5 : (k != 3) = true := by simp; exact fun e => h (.inr (.inr (.inr e)))
  clear h
  go_enter Try.func9, Try.ntmps9
  go_wp2_with fail
  go_ret2
  exact ⟨none, 0, 0, rfl, IR.nil _ _ _, Below.refl _ _⟩
set_option maxRecDepth 100000 in
set_option maxHeartbeats 4000000 in
theorem rbook9_2 (w : World) :
    Calls Try.prog 9 #[.int .i64 2] w (GotIp w (linek 256) 0) := by
  obtain ⟨i0, hi, hz0, hz1, hz2⟩ := info_parts infoI
  obtain ⟨t, ht⟩ : ∃ t, w.heap.size = t := ⟨_, rfl⟩
  have HT := Lib.hid ht
  have hB0 : Below t w w := Below.refl _ _
  have hown : ∀ W : World, t ≤ W.heap.size → (W.alloc (.cells #[] 2)).ownsRow t 2 1 (.slice (some ⟨W.heap.size, 0, none⟩) 0 0) 0 ([] : List Value) := fun W h => World.ownsRow_lit W #[] 0 h (by unfold maxLen; omega) rfl
  clear ht
  go_enter Try.func9, Try.ntmps9
  go_wp2_with fail
  go_loopw [4, 5] (fun ov cv wr => ∃ c : Nat, c ≤ 256 ∧ cv = .int .i64 (c : Int) ∧ Grown t w wr ov (linek c)) (fun _ cv _ => 256 - (intOf cv).toNat)
  case atStart => exact ⟨0, by omega, rfl, w.heap.size, 0, 0, rfl, hown w (by rw [HT.out]; omega), hB0.alloc (by rw [HT.out]; omega) _, by simp; rw [HT.out]; omega⟩
  case round =>
    obtain ⟨c, hc, rfl, g, cap, N, rfl, hO, hbl, hts⟩ := hrel
    by_cases hlt : c < 256
    · have hS := linek_succ c
      have HS := Lib.hid hS
      have HO := Lib.hid hO
      have hg := (hO.lt g rfl).1
      have hll : N ≤ 256 := by have e := own_len hO; rw [linek_len] at e; omega
      clear hS hO
      obtain ⟨x, ex⟩ : ∃ x, 2 * (c : Int) - 255 = x := ⟨_, rfl⟩
      have k1 : IntKind.i64.wrap (2 * (c : Int)) = 2 * (c : Int) := IntWalk.i64_in _ (by omega)
      have k2 : IntKind.i64.wrap (2 * (c : Int) - 255) = x := by rw [← ex]; exact IntWalk.i64_in _ (by omega)
      rw [ex] at HS
      clear ex
      go_wp2_with (at_builtin; refine wpList_append_lies _ rfl _ _ 22 rfl t 2 i0 (.int .i64 0) 1 8 Try.underlying22 hi hz0 hz1 hz2 rfl (by decide) _ _ _ rfl (HO.out.alloc _) ⟨wr.heap.size, 0, none⟩ 1 1 [.int .i64 x] rfl rfl (cell_one_new _ _ _) (by simp [Value.oneCell']) (by omega) (by unfold maxLen; omega) (by omega) (by simp; omega) _ rfl ?_; intro g1 cap1 w3 hown1 hgrow1 hat hlt1)
      go_roundw
      case rel =>
        refine ⟨c + 1, by omega, by go_num, ?_⟩
        have hG := Grown.push hbl hts HT.out hg hown1 hgrow1
        rw [HS.out]
        exact hG
      case measure => simp [intOf] <;> omega
    · obtain rfl : c = 256 := by omega
      have HO := Lib.hid hO
      clear hO hown
      go_wp2_with fail
      go_ret2
      exact ⟨_, _, _, rfl, IR.of_own HO.out, by rw [HT.out]; exact hbl⟩
set_option maxRecDepth 100000 in
set_option maxHeartbeats 4000000 in
theorem rbook9_3 (w : World) :
    Calls Try.prog 9 #[.int .i64 3] w (GotIp w (ulinek 256) 0) := by
  obtain ⟨i0, hi, hz0, hz1, hz2⟩ := info_parts infoI
  obtain ⟨t, ht⟩ : ∃ t, w.heap.size = t := ⟨_, rfl⟩
  have HT := Lib.hid ht
  have hB0 : Below t w w := Below.refl _ _
  have hown : ∀ W : World, t ≤ W.heap.size → (W.alloc (.cells #[] 2)).ownsRow t 2 1 (.slice (some ⟨W.heap.size, 0, none⟩) 0 0) 0 ([] : List Value) := fun W h => World.ownsRow_lit W #[] 0 h (by unfold maxLen; omega) rfl
  clear ht
  go_enter Try.func9, Try.ntmps9
  go_wp2_with fail
  go_loopw [4, 5] (fun ov cv wr => ∃ c : Nat, c ≤ 256 ∧ cv = .int .i64 (c : Int) ∧ Grown t w wr ov (ulinek c)) (fun _ cv _ => 256 - (intOf cv).toNat)
  case atStart => exact ⟨0, by omega, rfl, w.heap.size, 0, 0, rfl, hown w (by rw [HT.out]; omega), hB0.alloc (by rw [HT.out]; omega) _, by simp; rw [HT.out]; omega⟩
  case round =>
    obtain ⟨c, hc, rfl, g, cap, N, rfl, hO, hbl, hts⟩ := hrel
    by_cases hlt : c < 256
    · have hS := ulinek_succ c
      have HS := Lib.hid hS
      have HO := Lib.hid hO
      have hg := (hO.lt g rfl).1
      have hll : N ≤ 256 := by have e := own_len hO; rw [ulinek_len] at e; omega
      clear hS hO
      go_wp2_with (at_builtin; refine wpList_append_lies _ rfl _ _ 22 rfl t 2 i0 (.int .i64 0) 1 8 Try.underlying22 hi hz0 hz1 hz2 rfl (by decide) _ _ _ rfl (HO.out.alloc _) ⟨wr.heap.size, 0, none⟩ 1 1 [.int .i64 (c : Int)] rfl rfl (cell_one_new _ _ _) (by simp [Value.oneCell']) (by omega) (by unfold maxLen; omega) (by omega) (by simp; omega) _ rfl ?_; intro g1 cap1 w3 hown1 hgrow1 hat hlt1)
      go_roundw
      case rel =>
        refine ⟨c + 1, by omega, by go_num, ?_⟩
        have hG := Grown.push hbl hts HT.out hg hown1 hgrow1
        rw [HS.out]
        exact hG
      case measure => simp [intOf] <;> omega
    · obtain rfl : c = 256 := by omega
      have HO := Lib.hid hO
      clear hO hown
      go_wp2_with fail
      go_ret2
      exact ⟨_, _, _, rfl, IR.of_own HO.out, by rw [HT.out]; exact hbl⟩
theorem rbook9_N (w : World) (k : Int) :
    Calls Try.prog 9 #[.int .i64 k] w (GotIp w (book9 k) (code9 k)) := by
  by_cases h : Kind9 k
  · rcases h with rfl | rfl | rfl | rfl
    · exact rbook9_0 w
    · exact rbook9_1 w
    · exact rbook9_2 w
    · exact rbook9_3 w
  · have e1 : book9 k = [] := by unfold book9; unfold Kind9 at h; rw [if_neg (fun e => h (.inl e)), if_neg (fun e => h (.inr (.inl e))), if_neg (fun e => h (.inr (.inr (.inl e)))), if_neg (fun e => h (.inr (.inr (.inr e))))]
    have e2 : code9 k = 1 := if_neg h
    rw [e1, e2]
    exact rbook9_no w h
end Go.Proofs.Ytcbchofjaegdgaa
