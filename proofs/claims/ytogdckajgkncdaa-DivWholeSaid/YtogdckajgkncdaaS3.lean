/-
  The contracts of the library's Grow and Concat.
-/
import Derived.Lib.AppendZerosOnto
import Derived.Test.YtogdckajgkncdaaS2
namespace Go.Proofs.Ytogdckajgkncdaa
open Go.RowKit

set_option maxHeartbeats 2000000 in
theorem grow_nil (n : Nat) (w : World) (h0 : 0 < n) (hn : n ≤ 2147483648) :
    Calls Try.prog 45 #[.slice none 0 0, .int .i64 (n : Int)] w fun e w' => ∃ cap, e = .returned (.slice (some ⟨w.heap.size, 0, none⟩) 0 cap) ∧ w'.ownsRow w.heap.size 38 1 (.slice (some ⟨w.heap.size, 0, none⟩) 0 cap) 0 [] ∧ Below w.heap.size w w' := by
  obtain ⟨i0, hi, hz0, hz1, hz2⟩ := info_parts info24
  have hold : (Builtin.firstCells i0.size 0 (.slice none 0 0)).run Try.prog w.drew = .ok ([] : List Value).toArray w.drew := run_firstCells_none w.drew i0.size 0 0 0
  have hrz := fun ty => Lib.run_append_grow_zeros (P := Try.prog) w 23 3 ty 38 i0 (.int .u64 0) .i64 .i64 Try.underlying23 Try.underlying3 hi hz0 none 0 0 [] hold n h0 (by omega) (by omega) (by omega) (by rw [hz2]; omega) (growslice_fits (by omega) (by rw [hz2]; omega))
  obtain ⟨G, hG⟩ : ∃ G, G = grownCap w (0 + n) 0 38 := ⟨_, rfl⟩
  rw [← hG] at hrz
  have hGn : n ≤ G := by rw [hG]; have := grownCap_ge w (0 + n) 0 38; omega
  have hG63 : G ≤ maxLen := by
    rw [hG]; exact grownCap_le_maxLen w (0 + n) 0 38 (by unfold maxLen; omega)
  have hown : ∀ cur : Array Value, cur.size = G * 1 → (w.drew.alloc (.cells cur 38)).ownsRow w.heap.size 38 1 (.slice (some ⟨w.heap.size, 0, none⟩) 0 G) 0 [] := fun cur hc => World.ownsRow_made w.drew cur G (Nat.le_refl _) hG63 hc
  have HOW := Lib.hid hown
  have HG := Lib.hid hG63
  have HGG := Lib.hid hG
  have hG1 : G ≤ 9223372036854775807 := by unfold maxLen at hG63; omega
  clear hold hown hG63 hG
  go_enter Try.func45, Try.ntmps45
  go_wp2_with (at_builtin; refine Lib.wpList_append_run _ rfl _ _ _ _ rfl _ _ rfl rfl _ _ (hrz _) ?_)
  go_ret
  refine ⟨G, rfl, HOW.out _ ?_, below_drewN ((Below.refl _ w)) 1 |>.alloc (Nat.le_refl _) _⟩
  simp [size_zeroCells]
  omega

theorem Lim.src {w w' : World} {b off n c : Nat} {l : List Nat} (h : Lim w.heap.size w (some ⟨b, off, none⟩) n c l) (hb : Below w.heap.size w w') : ∀ (j : Nat) u, (l.map encD)[j]? = some u → w'.cell? ((⟨b, off, none⟩ : Addr).add j) = some u := by
  intro j u hu
  have hj : j < n := by
    have := (List.getElem?_eq_some_iff.1 hu).1
    rw [List.length_map] at this
    have := h.1; omega
  obtain ⟨b', off', e, hlt, hcell⟩ := h.2.2.2 (by omega)
  injection e with e
  injection e with e1 e2
  subst e1; subst e2
  have e1 : ((⟨b, off, none⟩ : Addr).add j) = ⟨b, off + j, none⟩ := by unfold Addr.add; split <;> simp_all
  rw [e1, hb.cell (p := ⟨b, off + j, none⟩) hlt, hcell j hj]
  rw [List.getElem?_map] at hu
  have hjl : j < l.length := by have := h.1; omega
  rw [List.getElem?_eq_getElem hjl] at hu ⊢
  exact hu

set_option maxRecDepth 100000 in
set_option maxHeartbeats 4000000 in
theorem concat_two (w : World) (s b1 o1 n c b2 o2 m d : Nat) (la lb : List Nat) (h1 : Lim w.heap.size w (some ⟨b1, o1, none⟩) n c la) (h2 : Lim w.heap.size w (some ⟨b2, o2, none⟩) m d lb)
    (hs0 : w.cell? ⟨s, 0, none⟩ = some (.slice (some ⟨b1, o1, none⟩) n c)) (hs1 : w.cell? ⟨s, 1, none⟩ = some (.slice (some ⟨b2, o2, none⟩) m d)) (hs : s < w.heap.size) (hn : n ≤ 1073741824) (hm : m ≤ 1073741824) (h0 : 0 < n + m) :
    Calls Try.prog 32 #[.slice (some ⟨s, 0, none⟩) 2 2] w fun e w' => ∃ A' c', e = .returned (.slice A' (n + m) c') ∧ Lim w'.heap.size w' A' (n + m) c' (la ++ lb) ∧ Fresh w.heap.size A' (n + m) ∧ Below w.heap.size w w' := by
  obtain ⟨i0, hi, hz0, hz1, hz2⟩ := info_parts info24
  have H1 := Lib.hid h1.1
  have H2 := Lib.hid h2.1
  have hda := h1.2.2.1
  have hdb := h2.2.2.1
  go_enter Try.func32, Try.ntmps32
  go_wp2_with fail
  go_loop [3, 11] (fun sv iv => (iv = .int .i64 0 ∧ sv = .int .i64 0) ∨ (iv = .int .i64 1 ∧ sv = .int .i64 (n : Int)) ∨ (iv = .int .i64 2 ∧ sv = .int .i64 ((n + m : Nat) : Int))) (fun _ iv => 2 - (intOf iv).toNat)
  case atStart => exact .inl ⟨rfl, rfl⟩
  case round =>
    rcases hrel with ⟨rfl, rfl⟩ | ⟨rfl, rfl⟩ | ⟨rfl, rfl⟩
    · go_wp2_with fail
      go_round
      case rel => exact .inr (.inl ⟨rfl, rfl⟩)
      case measure => simp [intOf]
    · go_wp2_with fail
      go_round
      case rel => exact .inr (.inr ⟨rfl, by go_num⟩)
      case measure => simp [intOf]
    · go_wp2_with fail
      refine (grow_nil _ _ h0 (by omega)).mono ?_
      rintro e w1 ⟨cap, rfl, hown1, hb1⟩
      go_wp2_with fail
      go_loopw [6, 27] (fun ov iv wr => ∃ k xs, Hid (xs = List.map encD k) ∧ wr.ownsRow w.heap.size 38 1 ov k.length xs ∧ Below w.heap.size w wr ∧ ((iv = .int .i64 0 ∧ k = []) ∨ (iv = .int .i64 1 ∧ k = la) ∨ (iv = .int .i64 2 ∧ k = la ++ lb))) (fun _ iv _ => 2 - (intOf iv).toNat)
      case atStart => exact ⟨[], [], Lib.hid rfl, hown1, hb1, .inl ⟨rfl, rfl⟩⟩
      case round =>
        obtain ⟨k, xs, hxs, hown, hbl, hk⟩ := hrel
        have c0 := (hbl.cell (p := ⟨s, 0, none⟩) hs).trans hs0
        have c1 := (hbl.cell (p := ⟨s, 1, none⟩) hs).trans hs1
        have HO := Lib.hid hown
        clear hown
        rcases hk with ⟨rfl, rfl⟩ | ⟨rfl, rfl⟩ | ⟨rfl, rfl⟩
        · go_wp2_with (at_builtin; refine wpList_append_own _ rfl _ _ 23 rfl w.heap.size 38 i0 (.int .u64 0) 1 8 Try.underlying23 hi hz0 hz1 hz2 rfl (by decide) _ _ _ rfl HO.out ⟨b1, o1, none⟩ n c (la.map encD) rfl (by have := H1.out; simp only [List.length_map]; omega) (h1.src hbl) (encD_one _) (by simp only [List.length_nil]; unfold maxLen; omega) (by simp only [List.length_nil]; omega) hbl.size ?_; intro v' w2 hown2 hgrow2 _)
          go_roundw
          case rel =>
            refine ⟨la, la.map encD, Lib.hid rfl, ?_, hbl.grown hgrow2 hbl.size (fun q e => (HO.out.lt q e).1), .inr (.inl ⟨rfl, rfl⟩)⟩
            rw [hxs.out, List.map_nil, List.nil_append, List.length_nil, Nat.zero_add] at hown2
            rw [← H1.out]
            exact hown2
          case measure => simp [intOf]
        · go_wp2_with (at_builtin; refine wpList_append_own _ rfl _ _ 23 rfl w.heap.size 38 i0 (.int .u64 0) 1 8 Try.underlying23 hi hz0 hz1 hz2 rfl (by decide) _ _ _ rfl HO.out ⟨b2, o2, none⟩ m d (lb.map encD) rfl (by have := H2.out; simp only [List.length_map]; omega) (h2.src hbl) (encD_one _) (by have := H1.out; unfold maxLen; omega) (by have := H1.out; omega) hbl.size ?_; intro v' w2 hown2 hgrow2 _)
          go_roundw
          case rel =>
            refine ⟨k ++ lb, (k ++ lb).map encD, Lib.hid rfl, ?_, hbl.grown hgrow2 hbl.size (fun q e => (HO.out.lt q e).1), .inr (.inr ⟨rfl, rfl⟩)⟩
            rw [hxs.out] at hown2
            rw [List.map_append, List.length_append, ← H2.out]
            exact hown2
          case measure => simp [intOf]
        · go_wp2_with fail
          go_ret
          have hown := HO.out
          rw [hxs.out] at hown
          have e : (la ++ lb).length = n + m := by rw [List.length_append, ← H1.out, ← H2.out]
          rw [e] at hown
          obtain ⟨A', c', rfl, hl'⟩ := isL_of_own hown (fun x hx => by
            rcases List.mem_append.1 hx with h | h
            · exact hda x h
            · exact hdb x h)
          exact ⟨A', c', rfl, hl', fresh_of_own hown, hbl⟩

end Go.Proofs.Ytogdckajgkncdaa
