/-
  The contracts of the reference's Bare and Of.
-/
import Derived.Test.YtogdckajgkncdaaRow
namespace Go.Proofs.Ytogdckajgkncdaa
open Go.RowKit

theorem isL_of_own {w : World} {base : Nat} {e : TypeId} {v : Value} {n : Nat} {l : List Nat} (h : w.ownsRow base e 1 v n (l.map encD)) (hd : Dig l) : ∃ A c, v = .slice A n c ∧ Lim w.heap.size w A n c l := by
  rcases h.2 with ⟨rfl, rfl⟩ | ⟨g, cap, cur, rfl, _⟩
  · exact ⟨none, 0, rfl, Lim.of_own h hd⟩
  · exact ⟨_, _, rfl, Lim.of_own h hd⟩

/-- A slice lies in new memory: in a block from B on, if it has anything. -/
def Fresh (B : Nat) (A : Option Addr) (n : Nat) : Prop := 0 < n → ∃ b off, A = some ⟨b, off, none⟩ ∧ B ≤ b
theorem Fresh.mono {B B' : Nat} {A : Option Addr} {n : Nat} (h : Fresh B A n) (hB : B' ≤ B) : Fresh B' A n := fun h0 => by
  obtain ⟨b, off, e, hb⟩ := h h0
  exact ⟨b, off, e, Nat.le_trans hB hb⟩
theorem fresh_of_own {w : World} {base : Nat} {e : TypeId} {A : Option Addr} {n c : Nat} {xs : List Value} (h : w.ownsRow base e 1 (.slice A n c) n xs) : Fresh base A n := fun h0 => by
  rcases h.2 with ⟨_, h1⟩ | ⟨g, cap, cur, e1, hb, _⟩
  · omega
  · injection e1 with e2
    exact ⟨g, 0, e2, hb⟩
/-- A call has answered a number in new memory, and nothing that was there has changed. -/
def GotNF (w : World) (x : Nat) (e : Ending) (w' : World) : Prop := ∃ A n c, e = .returned (.slice A n c) ∧ Num w' A n c x ∧ Below w.heap.size w w' ∧ Fresh w.heap.size A n
theorem GotNF.weak {w w' : World} {x : Nat} {e : Ending} (h : GotNF w x e w') : GotN w x e w' := by
  obtain ⟨A, n, c, he, hl, hb, _⟩ := h
  exact ⟨A, n, c, he, hl, hb⟩
/-- Likewise, with a code. -/
def GotPF (w : World) (x : Nat) (r : Int) (e : Ending) (w' : World) : Prop := ∃ A n c, e = .returned (.tuple #[.slice A n c, .int .i64 r]) ∧ Num w' A n c x ∧ Below w.heap.size w w' ∧ Fresh w.heap.size A n
theorem GotPF.weak {w w' : World} {x : Nat} {r : Int} {e : Ending} (h : GotPF w x r e w') : GotP w x r e w' := by
  obtain ⟨A, n, c, he, hl, hb, _⟩ := h
  exact ⟨A, n, c, he, hl, hb⟩

theorem own_empty (w : World) (base : Nat) (h : base ≤ w.heap.size) : (w.alloc (.cells #[] 38)).ownsRow base 38 1 (.slice (some ⟨w.heap.size, 0, none⟩) 0 0) 0 [] :=
  ⟨rfl, .inr ⟨w.heap.size, 0, #[], rfl, h, heap_alloc_new w _, Nat.le_refl _, by unfold maxLen; omega, rfl, rfl⟩⟩

theorem encD_one (l : List Nat) : ∀ u ∈ l.map encD, u.oneCell' = true := fun u hu => by
  obtain ⟨x, _, rfl⟩ := List.mem_map.1 hu
  rfl

set_option maxHeartbeats 2000000 in
theorem bare_F (b off n c : Nat) (l : List Nat) (w : World) (h : Lim w.heap.size w (some ⟨b, off, none⟩) n c l) (hn : n ≤ 4294967296) (hc : ∀ j, j < n → w.cell? ⟨b, off + j, none⟩ = some (.int .u64 ((l[j]?.getD 0 : Nat) : Int))) (hb : 0 < n → b < w.heap.size) :
    Calls Try.prog 36 #[.slice (some ⟨b, off, none⟩) n c] w (GotNF w (val l)) := by
  obtain ⟨i0, hi, hz0, hz1, hz2⟩ := info_parts info24
  obtain ⟨hl, hcap, hdg, _⟩ := h
  have HL := Lib.hid hl
  clear hl
  go_enter Try.func36, Try.ntmps36
  go_wp2
  go_loop [3] (fun v => ∃ k : Nat, k ≤ n ∧ v = .int .i64 (k : Int) ∧ Hid (val (l.take k) = val l)) (fun v => (intOf v).toNat)
  case atStart => exact ⟨n, Nat.le_refl _, rfl, by rw [List.take_of_length_le (by have := HL.out; omega)]; exact Lib.hid rfl⟩
  case round =>
    obtain ⟨k, hk, rfl, hv⟩ := hrel
    by_cases hz : 0 < k ∧ l[k - 1]?.getD 0 = 0
    · obtain ⟨hk0, hz⟩ := hz
      obtain ⟨j, hj⟩ : ∃ j, k = j + 1 := ⟨k - 1, by omega⟩
      subst hj
      rw [Nat.add_sub_cancel] at hz
      have h1 := hc j (by omega)
      have hzb : (((l[j]?.getD 0 : Nat) : Int) == 0) = true := by simp [hz]
      have HZ := Lib.hid hz
      have HC := Lib.hid hc
      clear hz hc
      go_wp2
      go_round
      case rel => exact ⟨j, by omega, by go_num, Lib.hid (val_take_zero HZ.out hv.out)⟩
      case measure => simp [intOf]
    · have hne : 0 < k → l[k - 1]?.getD 0 ≠ 0 := fun h0 h1 => hz ⟨h0, h1⟩
      have ht := take_limbs hdg (by have := HL.out; omega) hv.out hne
      have HT := Lib.hid ht
      have hcells : ∀ (j : Nat) u, ((l.take k).map encD)[j]? = some u → (w.alloc (.cells #[] 38)).cell? ((⟨b, off, none⟩ : Addr).add j) = some u := by
        intro j u hu
        have hj : j < k := by
          have := (List.getElem?_eq_some_iff.1 hu).1
          simp at this; omega
        have hlj : j < l.length := by have := HL.out; omega
        have e1 : ((⟨b, off, none⟩ : Addr).add j) = ⟨b, off + j, none⟩ := by unfold Addr.add; split <;> simp_all
        rw [e1, World.cell?_alloc_lt w _ _ (hb (by omega)), hc j (by omega)]
        rw [List.getElem?_map, List.getElem?_take_of_lt hj, List.getElem?_eq_getElem hlj] at hu
        simp only [List.getElem?_eq_getElem hlj, Option.getD_some]
        exact hu
      have HCE := Lib.hid hcells
      have htest : (k = 0) ∨ (∃ j, k = j + 1 ∧ (((l[j]?.getD 0 : Nat) : Int) == 0) = false ∧ w.cell? ⟨b, off + j, none⟩ = some (.int .u64 ((l[j]?.getD 0 : Nat) : Int))) := by
        rcases Nat.eq_zero_or_pos k with h0 | h0
        · exact .inl h0
        · refine .inr ⟨k - 1, by omega, ?_, hc _ (by omega)⟩
          have := hne h0
          simp; omega
      have hlk : (l.take k).length = k := by rw [List.length_take, Nat.min_eq_left (by have := HL.out; omega)]
      have HLK := Lib.hid hlk
      clear hz hne ht hcells hc hlk
      rcases htest with rfl | ⟨j, rfl, hzb, h1⟩
      · go_wp2_with (at_builtin; go_must (refine wpList_append_own _ rfl _ _ 23 rfl w.heap.size 38 i0 (.int .u64 0) 1 8 Try.underlying23 hi hz0 hz1 hz2 rfl (by decide) _ _ _ rfl (own_empty w w.heap.size (Nat.le_refl _)) ⟨b, off, none⟩ (0) _ ((l.take (0)).map encD) rfl (by have := HLK.out; simp only [List.length_map]; omega) HCE.out (encD_one _) (by unfold maxLen; omega) (by omega) (by simp) ?_); intro v' w1 hown1 hgrow1 _)
        go_ret
        rw [List.nil_append] at hown1
        obtain ⟨A', c', rfl, hl'⟩ := isL_of_own hown1 (hdg.take _)
        have hfr := fresh_of_own hown1
        rw [HT.out] at hl'
        exact ⟨_, _, _, rfl, hl', ((Below.refl _ w).alloc (Nat.le_refl _) _).grown hgrow1 (by simp) (fun q e => by injection (show some w.heap.size = some q from e) with e1; omega), hfr⟩
      · go_wp2_with (at_builtin; go_must (refine wpList_append_own _ rfl _ _ 23 rfl w.heap.size 38 i0 (.int .u64 0) 1 8 Try.underlying23 hi hz0 hz1 hz2 rfl (by decide) _ _ _ rfl (own_empty w w.heap.size (Nat.le_refl _)) ⟨b, off, none⟩ (j + 1) _ ((l.take (j + 1)).map encD) rfl (by have := HLK.out; simp only [List.length_map]; omega) HCE.out (encD_one _) (by unfold maxLen; omega) (by omega) (by simp) ?_); intro v' w1 hown1 hgrow1 _)
        go_ret
        rw [List.nil_append] at hown1
        obtain ⟨A', c', rfl, hl'⟩ := isL_of_own hown1 (hdg.take _)
        have hfr := fresh_of_own hown1
        rw [HT.out] at hl'
        exact ⟨_, _, _, rfl, hl', ((Below.refl _ w).alloc (Nat.le_refl _) _).grown hgrow1 (by simp) (fun q e => by injection (show some w.heap.size = some q from e) with e1; omega), hfr⟩

theorem bare_any (b off n c : Nat) (l : List Nat) (w : World) (h : Lim w.heap.size w (some ⟨b, off, none⟩) n c l) (hn : n ≤ 4294967296) (hc : ∀ j, j < n → w.cell? ⟨b, off + j, none⟩ = some (.int .u64 ((l[j]?.getD 0 : Nat) : Int))) (hb : 0 < n → b < w.heap.size) :
    Calls Try.prog 36 #[.slice (some ⟨b, off, none⟩) n c] w (GotN w (val l)) := (bare_F b off n c l w h hn hc hb).mono fun _ _ h => h.weak

theorem lim_one {x : Nat} (hx : x < B64) (w : World) : Lim (w.alloc (.cells #[.int .u64 (x : Int)] 38)).heap.size (w.alloc (.cells #[.int .u64 (x : Int)] 38)) (some ⟨w.heap.size, 0, none⟩) 1 1 [x] := by
  refine ⟨rfl, Nat.le_refl _, Dig.cons hx Dig.nil, fun _ => ⟨_, _, rfl, by simp, fun j hj => ?_⟩⟩
  obtain rfl : j = 0 := by omega
  exact cell_one_new w _ 38 0 _ rfl

theorem GotN.from {w w1 : World} {x : Nat} {e : Ending} {w' : World} (h : GotN w1 x e w') (hb : Below w.heap.size w w1) : GotN w x e w' := by
  obtain ⟨A, n, c, he, hl, hb'⟩ := h
  exact ⟨A, n, c, he, hl, hb.trans (hb'.mono hb.size)⟩

set_option maxHeartbeats 1000000 in
theorem rof_N (w : World) (x : Nat) (hx : x < B64) : Calls Try.prog 26 #[.int .u64 (x : Int)] w (GotN w x) := by
  have hl := lim_one hx w
  have hv : val [x] = x := by simp [val_cons, val_nil]
  have hB := bare_any w.heap.size 0 1 1 [x] _ hl (by omega) (fun j hj => by
    obtain rfl : j = 0 := by omega
    exact cell_one_new w _ 38 0 _ rfl) (fun _ => by simp)
  rw [hv] at hB
  have HB := Lib.hid hB
  clear hB hl hv
  go_enter Try.func26, Try.ntmps26
  go_wp2_with fail
  refine HB.out.mono ?_
  rintro e w' h
  obtain ⟨A, n, c, rfl, hl, hb⟩ := h.from ((Below.refl _ w).alloc (Nat.le_refl _) _)
  go_wp2_with fail
  go_ret
  exact ⟨A, n, c, rfl, hl, hb⟩

end Go.Proofs.Ytogdckajgkncdaa
