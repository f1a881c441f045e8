/-
  The contract of the reference's Add.
-/
import Derived.Test.YtogdckajgkncdaaWhole
namespace Go.Proofs.Ytogdckajgkncdaa
open Go.RowKit

attribute [local go_sem ↓] mx_run

/-- A call has answered a slice of figures, and nothing that was there has changed. -/
def GotF (w : World) (l : List Nat) (e : Ending) (w' : World) : Prop := ∃ A n c, e = .returned (.slice A n c) ∧ Lim w'.heap.size w' A n c l ∧ Below w.heap.size w w'
theorem halves_F {w : World} {A : Option Addr} {n c x : Nat} (h : Num w A n c x) (hx : (limbs x).length ≤ 2147483648) : Calls Try.prog 42 #[.slice A n c] w (GotF w (halvesL (limbs x))) :=
  (halves_any A n c _ w h (by rw [h.len]; exact hx)).mono fun _ _ ⟨A', c', he, hl, hb⟩ => ⟨A', _, c', he, hl, hb⟩
theorem Lim.on {w w' : World} {A : Option Addr} {n c : Nat} {l : List Nat} (h : Lim w.heap.size w A n c l) (hb : Below w.heap.size w w') : Lim w'.heap.size w' A n c l := (h.below hb).more hb.size

theorem radd_lo (a b c : Nat) : (IntKind.u64.wrap (IntKind.u64.wrap ((a : Int) + (b : Int)) + (c : Int))).tmod 4294967296 = (loH (a + b + c) : Int) := by
  simp only [IntKind.wrap_u64]
  rw [Int.tmod_eq_emod_of_nonneg (by omega)]
  unfold loH H32
  omega
theorem radd_hi {a b c : Nat} (ha : a < H32) (hb : b < H32) (hc : c ≤ 1) : IntKind.u64.wrap ((IntKind.u64.wrap (IntKind.u64.wrap ((a : Int) + (b : Int)) + (c : Int))).tdiv 4294967296) = (hiH (a + b + c) : Int) := by
  simp only [IntKind.wrap_u64]
  rw [Int.tdiv_eq_ediv_of_nonneg (by omega)]
  unfold hiH
  unfold H32 at *
  omega

/-- What has been reckoned when k figures are done: the figures D and the carry c. -/
def AddAt (la lb D : List Nat) (k c : Nat) : Prop := DigH D ∧ D.length = k ∧ c ≤ 1 ∧ valH D + H32 ^ k * c = valH (la.take k) + valH (lb.take k)
theorem AddAt.start (la lb : List Nat) : AddAt la lb [] 0 0 := ⟨DigH.nil, rfl, by omega, by simp [valH_nil]⟩
theorem AddAt.step {la lb D : List Nat} {k c : Nat} (ha : DigH la) (hb : DigH lb) (h : AddAt la lb D k c) :
    AddAt la lb (D ++ [loH (la[k]?.getD 0 + lb[k]?.getD 0 + c)]) (k + 1) (hiH (la[k]?.getD 0 + lb[k]?.getD 0 + c)) := by
  obtain ⟨h1, h2, h3, h4⟩ := h
  refine ⟨h1.snoc (loH_lt _), by simp [h2], div_le_one (ha.get k) (hb.get k) h3, ?_⟩
  rw [valH_snoc, h2, valH_take_succ, valH_take_succ, Nat.pow_succ, Nat.mul_assoc]
  have hs := half_split (la[k]?.getD 0 + lb[k]?.getD 0 + c)
  generalize loH (la[k]?.getD 0 + lb[k]?.getD 0 + c) = lo at *
  generalize hiH (la[k]?.getD 0 + lb[k]?.getD 0 + c) = hi at *
  have h5 : H32 ^ k * lo + H32 ^ k * (H32 * hi) = H32 ^ k * la[k]?.getD 0 + H32 ^ k * lb[k]?.getD 0 + H32 ^ k * c := by
    rw [← Nat.mul_add, hs, Nat.mul_add, Nat.mul_add]
  omega
theorem AddAt.done {la lb D : List Nat} {c N : Nat} (ha : DigH la) (hb : DigH lb) (hN : max la.length lb.length ≤ N) (h : AddAt la lb D (N + 1) c) : valH D = valH la + valH lb := by
  obtain ⟨h1, h2, h3, h4⟩ := h
  rw [List.take_of_length_le (by omega), List.take_of_length_le (by omega)] at h4
  have h5 := Nat.lt_of_lt_of_le (valH_lt ha) (Nat.pow_le_pow_right (n := H32) H32_pos (show la.length ≤ N by omega))
  have h6 := Nat.lt_of_lt_of_le (valH_lt hb) (Nat.pow_le_pow_right (n := H32) H32_pos (show lb.length ≤ N by omega))
  have hc : c = 0 ∨ c = 1 := by omega
  have hg : 2 ≤ H32 := by have := H32_gt; omega
  rw [Nat.pow_succ] at h4
  generalize H32 ^ N = P at *
  generalize H32 = Q at *
  have h8 : P * 2 ≤ P * Q := Nat.mul_le_mul_left _ hg
  rcases hc with rfl | rfl
  · rw [Nat.mul_zero, Nat.add_zero] at h4; exact h4
  · rw [Nat.mul_one] at h4; omega

set_option maxRecDepth 100000 in
set_option maxHeartbeats 4000000 in
theorem radd_F {w : World} {A B : Option Addr} {n c m d x y : Nat} (ha : Num w A n c x) (hb : Num w B m d y) (hx : (limbs x).length ≤ 1000000) (hy : (limbs y).length ≤ 1000000) : Calls Try.prog 23 #[.slice A n c, .slice B m d] w (GotNF w (x + y)) := by
  obtain ⟨i0, hi, hz0, hz1, hz2⟩ := info_parts info24
  go_enter Try.func23, Try.ntmps23
  go_wp2_with fail
  refine (halves_F ha (by omega)).mono ?_
  rintro e w1 ⟨A1, n1, c1, rfl, h1, b1⟩
  go_wp2_with fail
  refine (halves_F (hb.on b1) (by omega)).mono ?_
  rintro e w2 ⟨A2, n2, c2, rfl, h2, b2⟩
  replace h1 := h1.on b2
  have cc := b1.trans (b2.mono b1.size)
  clear b1 b2 ha hb
  have hv1 : valH (halvesL (limbs x)) = x := by rw [halvesL_val, val_limbs]
  have hv2 : valH (halvesL (limbs y)) = y := by rw [halvesL_val, val_limbs]
  have hd1 := halvesL_dig (limbs_dig x)
  have hd2 := halvesL_dig (limbs_dig y)
  have hn1 : n1 ≤ 2000000 := by have := h1.1; rw [halvesL_length] at this; omega
  have hn2 : n2 ≤ 2000000 := by have := h2.1; rw [halvesL_length] at this; omega
  have hE : valH (halvesL (limbs x)) + valH (halvesL (limbs y)) = x + y := by rw [hv1, hv2]
  have HE := Lib.hid hE
  clear hv1 hv2 hx hy hE
  generalize halvesL (limbs x) = la at *
  generalize halvesL (limbs y) = lb at *
  have hmx : mx n1 n2 ≤ 2000000 := by unfold mx; omega
  have hmm : max la.length lb.length ≤ mx n1 n2 := by have := h1.1; have := h2.1; unfold mx; omega
  have HM := Lib.hid hmm
  clear hmm
  go_wp2_with fail
  go_loopw [7, 8, 9] (fun ov cv iv wr => ∃ (k : Nat) (v : Nat) (D : List Nat) (g cap : Nat), k ≤ mx n1 n2 + 1 ∧ iv = .int .i64 (k : Int) ∧ cv = .int .u64 (v : Int) ∧ ov = .slice (some ⟨g, 0, none⟩) k cap ∧ AddAt la lb D k v ∧ wr.ownsRow w2.heap.size 38 1 (.slice (some ⟨g, 0, none⟩) k cap) k (D.map encD) ∧ Below w2.heap.size w2 wr) (fun _ _ iv _ => mx n1 n2 + 1 - (intOf iv).toNat)
  case atStart => exact ⟨0, 0, [], w2.heap.size, 0, by omega, rfl, rfl, rfl, AddAt.start _ _, own_empty w2 _ (Nat.le_refl _), (Below.refl _ w2).alloc (Nat.le_refl _) _⟩
  case round =>
    obtain ⟨k, v, D, g, cap, hk, rfl, rfl, rfl, hA, hown, hbl⟩ := hrel
    by_cases hlt : k < mx n1 n2 + 1
    · have hp := hd1.get k
      have hq := hd2.get k
      have hv1 : v ≤ 1 := hA.2.2.1
      have hgl := hown.lt g rfl
      have HA := Lib.hid hA
      have HO := Lib.hid hown
      clear hA hown
      go_wp2_with fail
      refine (at_any _ _ _ _ _ _ _ (h1.on hbl) (by omega) (by omega)).mono ?_
      rintro e w3 ⟨rfl, rfl⟩
      go_wp2_with fail
      refine (at_any _ _ _ _ _ _ _ (h2.on hbl) (by omega) (by omega)).mono ?_
      rintro e w3 ⟨rfl, rfl⟩
      go_wp2_with (at_builtin; refine wpList_append_lies _ rfl _ _ 22 rfl w2.heap.size 38 i0 (.int .u64 0) 1 8 Try.underlying22 hi hz0 hz1 hz2 rfl (by decide) _ _ _ rfl (HO.out.alloc _) ⟨wr.heap.size, 0, none⟩ 1 1 [.int .u64 ((IntKind.u64.wrap (IntKind.u64.wrap (((la[k]?.getD 0 : Nat) : Int) + ((lb[k]?.getD 0 : Nat) : Int)) + (v : Int))).tmod 4294967296)] rfl rfl (cell_one_new _ _ _) (by simp [Value.oneCell']) (by omega) (by unfold maxLen; omega) (by omega) (by simp; have := hbl.size; omega) _ rfl ?_; intro g1 cap1 w4 hown1 hgrow1 hat hlt1)
      go_roundw
      case rel =>
        refine ⟨k + 1, hiH (la[k]?.getD 0 + lb[k]?.getD 0 + v), _, g1, cap1, by omega, by go_num, by rw [radd_hi hp hq hv1], rfl, HA.out.step hd1 hd2, ?_, ?_⟩
        · rw [radd_lo] at hown1
          rw [List.map_append]
          exact hown1
        · exact (hbl.alloc hbl.size _).grown hgrow1 (by simp; have := hbl.size; omega) (fun q e => by injection (show some g = some q from e) with e1; omega)
      case measure => simp [intOf]; omega
    · obtain rfl : k = mx n1 n2 + 1 := by omega
      have hlim := Lim.of_own hown hA.1.dig
      have hD := hA.1
      have hval := hA.done hd1 hd2 HM.out
      rw [HE.out] at hval
      have HV := Lib.hid hval
      clear hval hA hown
      go_wp2_with fail
      refine (whole_F _ _ _ _ _ hlim hD (by omega)).mono ?_
      rintro e w3 ⟨A3, n3, c3, rfl, h3, b3, f3⟩
      go_wp2_with fail
      go_ret
      rw [HV.out] at h3
      exact ⟨A3, n3, c3, rfl, h3, cc.trans ((hbl.trans (b3.mono hbl.size)).mono cc.size), f3.mono (Nat.le_trans cc.size hbl.size)⟩

theorem radd_N {w : World} {A B : Option Addr} {n c m d x y : Nat} (ha : Num w A n c x) (hb : Num w B m d y) (hx : (limbs x).length ≤ 1000000) (hy : (limbs y).length ≤ 1000000) : Calls Try.prog 23 #[.slice A n c, .slice B m d] w (GotN w (x + y)) := (radd_F ha hb hx hy).mono fun _ _ h => h.weak

end Go.Proofs.Ytogdckajgkncdaa
