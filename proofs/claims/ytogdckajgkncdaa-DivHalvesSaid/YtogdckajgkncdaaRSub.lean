/-
  The contract of the reference's Sub.
-/
import Derived.Deep.QuietTactic
import Derived.BigQuiet
import Derived.Test.YtogdckajgkncdaaRAdd
namespace Go.Proofs.Ytogdckajgkncdaa
open Go.RowKit

/-- A figure of a difference, and the borrow. -/
def dLo (a b c : Nat) : Nat := (H32 + a - b - c) % H32
def dHi (a b c : Nat) : Nat := 1 - (H32 + a - b - c) / H32
theorem dLo_lt (a b c : Nat) : dLo a b c < H32 := Nat.mod_lt _ H32_pos
theorem dHi_le (a b c : Nat) : dHi a b c ≤ 1 := Nat.sub_le _ _
theorem d_split {a b c : Nat} (ha : a < H32) (hb : b < H32) (hc : c ≤ 1) : dLo a b c + b + c = a + H32 * dHi a b c := by
  unfold dLo dHi
  unfold H32 at *
  omega
theorem rsub_lo {a b c : Nat} (hb : b < H32) (hc : c ≤ 1) : (IntKind.u64.wrap (IntKind.u64.wrap (IntKind.u64.wrap (4294967296 + (a : Int)) - (b : Int)) - (c : Int))).tmod 4294967296 = (dLo a b c : Int) := by
  simp only [IntKind.wrap_u64]
  rw [Int.tmod_eq_emod_of_nonneg (by omega)]
  unfold dLo
  unfold H32 at *
  omega
theorem rsub_hi {a b c : Nat} (ha : a < H32) (hb : b < H32) (hc : c ≤ 1) : IntKind.u64.wrap (1 - IntKind.u64.wrap ((IntKind.u64.wrap (IntKind.u64.wrap (IntKind.u64.wrap (4294967296 + (a : Int)) - (b : Int)) - (c : Int))).tdiv 4294967296)) = (dHi a b c : Int) := by
  simp only [IntKind.wrap_u64]
  rw [Int.tdiv_eq_ediv_of_nonneg (by omega)]
  unfold dHi
  unfold H32 at *
  omega

def SubAt (la lb D : List Nat) (k c : Nat) : Prop := DigH D ∧ D.length = k ∧ c ≤ 1 ∧ valH D + valH (lb.take k) = valH (la.take k) + H32 ^ k * c
theorem SubAt.start (la lb : List Nat) : SubAt la lb [] 0 0 := ⟨DigH.nil, rfl, by omega, by simp [valH_nil]⟩
theorem SubAt.step {la lb D : List Nat} {k c : Nat} (ha : DigH la) (hb : DigH lb) (h : SubAt la lb D k c) :
    SubAt la lb (D ++ [dLo (la[k]?.getD 0) (lb[k]?.getD 0) c]) (k + 1) (dHi (la[k]?.getD 0) (lb[k]?.getD 0) c) := by
  obtain ⟨h1, h2, h3, h4⟩ := h
  refine ⟨h1.snoc (dLo_lt _ _ _), by simp [h2], dHi_le _ _ _, ?_⟩
  rw [valH_snoc, h2, valH_take_succ, valH_take_succ, Nat.pow_succ, Nat.mul_assoc]
  have hs := d_split (ha.get k) (hb.get k) h3
  generalize dLo (la[k]?.getD 0) (lb[k]?.getD 0) c = lo at *
  generalize dHi (la[k]?.getD 0) (lb[k]?.getD 0) c = hi at *
  have h5 : H32 ^ k * lo + H32 ^ k * lb[k]?.getD 0 + H32 ^ k * c = H32 ^ k * la[k]?.getD 0 + H32 ^ k * (H32 * hi) := by
    rw [← Nat.mul_add, ← Nat.mul_add, hs, Nat.mul_add]
  omega
theorem SubAt.done {la lb D : List Nat} {c : Nat} (hl : lb.length ≤ la.length) (hle : valH lb ≤ valH la) (h : SubAt la lb D la.length c) : valH D = valH la - valH lb := by
  obtain ⟨h1, h2, h3, h4⟩ := h
  rw [List.take_of_length_le (by omega), List.take_of_length_le (by omega)] at h4
  have h5 := valH_lt h1
  rw [h2] at h5
  generalize H32 ^ la.length = P at *
  rcases (by omega : c = 0 ∨ c = 1) with rfl | rfl
  · rw [Nat.mul_zero, Nat.add_zero] at h4; omega
  · rw [Nat.mul_one] at h4; omega

theorem at_same (B : Nat) (A : Option Addr) (n c k : Nat) (l : List Nat) (w : World) (h : Lim B w A n c l) (hn : n ≤ 9223372036854775807) (hk : k ≤ 9223372036854775807) :
    Calls Try.prog 43 #[.slice A n c, .int .i64 k] w fun e w' => e = .returned (.int .u64 ((l[k]?.getD 0 : Nat) : Int)) ∧ w' = w :=
  (at_any B A n c k l w h hn hk).mono fun _ _ ⟨he, hw⟩ => ⟨he, hw.symm⟩

set_option maxRecDepth 100000 in
set_option maxHeartbeats 4000000 in
theorem rsub_F {w : World} {A B : Option Addr} {n c m d x y : Nat} (ha : Num w A n c x) (hb : Num w B m d y) (hx : (limbs x).length ≤ 1000000) (hy : (limbs y).length ≤ 1000000) (hle : y ≤ x) : Calls Try.prog 25 #[.slice A n c, .slice B m d] w (GotPF w (x - y) 0) := by
  obtain ⟨i0, hi, hz0, hz1, hz2⟩ := info_parts info24
  have hcm : ¬ cmpN x y < 0 := by
    rcases Nat.lt_or_ge y x with h | h
    · rw [cmpN_gt h]; omega
    · rw [cmpN_zero.2 (by omega)]; omega
  have hll : (halvesL (limbs y)).length ≤ (halvesL (limbs x)).length := by rw [halvesL_length, halvesL_length]; have := limbs_length_mono hle; omega
  go_enter Try.func25, Try.ntmps25
  go_wp2_with fail
  refine (rcmp_N ha hb (by omega) (by omega)).mono ?_
  rintro e w0 ⟨rfl, b0⟩
  replace ha := ha.on b0
  replace hb := hb.on b0
  go_wp2_with fail
  refine (halves_F ha (by omega)).mono ?_
  rintro e w1 ⟨A1, n1, c1, rfl, h1, b1⟩
  go_wp2_with fail
  refine (halves_F (hb.on b1) (by omega)).mono ?_
  rintro e w2 ⟨A2, n2, c2, rfl, h2, b2⟩
  replace h1 := h1.on b2
  have cc := b0.trans ((b1.trans (b2.mono b1.size)).mono b0.size)
  clear b0 b1 b2 ha hb
  have hv1 : valH (halvesL (limbs x)) = x := by rw [halvesL_val, val_limbs]
  have hv2 : valH (halvesL (limbs y)) = y := by rw [halvesL_val, val_limbs]
  have hd1 := halvesL_dig (limbs_dig x)
  have hd2 := halvesL_dig (limbs_dig y)
  have hn1 : n1 ≤ 2000000 := by have := h1.1; rw [halvesL_length] at this; omega
  have hn2 : n2 ≤ 2000000 := by have := h2.1; rw [halvesL_length] at this; omega
  have hle' : valH (halvesL (limbs y)) ≤ valH (halvesL (limbs x)) := by rw [hv1, hv2]; exact hle
  have hE : valH (halvesL (limbs x)) - valH (halvesL (limbs y)) = x - y := by rw [hv1, hv2]
  have HE := Lib.hid hE
  have HLE := Lib.hid hle'
  have HLL := Lib.hid hll
  have HN1 := Lib.hid h1.1
  clear hv1 hv2 hx hy hE hle' hll hle hcm
  generalize halvesL (limbs x) = la at *
  generalize halvesL (limbs y) = lb at *
  go_wp2_with fail
  go_loopw [8, 9, 10] (fun ov cv iv wr => ∃ (k : Nat) (v : Nat) (D : List Nat) (g cap : Nat), k ≤ n1 ∧ iv = .int .i64 (k : Int) ∧ cv = .int .u64 (v : Int) ∧ ov = .slice (some ⟨g, 0, none⟩) k cap ∧ SubAt la lb D k v ∧ wr.ownsRow w2.heap.size 38 1 (.slice (some ⟨g, 0, none⟩) k cap) k (D.map encD) ∧ Below w2.heap.size w2 wr) (fun _ _ iv _ => n1 - (intOf iv).toNat)
  case atStart => exact ⟨0, 0, [], w2.heap.size, 0, by omega, rfl, rfl, rfl, SubAt.start _ _, own_empty w2 _ (Nat.le_refl _), (Below.refl _ w2).alloc (Nat.le_refl _) _⟩
  case round =>
    obtain ⟨k, v, D, g, cap, hk, rfl, rfl, rfl, hA, hown, hbl⟩ := hrel
    by_cases hlt : k < n1
    · have hp := hd1.get k
      have hq := hd2.get k
      have hv1 : v ≤ 1 := hA.2.2.1
      have hgl := hown.lt g rfl
      obtain ⟨b, off, rfl, hbb, hcell⟩ := (h1.on hbl).2.2.2 (by omega)
      have hck := hcell k hlt
      have HA := Lib.hid hA
      have HO := Lib.hid hown
      have h2' := h2.on hbl
      have hk0 : (0 : Int) ≤ (k : Int) := by omega
      have hkn : (k : Int) < (n1 : Int) := by omega
      clear hA hown hcell
      go_wp2_with fail
      go_quiet ((go_at_call 43; exact Calls.quiet_of_same (at_same _ _ _ _ _ _ _ h2' (by omega) (by omega))))
      go_wp2_with (at_builtin; go_must (refine wpList_append_lies _ rfl _ _ 22 rfl w2.heap.size 38 i0 (.int .u64 0) 1 8 Try.underlying22 hi hz0 hz1 hz2 rfl (by decide) _ _ _ rfl (by exact HO.out.alloc _) ⟨wr.heap.size, 0, none⟩ 1 1 [.int .u64 ((IntKind.u64.wrap (IntKind.u64.wrap (IntKind.u64.wrap (4294967296 + ((la[k]?.getD 0 : Nat) : Int)) - ((lb[k]?.getD 0 : Nat) : Int)) - (v : Int))).tmod 4294967296)] rfl rfl (fun j u h => cell_one_new wr _ 38 j u h) (by simp [Value.oneCell']) (by omega) (by unfold maxLen; omega) (by omega) (by simp; have := hbl.size; omega) _ rfl ?_); intro g1 cap1 w4 hown1 hgrow1 hat hlt1)
      go_roundw
      case rel =>
        refine ⟨k + 1, dHi (la[k]?.getD 0) (lb[k]?.getD 0) v, _, g1, cap1, by omega, by go_num, by rw [rsub_hi hp hq hv1], rfl, HA.out.step hd1 hd2, ?_, ?_⟩
        · rw [rsub_lo hq hv1] at hown1
          rw [List.map_append]
          exact hown1
        · exact (below_drewN (hbl.alloc hbl.size _) nq).grown hgrow1 (by simp; have := hbl.size; omega) (fun q e => by injection (show some g = some q from e) with e1; omega)
      case measure => simp [intOf]; omega
    · obtain rfl : k = n1 := by omega
      have hlim := Lim.of_own hown hA.1.dig
      have hD := hA.1
      have hA' := hA
      rw [HN1.out] at hA'
      have hval := hA'.done HLL.out HLE.out
      rw [HE.out] at hval
      have HV := Lib.hid hval
      clear hval hA hown hA'
      go_wp2_with fail
      refine (whole_F _ _ _ _ _ hlim hD (by omega)).mono ?_
      rintro e w3 ⟨A3, n3, c3, rfl, h3, b3, f3⟩
      go_wp2_with fail
      go_ret2
      rw [HV.out] at h3
      exact ⟨A3, n3, c3, rfl, h3, cc.trans ((hbl.trans (b3.mono hbl.size)).mono cc.size), f3.mono (Nat.le_trans cc.size hbl.size)⟩

theorem rsub_N {w : World} {A B : Option Addr} {n c m d x y : Nat} (ha : Num w A n c x) (hb : Num w B m d y) (hx : (limbs x).length ≤ 1000000) (hy : (limbs y).length ≤ 1000000) (hle : y ≤ x) : Calls Try.prog 25 #[.slice A n c, .slice B m d] w (GotP w (x - y) 0) := (rsub_F ha hb hx hy hle).mono fun _ _ h => h.weak

set_option maxHeartbeats 1000000 in
theorem rsub_less_N {w : World} {A B : Option Addr} {n c m d x y : Nat} (ha : Num w A n c x) (hb : Num w B m d y) (hx : (limbs x).length ≤ 1000000) (hy : (limbs y).length ≤ 1000000) (hlt : x < y) : Calls Try.prog 25 #[.slice A n c, .slice B m d] w (GotV w (.tuple #[.slice none 0 0, .int .i64 2])) := by
  have hcm : cmpN x y < 0 := by rw [cmpN_lt hlt]; omega
  go_enter Try.func25, Try.ntmps25
  go_wp2_with fail
  refine (rcmp_N ha hb (by omega) (by omega)).mono ?_
  rintro e w0 ⟨rfl, b0⟩
  go_wp2_with fail
  go_ret2
  exact ⟨rfl, b0⟩

end Go.Proofs.Ytogdckajgkncdaa
