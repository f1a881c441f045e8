/-
  Several texts in one: RSub, RMul, RShift, RDiv, U, Z4, Sq, Z5, Z6, Z7, FrX.
-/
import Derived.Deep.QuietTactic
import Derived.BigQuiet
import Derived.Test.YtckdbcngnghhiaaA1
import Derived.OrdersHeld
import Derived.Deep.RegionHeld3
import Derived.Deep.Slices
import Derived.Deep.Strs
import Derived.Lib.SmallJoins
import Derived.OpenShut
import Derived.ChangeSlices
import Derived.SizedLaws

/-
  The contract of the reference's Sub.
-/
namespace Go.Proofs.Ytckdbcngnghhiaa
set_option maxRecDepth 100000
open Go.RowKit

/-- A figure of a difference, and the borrow. -/
def dLo (a b c : Nat) : Nat := (H32 + a - b - c) % H32
def dHi (a b c : Nat) : Nat := 1 - (H32 + a - b - c) / H32
theorem dLo_lt (a b c : Nat) : dLo a b c < H32 := Nat.mod_lt _ H32_pos
theorem dHi_le (a b c : Nat) : dHi a b c ≤ 1 := Nat.sub_le _ _
theorem d_split {a b c : Nat} (ha : a < H32) (hb : b < H32) (hc : c ≤ 1) : dLo a b c + b + c = a + H32 * dHi a b c := by
  unfold dLo dHi
  unfold H32 at *
  omega
theorem rsub_lo {a b c : Nat} (hb : b < H32) (hc : c ≤ 1) : (IntKind.u64.wrap (IntKind.u64.wrap (IntKind.u64.wrap (4294967296 + (a : Int)) - (b : Int)) - (c : Int))).tmod 4294967296 = (dLo a b c : Int) := by
  simp only [IntKind.wrap_u64]
  rw [Int.tmod_eq_emod_of_nonneg (by omega)]
  unfold dLo
  unfold H32 at *
  omega
theorem rsub_hi {a b c : Nat} (ha : a < H32) (hb : b < H32) (hc : c ≤ 1) : IntKind.u64.wrap (1 - IntKind.u64.wrap ((IntKind.u64.wrap (IntKind.u64.wrap (IntKind.u64.wrap (4294967296 + (a : Int)) - (b : Int)) - (c : Int))).tdiv 4294967296)) = (dHi a b c : Int) := by
  simp only [IntKind.wrap_u64]
  rw [Int.tdiv_eq_ediv_of_nonneg (by omega)]
  unfold dHi
  unfold H32 at *
  omega

def SubAt (la lb D : List Nat) (k c : Nat) : Prop := DigH D ∧ D.length = k ∧ c ≤ 1 ∧ valH D + valH (lb.take k) = valH (la.take k) + H32 ^ k * c
theorem SubAt.start (la lb : List Nat) : SubAt la lb [] 0 0 := ⟨DigH.nil, rfl, by omega, by simp [valH_nil]⟩
theorem SubAt.step {la lb D : List Nat} {k c : Nat} (ha : DigH la) (hb : DigH lb) (h : SubAt la lb D k c) :
    SubAt la lb (D ++ [dLo (la[k]?.getD 0) (lb[k]?.getD 0) c]) (k + 1) (dHi (la[k]?.getD 0) (lb[k]?.getD 0) c) := by
  obtain ⟨h1, h2, h3, h4⟩ := h
  refine ⟨h1.snoc (dLo_lt _ _ _), by simp [h2], dHi_le _ _ _, ?_⟩
  rw [valH_snoc, h2, valH_take_succ, valH_take_succ, Nat.pow_succ, Nat.mul_assoc]
  have hs := d_split (ha.get k) (hb.get k) h3
  generalize dLo (la[k]?.getD 0) (lb[k]?.getD 0) c = lo at *
  generalize dHi (la[k]?.getD 0) (lb[k]?.getD 0) c = hi at *
  have h5 : H32 ^ k * lo + H32 ^ k * lb[k]?.getD 0 + H32 ^ k * c = H32 ^ k * la[k]?.getD 0 + H32 ^ k * (H32 * hi) := by
    rw [← Nat.mul_add, ← Nat.mul_add, hs, Nat.mul_add]
  omega
theorem SubAt.done {la lb D : List Nat} {c : Nat} (hl : lb.length ≤ la.length) (hle : valH lb ≤ valH la) (h : SubAt la lb D la.length c) : valH D = valH la - valH lb := by
  obtain ⟨h1, h2, h3, h4⟩ := h
  rw [List.take_of_length_le (by omega), List.take_of_length_le (by omega)] at h4
  have h5 := valH_lt h1
  rw [h2] at h5
  generalize H32 ^ la.length = P at *
  rcases (by omega : c = 0 ∨ c = 1) with rfl | rfl
  · rw [Nat.mul_zero, Nat.add_zero] at h4; omega
  · rw [Nat.mul_one] at h4; omega

theorem at_same (B : Nat) (A : Option Addr) (n c k : Nat) (l : List Nat) (w : World) (h : Lim B w A n c l) (hn : n ≤ 9223372036854775807) (hk : k ≤ 9223372036854775807) :
    Calls Try.prog 71 #[.slice A n c, .int .i64 k] w fun e w' => e = .returned (.int .u64 ((l[k]?.getD 0 : Nat) : Int)) ∧ w' = w :=
  (at_any B A n c k l w h hn hk).mono fun _ _ ⟨he, hw⟩ => ⟨he, hw.symm⟩

set_option maxHeartbeats 4000000 in
theorem rsub_F {w : World} {A B : Option Addr} {n c m d x y : Nat} (ha : Num w A n c x) (hb : Num w B m d y) (hx : (limbs x).length ≤ 1000000) (hy : (limbs y).length ≤ 1000000) (hle : y ≤ x) : Calls Try.prog 50 #[.slice A n c, .slice B m d] w (GotPF w (x - y) 0) := by
  obtain ⟨i0, hi, hz0, hz1, hz2⟩ := info_parts info24
  have hcm : ¬ cmpN x y < 0 := by
    rcases Nat.lt_or_ge y x with h | h
    · rw [cmpN_gt h]; omega
    · rw [cmpN_zero.2 (by omega)]; omega
  have hll : (halvesL (limbs y)).length ≤ (halvesL (limbs x)).length := by rw [halvesL_length, halvesL_length]; have := limbs_length_mono hle; omega
  go_enter Try.func50, Try.ntmps50
  go_wp2_with fail
  refine (rcmp_N ha hb (by omega) (by omega)).mono ?_
  rintro e w0 ⟨rfl, b0⟩
  replace ha := ha.on b0
  replace hb := hb.on b0
  go_wp2_with fail
  refine (halves_F ha (by omega)).mono ?_
  rintro e w1 ⟨A1, n1, c1, rfl, h1, b1⟩
  go_wp2_with fail
  refine (halves_F (hb.on b1) (by omega)).mono ?_
  rintro e w2 ⟨A2, n2, c2, rfl, h2, b2⟩
  replace h1 := h1.on b2
  have cc := b0.trans ((b1.trans (b2.mono b1.size)).mono b0.size)
  clear b0 b1 b2 ha hb
  have hv1 : valH (halvesL (limbs x)) = x := by rw [halvesL_val, val_limbs]
  have hv2 : valH (halvesL (limbs y)) = y := by rw [halvesL_val, val_limbs]
  have hd1 := halvesL_dig (limbs_dig x)
  have hd2 := halvesL_dig (limbs_dig y)
  have hn1 : n1 ≤ 2000000 := by have := h1.1; rw [halvesL_length] at this; omega
  have hn2 : n2 ≤ 2000000 := by have := h2.1; rw [halvesL_length] at this; omega
  have hle' : valH (halvesL (limbs y)) ≤ valH (halvesL (limbs x)) := by rw [hv1, hv2]; exact hle
  have hE : valH (halvesL (limbs x)) - valH (halvesL (limbs y)) = x - y := by rw [hv1, hv2]
  have HE := Lib.hid hE
  have HLE := Lib.hid hle'
  have HLL := Lib.hid hll
  have HN1 := Lib.hid h1.1
  clear hv1 hv2 hx hy hE hle' hll hle hcm
  generalize halvesL (limbs x) = la at *
  generalize halvesL (limbs y) = lb at *
  go_wp2_with fail
  go_loopw [8, 9, 10] (fun ov cv iv wr => ∃ (k : Nat) (v : Nat) (D : List Nat) (g cap : Nat), k ≤ n1 ∧ iv = .int .i64 (k : Int) ∧ cv = .int .u64 (v : Int) ∧ ov = .slice (some ⟨g, 0, none⟩) k cap ∧ SubAt la lb D k v ∧ wr.ownsRow w2.heap.size 84 1 (.slice (some ⟨g, 0, none⟩) k cap) k (D.map encD) ∧ Below w2.heap.size w2 wr) (fun _ _ iv _ => n1 - (intOf iv).toNat)
  case atStart => exact ⟨0, 0, [], w2.heap.size, 0, by omega, rfl, rfl, rfl, SubAt.start _ _, own_empty w2 _ (Nat.le_refl _), (Below.refl _ w2).alloc (Nat.le_refl _) _⟩
  case round =>
    obtain ⟨k, v, D, g, cap, hk, rfl, rfl, rfl, hA, hown, hbl⟩ := hrel
    by_cases hlt : k < n1
    · have hp := hd1.get k
      have hq := hd2.get k
      have hv1 : v ≤ 1 := hA.2.2.1
      have hgl := hown.lt g rfl
      obtain ⟨b, off, rfl, hbb, hcell⟩ := (h1.on hbl).2.2.2 (by omega)
      have hck := hcell k hlt
      have HA := Lib.hid hA
      have HO := Lib.hid hown
      have h2' := h2.on hbl
      have hk0 : (0 : Int) ≤ (k : Int) := by omega
      have hkn : (k : Int) < (n1 : Int) := by omega
      clear hA hown hcell
      go_wp2_with fail
      go_quiet ((go_at_call 71; exact Calls.quiet_of_same (at_same _ _ _ _ _ _ _ h2' (by omega) (by omega))))
      go_wp2_with (at_builtin; go_must (refine wpList_append_lies _ rfl _ _ 35 rfl w2.heap.size 84 i0 (.int .u64 0) 1 8 Try.underlying35 hi hz0 hz1 hz2 rfl (by decide) _ _ _ rfl (by exact HO.out.alloc _) ⟨wr.heap.size, 0, none⟩ 1 1 [.int .u64 ((IntKind.u64.wrap (IntKind.u64.wrap (IntKind.u64.wrap (4294967296 + ((la[k]?.getD 0 : Nat) : Int)) - ((lb[k]?.getD 0 : Nat) : Int)) - (v : Int))).tmod 4294967296)] rfl rfl (fun j u h => cell_one_new wr _ 84 j u h) (by simp [Value.oneCell']) (by omega) (by unfold maxLen; omega) (by omega) (by simp; have := hbl.size; omega) _ rfl ?_); intro g1 cap1 w4 hown1 hgrow1 hat hlt1)
      go_roundw
      case rel =>
        refine ⟨k + 1, dHi (la[k]?.getD 0) (lb[k]?.getD 0) v, _, g1, cap1, by omega, by go_num, by rw [rsub_hi hp hq hv1], rfl, HA.out.step hd1 hd2, ?_, ?_⟩
        · rw [rsub_lo hq hv1] at hown1
          rw [List.map_append]
          exact hown1
        · exact (below_drewN (hbl.alloc hbl.size _) nq).grown hgrow1 (by simp; have := hbl.size; omega) (fun q e => by injection (show some g = some q from e) with e1; omega)
      case measure => simp [intOf]; omega
    · obtain rfl : k = n1 := by omega
      have hlim := Lim.of_own hown hA.1.dig
      have hD := hA.1
      have hA' := hA
      rw [HN1.out] at hA'
      have hval := hA'.done HLL.out HLE.out
      rw [HE.out] at hval
      have HV := Lib.hid hval
      clear hval hA hown hA'
      go_wp2_with fail
      refine (whole_F _ _ _ _ _ hlim hD (by omega)).mono ?_
      rintro e w3 ⟨A3, n3, c3, rfl, h3, b3, f3⟩
      go_wp2_with fail
      go_ret2
      rw [HV.out] at h3
      exact ⟨A3, n3, c3, rfl, h3, cc.trans ((hbl.trans (b3.mono hbl.size)).mono cc.size), f3.mono (Nat.le_trans cc.size hbl.size)⟩

theorem rsub_N {w : World} {A B : Option Addr} {n c m d x y : Nat} (ha : Num w A n c x) (hb : Num w B m d y) (hx : (limbs x).length ≤ 1000000) (hy : (limbs y).length ≤ 1000000) (hle : y ≤ x) : Calls Try.prog 50 #[.slice A n c, .slice B m d] w (GotP w (x - y) 0) := (rsub_F ha hb hx hy hle).mono fun _ _ h => h.weak

end Go.Proofs.Ytckdbcngnghhiaa

/-
  The contract of the reference's Mul.
-/
namespace Go.Proofs.Ytckdbcngnghhiaa
set_option maxRecDepth 100000
open Go.RowKit

/-- A product of figures, a figure and a carry, in two parts. -/
def pLo (x y q c : Nat) : Nat := (q + x * y + c) % H32
def pHi (x y q c : Nat) : Nat := (q + x * y + c) / H32
theorem pLo_lt (x y q c : Nat) : pLo x y q c < H32 := Nat.mod_lt _ H32_pos
theorem p_split (x y q c : Nat) : pLo x y q c + H32 * pHi x y q c = q + x * y + c := Nat.mod_add_div _ _
theorem p_bound {x y q c : Nat} (hx : x < H32) (hy : y < H32) (hq : q < H32) (hc : c < H32) : q + x * y + c < B64 := by
  have h1 : x * y ≤ (H32 - 1) * (H32 - 1) := Nat.mul_le_mul (by omega) (by omega)
  have h2 : (H32 - 1) * (H32 - 1) + (H32 - 1) + (H32 - 1) < B64 := by unfold H32 B64; omega
  omega
theorem pHi_lt {x y q c : Nat} (hx : x < H32) (hy : y < H32) (hq : q < H32) (hc : c < H32) : pHi x y q c < H32 := by
  unfold pHi
  rw [Nat.div_lt_iff_lt_mul H32_pos, H32_sq]
  exact p_bound hx hy hq hc
theorem p_wrap {x y q c : Nat} (hx : x < H32) (hy : y < H32) (hq : q < H32) (hc : c < H32) :
    IntKind.u64.wrap (IntKind.u64.wrap ((q : Int) + IntKind.u64.wrap ((x : Int) * (y : Int))) + (c : Int)) = ((q + x * y + c : Nat) : Int) := by
  have h := p_bound hx hy hq hc
  simp only [IntKind.wrap_u64]
  have e : (x : Int) * (y : Int) = ((x * y : Nat) : Int) := by simp
  rw [e]
  generalize x * y = p at *
  unfold B64 at h
  omega
theorem rmul_lo {x y q c : Nat} (hx : x < H32) (hy : y < H32) (hq : q < H32) (hc : c < H32) :
    (IntKind.u64.wrap (IntKind.u64.wrap ((q : Int) + IntKind.u64.wrap ((x : Int) * (y : Int))) + (c : Int))).tmod 4294967296 = (pLo x y q c : Int) := by
  rw [p_wrap hx hy hq hc, tmod_lo]
  rfl
theorem rmul_hi {x y q c : Nat} (hx : x < H32) (hy : y < H32) (hq : q < H32) (hc : c < H32) :
    IntKind.u64.wrap ((IntKind.u64.wrap (IntKind.u64.wrap ((q : Int) + IntKind.u64.wrap ((x : Int) * (y : Int))) + (c : Int))).tdiv 4294967296) = (pHi x y q c : Int) := by
  rw [p_wrap hx hy hq hc, Int.tdiv_eq_ediv_of_nonneg (by omega), wrap_hi (p_bound hx hy hq hc)]
  rfl

/-- What has been reckoned when k figures of one line are done: the row Q and the carry c. -/
def LineAt (P Q : List Nat) (i k x : Nat) (l : List Nat) (c : Nat) : Prop :=
  DigH Q ∧ Q.length = P.length ∧ c < H32 ∧ (∀ j, i + k ≤ j → Q[j]?.getD 0 = P[j]?.getD 0) ∧ valH Q + H32 ^ (i + k) * c = valH P + H32 ^ i * (x * valH (l.take k))
theorem LineAt.start {P : List Nat} (h : DigH P) (i x : Nat) (l : List Nat) : LineAt P P i 0 x l 0 := ⟨h, rfl, H32_pos, fun _ _ => rfl, by simp [valH_nil]⟩
theorem LineAt.step {P Q l : List Nat} {i k x c : Nat} (h : LineAt P Q i k x l c) (hx : x < H32) (hl : DigH l) (hk : i + k < P.length) :
    LineAt P (Q.set (i + k) (pLo x (l[k]?.getD 0) (Q[i + k]?.getD 0) c)) i (k + 1) x l (pHi x (l[k]?.getD 0) (Q[i + k]?.getD 0) c) := by
  obtain ⟨hd, hlen, hc, hsame, hv⟩ := h
  refine ⟨hd.set _ (pLo_lt _ _ _ _), by rw [List.length_set, hlen], pHi_lt hx (hl.get k) (hd.get _) hc, fun j hj => ?_, ?_⟩
  · rw [List.getElem?_set_ne (by omega)]; exact hsame j (by omega)
  · have hs := valH_set (l := Q) (k := i + k) (by omega) (pLo x (l[k]?.getD 0) (Q[i + k]?.getD 0) c)
    have hm := p_split x (l[k]?.getD 0) (Q[i + k]?.getD 0) c
    rw [valH_take_succ, ← Nat.add_assoc, Nat.pow_succ, Nat.mul_assoc]
    generalize pLo x (l[k]?.getD 0) (Q[i + k]?.getD 0) c = lo at *
    generalize pHi x (l[k]?.getD 0) (Q[i + k]?.getD 0) c = hi at *
    generalize Q[i + k]?.getD 0 = q at *
    generalize l[k]?.getD 0 = y at *
    have h1 : H32 ^ (i + k) * lo + H32 ^ (i + k) * (H32 * hi) = H32 ^ (i + k) * q + H32 ^ (i + k) * (x * y) + H32 ^ (i + k) * c := by
      rw [← Nat.mul_add, hm, Nat.mul_add, Nat.mul_add]
    have h2 : H32 ^ i * (x * (valH (l.take k) + H32 ^ k * y)) = H32 ^ i * (x * valH (l.take k)) + H32 ^ (i + k) * (x * y) := by
      rw [Nat.mul_add, Nat.mul_add, Nat.pow_add]
      have : H32 ^ i * (x * (H32 ^ k * y)) = H32 ^ i * H32 ^ k * (x * y) := by ac_rfl
      rw [this]
    rw [h2]
    omega
theorem LineAt.done {P Q l : List Nat} {i x c m : Nat} (hml : m = l.length) (h : LineAt P Q i m x l c) (hk : i + m < P.length) (hz : P[i + m]?.getD 0 = 0) :
    DigH (Q.set (i + m) c) ∧ (Q.set (i + m) c).length = P.length ∧ (∀ j, i + m < j → (Q.set (i + m) c)[j]?.getD 0 = P[j]?.getD 0) ∧ valH (Q.set (i + m) c) = valH P + H32 ^ i * (x * valH l) := by
  obtain ⟨hd, hlen, hc, hsame, hv⟩ := h
  refine ⟨hd.set _ hc, by rw [List.length_set, hlen], fun j hj => ?_, ?_⟩
  · rw [List.getElem?_set_ne (by omega)]; exact hsame j (by omega)
  · have hs := valH_set (l := Q) (k := i + m) (by omega) c
    rw [hsame _ (Nat.le_refl _), hz, Nat.mul_zero, Nat.add_zero] at hs
    rw [List.take_of_length_le (by omega)] at hv
    omega

set_option maxHeartbeats 4000000 in
theorem rmul_N {w : World} {A B : Option Addr} {n c m d x y : Nat} (ha : Num w A n c x) (hb : Num w B m d y) (hx : (limbs x).length ≤ 1000000) (hy : (limbs y).length ≤ 1000000) : Calls Try.prog 30 #[.slice A n c, .slice B m d] w (GotN w (x * y)) := by
  obtain ⟨i0, hi, hz0, hz1, hz2⟩ := info_parts info24
  go_enter Try.func30, Try.ntmps30
  go_wp2_with fail
  refine (halves_F ha (by omega)).mono ?_
  rintro e w1 ⟨A1, n1, c1, rfl, h1, b1⟩
  go_wp2_with fail
  refine (halves_F (hb.on b1) (by omega)).mono ?_
  rintro e w2 ⟨A2, n2, c2, rfl, h2, b2⟩
  replace h1 := h1.on b2
  have cc := b1.trans (b2.mono b1.size)
  clear b1 b2 ha hb
  have hv1 : valH (halvesL (limbs x)) = x := by rw [halvesL_val, val_limbs]
  have hv2 : valH (halvesL (limbs y)) = y := by rw [halvesL_val, val_limbs]
  have hd1 := halvesL_dig (limbs_dig x)
  have hd2 := halvesL_dig (limbs_dig y)
  have hn1 : n1 ≤ 2000000 := by have := h1.1; rw [halvesL_length] at this; omega
  have hn2 : n2 ≤ 2000000 := by have := h2.1; rw [halvesL_length] at this; omega
  have hE : valH (halvesL (limbs x)) * valH (halvesL (limbs y)) = x * y := by rw [hv1, hv2]
  have HE := Lib.hid hE
  have HN1 := Lib.hid h1.1
  have HN2 := Lib.hid h2.1
  clear hv1 hv2 hx hy hE
  generalize halvesL (limbs x) = la at *
  generalize halvesL (limbs y) = lb at *
  obtain ⟨s, hs⟩ : ∃ s, w2.heap.size = s := ⟨_, rfl⟩
  rw [hs] at h1 h2
  have HS := Lib.hid hs
  clear hs
  go_wp2_with (at_make; refine wpList_make_full _ rfl _ _ 35 rfl s 84 i0 (.int .u64 0) 1 Try.underlying35 hi hz0 hz1 .i64 .i64 _ _ (n1 + n2 + 1) rfl rfl (by omega) (by omega) (by rw [hz2]; omega) (by unfold maxLen; omega) (by rw [HS.out]; omega) ?_; intro w3 hown3 hgrow3; rw [made_zero] at hown3)
  rw [HS.out] at hown3 ⊢
  have hb3 : Below s w2 w3 := (Below.refl s w2).grown hgrow3 (by have := HS.out; omega) (fun k h => by cases h)
  clear hgrow3
  go_loopw [8] (fun iv wr => ∃ (k : Nat) (P : List Nat), k ≤ n1 ∧ iv = .int .i64 (k : Int) ∧ DigH P ∧ Hid (valH P = valH (la.take k) * valH lb) ∧ (∀ j, k + n2 ≤ j → Hid (P[j]?.getD 0 = 0)) ∧ wr.ownsRow s 84 1 (.slice (some ⟨s, 0, none⟩) (n1 + n2 + 1) (n1 + n2 + 1)) (n1 + n2 + 1) (P.map encD) ∧ Below s w2 wr)
    (fun iv _ => n1 - (intOf iv).toNat)
  case atStart => exact ⟨0, List.replicate (n1 + n2 + 1) 0, Nat.zero_le _, rfl, digH_zeros _, by rw [valH_zeros]; simp [valH_nil, Hid], fun j _ => get_zeros _ _, hown3, hb3⟩
  case round =>
    obtain ⟨k, P, hk, rfl, hP, hv, hzs, hown, hbl⟩ := hrel
    by_cases hlt : k < n1
    · obtain ⟨b, off, rfl, hbb, hcell⟩ := (h1.below hbl).2.2.2 (by omega)
      have hxl : la[k]?.getD 0 < H32 := hd1.get k
      have hPl : P.length = n1 + n2 + 1 := by have := hown.1; simpa using this
      have HPL := Lib.hid hPl
      have HV := Lib.hid hv
      have HZS := Lib.hid hzs
      clear hPl hv hzs
      obtain ⟨wo, hwo⟩ : ∃ wo : World, wo = wr := ⟨_, rfl⟩
      subst hwo
      go_wp2_with fail
      go_loopw [9, 10] (fun cv jv wi => ∃ (j : Nat) (v : Nat) (Q : List Nat), j ≤ n2 ∧ jv = .int .i64 (j : Int) ∧ cv = .int .u64 (v : Int) ∧ LineAt P Q k j (la[k]?.getD 0) lb v ∧ wi.ownsRow s 84 1 (.slice (some ⟨s, 0, none⟩) (n1 + n2 + 1) (n1 + n2 + 1)) (n1 + n2 + 1) (Q.map encD) ∧ Below s w2 wi)
        (fun _ jv _ => n2 - (intOf jv).toNat)
      case atStart => exact ⟨0, 0, P, Nat.zero_le _, rfl, rfl, LineAt.start hP _ _ _, hown, hbl⟩
      case round =>
        obtain ⟨j, v, Q, hj, rfl, rfl, hL, hown2, hbl2⟩ := hrel
        by_cases hlt2 : j < n2
        · have g1 := hcell k hlt
          have hc1 : wr.cell? ⟨b, off + k, none⟩ = some (.int .u64 ((la[k]?.getD 0 : Nat) : Int)) := by
            obtain ⟨b', off', e, _, hc'⟩ := (h1.below hbl2).2.2.2 (by omega)
            injection e with e
            injection e with e1 e2
            subst e1; subst e2
            exact hc' k hlt
          obtain ⟨b3, off3, rfl, hb3', hcell3⟩ := (h2.below hbl2).2.2.2 (by omega)
          have hc2 := hcell3 j hlt2
          have hQl : Q.length = n1 + n2 + 1 := by rw [hL.2.1]; exact HPL.out
          have hc3 : wr.cell? ⟨s, k + j, none⟩ = some (.int .u64 ((Q[k + j]?.getD 0 : Nat) : Int)) := by
            rw [hown2.cellAt (k + j) (by omega), List.getElem?_map, List.getElem?_eq_getElem (by omega)]
            simp [encD]
          have hf3 := hown2.frozenAt (k + j)
          have hyl : lb[j]?.getD 0 < H32 := hd2.get j
          have hql : Q[k + j]?.getD 0 < H32 := hL.1.get _
          have hvl : v < H32 := hL.2.2.1
          have HL := Lib.hid hL
          have HO2 := Lib.hid hown2
          clear hL hown2 hcell3 hQl g1
          have t1 : (0 : Int) ≤ (k : Int) := by omega
          have t2 : (k : Int) < (n1 : Int) := by omega
          have t3 : (0 : Int) ≤ (j : Int) := by omega
          have t4 : (j : Int) < (n2 : Int) := by omega
          have t5 : (0 : Int) ≤ (k : Int) + (j : Int) := by omega
          have t6 : (k : Int) + (j : Int) < (n1 : Int) + (n2 : Int) + 1 := by omega
          have t7 : IntKind.i64.wrap ((k : Int) + (j : Int)) = (k : Int) + (j : Int) := IntWalk.i64_in _ (by omega)
          have t8 : ((k : Int) + (j : Int)).toNat = k + j := by omega
          go_wp2_with fail
          go_quiet (fail)
          clear t7 t8
          go_wp2_with fail
          have hst := World.ownsRow.stored (w := wr.drewN nq) HO2.out (k + j) (.int .u64 ((IntKind.u64.wrap (IntKind.u64.wrap (((Q[k + j]?.getD 0 : Nat) : Int) + IntKind.u64.wrap (((la[k]?.getD 0 : Nat) : Int) * ((lb[j]?.getD 0 : Nat) : Int))) + (v : Int))).tmod 4294967296))
          refine ⟨⟨j + 1, pHi (la[k]?.getD 0) (lb[j]?.getD 0) (Q[k + j]?.getD 0) v, Q.set (k + j) (pLo (la[k]?.getD 0) (lb[j]?.getD 0) (Q[k + j]?.getD 0) v), by omega, by go_num, ?_, HL.out.step hxl hd2 (by have := HPL.out; omega), ?_, ?_⟩, by simp [intOf]; omega⟩
          · rw [rmul_hi hxl hyl hql hvl]
          · have h5 := hst.1
            rw [List.map_set]
            rw [rmul_lo hxl hyl hql hvl] at h5 ⊢
            exact h5
          · exact (below_drewN hbl2 nq).grown hst.2 (by have := hbl2.size; have := HS.out; simp; omega) (fun q e => by cases e; exact Nat.le_refl _)
        · obtain rfl : j = n2 := by omega
          have hQl : Q.length = n1 + j + 1 := by rw [hL.2.1]; exact HPL.out
          have hc3 : wr.cell? ⟨s, k + j, none⟩ = some (.int .u64 ((Q[k + j]?.getD 0 : Nat) : Int)) := by
            rw [hown2.cellAt (k + j) (by omega), List.getElem?_map, List.getElem?_eq_getElem (by omega)]
            simp [encD]
          have hf3 := hown2.frozenAt (k + j)
          obtain ⟨q1, q2, q3, q4⟩ := hL.done HN2.out (by have := HPL.out; omega) (HZS.out _ (Nat.le_refl _)).out
          have hst := hown2.stored (k + j) (.int .u64 (v : Int))
          have Q4 := Lib.hid q4
          have HST := Lib.hid hst
          have Q3 := Lib.hid q3
          clear hL hown2 hQl q2 q3 q4 hst
          go_wp2_with fail
          go_roundw
          case rel =>
            refine ⟨k + 1, Q.set (k + j) v, by omega, by go_num, q1, ?_, fun i hi => ?_, ?_, ?_⟩
            · have e1 := Q4.out
              rw [HV.out] at e1
              rw [e1, valH_take_succ, Nat.add_mul, Nat.mul_assoc]
              exact Lib.hid rfl
            · rw [Q3.out i (by omega)]
              exact HZS.out i (by omega)
            · rw [List.map_set]
              exact HST.out.1
            · exact hbl2.grown HST.out.2 (by have := hbl2.size; have := HS.out; omega) (fun q e => by cases e; exact Nat.le_refl _)
          case measure => simp [intOf]; omega
    · obtain rfl : k = n1 := by omega
      have hlim := Lim.of_own hown hP.dig
      have hval := hv.out
      rw [List.take_of_length_le (by have := HN1.out; omega), HE.out] at hval
      have HV := Lib.hid hval
      clear hval hv hown
      go_wp2_with fail
      refine (whole_any _ _ _ _ _ hlim hP (by omega)).mono ?_
      rintro e w4 ⟨A4, n4, c4, rfl, h4, b4⟩
      go_wp2_with fail
      go_ret
      rw [HV.out] at h4
      refine ⟨A4, n4, c4, rfl, h4, cc.trans (Below.mono (B := s) ?_ (by have := cc.size; have := HS.out; omega))⟩
      exact hbl.trans (b4.mono (by have := hbl.size; have := HS.out; omega))

end Go.Proofs.Ytckdbcngnghhiaa

/-
  The contracts of the second reference's power, bit, Shl and Shr.
-/
namespace Go.Proofs.Ytckdbcngnghhiaa
set_option maxRecDepth 100000
set_option maxHeartbeats 4000000
open Go.RowKit

theorem made_zeros (n : Nat) : (madeCells (Value.int .u64 0).cells (n * 1)).toList = (List.replicate n 0).map encD := by
  rw [Nat.mul_one, show (Value.int .u64 0).cells = #[Value.int .u64 0] from rfl, toList_madeCells_one, List.map_replicate]
  rfl

theorem wrap_pw {k : Nat} (h : k + 1 < 64) : IntKind.u64.wrap ((pw k : Int) * 2) = (pw (k + 1) : Int) := by
  have h1 := pw_lt h
  rw [pw_succ] at h1 ⊢
  rw [IntKind.wrap_u64]
  unfold B64 at h1
  omega

theorem power_N (w : World) (n : Nat) (hn : n ≤ 20000) : Calls Try.prog 82 #[.int .i64 (n : Int)] w (GotN w (2 ^ n)) := by
  obtain ⟨i0, hi, hz0, hz1, hz2⟩ := info_parts info24
  obtain ⟨s, hs⟩ : ∃ s, w.heap.size = s := ⟨_, rfl⟩
  have HS := Lib.hid hs
  clear hs
  go_enter Try.func82, Try.ntmps82
  go_wp2_with (at_make; refine wpList_make_full _ rfl _ _ 36 rfl s 84 i0 (.int .u64 0) 1 Try.underlying36 hi hz0 hz1 .i64 .i64 _ _ (n / 64 + 1) rfl rfl (by omega) (by omega) (by rw [hz2]; omega) (by unfold maxLen; omega) (by rw [HS.out]; omega) ?_; intro w1 hown1 hgrow1; rw [made_zeros] at hown1)
  rw [HS.out] at hown1 ⊢
  go_loop [4, 5] (fun ov iv => ∃ k : Nat, k ≤ n % 64 ∧ iv = .int .i64 (k : Int) ∧ ov = .int .u64 (pw k : Int)) (fun _ iv => n % 64 - (intOf iv).toNat)
  case atStart => exact ⟨0, Nat.zero_le _, rfl, rfl⟩
  case round =>
    obtain ⟨k, hk, rfl, rfl⟩ := hrel
    by_cases hlt : k < n % 64
    · go_wp2
      go_round
      case rel => exact ⟨k + 1, by omega, by go_num, congrArg (Value.int .u64) (wrap_pw (by omega))⟩
      case measure => simp [intOf]; omega
    · have hk' : k = n % 64 := by omega
      have hf := hown1.frozenAt (n / 64)
      have hc : w1.cell? ⟨s, n / 64, none⟩ = some (.int .u64 0) := by
        rw [hown1.cellAt (n / 64) (by omega)]
        simp [encD]
      have hst := hown1.stored (n / 64) (.int .u64 (pw k : Int))
      have HK := Lib.hid hk'
      have HST := Lib.hid hst
      have HO := Lib.hid hown1
      clear hk' hst hown1
      go_wp2
      go_ret
      have hl : (List.replicate (n / 64 + 1) 0).set (n / 64) (pw k) = limbs (2 ^ n) := by rw [HK.out]; exact pw_limbs n
      have hrow := HST.out.1
      rw [show (Value.int IntKind.u64 (pw k : Int)) = encD (pw k) from rfl, ← List.map_set, hl] at hrow
      refine ⟨_, _, _, rfl, Lim.of_own hrow (limbs_dig _), ?_⟩
      rw [HS.out]
      exact ((Below.refl s w).grown hgrow1 (by have := HS.out; omega) (fun k h => by cases h)).grown HST.out.2 (by have := hgrow1.size; have := HS.out; omega) (fun q e => by cases e; exact Nat.le_refl _)

theorem wrap_sh {g k : Nat} (h : g < B64) : IntKind.u64.wrap (((g / 2 ^ k : Nat) : Int) / 2) = ((g / 2 ^ (k + 1) : Nat) : Int) := by
  have h1 : g / 2 ^ k < B64 := Nat.lt_of_le_of_lt (Nat.div_le_self _ _) h
  rw [Nat.pow_succ, ← Nat.div_div_eq_div_mul]
  generalize g / 2 ^ k = t at *
  rw [IntKind.wrap_u64]
  unfold B64 at h1
  omega
/-- Shifted down by k places, behind a name. -/
def sd (g k : Nat) : Nat := g / 2 ^ k
theorem sd_step {g k : Nat} (h : g < B64) : IntKind.u64.wrap ((sd g k : Int) / 2) = (sd g (k + 1) : Int) := wrap_sh h
theorem sd_zero (g : Nat) : sd g 0 = g := Nat.div_one g

theorem bit_N {w : World} {A : Option Addr} {n c x i : Nat} (ha : Num w A n c x) (hn : n ≤ 1000000) (hin : i < 64 * n) : Calls Try.prog 69 #[.slice A n c, .int .i64 (i : Int)] w fun e w' => e = .returned (.int .u64 (bitN x i : Int)) ∧ w = w' := by
  obtain ⟨b, off, rfl, hb, hcell⟩ := ha.2.2.2 (by omega)
  have hc := hcell (i / 64) (by omega)
  rw [limbs_get] at hc
  have hd := dig_lt x (i / 64)
  have hbd := bitN_dig x i
  have HB := Lib.hid hbd
  clear hcell hbd
  generalize dig x (i / 64) = g at *
  go_enter Try.func69, Try.ntmps69
  go_wp2
  go_loop [5, 6] (fun ov iv => ∃ k : Nat, k ≤ i % 64 ∧ iv = .int .i64 (k : Int) ∧ ov = .int .u64 (sd g k : Int)) (fun _ iv => i % 64 - (intOf iv).toNat)
  case atStart => exact ⟨0, Nat.zero_le _, rfl, by rw [sd_zero]⟩
  case round =>
    obtain ⟨k, hk, rfl, rfl⟩ := hrel
    by_cases hlt : k < i % 64
    · go_wp2
      go_round
      case rel => exact ⟨k + 1, by omega, by go_num, congrArg (Value.int .u64) (sd_step hd)⟩
      case measure => simp [intOf]; omega
    · have hk' : k = i % 64 := by omega
      have HK := Lib.hid hk'
      clear hk'
      go_wp2
      go_ret
      refine ⟨?_, rfl⟩
      rw [← HB.out, ← HK.out]
      refine congrArg Ending.returned (congrArg (Value.int .u64) ?_)
      show ((sd g k : Int)).tmod 2 = ((sd g k % 2 : Nat) : Int)
      rw [Int.tmod_eq_emod_of_nonneg (by omega)]
      omega

theorem rshl_N {w : World} {A : Option Addr} {m c x n : Nat} (ha : Num w A m c x) (hx : (limbs x).length ≤ 1000) (hn : n ≤ 20000) : Calls Try.prog 72 #[.slice A m c, .int .i64 (n : Int)] w (GotP w (x * 2 ^ n) 0) := by
  have hp : (limbs (2 ^ n)).length ≤ 1000 := by
    refine Nat.le_trans (limbs_length_le (k := n / 64 + 1) ?_) (by omega)
    rw [B64_pow2]
    exact (Nat.pow_lt_pow_iff_right (by omega)).2 (by omega)
  have HP := Lib.hid hp
  clear hp
  go_enter Try.func72, Try.ntmps72
  go_wp2_with fail
  refine (power_N _ n hn).mono ?_
  rintro e w1 ⟨A1, n1, c1, rfl, h1, b1⟩
  go_wp2_with fail
  refine (rmul_N (ha.on b1) h1 (by omega) (by have := HP.out; omega)).mono ?_
  rintro e w2 ⟨A2, n2, c2, rfl, h2, b2⟩
  go_wp2_with fail
  go_ret2
  exact ⟨A2, n2, c2, rfl, h2, b1.trans (b2.mono b1.size)⟩

/-- A step of the inner loop, as the walk has it. -/
theorem wrap_step {x y k : Nat} (hx : x < B64) :
    IntKind.u64.wrap (IntKind.u64.wrap ((sh2 x y k : Int) / 2) + (sd y k : Int) % 2 * 9223372036854775808) = (sh2 x y (k + 1) : Int) := by
  have h1 := sh2_lt x y (k + 1)
  have h2 := sh2_succ hx y k
  rw [show y / 2 ^ k = sd y k from rfl] at h2
  have h3 := sh2_lt x y k
  generalize sh2 x y k = a at *
  generalize sh2 x y (k + 1) = b at *
  generalize sd y k = c at *
  simp only [IntKind.wrap_u64]
  unfold B64 at h1 h3
  omega

theorem rshr_F {w : World} {A : Option Addr} {m c x n : Nat} (ha : Num w A m c x) (hx : (limbs x).length ≤ 1000) (hn : n ≤ 20000) : Calls Try.prog 67 #[.slice A m c, .int .i64 (n : Int)] w (GotPF w (x / 2 ^ n) 0) := by
  obtain ⟨i0, hi, hz0, hz1, hz2⟩ := info_parts info24
  have hm : m ≤ 1000 := by rw [ha.len]; exact hx
  have hlt0 : x / 2 ^ n < B64 ^ (m - n / 64) := shr_lt (by rw [ha.len]; exact lt_of_limbs_length (Nat.le_refl _))
  have HLT := Lib.hid hlt0
  clear hlt0 hx
  go_enter Try.func67, Try.ntmps67
  go_wp2_with fail
  go_loopw [6, 7] (fun ov iv wr => ∃ k g cap : Nat, (k ≤ m - n / 64) ∧ iv = .int .i64 ((n / 64 + k : Nat) : Int) ∧ ov = .slice (some ⟨g, 0, none⟩) k cap ∧ wr.ownsRow w.heap.size 84 1 (.slice (some ⟨g, 0, none⟩) k cap) k ((digs (x / 2 ^ n) k).map encD) ∧ Below w.heap.size w wr) (fun _ iv _ => m - (intOf iv).toNat)
  case atStart => exact ⟨0, w.heap.size, 0, Nat.zero_le _, by go_num, rfl, own_empty w _ (Nat.le_refl _), (Below.refl _ w).alloc (Nat.le_refl _) _⟩
  case round =>
    obtain ⟨k, g, cap, hk, rfl, rfl, hown, hbl⟩ := hrel
    by_cases hlt : n / 64 + k < m
    · obtain ⟨b, off, rfl, hb, hcell⟩ := (ha.on hbl).2.2.2 (by omega)
      have h1 := hcell (n / 64 + k) hlt
      rw [limbs_get] at h1
      have hd1 := dig_lt x (n / 64 + k)
      have hd2 := dig_lt x (n / 64 + k + 1)
      have hsd := shr_dig x n k
      have HSD := Lib.hid hsd
      have hgl := hown.lt g rfl
      have HO := Lib.hid hown
      clear hown hsd
      obtain ⟨wo, hwo⟩ : ∃ wo : World, wo = wr := ⟨_, rfl⟩
      subst hwo
      have h2 : n / 64 + k + 1 < m → wo.cell? ⟨b, off + (n / 64 + k + 1), none⟩ = some (.int .u64 ((dig x (n / 64 + k + 1) : Nat) : Int)) := fun h => by
        have := hcell (n / 64 + k + 1) h
        rw [limbs_get] at this
        exact this
      have h2z : ¬ n / 64 + k + 1 < m → dig x (n / 64 + k + 1) = 0 := fun h => by
        rw [← limbs_get, List.getElem?_eq_none (by have := ha.len; omega)]; rfl
      clear hcell
      by_cases hlt2 : n / 64 + k + 1 < m
      · have h3 := h2 hlt2
        clear h2 h2z
        generalize dig x (n / 64 + k) = p at *
        generalize dig x (n / 64 + k + 1) = q at *
        go_wp2_with fail
        go_loop [8, 9, 10] (fun xv yv jv => ∃ j : Nat, j ≤ n % 64 ∧ jv = .int .i64 (j : Int) ∧ xv = .int .u64 (sh2 p q j : Int) ∧ yv = .int .u64 (sd q j : Int)) (fun _ _ jv => n % 64 - (intOf jv).toNat)
        case atStart => exact ⟨0, Nat.zero_le _, rfl, by rw [sh2_zero hd1], by rw [sd_zero]⟩
        case round =>
          obtain ⟨j, hj, rfl, rfl, rfl⟩ := hrel
          by_cases hltj : j < n % 64
          · go_wp2
            go_round
            case rel => exact ⟨j + 1, by omega, by go_num, congrArg (Value.int .u64) (wrap_step hd1), congrArg (Value.int .u64) (sd_step hd2)⟩
            case measure => simp [intOf]; omega
          · have hje : j = n % 64 := by omega
            have HJ := Lib.hid hje
            clear hje
            go_wp2_with (at_builtin; refine wpList_append_lies _ rfl _ _ 36 rfl w.heap.size 84 i0 (.int .u64 0) 1 8 Try.underlying36 hi hz0 hz1 hz2 rfl (by decide) _ _ _ rfl (HO.out.alloc _) ⟨wo.heap.size, 0, none⟩ 1 1 [.int .u64 (sh2 p q j : Int)] rfl rfl (cell_one_new _ _ _) (by simp [Value.oneCell']) (by omega) (by unfold maxLen; omega) (by omega) (by simp; have := hbl.size; omega) _ rfl ?_; intro g1 cap1 w1 hown1 hgrow1 hat hlt1)
            go_roundw
            case rel =>
              refine ⟨k + 1, g1, cap1, by omega, by go_num, rfl, ?_, ?_⟩
              · rw [HJ.out, HSD.out] at hown1
                rw [digs_succ, List.map_append]
                exact hown1
              · exact (hbl.alloc hbl.size _).grown hgrow1 (by simp; have := hbl.size; omega) (fun q e => by injection (show some g = some q from e) with e1; omega)
            case measure => simp [intOf]; omega
      · have h3 := h2z hlt2
        clear h2 h2z
        generalize dig x (n / 64 + k) = p at *
        generalize dig x (n / 64 + k + 1) = q at *
        have HQ := Lib.hid h3
        clear h3
        go_wp2_with fail
        go_loop [8, 9, 10] (fun xv yv jv => ∃ j : Nat, j ≤ n % 64 ∧ jv = .int .i64 (j : Int) ∧ xv = .int .u64 (sh2 p q j : Int) ∧ yv = .int .u64 (sd q j : Int)) (fun _ _ jv => n % 64 - (intOf jv).toNat)
        case atStart => exact ⟨0, Nat.zero_le _, rfl, by rw [sh2_zero hd1], by rw [sd_zero, HQ.out]; rfl⟩
        case round =>
          obtain ⟨j, hj, rfl, rfl, rfl⟩ := hrel
          by_cases hltj : j < n % 64
          · go_wp2
            go_round
            case rel => exact ⟨j + 1, by omega, by go_num, congrArg (Value.int .u64) (wrap_step hd1), congrArg (Value.int .u64) (sd_step hd2)⟩
            case measure => simp [intOf]; omega
          · have hje : j = n % 64 := by omega
            have HJ := Lib.hid hje
            clear hje
            go_wp2_with (at_builtin; refine wpList_append_lies _ rfl _ _ 36 rfl w.heap.size 84 i0 (.int .u64 0) 1 8 Try.underlying36 hi hz0 hz1 hz2 rfl (by decide) _ _ _ rfl (HO.out.alloc _) ⟨wo.heap.size, 0, none⟩ 1 1 [.int .u64 (sh2 p q j : Int)] rfl rfl (cell_one_new _ _ _) (by simp [Value.oneCell']) (by omega) (by unfold maxLen; omega) (by omega) (by simp; have := hbl.size; omega) _ rfl ?_; intro g1 cap1 w1 hown1 hgrow1 hat hlt1)
            go_roundw
            case rel =>
              refine ⟨k + 1, g1, cap1, by omega, by go_num, rfl, ?_, ?_⟩
              · rw [HJ.out, HSD.out] at hown1
                rw [digs_succ, List.map_append]
                exact hown1
              · exact (hbl.alloc hbl.size _).grown hgrow1 (by simp; have := hbl.size; omega) (fun q e => by injection (show some g = some q from e) with e1; omega)
            case measure => simp [intOf]; omega
    · have hlim := Lim.of_own hown (digs_dig _ _)
      have hkm : m - n / 64 ≤ k := by omega
      have hv : val (digs (x / 2 ^ n) k) = x / 2 ^ n := digs_all (Nat.lt_of_lt_of_le HLT.out (Nat.pow_le_pow_right B64_pos hkm))
      have HV := Lib.hid hv
      clear hv hown
      go_wp2_with fail
      refine (bare_limF hlim (by omega)).mono ?_
      rintro e w1 ⟨A1, n1, c1, rfl, hl1, b1, f1⟩
      go_wp2_with fail
      go_ret2
      rw [HV.out] at hl1
      exact ⟨A1, n1, c1, rfl, hl1, hbl.trans (b1.mono hbl.size), f1.mono hbl.size⟩

end Go.Proofs.Ytckdbcngnghhiaa

/-
  The contract of the second reference's DivMod.
-/
namespace Go.Proofs.Ytckdbcngnghhiaa
set_option maxRecDepth 100000
set_option maxHeartbeats 8000000
open Go.RowKit

/-- A call has answered a quotient, what is left, and no error. -/
def GotD (w : World) (q r : Nat) (e : Ending) (w' : World) : Prop := ∃ A n c B m d, e = .returned (.tuple #[.slice A n c, .slice B m d, .int .i64 0]) ∧ Num w' A n c q ∧ Num w' B m d r ∧ Below w.heap.size w w'

theorem ownsRow_below {w w' : World} {base : Nat} {e : TypeId} {size : Nat} {v : Value} {n : Nat} {xs : List Value} (h : w.ownsRow base e size v n xs) (hb : Below w.heap.size w w') : w'.ownsRow base e size v n xs := by
  refine h.kept (row := none) ⟨hb.os, hb.tape, hb.output, hb.size, fun k hk _ => hb.block k hk⟩ ?_
  rcases h.2 with ⟨rfl, _⟩ | ⟨g, cap, cur, rfl, _⟩
  · exact .inl rfl
  · exact .inr (by simp [Value.ownBlock])

/-- A number that lies elsewhere is kept where a cell of a block is written. -/
theorem Num.far {w : World} {A : Option Addr} {n c x s o : Nat} {v : Value} (h : Num w A n c x) (hf : Fresh (s + 1) A n) : Num (w.setCell ⟨s, o, none⟩ v) A n c x := by
  refine ⟨h.1, h.2.1, h.2.2.1, fun h0 => ?_⟩
  obtain ⟨b, off, e, hb, hc⟩ := h.2.2.2 h0
  obtain ⟨b', off', e', hb'⟩ := hf h0
  rw [e] at e'
  injection e' with e'
  injection e' with e1 e2
  refine ⟨b, off, e, by rw [World.size_setCell]; exact hb, fun j hj => ?_⟩
  exact (World.cell?_of_block (a := ⟨b, off + j, none⟩) (Below.heap_setCell w ⟨s, o, none⟩ v b (by simp; omega))).trans (hc j hj)

theorem rbits_eq {w : World} {A : Option Addr} {n c x p : Nat} (ha : Num w A n c x) (hx : (limbs x).length ≤ 2147483648) (hp : blen x = p) : Calls Try.prog 66 #[.slice A n c] w (GotV w (.int .i64 (p : Int))) := by
  have := rbits_N ha hx
  rwa [hp] at this
theorem rshr_Fv {w : World} {A : Option Addr} {m c x n : Nat} {v : Int} (hv : v = (n : Int)) (ha : Num w A m c x) (hx : (limbs x).length ≤ 1000) (hn : n ≤ 20000) : Calls Try.prog 67 #[.slice A m c, .int .i64 v] w (GotPF w (x / 2 ^ n) 0) := by
  subst hv
  exact rshr_F ha hx hn
/-- Twice what a digit holds. -/
def tq (F i : Nat) : Nat := 2 * qd F (i + 1) (i / 64)
theorem wrap_two (F i : Nat) : IntKind.u64.wrap ((qd F (i + 1) (i / 64) : Int) * 2) = (tq F i : Int) := by
  have := qd_room F i
  unfold tq
  rw [IntKind.wrap_u64]
  unfold B64 at this
  omega
theorem wrap_tq (F i : Nat) : IntKind.u64.wrap ((tq F i : Int) + 1) = ((tq F i + 1 : Nat) : Int) := by
  have := qd_room F i
  unfold tq
  rw [IntKind.wrap_u64]
  unfold B64 at this
  omega

theorem div_start {x y f : Nat} (hy : y ≠ 0) (h : blen x = f + blen y) : x / y < 2 ^ (f + 1) ∧ x / 2 ^ (f + 1) < y := by
  have h1 := lt_blen x
  have h2 := blen_ge hy
  have h3 := blen_pos hy
  have e : 2 ^ blen x = 2 ^ (f + 1) * 2 ^ (blen y - 1) := by rw [← Nat.pow_add, h]; congr 1; omega
  have h4 : 2 ^ (f + 1) * 2 ^ (blen y - 1) ≤ 2 ^ (f + 1) * y := Nat.mul_le_mul_left _ h2
  constructor
  · rw [Nat.div_lt_iff_lt_mul (by omega)]; omega
  · rw [Nat.div_lt_iff_lt_mul (Nat.pow_pos (by omega)), Nat.mul_comm]; omega

theorem len_bits {x k : Nat} (h : (limbs x).length ≤ k) : blen x ≤ 64 * k := by
  refine blen_le ?_
  have h1 := lt_of_limbs_length h
  rw [B64_pow2] at h1
  exact h1
theorem r_len {x y k : Nat} (hy : 0 < y) (h : (limbs y).length ≤ k) : (limbs (x % y)).length ≤ k := Nat.le_trans (limbs_length_mono (Nat.le_of_lt (Nat.mod_lt _ hy))) h

theorem rdiv_main {w : World} {A B : Option Addr} {n c m d x y f : Nat} (ha : Num w A n c x) (hb : Num w B m d y) (hx : (limbs x).length ≤ 300) (hy : (limbs y).length ≤ 300) (hy0 : y ≠ 0) (hf : blen x = f + blen y) : Calls Try.prog 46 #[.slice A n c, .slice B m d] w (GotD w (x / y) (x % y)) := by
  obtain ⟨i0, hi, hz0, hz1, hz2⟩ := info_parts info24
  obtain ⟨hF, hR⟩ := div_start hy0 hf
  have hbx := len_bits hx
  have hn : n ≤ 300 := by rw [ha.len]; exact hx
  have hxn : blen x ≤ 64 * n := by rw [ha.len]; exact blen_le (by rw [← B64_pow2]; exact lt_of_limbs_length (Nat.le_refl _))
  have hm0 : ((m : Int) == 0) = false := by have := hb.len; have := limbs_ne_nil hy0; simp; omega
  obtain ⟨q, hq⟩ : ∃ q, blen y = q := ⟨_, rfl⟩
  have hq1 : 1 ≤ q := by have := blen_pos hy0; omega
  rw [hq] at hf
  rw [hf] at hbx hxn
  have HQ := Lib.hid hq
  have HP := Lib.hid hf
  clear hq hf
  go_enter Try.func46, Try.ntmps46
  go_wp2_with fail
  refine (rbits_eq ha (by omega) HP.out).mono ?_
  rintro e w1 ⟨rfl, b1⟩
  replace ha := ha.on b1
  replace hb := hb.on b1
  go_wp2_with fail
  refine (rbits_eq hb (by omega) HQ.out).mono ?_
  rintro e w2 ⟨rfl, b2⟩
  replace ha := ha.on b2
  replace hb := hb.on b2
  have cc := b1.trans (b2.mono b1.size)
  clear b1 b2
  obtain ⟨s, hs⟩ : ∃ s, w2.heap.size = s := ⟨_, rfl⟩
  unfold Num at ha hb
  rw [hs] at ha hb
  have HS := Lib.hid hs
  clear hs
  go_wp2_with (at_make; refine wpList_make_full _ rfl _ _ 36 rfl s 84 i0 (.int .u64 0) 1 Try.underlying36 hi hz0 hz1 .i64 .i64 _ _ n rfl rfl (by omega) (by omega) (by rw [hz2]; omega) (by unfold maxLen; omega) (by rw [HS.out]; omega) ?_; intro w3 hown3 hgrow3; rw [made_zeros] at hown3)
  rw [HS.out] at hown3 ⊢
  have hb3 : Below s w2 w3 := (Below.refl s w2).grown hgrow3 (by have := HS.out; omega) (fun k h => by cases h)
  have hs3 := (hown3.lt s rfl).2
  clear hgrow3
  have ha3 : Num w3 A n c x := (ha.below hb3).more (by omega)
  refine (rshr_Fv (n := f + 1) (by omega) ha3 (by omega) (by omega)).mono ?_
  rintro e w4 ⟨A4, n4, c4, rfl, h4, b4, f4⟩
  have hb4 : Below s w2 w4 := hb3.trans (b4.mono (by omega))
  have hown4 := ownsRow_below hown3 b4
  have hfr : Fresh (s + 1) A4 n4 := f4.mono (by omega)
  have hR4 : x / 2 ^ (f + 1) = x / 2 ^ (f + 1) % y := (Nat.mod_eq_of_lt hR).symm
  rw [hR4] at h4
  rw [← qlist_none hF] at hown4
  have hy1 : 0 < y := by omega
  clear b4 f4 ha3 hown3 hb3 hs3 hR4 hF hR
  go_wp2_with fail
  go_loopw [9, 11] (fun rv iv wr => ∃ (k : Nat) (A' : Option Addr) (n' c' : Nat), iv = .int .i64 ((k : Int) - 1) ∧ k ≤ f + 1 ∧ rv = .slice A' n' c' ∧ Num wr A' n' c' (x / 2 ^ k % y) ∧ Fresh (s + 1) A' n' ∧ wr.ownsRow s 84 1 (.slice (some ⟨s, 0, none⟩) n n) n ((qlist (x / y) k n).map encD) ∧ Below s w2 wr) (fun _ iv _ => (intOf iv + 1).toNat)
  case atStart => exact ⟨f + 1, A4, n4, c4, congrArg (Value.int .i64) (by omega), Nat.le_refl _, rfl, h4, hfr, hown4, hb4⟩
  case round =>
    obtain ⟨k, A', n', c', rfl, hk, rfl, hr, hfr', hown, hbl⟩ := hrel
    by_cases h0 : k = 0
    · subst h0
      have hlim := Lim.of_own hown (qlist_dig _ _ _)
      have hv : val (qlist (x / y) 0 n) = x / y := by
        rw [qlist_done]
        refine digs_all (Nat.lt_of_le_of_lt (Nat.div_le_self _ _) ?_)
        rw [ha.1]
        exact lt_of_limbs_length (Nat.le_refl _)
      have HV := Lib.hid hv
      have hr0 : x / 2 ^ 0 % y = x % y := by rw [Nat.pow_zero, Nat.div_one]
      rw [hr0] at hr
      clear hv hown hr0
      go_wp2_with fail
      refine (bare_lim hlim (by omega)).mono ?_
      rintro e w5 ⟨A5, n5, c5, rfl, h5, b5⟩
      rw [HV.out] at h5
      go_wp2_with fail
      go_ret3
      exact ⟨A5, n5, c5, A', n', c', rfl, h5, hr.on b5, cc.trans (Below.mono (B := s) (hbl.trans (b5.mono (by have := hbl.size; have := HS.out; omega))) (by have := cc.size; have := HS.out; omega))⟩
    · obtain ⟨i, hi'⟩ : ∃ i, k = i + 1 := ⟨k - 1, by omega⟩
      subst hi'
      have e1 : ((i + 1 : Nat) : Int) - 1 = (i : Int) := by omega
      rw [e1]
      clear e1
      obtain ⟨hstep, hbit⟩ := div_step (x := x) hy1 i
      have HST := Lib.hid hstep
      have HBT := Lib.hid hbit
      clear hstep hbit
      have hsz := (hown.lt s rfl).2
      have l1 := r_len (x := x / 2 ^ (i + 1)) hy1 hy
      obtain ⟨r, hre⟩ : ∃ r, x / 2 ^ (i + 1) % y = r := ⟨_, rfl⟩
      rw [hre] at hr l1
      have HRE := Lib.hid hre
      clear hre
      have l2 : (limbs (r + r)).length ≤ 301 := limbs_length_add l1 l1
      have hbl0 : bitN x i < B64 := Nat.lt_trans (bitN_lt x i) (by unfold B64; omega)
      have l3 : (limbs (bitN x i)).length ≤ 301 := Nat.le_trans (limbs_length_le (k := 1) (by rw [Nat.pow_one]; exact hbl0)) (by omega)
      have l4 : (limbs (r + r + bitN x i)).length ≤ 302 := limbs_length_add l2 l3
      have HO := Lib.hid hown
      clear hown
      go_wp2_with fail
      refine (radd_F hr hr (by omega) (by omega)).mono ?_
      rintro e w5 ⟨A5, n5, c5, rfl, h5, b5, f5⟩
      replace HO := Lib.hid (ownsRow_below HO.out b5)
      have hb5 : Below s w2 w5 := hbl.trans (b5.mono (by omega))
      have hs5 : s < w5.heap.size := Nat.lt_of_lt_of_le hsz b5.size
      clear b5 f5 hr hfr' hbl hsz
      go_wp2_with fail
      refine (bit_N (x := x) ((ha.below hb5).more (by omega)) (by omega) (by omega)).mono ?_
      rintro e w6 ⟨rfl, rfl⟩
      go_wp2_with fail
      refine (rof_N _ _ hbl0).mono ?_
      rintro e w6 ⟨A6, n6, c6, rfl, h6, b6⟩
      replace HO := Lib.hid (ownsRow_below HO.out b6)
      replace h5 := h5.on b6
      have hb6 : Below s w2 w6 := hb5.trans (b6.mono (by omega))
      have hs6 : s < w6.heap.size := Nat.lt_of_lt_of_le hs5 b6.size
      clear b6 hb5 hs5
      go_wp2_with fail
      refine (radd_F h5 h6 (by omega) (by omega)).mono ?_
      rintro e w7 ⟨A7, n7, c7, rfl, h7, b7, f7⟩
      replace HO := Lib.hid (ownsRow_below HO.out b7)
      have hb7 : Below s w2 w7 := hb6.trans (b7.mono (by omega))
      have hs7 : s < w7.heap.size := Nat.lt_of_lt_of_le hs6 b7.size
      have hf7 : Fresh (s + 1) A7 n7 := f7.mono (by omega)
      clear b7 f7 h5 h6 hb6 hs6
      have hit : i / 64 < n := by omega
      have hc1 : w7.cell? ⟨s, i / 64, none⟩ = some (.int .u64 (qd (x / y) (i + 1) (i / 64) : Int)) := by
        rw [HO.out.cellAt (i / 64) (by omega), List.getElem?_map, List.getElem?_eq_getElem (by rw [qlist_length]; exact hit)]
        simp [encD, qlist]
      have hf1 := HO.out.frozenAt (i / 64)
      have hst1 := HO.out.stored (i / 64) (.int .u64 (tq (x / y) i : Int))
      have HS1 := Lib.hid hst1
      clear hst1 HO
      have hw2 := wrap_two (x / y) i
      go_wp2_with fail
      clear hw2 hc1 hf1
      have h8 := h7.far (o := i / 64) (v := .int .u64 (tq (x / y) i : Int)) hf7
      have hb8 : Below s w2 (w7.setCell ⟨s, i / 64, none⟩ (.int .u64 (tq (x / y) i : Int))) := hb7.setCell (p := ⟨s, i / 64, none⟩) (Nat.le_refl _) _
      have hs8 : s < (w7.setCell ⟨s, i / 64, none⟩ (.int .u64 (tq (x / y) i : Int))).heap.size := by rw [World.size_setCell]; exact hs7
      have hn8 : Num (w7.setCell ⟨s, i / 64, none⟩ (.int .u64 (tq (x / y) i : Int))) B m d y := (hb.below hb8).more (by omega)
      have ho8 := HS1.out.1
      clear HS1 h7 hb7 hs7
      generalize w7.setCell ⟨s, i / 64, none⟩ (.int .u64 (tq (x / y) i : Int)) = w8 at *
      have HO8 := Lib.hid ho8
      clear ho8
      by_cases hge : y ≤ r + r + bitN x i
      · have hcm : 0 ≤ cmpN (r + r + bitN x i) y := by
          rcases Nat.lt_or_ge y (r + r + bitN x i) with h | h
          · rw [cmpN_gt h]; omega
          · rw [cmpN_zero.2 (by omega)]; omega
        have hst := HST.out
        have hbt := HBT.out
        rw [HRE.out, show 2 * r = r + r by omega, if_pos hge] at hst hbt
        have HRN := Lib.hid hst
        have HBN := Lib.hid hbt
        clear hst hbt HST HBT HRE
        refine (rcmp_N h8 hn8 (by omega) (by omega)).mono ?_
        rintro e w9 ⟨rfl, b9⟩
        replace h8 := h8.on b9
        replace hn8 := hn8.on b9
        have hb9 : Below s w2 w9 := hb8.trans (b9.mono (by omega))
        have hs9 : s < w9.heap.size := Nat.lt_of_lt_of_le hs8 b9.size
        replace HO8 := Lib.hid (ownsRow_below HO8.out b9)
        clear b9 hb8 hs8
        go_wp2_with fail
        refine (rsub_F h8 hn8 (by omega) (by omega) hge).mono ?_
        rintro e w10 ⟨A10, n10, c10, rfl, h10, b10, f10⟩
        have hb10 : Below s w2 w10 := hb9.trans (b10.mono (by omega))
        have hs10 : s < w10.heap.size := Nat.lt_of_lt_of_le hs9 b10.size
        have hf10 : Fresh (s + 1) A10 n10 := f10.mono (by omega)
        replace HO8 := Lib.hid (ownsRow_below HO8.out b10)
        clear b10 f10 hb9 h8 hn8 hs9
        have hc2 : w10.cell? ⟨s, i / 64, none⟩ = some (.int .u64 (tq (x / y) i : Int)) := by
          rw [HO8.out.cellAt (i / 64) (by omega), List.getElem?_set_self (by rw [List.length_map, qlist_length]; exact hit)]
        have hf2 := HO8.out.frozenAt (i / 64)
        have hst2 := HO8.out.stored (i / 64) (.int .u64 ((tq (x / y) i + 1 : Nat) : Int))
        have HS2 := Lib.hid hst2
        clear hst2 HO8
        have hw3 := wrap_tq (x / y) i
        go_wp2_with fail
        go_roundw
        case rel =>
          refine ⟨i, A10, n10, c10, by go_num, by omega, rfl, ?_, hf10, ?_, ?_⟩
          · rw [HRN.out]; exact h10.far hf10
          · have hrow := HS2.out.1
            rw [List.set_set] at hrow
            have e2 : tq (x / y) i + 1 = qd (x / y) i (i / 64) := by rw [qd_same, HBN.out]; rfl
            rw [← qlist_set (x / y) i n, List.map_set, ← e2]
            exact hrow
          · exact hb10.setCell (p := ⟨s, i / 64, none⟩) (Nat.le_refl _) _
        case measure => simp [intOf]
      · have hcm : ¬ 0 ≤ cmpN (r + r + bitN x i) y := by rw [cmpN_lt (by omega)]; omega
        have hst := HST.out
        have hbt := HBT.out
        rw [HRE.out, show 2 * r = r + r by omega, if_neg hge] at hst hbt
        have HRN := Lib.hid hst
        have HBN := Lib.hid hbt
        clear hst hbt HST HBT HRE
        refine (rcmp_N h8 hn8 (by omega) (by omega)).mono ?_
        rintro e w9 ⟨rfl, b9⟩
        replace h8 := h8.on b9
        have hb9 : Below s w2 w9 := hb8.trans (b9.mono (by omega))
        replace HO8 := Lib.hid (ownsRow_below HO8.out b9)
        clear b9 hb8 hs8 hn8
        go_wp2_with fail
        go_roundw
        case rel =>
          refine ⟨i, A7, n7, c7, by go_num, by omega, rfl, ?_, hf7, ?_, hb9⟩
          · rw [HRN.out]; exact h8
          · have hrow := HO8.out
            have e2 : tq (x / y) i = qd (x / y) i (i / 64) := by rw [qd_same, HBN.out]; rfl
            rw [← qlist_set (x / y) i n, List.map_set, ← e2]
            exact hrow
        case measure => simp [intOf]

theorem own_two (w : World) (o : Obj) (base : Nat) (h : base ≤ w.heap.size) : ((w.alloc o).alloc (.cells #[] 84)).ownsRow base 84 1 (.slice (some ⟨w.heap.size + 1, 0, none⟩) 0 0) 0 [] := by
  have := own_empty (w.alloc o) base (by rw [World.size_alloc]; omega)
  rw [World.size_alloc] at this
  exact this

theorem num_empty (w : World) (A : Option Addr) (c : Nat) : Num w A 0 c 0 := by
  unfold Num
  rw [limbs_zero]
  exact Lim.nil _ _ _ _

theorem rdiv_small {w : World} {A B : Option Addr} {n c m d x y : Nat} (ha : Num w A n c x) (hb : Num w B m d y) (hx : (limbs x).length ≤ 300) (hy : (limbs y).length ≤ 300) (hf : blen x < blen y) : Calls Try.prog 46 #[.slice A n c, .slice B m d] w (GotD w 0 x) := by
  obtain ⟨i0, hi, hz0, hz1, hz2⟩ := info_parts info24
  have hbx := len_bits hx
  have hby := len_bits hy
  have hy0 : y ≠ 0 := fun e => by subst e; rw [blen_zero] at hf; omega
  have hn : n ≤ 300 := by rw [ha.len]; exact hx
  have hm0 : ((m : Int) == 0) = false := by have := hb.len; have := limbs_ne_nil hy0; simp; omega
  obtain ⟨p, hp⟩ : ∃ p, blen x = p := ⟨_, rfl⟩
  obtain ⟨q, hq⟩ : ∃ q, blen y = q := ⟨_, rfl⟩
  rw [hp] at hf hbx
  rw [hq] at hf hby
  have HQ := Lib.hid hq
  have HP := Lib.hid hp
  clear hq hp hy0
  have hxn := Lib.hid ha.len
  go_enter Try.func46, Try.ntmps46
  go_wp2_with fail
  refine (rbits_eq ha (by omega) HP.out).mono ?_
  rintro e w1 ⟨rfl, b1⟩
  replace ha := ha.on b1
  replace hb := hb.on b1
  go_wp2_with fail
  refine (rbits_eq hb (by omega) HQ.out).mono ?_
  rintro e w2 ⟨rfl, b2⟩
  replace ha := ha.on b2
  have cc := b1.trans (b2.mono b1.size)
  clear b1 b2 hb
  by_cases h0 : n = 0
  · subst h0
    have hx0 : x = 0 := by
      have h2 := val_limbs x
      rw [List.eq_nil_of_length_eq_zero hxn.out.symm] at h2
      exact h2.symm
    subst hx0
    have hfin : ∀ (W : World) (e : Ending), Below w2.heap.size w2 W → e = .returned (.tuple #[.slice (some ⟨w2.heap.size, 0, none⟩) 0 0, .slice (some ⟨w2.heap.size + 1, 0, none⟩) 0 0, .int .i64 0]) → GotD w 0 0 e W := fun W e hW he =>
      ⟨_, _, _, _, _, _, he, num_empty _ _ _, num_empty _ _ _, cc.trans (hW.mono cc.size)⟩
    have HF := Lib.hid hfin
    clear hfin
    cases A with
    | none =>
      go_wp2
      go_ret3
      exact HF.out _ _ (((Below.refl _ w2).alloc (Nat.le_refl _) _).alloc (by simp) _) rfl
    | some ad =>
      go_wp2_with (at_builtin; refine wpList_append_own _ rfl _ _ 36 rfl w2.heap.size 84 i0 (.int .u64 0) 1 8 Try.underlying36 hi hz0 hz1 hz2 rfl (by decide) _ _ _ rfl (own_two w2 _ w2.heap.size (Nat.le_refl _)) ad 0 _ [] rfl rfl (by intro j u h; simp at h) (by simp) (by unfold maxLen; omega) (by omega) (by simp; omega) ?_; intro v' w5 hown5 hgrow5 _)
      go_ret3
      obtain ⟨A5, c5, rfl, hl5⟩ := isL_of_own (l := []) hown5 Dig.nil
      have hB5 : Below w2.heap.size w2 w5 := (((Below.refl _ w2).alloc (Nat.le_refl _) _).alloc (by simp) _).grown hgrow5 (by simp; omega) (fun k e => by injection (show some (w2.heap.size + 1) = some k from e) with e1; omega)
      exact ⟨_, _, _, _, _, _, rfl, num_empty _ _ _, num_empty _ _ _, cc.trans (hB5.mono cc.size)⟩
  · obtain ⟨b, off, rfl, hbb, hcell⟩ := ha.2.2.2 (by omega)
    have hcells : ∀ (j : Nat) u, ((limbs x).map encD)[j]? = some u → ((w2.alloc (.cells #[] 84)).alloc (.cells #[] 84)).cell? ((⟨b, off, none⟩ : Addr).add j) = some u := by
      intro j u hu
      have hj : j < n := by
        have := (List.getElem?_eq_some_iff.1 hu).1
        rw [List.length_map] at this
        have := hxn.out; omega
      have e1 : ((⟨b, off, none⟩ : Addr).add j) = ⟨b, off + j, none⟩ := by unfold Addr.add; split <;> simp_all
      rw [e1, World.cell?_alloc_lt _ _ _ (by simp; omega), World.cell?_alloc_lt _ _ _ hbb, hcell j hj]
      rw [List.getElem?_map] at hu
      have hjl : j < (limbs x).length := by have := hxn.out; omega
      rw [List.getElem?_eq_getElem hjl] at hu ⊢
      exact hu
    have HC := Lib.hid hcells
    clear hcells hcell
    go_wp2_with (at_builtin; refine wpList_append_own _ rfl _ _ 36 rfl w2.heap.size 84 i0 (.int .u64 0) 1 8 Try.underlying36 hi hz0 hz1 hz2 rfl (by decide) _ _ _ rfl (own_two w2 _ w2.heap.size (Nat.le_refl _)) ⟨b, off, none⟩ n _ ((limbs x).map encD) rfl (by have := hxn.out; simp only [List.length_map]; omega) HC.out (encD_one _) (by unfold maxLen; omega) (by omega) (by simp; omega) ?_; intro v' w5 hown5 hgrow5 _)
    go_ret3
    rw [List.nil_append] at hown5
    obtain ⟨A5, c5, rfl, hl5⟩ := isL_of_own hown5 (limbs_dig x)
    have hB5 : Below w2.heap.size w2 w5 := (((Below.refl _ w2).alloc (Nat.le_refl _) _).alloc (by simp) _).grown hgrow5 (by simp; omega) (fun k e => by injection (show some (w2.heap.size + 1) = some k from e) with e1; omega)
    exact ⟨_, _, _, _, _, _, rfl, num_empty _ _ _, hl5, cc.trans (hB5.mono cc.size)⟩

theorem rdiv_N {w : World} {A B : Option Addr} {n c m d x y : Nat} (ha : Num w A n c x) (hb : Num w B m d y) (hx : (limbs x).length ≤ 300) (hy : (limbs y).length ≤ 300) (hy0 : y ≠ 0) : Calls Try.prog 46 #[.slice A n c, .slice B m d] w (GotD w (x / y) (x % y)) := by
  rcases Nat.lt_or_ge (blen x) (blen y) with h | h
  · have hlt : x < y := by
      rcases Nat.lt_or_ge x y with h1 | h1
      · exact h1
      · have := blen_le (Nat.lt_of_le_of_lt h1 (lt_blen x)); omega
    rw [Nat.div_eq_of_lt hlt, Nat.mod_eq_of_lt hlt]
    exact rdiv_small ha hb hx hy h
  · exact rdiv_main (f := blen x - blen y) ha hb hx hy hy0 (by omega)

end Go.Proofs.Ytckdbcngnghhiaa

/-
  Small helps for the laws: a digit in new memory, lengths of small numbers.
-/
namespace Go.Proofs.Ytckdbcngnghhiaa
open Go.RowKit

theorem len_one {x : Nat} (hx : x < B64) : (limbs x).length ≤ 1 := limbs_length_le (k := 1) (by rw [Nat.pow_one]; exact hx)
/-- The only digit of a small number. -/
theorem Num.cell {w : World} {A : Option Addr} {n c x : Nat} (h : Num w A n c x) (h0 : x ≠ 0) (hx : x < B64) : n = 1 ∧ ∃ b off, A = some ⟨b, off, none⟩ ∧ w.cell? ⟨b, off, none⟩ = some (.int .u64 (x : Int)) := by
  have hn := h.len
  rw [limbs_one h0 hx] at hn
  obtain ⟨b, off, e, _, hc⟩ := h.2.2.2 (by simp at hn; omega)
  have := hc 0 (by simp at hn; omega)
  rw [limbs_one h0 hx] at this
  exact ⟨hn, b, off, e, this⟩
theorem Num.nought {w : World} {A : Option Addr} {n c : Nat} (h : Num w A n c 0) : n = 0 := by
  have := h.len
  rwa [limbs_zero] at this
theorem Num.some_len {w : World} {A : Option Addr} {n c x : Nat} (h : Num w A n c x) (h0 : x ≠ 0) : 0 < n := by
  have := h.len
  have := limbs_ne_nil h0
  omega

end Go.Proofs.Ytckdbcngnghhiaa

/-
  Integers in memory, and the contracts of the fourth reference: made, Right, Same, Neg, Cmp.
-/
namespace Go.Proofs.Ytckdbcngnghhiaa
set_option maxRecDepth 100000
set_option maxHeartbeats 1000000
open Go.RowKit

/-- The value '.agg #[.bool b, .slice A n c]' stands for the integer z. -/
def Zn (w : World) (b : Bool) (A : Option Addr) (n c : Nat) (z : Int) : Prop := Num w A n c z.natAbs ∧ b = decide (z < 0)
theorem Zn.on {w w' : World} {b : Bool} {A : Option Addr} {n c : Nat} {z : Int} (h : Zn w b A n c z) (hb : Below w.heap.size w w') : Zn w' b A n c z := ⟨h.1.on hb, h.2⟩
/-- A number with a side. -/
def sgn (b : Bool) (x : Nat) : Int := if b then -(x : Int) else (x : Int)
theorem sgn_abs (b : Bool) (x : Nat) : (sgn b x).natAbs = x := by unfold sgn; split <;> omega
theorem Zn.eq {w : World} {b : Bool} {A : Option Addr} {n c : Nat} {z : Int} (h : Zn w b A n c z) : z = sgn b z.natAbs := by
  rw [h.2]; unfold sgn
  by_cases hz : z < 0
  · simp [hz]; omega
  · simp [hz]; omega
/-- A call has answered an integer. -/
def GotZ (w : World) (z : Int) (e : Ending) (w' : World) : Prop := ∃ b A n c, e = .returned (.agg #[.bool b, .slice A n c]) ∧ Zn w' b A n c z ∧ Below w.heap.size w w'
theorem bcell {W w1 : World} (hb : Below W.heap.size W w1) : (∀ b o, b < W.heap.size → w1.cell? ⟨b, o, none⟩ = W.cell? ⟨b, o, none⟩) ∧ (∀ b o, b < W.heap.size → w1.frozen? ⟨b, o, none⟩ = W.frozen? ⟨b, o, none⟩) :=
  ⟨fun b o h => hb.cell (p := ⟨b, o, none⟩) h, fun b o h => hb.frozen (p := ⟨b, o, none⟩) h⟩

theorem made_N {w : World} {A : Option Addr} {n c x : Nat} (b : Bool) (ha : Num w A n c x) (hn : n ≤ 1000000) : Calls Try.prog 47 #[.bool b, .slice A n c] w (GotZ w (sgn b x)) := by
  have hl := ha.len
  by_cases h0 : n = 0
  · subst h0
    have hx : x = 0 := by
      have h2 := val_limbs x
      rw [List.eq_nil_of_length_eq_zero hl.symm] at h2
      exact h2.symm
    subst hx
    have hz : Zn w false A 0 c (sgn b 0) := by
      refine ⟨by rw [sgn_abs]; exact ha, ?_⟩
      unfold sgn; split <;> rfl
    clear hl
    cases b
    all_goals
      go_enter Try.func47, Try.ntmps47
      go_wp2_with fail
      refine bodyPost_ret (v := .agg #[.bool false, .slice A 0 c]) (by simp [results, Try.results47, go_sem]) rfl ⟨_, _, _, _, rfl, hz.on ?_, ?_⟩
      all_goals exact (Below.refl _ w).alloc (Nat.le_refl _) _
  · have hx : x ≠ 0 := fun h => by rw [h, limbs_zero] at hl; simp at hl; omega
    have hn0 : (0 : Int) < (n : Int) := by omega
    have hz : Zn w b A n c (sgn b x) := by
      refine ⟨by rw [sgn_abs]; exact ha, ?_⟩
      unfold sgn
      cases b
      · simp
      · simp; omega
    clear hl
    cases b
    all_goals
      go_enter Try.func47, Try.ntmps47
      go_wp2_with fail
    · refine bodyPost_ret (v := .agg #[.bool false, .slice A n c]) (by simp [results, Try.results47, go_sem]) rfl ⟨_, _, _, _, rfl, hz.on ?_, ?_⟩
      all_goals exact (Below.refl _ w).alloc (Nat.le_refl _) _
    · refine bodyPost_ret (v := .agg #[.bool true, .slice A n c]) (by simp [results, Try.results47, go_sem]; omega) rfl ⟨_, _, _, _, rfl, hz.on ?_, ?_⟩
      all_goals exact (Below.refl _ w).alloc (Nat.le_refl _) _

/-- The boxes of two structs that came in. -/
theorem below_two (w : World) (o o' : Obj) : Below w.heap.size w ((w.alloc o).alloc o') := ((Below.refl _ w).alloc (Nat.le_refl _) _).alloc (by simp) _
theorem below_one (w : World) (o : Obj) : Below w.heap.size w (w.alloc o) := (Below.refl _ w).alloc (Nat.le_refl _) _

/-- An integer's form is right. -/
def okZ (b : Bool) (n : Nat) (l : List Nat) : Bool := canon l && (decide (0 < n) || !b)

theorem Zn.stored {w : World} {s : Nat} {b b0 : Bool} {A A0 : Option Addr} {n c n0 c0 : Nat} {z : Int} (h : Zn w b A n c z) (h0 : w.cell? ⟨s, 0, none⟩ = some (.bool b0)) (h1 : w.cell? ⟨s, 1, none⟩ = some (.slice A0 n0 c0)) :
    Zn ((w.setCell ⟨s, 0, none⟩ (.bool b)).setCell ⟨s, 1, none⟩ (.slice A n c)) b A n c z := by
  refine ⟨(h.1.set_other h0 (fun _ _ e => by cases e)).set_other (u := .slice A0 n0 c0) ?_ (fun _ _ e => by cases e), h.2⟩
  have hne : (⟨s, 0, none⟩ : Addr) ≠ ⟨s, 1, none⟩ := fun e => by injection e with _ e2; omega
  rw [World.cell?_setCell_other (h := hne)]
  exact h1

theorem sgn_neg {b : Bool} {z : Int} (hb : b = decide (z < 0)) : sgn (!b) z.natAbs = -z := by
  subst hb; unfold sgn
  by_cases h : z < 0
  · simp [h]; omega
  · simp [h]; omega

theorem rzneg_N {w : World} {b : Bool} {A : Option Addr} {n c : Nat} {z : Int} (ha : Zn w b A n c z) (hx : (limbs z.natAbs).length ≤ 1000000) :
    Calls Try.prog 58 #[.agg #[.bool b, .slice A n c]] w (GotZ w (-z)) := by
  have hs := sgn_neg ha.2
  have hn : n ≤ 1000000 := by rw [ha.1.len]; exact hx
  obtain ⟨W, hW⟩ : ∃ W, (w.alloc (.cells #[.bool b, .slice A n c] 38)).alloc (.cells #[.bool false, .slice none 0 0] 38) = W := ⟨_, rfl⟩
  have hB := below_two w (.cells #[.bool b, .slice A n c] 38) (.cells #[.bool false, .slice none 0 0] 38)
  have ha' := ha.1.on hB
  have HS := Lib.hid hs
  clear hs hW
  go_enter Try.func58, Try.ntmps58
  go_wp2_with fail
  refine (made_N (!b) ha' hn).mono ?_
  rintro e w1 ⟨b1, A1, n1, c1, rfl, hz, hb1⟩
  rw [HS.out] at hz
  obtain ⟨hc, hf⟩ := bcell hb1
  have hsz := hb1.size
  simp at hsz
  have e0 := (hc (w.heap.size + 1) 0 (by simp)).trans (show _ = some (.bool false) by simp)
  have e1 := (hc (w.heap.size + 1) 1 (by simp)).trans (show _ = some (.slice none 0 0) by simp)
  have HZ := Lib.hid (hz.stored e0 e1)
  have HB : Below w.heap.size w w1 := hB.trans (hb1.mono hB.size)
  go_wp2_with fail
  refine bodyPost_ret (v := .agg #[.bool b1, .slice A1 n1 c1]) (by simp [results, Try.results58, go_sem, e0, e1]) rfl ⟨_, _, _, _, rfl, HZ.out, ?_⟩
  exact (HB.setCell (p := ⟨w.heap.size + 1, 0, none⟩) (Nat.le_succ _) _).setCell (p := ⟨w.heap.size + 1, 1, none⟩) (Nat.le_succ _) _


end Go.Proofs.Ytckdbcngnghhiaa

/-
  Facts carried over what a call does: short names, so that texts stay short.
-/
namespace Go.Proofs.Ytckdbcngnghhiaa
open Go.RowKit
theorem cK {n : Nat} {w w' : World} (b : Below n w w') {p : Addr} {v : Option Value} (h : w.cell? p = v) (l : p.block < n) : w'.cell? p = v := (b.cell l).trans h
theorem fK {n : Nat} {w w' : World} (b : Below n w w') {p : Addr} {v : Bool} (h : w.frozen? p = v) (l : p.block < n) : w'.frozen? p = v := (b.frozen l).trans h
theorem lK {n : Nat} {w w' : World} (b : Below n w w') {a : Nat} (l : a < w.heap.size) : a < w'.heap.size := Nat.lt_of_lt_of_le l b.size
theorem bK {w w1 w2 : World} (c : Below w.heap.size w w1) (b : Below w1.heap.size w1 w2) : Below w.heap.size w w2 := c.trans (b.mono c.size)
theorem cR {n : Nat} {w w' : World} (b : Below n w w') {g i : Nat} (l : g < n) : w.cell? ⟨g, i, none⟩ = w'.cell? ⟨g, i, none⟩ := (b.cell (p := ⟨g, i, none⟩) l).symm
theorem fR {n : Nat} {w w' : World} (b : Below n w w') {g i : Nat} (l : g < n) : w.frozen? ⟨g, i, none⟩ = w'.frozen? ⟨g, i, none⟩ := (b.frozen (p := ⟨g, i, none⟩) l).symm
/-- A new box's cells, and that they may be written. -/
def Cs2 (w : World) (g : Nat) (a b : Value) : Prop := w.cell? ⟨g, 0, none⟩ = some a ∧ w.cell? ⟨g, 1, none⟩ = some b
def Cs3 (w : World) (g : Nat) (a b c : Value) : Prop := w.cell? ⟨g, 0, none⟩ = some a ∧ w.cell? ⟨g, 1, none⟩ = some b ∧ w.cell? ⟨g, 2, none⟩ = some c
def Cs6 (w : World) (g : Nat) (a b c d e f : Value) : Prop := w.cell? ⟨g, 0, none⟩ = some a ∧ w.cell? ⟨g, 1, none⟩ = some b ∧ w.cell? ⟨g, 2, none⟩ = some c ∧ w.cell? ⟨g, 3, none⟩ = some d ∧ w.cell? ⟨g, 4, none⟩ = some e ∧ w.cell? ⟨g, 5, none⟩ = some f
def Fz2 (w : World) (g : Nat) : Prop := w.frozen? ⟨g, 0, none⟩ = false ∧ w.frozen? ⟨g, 1, none⟩ = false
def Fz3 (w : World) (g : Nat) : Prop := w.frozen? ⟨g, 0, none⟩ = false ∧ w.frozen? ⟨g, 1, none⟩ = false ∧ w.frozen? ⟨g, 2, none⟩ = false
def Fz6 (w : World) (g : Nat) : Prop := w.frozen? ⟨g, 0, none⟩ = false ∧ w.frozen? ⟨g, 1, none⟩ = false ∧ w.frozen? ⟨g, 2, none⟩ = false ∧ w.frozen? ⟨g, 3, none⟩ = false ∧ w.frozen? ⟨g, 4, none⟩ = false ∧ w.frozen? ⟨g, 5, none⟩ = false
theorem pT {α : Type} : (∀ (l : List α) (i : Nat) (h : i < l.toArray.size), l.toArray[i]'h = l[i]'(by simpa using h)) ∧ (∀ (a : α) (l : List α) (h : 0 < (a :: l).length), (a :: l)[0]'h = a) ∧ (∀ (a : α) (l : List α) (i : Nat) (h : i + 1 < (a :: l).length), (a :: l)[i + 1]'h = l[i]'(by simpa using h)) ∧ (∀ (l : List α) (i : Nat) (v : α), l.toArray.setIfInBounds i v = (l.set i v).toArray) ∧ (∀ (a : α) (l : List α) (v : α), (a :: l).set 0 v = v :: l) ∧ (∀ (a : α) (l : List α) (i : Nat) (v : α), (a :: l).set (i + 1) v = a :: l.set i v) :=
  ⟨fun _ _ _ => by simp, fun _ _ _ => rfl, fun _ _ _ _ => rfl, fun _ _ _ => by simp, fun _ _ _ => rfl, fun _ _ _ _ => rfl⟩
theorem cl_lt {w : World} {p : Addr} {v : Value} (h : w.cell? p = some v) : p.block < w.heap.size := by
  rcases Nat.lt_or_ge p.block w.heap.size with h1 | h1
  · exact h1
  · simp [World.cell?, Array.getElem?_eq_none h1] at h
theorem zb3 {n g : Nat} {w w' : World} (q : Below n w w') (l : g < n) (c : Cs3 w g (.bool false) (.slice none 0 0) (.slice none 0 0)) (f : Fz3 w g) : w'.cell? ⟨g, 0, none⟩ = some (.bool false) ∧ w'.frozen? ⟨g, 0, none⟩ = false ∧ w'.cell? ⟨g, 1, none⟩ = some (.slice none 0 0) ∧ w'.frozen? ⟨g, 1, none⟩ = false ∧ w'.cell? ⟨g, 2, none⟩ = some (.slice none 0 0) ∧ w'.frozen? ⟨g, 2, none⟩ = false ∧ g < w'.heap.size := ⟨cK q c.1 l, fK q f.1 l, cK q c.2.1 l, fK q f.2.1 l, cK q c.2.2 l, fK q f.2.2 l, Nat.lt_of_lt_of_le (cl_lt c.1) q.size⟩
theorem uK {V y z x : World} (qq : Below V.heap.size V y) (up : Below y.heap.size y z) (q : Below z.heap.size z x) : Below V.heap.size V x := (qq.trans (up.mono qq.size)).trans (q.mono (Nat.le_trans qq.size up.size))
/-- An operation of a region is taken: one that yields, and one that is passed over. -/
theorem tY {P : Program} {md : Region.Mode} {ops : Array Oper} {Q : Exit → Act → World → Prop} {S : World → Prop} {i fuel : Nat} {oi : Oper} {v : Value} {listed : Array Bool} {a : Act} {w : World} (hi : ops[i]? = some oi)
    (hv : ∀ w, S w → (execOp a.eval oi).run P w = .ok (.value v) w) (hS : S w) (h : wpAnyH P md ops Q S fuel (listed.setIfInBounds i true) (a.put oi.dst v) w)
    (hs : Region.noSelect ops = true := by kernel_rfl) (hf : Region.free md ops listed i = true := by kernel_rfl) (hr : (Region.ready md ops listed).contains i = true := by kernel_rfl)
    (hQ : ∀ c a w, Q (.panic c) (a.put oi.dst v) w → Q (.panic c) a w := by exact fun _ _ _ h => h) (hw : Region.wanted oi (yielded ops a.tmps) = true := by rfl) : wpAnyH P md ops Q S (fuel + 1) listed a w :=
  wpAnyH_take hi hs hf hr hQ (.inl ⟨hw, hv⟩) hS h
theorem tU {P : Program} {md : Region.Mode} {ops : Array Oper} {Q : Exit → Act → World → Prop} {S : World → Prop} {i fuel : Nat} {oi : Oper} {listed : Array Bool} {a : Act} {w : World} (hi : ops[i]? = some oi)
    (hS : S w) (h : wpAnyH P md ops Q S fuel (listed.setIfInBounds i true) (a.put oi.dst undef) w)
    (hs : Region.noSelect ops = true := by kernel_rfl) (hf : Region.free md ops listed i = true := by kernel_rfl) (hr : (Region.ready md ops listed).contains i = true := by kernel_rfl)
    (hQ : ∀ c a w, Q (.panic c) (a.put oi.dst undef) w → Q (.panic c) a w := by exact fun _ _ _ h => h) (hw : Region.wanted oi (yielded ops a.tmps) = false := by rfl) : wpAnyH P md ops Q S (fuel + 1) listed a w :=
  wpAnyH_take hi hs hf hr hQ (.inr ⟨hw, rfl⟩) hS h
end Go.Proofs.Ytckdbcngnghhiaa

/-
  The contracts of the fourth reference: Cmp, Mul, Add, Of, Int, Few.
-/
namespace Go.Proofs.Ytckdbcngnghhiaa
set_option maxRecDepth 100000
set_option maxHeartbeats 2000000
open Go.RowKit

/-- Which of two integers is greater. -/
def cmpZ (a b : Int) : Int := if a < b then -1 else if b < a then 1 else 0
theorem cmpN_bd (a b : Nat) : -1 ≤ cmpN a b ∧ cmpN a b ≤ 1 := by unfold cmpN; split <;> (try split) <;> omega
theorem cmpZ_neg {z z' : Int} (h : z < 0) (h' : z' < 0) : cmpZ z z' = -cmpN z.natAbs z'.natAbs := by
  unfold cmpZ cmpN
  by_cases h1 : z < z'
  · rw [if_pos h1, if_neg (by omega), if_pos (by omega)]
  · rw [if_neg h1]
    by_cases h2 : z' < z
    · rw [if_pos h2, if_pos (by omega)]; rfl
    · rw [if_neg h2, if_neg (by omega), if_neg (by omega)]; rfl
theorem cmpZ_pos {z z' : Int} (h : ¬ z < 0) (h' : ¬ z' < 0) : cmpZ z z' = cmpN z.natAbs z'.natAbs := by
  have e1 : (z < z') ↔ (z.natAbs < z'.natAbs) := by omega
  have e2 : (z' < z) ↔ (z'.natAbs < z.natAbs) := by omega
  unfold cmpZ cmpN
  simp only [e1, e2]
theorem cmpZ_np {z z' : Int} (h : z < 0) (h' : ¬ z' < 0) : cmpZ z z' = -1 := by unfold cmpZ; rw [if_pos (by omega)]
theorem cmpZ_pn {z z' : Int} (h : ¬ z < 0) (h' : z' < 0) : cmpZ z z' = 1 := by unfold cmpZ; rw [if_neg (by omega), if_pos (by omega)]

theorem rzcmp_N {w : World} {b b' : Bool} {A B : Option Addr} {n c m d : Nat} {z z' : Int} (ha : Zn w b A n c z) (hb : Zn w b' B m d z') (hx : (limbs z.natAbs).length ≤ 1000000) (hy : (limbs z'.natAbs).length ≤ 1000000) :
    Calls Try.prog 59 #[.agg #[.bool b, .slice A n c], .agg #[.bool b', .slice B m d]] w (GotV w (.int .i64 (cmpZ z z'))) := by
  have hB := below_two w (.cells #[.bool b, .slice A n c] 38) (.cells #[.bool b', .slice B m d] 38)
  have ha' := ha.1.on hB
  have hb' := hb.1.on hB
  have s1 := ha.2
  have s2 := hb.2
  obtain ⟨r, hr⟩ : ∃ r, cmpN z.natAbs z'.natAbs = r := ⟨_, rfl⟩
  have hbd := cmpN_bd z.natAbs z'.natAbs
  rw [hr] at hbd
  have hcall := rcmp_N ha' hb' (by omega) (by omega)
  rw [hr] at hcall
  have HC := Lib.hid hcall
  have HR := Lib.hid hr
  obtain ⟨r1, r2⟩ := hbd
  clear hcall hr ha' hb'
  cases b with
  | true =>
    have hz : z < 0 := by simpa using s1.symm
    cases b' with
    | true =>
      have hz' : z' < 0 := by simpa using s2.symm
      have HE := Lib.hid (cmpZ_neg hz hz')
      clear s1 s2 hz hz' ha hb
      go_enter Try.func59, Try.ntmps59
      go_wp2_with fail
      refine HC.out.mono ?_
      rintro e w1 ⟨rfl, b1⟩
      obtain ⟨hc, hf⟩ := bcell b1
      have hsz := b1.size
      simp at hsz
      go_wp2_with fail
      go_ret
      refine ⟨ret_i64 ?_, hB.trans (b1.mono hB.size)⟩
      rw [HE.out, HR.out]
    | false =>
      have hz' : ¬ z' < 0 := by simpa using s2.symm
      have HE := Lib.hid (cmpZ_np hz hz')
      clear s1 s2 hz hz' ha hb
      go_enter Try.func59, Try.ntmps59
      go_wp2_with fail
      go_ret
      rw [HE.out]
      exact ⟨rfl, hB⟩
  | false =>
    have hz : ¬ z < 0 := by simpa using s1.symm
    cases b' with
    | true =>
      have hz' : z' < 0 := by simpa using s2.symm
      have HE := Lib.hid (cmpZ_pn hz hz')
      clear s1 s2 hz hz' ha hb
      go_enter Try.func59, Try.ntmps59
      go_wp2_with fail
      go_ret
      rw [HE.out]
      exact ⟨rfl, hB⟩
    | false =>
      have hz' : ¬ z' < 0 := by simpa using s2.symm
      have HE := Lib.hid (cmpZ_pos hz hz')
      clear s1 s2 hz hz' ha hb
      go_enter Try.func59, Try.ntmps59
      go_wp2_with fail
      refine HC.out.mono ?_
      rintro e w1 ⟨rfl, b1⟩
      obtain ⟨hc, hf⟩ := bcell b1
      have hsz := b1.size
      simp at hsz
      go_wp2_with fail
      go_ret
      refine ⟨ret_i64 ?_, hB.trans (b1.mono hB.size)⟩
      rw [HE.out, HR.out]

theorem sgn_mul {b b' : Bool} {z z' : Int} (hb : b = decide (z < 0)) (hb' : b' = decide (z' < 0)) : sgn (b != b') (z.natAbs * z'.natAbs) = z * z' := by
  subst hb; subst hb'
  obtain ⟨x, hx⟩ : ∃ x : Nat, z.natAbs = x := ⟨_, rfl⟩
  obtain ⟨y, hy⟩ : ∃ y : Nat, z'.natAbs = y := ⟨_, rfl⟩
  unfold sgn
  by_cases h1 : z < 0
  · have e1 : z = -(x : Int) := by omega
    by_cases h2 : z' < 0
    · have e2 : z' = -(y : Int) := by omega
      simp only [h1, h2, hx, hy]
      simp [e1, e2, Int.neg_mul_neg]
    · have e2 : z' = (y : Int) := by omega
      simp only [h1, h2, hx, hy]
      simp [e1, e2, Int.neg_mul]
  · have e1 : z = (x : Int) := by omega
    by_cases h2 : z' < 0
    · have e2 : z' = -(y : Int) := by omega
      simp only [h1, h2, hx, hy]
      simp [e1, e2, Int.mul_neg]
    · have e2 : z' = (y : Int) := by omega
      simp only [h1, h2, hx, hy]
      simp [e1, e2]

theorem cell_store {w : World} {s b o : Nat} {u v : Value} (h : b ≠ s) : ((w.setCell ⟨s, 0, none⟩ u).setCell ⟨s, 1, none⟩ v).cell? ⟨b, o, none⟩ = w.cell? ⟨b, o, none⟩ := by
  have h0 : (⟨s, 0, none⟩ : Addr) ≠ ⟨b, o, none⟩ := fun e => by injection e with e1; omega
  have h1 : (⟨s, 1, none⟩ : Addr) ≠ ⟨b, o, none⟩ := fun e => by injection e with e1; omega
  rw [World.cell?_setCell_other (h := h1), World.cell?_setCell_other (h := h0)]

theorem rzmul_N {w : World} {b b' : Bool} {A B : Option Addr} {n c m d : Nat} {z z' : Int} (ha : Zn w b A n c z) (hb : Zn w b' B m d z') (hx : (limbs z.natAbs).length ≤ 1000) (hy : (limbs z'.natAbs).length ≤ 1000) :
    Calls Try.prog 31 #[.agg #[.bool b, .slice A n c], .agg #[.bool b', .slice B m d]] w (GotZ w (z * z')) := by
  obtain ⟨W, hW⟩ : ∃ W, ((w.alloc (.cells #[.bool b, .slice A n c] 38)).alloc (.cells #[.bool b', .slice B m d] 38)).alloc (.cells #[.bool false, .slice none 0 0] 38) = W := ⟨_, rfl⟩
  have hB : Below w.heap.size w W := by rw [← hW]; exact (below_two w (.cells #[.bool b, .slice A n c] 38) (.cells #[.bool b', .slice B m d] 38)).alloc (by simp; omega) (.cells #[.bool false, .slice none 0 0] 38)
  have hsz : W.heap.size = w.heap.size + 3 := by rw [← hW]; simp
  have hBd : Below w.heap.size w W.drew := below_drewN hB 1
  have ha' : Num W.drew A n c z.natAbs := ha.1.on hBd
  have hb' : Num W.drew B m d z'.natAbs := hb.1.on hBd
  have c1 : W.cell? ⟨w.heap.size, 0, none⟩ = some (.bool b) := by rw [← hW]; simp [go_sem]
  have c2 : W.cell? ⟨w.heap.size, 1, none⟩ = some (.slice A n c) := by rw [← hW]; simp [go_sem]
  have c3 : W.cell? ⟨w.heap.size + 1, 0, none⟩ = some (.bool b') := by rw [← hW]; simp [go_sem]
  have c4 : W.cell? ⟨w.heap.size + 1, 1, none⟩ = some (.slice B m d) := by rw [← hW]; simp [go_sem]
  have c5 : W.cell? ⟨w.heap.size + 1 + 1, 0, none⟩ = some (.bool false) := by rw [← hW]; simp [go_sem]
  have c6 : W.cell? ⟨w.heap.size + 1 + 1, 1, none⟩ = some (.slice none 0 0) := by rw [← hW]; simp [go_sem]
  have c7 : W.frozen? ⟨w.heap.size + 1 + 1, 0, none⟩ = false := by rw [← hW]; simp [go_sem]
  have c8 : W.frozen? ⟨w.heap.size + 1 + 1, 1, none⟩ = false := by rw [← hW]; simp [go_sem]
  have HS : Hid (sgn (!(b == b')) (z.natAbs * z'.natAbs) = z * z') := Lib.hid (sgn_mul ha.2 hb.2)
  have hl := limbs_length_mul hx hy
  have hcall : Calls Try.prog 30 #[.slice A n c, .slice B m d] W.drew fun e w' => ∃ A1 n1 c1, e = .returned (.slice A1 n1 c1) ∧ Num w' A1 n1 c1 (z.natAbs * z'.natAbs) ∧ Below W.heap.size W w' := (rmul_N ha' hb' (by omega) (by omega)).mono fun _ _ ⟨A1, n1, c1, he, hm, hb⟩ => ⟨A1, n1, c1, he, hm, ⟨hb.os, hb.tape, hb.output, hb.size, hb.block⟩⟩
  have HC := Lib.hid hcall
  have HW := Lib.hid hW
  clear hcall
  go_enter Try.func31, Try.ntmps31
  go_wp2_with fail
  clear hW HW
  go_region_held3 (fun w' => w'.cell? ⟨w.heap.size, 0, none⟩ = some (.bool b) ∧ w'.cell? ⟨w.heap.size, 1, none⟩ = some (.slice A n c) ∧ w'.cell? ⟨w.heap.size + 1, 0, none⟩ = some (.bool b') ∧ w'.cell? ⟨w.heap.size + 1, 1, none⟩ = some (.slice B m d))
    (first | exact ⟨(cell_store (by omega)).trans ((hb1.cell (p := ⟨w.heap.size, 0, none⟩) (by simp; omega)).trans c1), (cell_store (by omega)).trans ((hb1.cell (p := ⟨w.heap.size, 1, none⟩) (by simp; omega)).trans c2), (cell_store (by omega)).trans ((hb1.cell (p := ⟨w.heap.size + 1, 0, none⟩) (by simp; omega)).trans c3), (cell_store (by omega)).trans ((hb1.cell (p := ⟨w.heap.size + 1, 1, none⟩) (by simp; omega)).trans c4)⟩ | go_keep | exact ⟨(hb1.cell (p := ⟨w.heap.size, 0, none⟩) (by simp; omega)).trans c1, (hb1.cell (p := ⟨w.heap.size, 1, none⟩) (by simp; omega)).trans c2, (hb1.cell (p := ⟨w.heap.size + 1, 0, none⟩) (by simp; omega)).trans c3, (hb1.cell (p := ⟨w.heap.size + 1, 1, none⟩) (by simp; omega)).trans c4⟩)
    (first
      | (go_at_call 30; (with_reducible refine HC.out.mono ?_); rintro e w1 ⟨A1, n1, k1, rfl, hm, hb1⟩)
      | (go_at_call 47; (with_reducible refine (made_N _ hm (by rw [hm.len]; omega)).mono ?_); rintro e w2 ⟨b2, A2, n2, k2, rfl, hz2, hb2⟩; replace hb1 := bK hb1 hb2; have e5 := (hb1.cell (p := ⟨w.heap.size + 1 + 1, 0, none⟩) (by simp; omega)).trans c5; have e6 := (hb1.cell (p := ⟨w.heap.size + 1 + 1, 1, none⟩) (by simp; omega)).trans c6; have e7 := (hb1.frozen (p := ⟨w.heap.size + 1 + 1, 0, none⟩) (by simp; omega)).trans c7; have e8 := (hb1.frozen (p := ⟨w.heap.size + 1 + 1, 1, none⟩) (by simp; omega)).trans c8))
  rw [HS.out] at hz2
  have HZ := Lib.hid (hz2.stored e5 e6)
  have HB : Below w.heap.size w w2 := hB.trans (hb1.mono hB.size)
  go_wp2_with fail
  refine bodyPost_ret (v := .agg #[.bool b2, .slice A2 n2 k2]) (by simp [results, Try.results31, go_sem, e5, e6]) rfl ⟨_, _, _, _, rfl, HZ.out, ?_⟩
  exact (HB.setCell (p := ⟨w.heap.size + 1 + 1, 0, none⟩) (show w.heap.size ≤ w.heap.size + 1 + 1 by omega) _).setCell (p := ⟨w.heap.size + 1 + 1, 1, none⟩) (show w.heap.size ≤ w.heap.size + 1 + 1 by omega) _

end Go.Proofs.Ytckdbcngnghhiaa

/-
  The contracts of the fourth reference: Add, Of, Int.
-/
namespace Go.Proofs.Ytckdbcngnghhiaa
set_option maxRecDepth 100000
set_option maxHeartbeats 2000000
open Go.RowKit

theorem sgn_same {b : Bool} {z z' : Int} (hb : b = decide (z < 0)) (hb' : b = decide (z' < 0)) : sgn b (z.natAbs + z'.natAbs) = z + z' := by
  by_cases h1 : z < 0
  · have h2 : z' < 0 := by simpa [h1] using hb.symm.trans hb'
    subst hb; unfold sgn; simp [h1]; omega
  · have h2 : ¬ z' < 0 := by have := hb.symm.trans hb'; simpa [h1] using this.symm
    subst hb; unfold sgn; simp [h1]; omega
theorem sgn_diff {b b' : Bool} {z z' : Int} (hb : b = decide (z < 0)) (hb' : b' = decide (z' < 0)) (hne : b ≠ b') (hle : z'.natAbs ≤ z.natAbs) : sgn b (z.natAbs - z'.natAbs) = z + z' := by
  subst hb; subst hb'
  unfold sgn
  by_cases h1 : z < 0
  · have h2 : ¬ z' < 0 := fun h => hne (by simp [h1, h])
    simp [h1]; omega
  · have h2 : z' < 0 := by
      by_cases h : z' < 0
      · exact h
      · exact absurd (by simp [h1, h]) hne
    simp [h1]; omega

/-- The boxes of two integers that came in, and of the one that goes out. -/
structure Box3 (w W : World) (b b' : Bool) (A B : Option Addr) (n c m d : Nat) : Prop where
  hB : Below w.heap.size w W
  sz : W.heap.size = w.heap.size + 3
  c1 : W.cell? ⟨w.heap.size, 0, none⟩ = some (.bool b)
  c2 : W.cell? ⟨w.heap.size, 1, none⟩ = some (.slice A n c)
  c3 : W.cell? ⟨w.heap.size + 1, 0, none⟩ = some (.bool b')
  c4 : W.cell? ⟨w.heap.size + 1, 1, none⟩ = some (.slice B m d)
  c5 : W.cell? ⟨w.heap.size + 1 + 1, 0, none⟩ = some (.bool false)
  c6 : W.cell? ⟨w.heap.size + 1 + 1, 1, none⟩ = some (.slice none 0 0)
  c7 : W.frozen? ⟨w.heap.size + 1 + 1, 0, none⟩ = false
  c8 : W.frozen? ⟨w.heap.size + 1 + 1, 1, none⟩ = false
theorem box3 {w W : World} {b b' : Bool} {A B : Option Addr} {n c m d : Nat} (hW : ((w.alloc (.cells #[.bool b, .slice A n c] 38)).alloc (.cells #[.bool b', .slice B m d] 38)).alloc (.cells #[.bool false, .slice none 0 0] 38) = W) : Box3 w W b b' A B n c m d := by
  refine ⟨?_, ?_, ?_, ?_, ?_, ?_, ?_, ?_, ?_, ?_⟩ <;> rw [← hW]
  · exact (below_two w (.cells #[.bool b, .slice A n c] 38) (.cells #[.bool b', .slice B m d] 38)).alloc (by simp; omega) (.cells #[.bool false, .slice none 0 0] 38)
  all_goals simp [go_sem]
theorem Box3.on {w W W' : World} {b b' : Bool} {A B : Option Addr} {n c m d : Nat} (h : Box3 w W b b' A B n c m d) (hb : Below W.heap.size W W') : Below w.heap.size w W' ∧ w.heap.size + 3 ≤ W'.heap.size ∧ W'.cell? ⟨w.heap.size, 0, none⟩ = some (.bool b) ∧ W'.cell? ⟨w.heap.size, 1, none⟩ = some (.slice A n c) ∧ W'.cell? ⟨w.heap.size + 1, 0, none⟩ = some (.bool b') ∧ W'.cell? ⟨w.heap.size + 1, 1, none⟩ = some (.slice B m d) ∧
    W'.cell? ⟨w.heap.size + 1 + 1, 0, none⟩ = some (.bool false) ∧ W'.cell? ⟨w.heap.size + 1 + 1, 1, none⟩ = some (.slice none 0 0) ∧ W'.frozen? ⟨w.heap.size + 1 + 1, 0, none⟩ = false ∧ W'.frozen? ⟨w.heap.size + 1 + 1, 1, none⟩ = false := by
  have hs := h.sz
  have hs' := hb.size
  refine ⟨h.hB.trans (hb.mono h.hB.size), by omega, ?_, ?_, ?_, ?_, ?_, ?_, ?_, ?_⟩
  · exact (hb.cell (p := ⟨w.heap.size, 0, none⟩) (by simp; omega)).trans h.c1
  · exact (hb.cell (p := ⟨w.heap.size, 1, none⟩) (by simp; omega)).trans h.c2
  · exact (hb.cell (p := ⟨w.heap.size + 1, 0, none⟩) (by simp; omega)).trans h.c3
  · exact (hb.cell (p := ⟨w.heap.size + 1, 1, none⟩) (by simp; omega)).trans h.c4
  · exact (hb.cell (p := ⟨w.heap.size + 1 + 1, 0, none⟩) (by simp; omega)).trans h.c5
  · exact (hb.cell (p := ⟨w.heap.size + 1 + 1, 1, none⟩) (by simp; omega)).trans h.c6
  · exact (hb.frozen (p := ⟨w.heap.size + 1 + 1, 0, none⟩) (by simp; omega)).trans h.c7
  · exact (hb.frozen (p := ⟨w.heap.size + 1 + 1, 1, none⟩) (by simp; omega)).trans h.c8

theorem below_undrew {W w' : World} (hb : Below W.drew.heap.size W.drew w') : Below W.heap.size W w' := ⟨hb.os, hb.tape, hb.output, hb.size, hb.block⟩

theorem rzadd_same {w : World} {b : Bool} {A B : Option Addr} {n c m d : Nat} {z z' : Int} (ha : Zn w b A n c z) (hb : Zn w b B m d z') (hx : (limbs z.natAbs).length ≤ 1000) (hy : (limbs z'.natAbs).length ≤ 1000) :
    Calls Try.prog 28 #[.agg #[.bool b, .slice A n c], .agg #[.bool b, .slice B m d]] w (GotZ w (z + z')) := by
  obtain ⟨W, hW⟩ : ∃ W, ((w.alloc (.cells #[.bool b, .slice A n c] 38)).alloc (.cells #[.bool b, .slice B m d] 38)).alloc (.cells #[.bool false, .slice none 0 0] 38) = W := ⟨_, rfl⟩
  have X := box3 hW
  have hBd : Below w.heap.size w W.drew := below_drewN X.hB 1
  have ha' : Num W.drew A n c z.natAbs := ha.1.on hBd
  have hb' : Num W.drew B m d z'.natAbs := hb.1.on hBd
  have HS := Lib.hid (sgn_same ha.2 hb.2)
  have hl := limbs_length_add hx hy
  have hcall : Calls Try.prog 48 #[.slice A n c, .slice B m d] W.drew fun e w' => ∃ A1 n1 c1, e = .returned (.slice A1 n1 c1) ∧ Num w' A1 n1 c1 (z.natAbs + z'.natAbs) ∧ Below W.heap.size W w' := (radd_N ha' hb' (by omega) (by omega)).mono fun _ _ ⟨A1, n1, c1, he, hm, hb⟩ => ⟨A1, n1, c1, he, hm, below_undrew hb⟩
  have HC := Lib.hid hcall
  have hc1 := X.c1
  have hc2 := X.c2
  have hc3 := X.c3
  have hc4 := X.c4
  clear hcall
  go_enter Try.func28, Try.ntmps28
  go_wp2_with fail
  clear hW
  go_region_held3 (fun w' => w'.cell? ⟨w.heap.size, 0, none⟩ = some (.bool b) ∧ w'.cell? ⟨w.heap.size, 1, none⟩ = some (.slice A n c) ∧ w'.cell? ⟨w.heap.size + 1, 0, none⟩ = some (.bool b) ∧ w'.cell? ⟨w.heap.size + 1, 1, none⟩ = some (.slice B m d))
    (first | exact ⟨(cell_store (by omega)).trans (X.on hb1).2.2.1, (cell_store (by omega)).trans (X.on hb1).2.2.2.1, (cell_store (by omega)).trans (X.on hb1).2.2.2.2.1, (cell_store (by omega)).trans (X.on hb1).2.2.2.2.2.1⟩ | go_keep | exact ⟨(X.on hb1).2.2.1, (X.on hb1).2.2.2.1, (X.on hb1).2.2.2.2.1, (X.on hb1).2.2.2.2.2.1⟩)
    (first
      | (go_at_call 48; (with_reducible refine HC.out.mono ?_); rintro e w1 ⟨A1, n1, k1, rfl, hm, hb1⟩)
      | (go_at_call 47; (with_reducible refine (made_N _ hm (by rw [hm.len]; omega)).mono ?_); rintro e w2 ⟨b2, A2, n2, k2, rfl, hz2, hb2⟩; replace hb1 := bK hb1 hb2; have e5 := (X.on hb1).2.2.2.2.2.2.1; have e6 := (X.on hb1).2.2.2.2.2.2.2.1; have e7 := (X.on hb1).2.2.2.2.2.2.2.2.1; have e8 := (X.on hb1).2.2.2.2.2.2.2.2.2))
  rw [HS.out] at hz2
  have HZ := Lib.hid (hz2.stored e5 e6)
  have HB := (X.on hb1).1
  go_wp2_with fail
  refine bodyPost_ret (v := .agg #[.bool b2, .slice A2 n2 k2]) (by simp [results, Try.results28, go_sem, e5, e6]) rfl ⟨_, _, _, _, rfl, HZ.out, ?_⟩
  exact (HB.setCell (p := ⟨w.heap.size + 1 + 1, 0, none⟩) (show w.heap.size ≤ w.heap.size + 1 + 1 by omega) _).setCell (p := ⟨w.heap.size + 1 + 1, 1, none⟩) (show w.heap.size ≤ w.heap.size + 1 + 1 by omega) _

theorem rzadd_first {w : World} {b b' : Bool} {A B : Option Addr} {n c m d : Nat} {z z' : Int} (ha : Zn w b A n c z) (hb : Zn w b' B m d z') (hx : (limbs z.natAbs).length ≤ 1000) (hy : (limbs z'.natAbs).length ≤ 1000) (hne : b ≠ b') (hle : z'.natAbs ≤ z.natAbs) :
    Calls Try.prog 28 #[.agg #[.bool b, .slice A n c], .agg #[.bool b', .slice B m d]] w (GotZ w (z + z')) := by
  obtain ⟨W, hW⟩ : ∃ W, ((w.alloc (.cells #[.bool b, .slice A n c] 38)).alloc (.cells #[.bool b', .slice B m d] 38)).alloc (.cells #[.bool false, .slice none 0 0] 38) = W := ⟨_, rfl⟩
  have X := box3 hW
  have ha' := ha.1.on X.hB
  have hb' := hb.1.on X.hB
  have HS := Lib.hid (sgn_diff ha.2 hb.2 hne hle)
  have hl : (limbs (z.natAbs - z'.natAbs)).length ≤ 1000 := Nat.le_trans (limbs_length_mono (Nat.sub_le _ _)) (by assumption)
  have hcm : 0 ≤ cmpN z.natAbs z'.natAbs := by
    rcases Nat.lt_or_ge z'.natAbs z.natAbs with h | h
    · rw [cmpN_gt h]; omega
    · rw [cmpN_zero.2 (by omega)]; omega
  have hneb : (b == b') = false := by simp [hne]
  have hc1 := X.c1
  have hc2 := X.c2
  have hc3 := X.c3
  have hc4 := X.c4
  go_enter Try.func28, Try.ntmps28
  go_wp2_with fail
  clear hW
  refine (rcmp_N ha' hb' (by omega) (by omega)).mono ?_
  rintro e w1 ⟨rfl, b1⟩
  have ha1 := ha'.on b1
  have hb1' := hb'.on b1
  obtain ⟨-, -, d1, d2, d3, d4, -, -, -, -⟩ := X.on b1
  clear ha' hb' hc1 hc2 hc3 hc4
  go_wp2_with fail
  refine (rsub_N ha1 hb1' (by omega) (by omega) hle).mono ?_
  rintro e w2 ⟨A2, n2, c2, rfl, hm, b2⟩
  have b12 := b1.trans (b2.mono b1.size)
  obtain ⟨-, -, f1, f2, f3, f4, -, -, -, -⟩ := X.on b12
  clear ha1 hb1' d1 d2 d3 d4 b1 b2
  go_wp2_with fail
  refine (made_N _ hm (by rw [hm.len]; omega)).mono ?_
  rintro e w3 ⟨b3, A3, n3, k3, rfl, hz3, b3'⟩
  have b13 := b12.trans (b3'.mono b12.size)
  obtain ⟨HB, -, -, -, -, -, e5, e6, e7, e8⟩ := X.on b13
  rw [HS.out] at hz3
  have HZ := Lib.hid (hz3.stored e5 e6)
  clear b12 b13 b3' f1 f2 f3 f4 hz3
  go_wp2_with fail
  refine bodyPost_ret (v := .agg #[.bool b3, .slice A3 n3 k3]) (by simp [results, Try.results28, go_sem, e5, e6]) rfl ⟨_, _, _, _, rfl, HZ.out, ?_⟩
  exact (HB.setCell (p := ⟨w.heap.size + 1 + 1, 0, none⟩) (show w.heap.size ≤ w.heap.size + 1 + 1 by omega) _).setCell (p := ⟨w.heap.size + 1 + 1, 1, none⟩) (show w.heap.size ≤ w.heap.size + 1 + 1 by omega) _

theorem rzadd_second {w : World} {b b' : Bool} {A B : Option Addr} {n c m d : Nat} {z z' : Int} (ha : Zn w b A n c z) (hb : Zn w b' B m d z') (hx : (limbs z.natAbs).length ≤ 1000) (hy : (limbs z'.natAbs).length ≤ 1000) (hne : b ≠ b') (hlt : z.natAbs < z'.natAbs) :
    Calls Try.prog 28 #[.agg #[.bool b, .slice A n c], .agg #[.bool b', .slice B m d]] w (GotZ w (z + z')) := by
  obtain ⟨W, hW⟩ : ∃ W, ((w.alloc (.cells #[.bool b, .slice A n c] 38)).alloc (.cells #[.bool b', .slice B m d] 38)).alloc (.cells #[.bool false, .slice none 0 0] 38) = W := ⟨_, rfl⟩
  have X := box3 hW
  have ha' := ha.1.on X.hB
  have hb' := hb.1.on X.hB
  have HS := Lib.hid ((sgn_diff hb.2 ha.2 (fun e => hne e.symm) (by omega)).trans (Int.add_comm z' z))
  have hl : (limbs (z'.natAbs - z.natAbs)).length ≤ 1000 := Nat.le_trans (limbs_length_mono (Nat.sub_le _ _)) (by assumption)
  have hcm : ¬ 0 ≤ cmpN z.natAbs z'.natAbs := by rw [cmpN_lt hlt]; omega
  have hneb : (b == b') = false := by simp [hne]
  have hc1 := X.c1
  have hc2 := X.c2
  have hc3 := X.c3
  have hc4 := X.c4
  go_enter Try.func28, Try.ntmps28
  go_wp2_with fail
  clear hW
  refine (rcmp_N ha' hb' (by omega) (by omega)).mono ?_
  rintro e w1 ⟨rfl, b1⟩
  have ha1 := ha'.on b1
  have hb1' := hb'.on b1
  obtain ⟨-, -, d1, d2, d3, d4, -, -, -, -⟩ := X.on b1
  clear ha' hb' hc1 hc2 hc3 hc4
  go_wp2_with fail
  refine (rsub_N hb1' ha1 (by omega) (by omega) (by omega)).mono ?_
  rintro e w2 ⟨A2, n2, c2, rfl, hm, b2⟩
  have b12 := b1.trans (b2.mono b1.size)
  obtain ⟨-, -, f1, f2, f3, f4, -, -, -, -⟩ := X.on b12
  clear ha1 hb1' d1 d2 d3 d4 b1 b2
  go_wp2_with fail
  refine (made_N _ hm (by rw [hm.len]; omega)).mono ?_
  rintro e w3 ⟨b3, A3, n3, k3, rfl, hz3, b3'⟩
  have b13 := b12.trans (b3'.mono b12.size)
  obtain ⟨HB, -, -, -, -, -, e5, e6, e7, e8⟩ := X.on b13
  rw [HS.out] at hz3
  have HZ := Lib.hid (hz3.stored e5 e6)
  clear b12 b13 b3' f1 f2 f3 f4 hz3
  go_wp2_with fail
  refine bodyPost_ret (v := .agg #[.bool b3, .slice A3 n3 k3]) (by simp [results, Try.results28, go_sem, e5, e6]) rfl ⟨_, _, _, _, rfl, HZ.out, ?_⟩
  exact (HB.setCell (p := ⟨w.heap.size + 1 + 1, 0, none⟩) (show w.heap.size ≤ w.heap.size + 1 + 1 by omega) _).setCell (p := ⟨w.heap.size + 1 + 1, 1, none⟩) (show w.heap.size ≤ w.heap.size + 1 + 1 by omega) _

theorem rzadd_N {w : World} {b b' : Bool} {A B : Option Addr} {n c m d : Nat} {z z' : Int} (ha : Zn w b A n c z) (hb : Zn w b' B m d z') (hx : (limbs z.natAbs).length ≤ 1000) (hy : (limbs z'.natAbs).length ≤ 1000) :
    Calls Try.prog 28 #[.agg #[.bool b, .slice A n c], .agg #[.bool b', .slice B m d]] w (GotZ w (z + z')) := by
  by_cases h : b = b'
  · subst h; exact rzadd_same ha hb hx hy
  · rcases Nat.lt_or_ge z.natAbs z'.natAbs with h1 | h1
    · exact rzadd_second ha hb hx hy h h1
    · exact rzadd_first ha hb hx hy h h1

end Go.Proofs.Ytckdbcngnghhiaa

/-
  The contracts of the fourth reference: Of, Int.
-/
namespace Go.Proofs.Ytckdbcngnghhiaa
set_option maxRecDepth 100000
set_option maxHeartbeats 2000000
open Go.RowKit

/-- An integer of 64 bits. -/
def I64 (z : Int) : Prop := -9223372036854775808 ≤ z ∧ z ≤ 9223372036854775807
theorem I64.abs {z : Int} (h : I64 z) : z.natAbs < B64 := by unfold I64 at h; unfold B64; omega

theorem sgn_of {b : Bool} {z : Int} (hb : b = decide (z < 0)) : sgn b z.natAbs = z := by
  subst hb; unfold sgn
  by_cases h : z < 0
  · simp [h]; omega
  · simp [h]; omega

theorem rzof_N (w : World) (z : Int) (h : I64 z) : Calls Try.prog 55 #[.int .i64 z] w (GotZ w z) := by
  have hx := h.abs
  obtain ⟨x, hxe⟩ : ∃ x, z.natAbs = x := ⟨_, rfl⟩
  rw [hxe] at hx
  obtain ⟨W, hW⟩ : ∃ W, w.alloc (.cells #[.bool false, .slice none 0 0] 38) = W := ⟨_, rfl⟩
  have hB : Below w.heap.size w W := by rw [← hW]; exact below_one w _
  have hsz : W.heap.size = w.heap.size + 1 := by rw [← hW]; simp
  have c1 : W.cell? ⟨w.heap.size, 0, none⟩ = some (.bool false) := by rw [← hW]; simp [go_sem]
  have c2 : W.cell? ⟨w.heap.size, 1, none⟩ = some (.slice none 0 0) := by rw [← hW]; simp [go_sem]
  have c3 : W.frozen? ⟨w.heap.size, 0, none⟩ = false := by rw [← hW]; simp [go_sem]
  have c4 : W.frozen? ⟨w.heap.size, 1, none⟩ = false := by rw [← hW]; simp [go_sem]
  have HSZ := Lib.hid hsz
  clear hsz
  have hl := len_one hx
  by_cases hz : z < 0
  · have hs : sgn true x = z := by rw [← hxe]; exact sgn_of (by simp [hz])
    have e1 : IntKind.u64.wrap (IntKind.u64.wrap (-(z + 1)) + 1) = (x : Int) := by
      unfold I64 at h; rw [IntKind.wrap_u64, IntKind.wrap_u64]; omega
    have e2 : IntKind.i64.wrap (z + 1) = z + 1 := IntWalk.i64_in _ (by unfold I64 at h; omega)
    have e3 : IntKind.i64.wrap (-(z + 1)) = -(z + 1) := IntWalk.i64_in _ (by unfold I64 at h; omega)
    have HS := Lib.hid hs
    clear hs hxe
    go_enter Try.func55, Try.ntmps55
    go_wp2_with fail
    clear hW e1 e2 e3
    refine (rof_N W x hx).mono ?_
    rintro e w1 ⟨A1, n1, k1, rfl, hm, b1⟩
    go_wp2_with fail
    refine (made_N _ hm (by rw [hm.len]; omega)).mono ?_
    rintro e w2 ⟨b2, A2, n2, k2, rfl, hz2, b2'⟩
    have b12 := b1.trans (b2'.mono b1.size)
    have hsz := HSZ.out
    have g1 := (b12.cell (p := ⟨w.heap.size, 0, none⟩) (by simp; omega)).trans c1
    have g2 := (b12.cell (p := ⟨w.heap.size, 1, none⟩) (by simp; omega)).trans c2
    have g3 := (b12.frozen (p := ⟨w.heap.size, 0, none⟩) (by simp; omega)).trans c3
    have g4 := (b12.frozen (p := ⟨w.heap.size, 1, none⟩) (by simp; omega)).trans c4
    rw [HS.out] at hz2
    have HZ := Lib.hid (hz2.stored g1 g2)
    have HB := hB.trans (b12.mono hB.size)
    clear hsz b12 b1 b2' hz2 hm
    go_wp2_with fail
    refine bodyPost_ret (v := .agg #[.bool b2, .slice A2 n2 k2]) (by simp [results, Try.results55, go_sem, g1, g2]) rfl ⟨_, _, _, _, rfl, HZ.out, ?_⟩
    exact (HB.setCell (p := ⟨w.heap.size, 0, none⟩) (Nat.le_refl _) _).setCell (p := ⟨w.heap.size, 1, none⟩) (Nat.le_refl _) _
  · have hs : sgn false x = z := by rw [← hxe]; exact sgn_of (by simp [hz])
    have e1 : IntKind.u64.wrap z = (x : Int) := by
      unfold I64 at h; rw [IntKind.wrap_u64]; omega
    have HS := Lib.hid hs
    clear hs hxe
    go_enter Try.func55, Try.ntmps55
    go_wp2_with fail
    clear hW e1
    refine (rof_N W x hx).mono ?_
    rintro e w1 ⟨A1, n1, k1, rfl, hm, b1⟩
    go_wp2_with fail
    refine (made_N _ hm (by rw [hm.len]; omega)).mono ?_
    rintro e w2 ⟨b2, A2, n2, k2, rfl, hz2, b2'⟩
    have b12 := b1.trans (b2'.mono b1.size)
    have hsz := HSZ.out
    have g1 := (b12.cell (p := ⟨w.heap.size, 0, none⟩) (by simp; omega)).trans c1
    have g2 := (b12.cell (p := ⟨w.heap.size, 1, none⟩) (by simp; omega)).trans c2
    have g3 := (b12.frozen (p := ⟨w.heap.size, 0, none⟩) (by simp; omega)).trans c3
    have g4 := (b12.frozen (p := ⟨w.heap.size, 1, none⟩) (by simp; omega)).trans c4
    rw [HS.out] at hz2
    have HZ := Lib.hid (hz2.stored g1 g2)
    have HB := hB.trans (b12.mono hB.size)
    clear hsz b12 b1 b2' hz2 hm
    go_wp2_with fail
    refine bodyPost_ret (v := .agg #[.bool b2, .slice A2 n2 k2]) (by simp [results, Try.results55, go_sem, g1, g2]) rfl ⟨_, _, _, _, rfl, HZ.out, ?_⟩
    exact (HB.setCell (p := ⟨w.heap.size, 0, none⟩) (Nat.le_refl _) _).setCell (p := ⟨w.heap.size, 1, none⟩) (Nat.le_refl _) _

theorem abs_sgn {b : Bool} {z : Int} (hb : b = decide (z < 0)) (hz : z < 0) : b = true := by rw [hb]; simp [hz]
theorem abs_sgn' {b : Bool} {z : Int} (hb : b = decide (z < 0)) (hz : ¬ z < 0) : b = false := by rw [hb]; simp [hz]

theorem rzint_yes {w : World} {b : Bool} {A : Option Addr} {n c : Nat} {z : Int} (ha : Zn w b A n c z) (h : I64 z) :
    Calls Try.prog 57 #[.agg #[.bool b, .slice A n c]] w (GotV w (.tuple #[.int .i64 z, .bool true])) := by
  have hx := h.abs
  obtain ⟨x, hxe⟩ : ∃ x, z.natAbs = x := ⟨_, rfl⟩
  rw [hxe] at hx
  have hB := below_one w (.cells #[.bool b, .slice A n c] 38)
  have ha' := ha.1.on hB
  rw [hxe] at ha'
  have hl := len_one hx
  have hn : n ≤ 9223372036854775807 := by rw [ha'.len]; omega
  have HC := Lib.hid (rsmall_any A n c x _ ha' hn hx)
  have hs := ha.2
  by_cases hz : z < 0
  · have hbt := abs_sgn hs hz
    subst hbt
    by_cases hm : x = 9223372036854775808
    · have e1 : ((x : Int) == 9223372036854775808) = true := by simp; omega
      have e2 : ¬ (9223372036854775808 : Int) < (x : Int) := by omega
      have e3 : z = -9223372036854775808 := by omega
      subst e3
      clear hm hxe hs ha hz
      go_enter Try.func57, Try.ntmps57
      go_wp2_with fail
      refine HC.out.mono ?_
      rintro e w' ⟨rfl, rfl⟩
      go_wp2_with fail
      go_ret2
      exact ⟨rfl, hB⟩
    · have hx2 : x < 9223372036854775808 := by unfold I64 at h; omega
      have e1 : ((x : Int) == 9223372036854775808) = false := by simp; omega
      have e2 : ¬ (9223372036854775808 : Int) < (x : Int) := by omega
      have e3 : IntKind.i64.wrap (x : Int) = (x : Int) := IntWalk.i64_in _ (by omega)
      have e4 : IntKind.i64.wrap (-(x : Int)) = z := by rw [IntWalk.i64_in _ (by omega)]; omega
      have e5 : -(x : Int) = z := by omega
      have E5 := Lib.hid e5
      clear hm hxe hs ha hz e5
      go_enter Try.func57, Try.ntmps57
      go_wp2_with fail
      refine HC.out.mono ?_
      rintro e w' ⟨rfl, rfl⟩
      go_wp2_with fail
      go_ret2
      exact ⟨rfl, hB⟩
  · have hbt := abs_sgn' hs hz
    subst hbt
    have hx2 : x ≤ 9223372036854775807 := by unfold I64 at h; omega
    have e0 : ¬ (9223372036854775807 : Int) < (x : Int) := by omega
    have e1 : ((x : Int) == 9223372036854775808) = false := by simp; omega
    have e2 : ¬ (9223372036854775808 : Int) < (x : Int) := by omega
    have e3 : IntKind.i64.wrap (x : Int) = z := by rw [IntWalk.i64_in _ (by omega)]; omega
    clear hxe hs ha hz
    go_enter Try.func57, Try.ntmps57
    go_wp2_with fail
    refine HC.out.mono ?_
    rintro e w' ⟨rfl, rfl⟩
    go_wp2_with fail
    go_ret2
    exact ⟨rfl, hB⟩

theorem rzint_no {w : World} {b : Bool} {A : Option Addr} {n c : Nat} {z : Int} (ha : Zn w b A n c z) (hx : (limbs z.natAbs).length ≤ 1000000) (h : ¬ I64 z) :
    Calls Try.prog 57 #[.agg #[.bool b, .slice A n c]] w (GotV w (.tuple #[.int .i64 0, .bool false])) := by
  obtain ⟨x, hxe⟩ : ∃ x, z.natAbs = x := ⟨_, rfl⟩
  rw [hxe] at hx
  have hB := below_one w (.cells #[.bool b, .slice A n c] 38)
  have ha' := ha.1.on hB
  rw [hxe] at ha'
  have hn : n ≤ 9223372036854775807 := by rw [ha'.len]; omega
  have hs := ha.2
  rcases Nat.lt_or_ge x B64 with hlt | hge
  · have HC := Lib.hid (rsmall_any A n c x _ ha' hn hlt)
    by_cases hz : z < 0
    · have hbt := abs_sgn hs hz
      subst hbt
      have e2 : (9223372036854775808 : Int) < (x : Int) := by unfold I64 at h; omega
      clear hxe hs ha hz
      go_enter Try.func57, Try.ntmps57
      go_wp2_with fail
      refine HC.out.mono ?_
      rintro e w' ⟨rfl, rfl⟩
      go_wp2_with fail
      go_ret2
      exact ⟨rfl, hB⟩
    · have hbt := abs_sgn' hs hz
      subst hbt
      have e2 : (9223372036854775807 : Int) < (x : Int) := by unfold I64 at h; omega
      clear hxe hs ha hz
      go_enter Try.func57, Try.ntmps57
      go_wp2_with fail
      refine HC.out.mono ?_
      rintro e w' ⟨rfl, rfl⟩
      go_wp2_with fail
      go_ret2
      exact ⟨rfl, hB⟩
  · have HC := Lib.hid (rsmall_great A n c x _ ha' hn hge)
    clear hxe hs ha
    go_enter Try.func57, Try.ntmps57
    go_wp2_with fail
    refine HC.out.mono ?_
    rintro e w' ⟨rfl, rfl⟩
    go_wp2_with fail
    go_ret2
    exact ⟨rfl, hB⟩
end Go.Proofs.Ytckdbcngnghhiaa

/-
  Moms and Rows that came in, with how they are read: the form's reach bounds the rows' lengths.
-/
namespace Go.Proofs.Ytckdbcngnghhiaa
set_option maxRecDepth 100000
open Go.ChangeShapes Go.WideShapes Go.ChangeAt Go.RowKit Go.Joins Go.Deep
set_option linter.unusedVariables false

theorem reach_17 : reachBytes = 140737488351232 := by decide
section
variable {H : Type} {enc : TypeId × Value → H} {W : World} {base : Nat} {held : Bool} {y : DataW H × List MemPlace} {n : Nat}
theorem ir_row17 {w : World} {a : Option Addr} {len cap : Nat} {zs : List Int}
    (h : (a = none ∧ len = 0 ∧ cap = 0 ∧ zs = []) ∨ ∃ x, a = some x ∧ len ≤ cap ∧ cap ≤ maxLen ∧ zs.length = cap ∧ (∀ i, i < zs.length → w.cell? (x.add i) = some (.int .i64 (zs.getD i 0))) ∧ ∀ n ∈ zs, (Lit.int .i64 n).wf = true) :
    ∃ l, IR w a len cap l ∧ ∀ x ∈ l, I64 x := by
  rcases h with ⟨rfl, rfl, rfl, rfl⟩ | ⟨x, rfl, hl, hm, hz, hc, hw⟩
  · exact ⟨[], IR.nil _ _ _, fun x hx => by simp at hx⟩
  · refine ⟨zs.take len, ⟨by simp; omega, hl, fun h0 => ?_⟩, fun y hy => bounds_i64 (hw y (List.mem_of_mem_take hy))⟩
    obtain ⟨b, off, rfl, hcell⟩ := ints_at hc (by omega)
    refine ⟨b, off, rfl, World.block_lt_of_cell? w _ (hcell 0 (by omega)), fun j hj => ?_⟩
    rw [hcell j (by omega), List.getElem?_take_of_lt hj]
    simp [List.getD_eq_getElem?_getD]
theorem trod_i64s17 {v : Value} (h : DataW.trod enc Try.prog W base (fun _ => true) held n 24 [v] = some y) :
    ∃ (a : Option Addr) (len cap : Nat) (l : List Int), v = .slice a len cap ∧ IR W a len cap l ∧ ∀ x ∈ l, I64 x := by
  rcases open_ints Try.underlying24 Try.underlying2 (by kernel_rfl) h with ⟨hcs, _⟩ | ⟨x, l, c, zs, hcs, _, hl, hm, hz, _, hcell, hwz⟩
  · injection hcs with hcs _
    subst hcs
    obtain ⟨l, hl⟩ := ir_row17 (w := W) (a := none) (len := 0) (cap := 0) (zs := []) (.inl ⟨rfl, rfl, rfl, rfl⟩)
    exact ⟨none, 0, 0, l, rfl, hl⟩
  · injection hcs with hcs _
    subst hcs
    obtain ⟨l', hl'⟩ := ir_row17 (w := W) (a := some x) (len := l) (cap := c) (zs := zs) (.inr ⟨x, rfl, hl, hm, by simpa using hz, hcell, hwz⟩)
    exact ⟨some x, l, c, l', rfl, hl'⟩
/-- A row that is read is as long as the form's reach lets it be. -/
theorem trod_row17 {v : Value} (h : DataW.trod enc Try.prog W base (fun _ => true) held n 24 [v] = some y) :
    ∃ (a : Option Addr) (len cap : Nat) (l : List Int), v = .slice a len cap ∧ IR W a len cap l ∧ (∀ x ∈ l, I64 x) ∧ ((∀ x ∈ y.1.weights Try.prog 24, x ≤ reachBytes) → len ≤ 2305843009213693951) := by
  obtain ⟨a', l', c', L, e, hI, hi⟩ := trod_i64s17 h
  subst e
  refine ⟨_, _, _, L, rfl, hI, hi, fun hw => ?_⟩
  have e8 : Try.prog.bytesOf 2 = 8 := by kernel_rfl
  have hr := reach_17
  have hcap := hI.2.1
  rcases open_ints Try.underlying24 Try.underlying2 (by kernel_rfl) h with ⟨hcs, _⟩ | ⟨x, l, c, zs, hcs, _, hl, hm, hz, hy, hcell, hwz⟩
  · injection hcs with hcs _
    injection hcs with _ e2 e3
    omega
  · injection hcs with hcs _
    injection hcs with _ e2 e3
    have hz2 : zs.length = c := by simpa using hz
    have hy1 : y.1 = _ := congrArg Prod.fst hy
    rw [hy1] at hw
    simp only [DataW.weights, Try.underlying24, List.mem_cons, List.mem_append] at hw
    have h1 := hw _ (Or.inl rfl)
    rw [e8] at h1
    simp only [lits, List.length_map, List.length_take, List.length_drop] at h1
    omega
theorem trod_rows17 {cs : List Value} (h : DataW.trod enc Try.prog W base (fun _ => true) held n 26 cs = some y) :
    ∃ (Aw : Option Addr) (nw cw : Nat) (Lw : List Int) (Am : Option Addr) (nm cm : Nat) (Lm : List Int) (Av : Option Addr) (nv cv : Nat) (Lv : List Int) (Ag : Option Addr) (ng cg : Nat) (Lg : List Int),
      cs = [.slice Aw nw cw, .slice Am nm cm, .slice Av nv cv, .slice Ag ng cg] ∧ (IR W Aw nw cw Lw ∧ IR W Am nm cm Lm ∧ IR W Av nv cv Lv ∧ IR W Ag ng cg Lg) ∧ ((∀ z ∈ Lw, I64 z) ∧ (∀ z ∈ Lm, I64 z) ∧ (∀ z ∈ Lv, I64 z) ∧ (∀ z ∈ Lg, I64 z)) ∧
      ((∀ x ∈ y.1.weights Try.prog 26, x ≤ reachBytes) → nw ≤ 2305843009213693951 ∧ nm ≤ 2305843009213693951 ∧ nv ≤ 2305843009213693951 ∧ ng ≤ 2305843009213693951) := by
  obtain ⟨y0, y1, y2, y3, n, hx, hl, h0, h1, h2, h3⟩ := trod_struct4 Try.underlying26 h
  have k4 : Try.prog.cellsOf 26 = 4 := by kernel_rfl
  have kl : Try.prog.cellsOf 24 = 1 := by kernel_rfl
  rw [k4] at hl
  match cs, hl with
  | [v0, v1, v2, v3], _ =>
    simp only [kl] at h0 h1 h2 h3
    obtain ⟨a0, n0, c0, L0, e0, hI0, i0, w0⟩ := trod_row17 (v := v0) h0
    obtain ⟨a1, n1, c1, L1, e1, hI1, i1, w1⟩ := trod_row17 (v := v1) h1
    obtain ⟨a2, n2, c2, L2, e2, hI2, i2, w2⟩ := trod_row17 (v := v2) h2
    obtain ⟨a3, n3, c3, L3, e3, hI3, i3, w3⟩ := trod_row17 (v := v3) h3
    subst e0 e1 e2 e3
    refine ⟨a0, n0, c0, L0, a1, n1, c1, L1, a2, n2, c2, L2, a3, n3, c3, L3, rfl, ⟨hI0, hI1, hI2, hI3⟩, ⟨i0, i1, i2, i3⟩, fun hw => ?_⟩
    have hy1 : y.1 = _ := congrArg Prod.fst hx
    rw [hy1] at hw
    simp only [DataW.weights, DataW.weightsEach, Try.underlying26, List.map_cons, List.map_nil, List.mem_append] at hw
    exact ⟨w0 fun x hx => hw x (.inl hx), w1 fun x hx => hw x (.inr (.inl hx)), w2 fun x hx => hw x (.inr (.inr (.inl hx))), w3 fun x hx => hw x (.inr (.inr (.inr (.inl hx))))⟩
end
theorem open_mom {H : Type} {enc : TypeId × Value → H} {W : World} {base b0 : Nat} {held : Bool} {r : Reach} {v : Value} {d : DataW H} {p : List MemPlace} (hv : Value.okWide Try.prog W r b0 23 v) (h : DataW.Trod enc Try.prog W base (fun _ => true) held 23 v d p) :
    ∃ (lr mu wd : Int) (ne : Bool), v = .agg #[.int .i64 lr, .int .i64 mu, .int .i64 wd, .bool ne] ∧ I64 lr ∧ I64 mu ∧ I64 wd := by
  obtain ⟨v0, v1, v2, v3, y0, y1, y2, y3, n, rfl, _, _, h0, h1, h2, h3⟩ := open_agg4 Try.underlying23 (by kernel_rfl) (by kernel_rfl) hv h
  obtain ⟨lr, q0, _, w0⟩ := DataW.trod_int Try.underlying2 h0
  obtain ⟨mu, q1, _, w1⟩ := DataW.trod_int Try.underlying2 h1
  obtain ⟨wd, q2, _, w2⟩ := DataW.trod_int Try.underlying2 h2
  obtain ⟨ne, q3, _⟩ := DataW.trod_bool Try.underlying4 h3
  have e0 : v0 = .int .i64 lr := by injection q0
  have e1 : v1 = .int .i64 mu := by injection q1
  have e2 : v2 = .int .i64 wd := by injection q2
  have e3 : v3 = .bool ne := by injection q3
  subst e0 e1 e2 e3
  exact ⟨lr, mu, wd, ne, rfl, bounds_i64 w0, bounds_i64 w1, bounds_i64 w2⟩
/-- How long four rows are that are read. -/
def Rd17 {H : Type} (t : TypeId) (d : DataW H) (P : Prop) : Prop := (∀ x ∈ d.weights Try.prog t, x ≤ reachBytes) → P
theorem reach17 {H : Type} {ts : List TypeId} {ds : List (DataW H)} (h : (DataW.weightsEach Try.prog ts ds).all (· ≤ reachBytes) = true) {j : Nat} {t : TypeId} {d : DataW H} {P : Prop} (ht : ts[j]? = some t) (hd : ds[j]? = some d) (hr : Rd17 t d P) : P :=
  hr (fun x hx => by have := List.all_eq_true.1 h _ (DataW.weights_mem_each ht hd x hx); simpa using this)
theorem open_rows17 {H : Type} {enc : TypeId × Value → H} {W : World} {base b0 : Nat} {held : Bool} {r : Reach} {v : Value} {d : DataW H} {p : List MemPlace} (hv : Value.okWide Try.prog W r b0 26 v) (h : DataW.Trod enc Try.prog W base (fun _ => true) held 26 v d p) :
    ∃ (Aw : Option Addr) (nw cw : Nat) (Lw : List Int) (Am : Option Addr) (nm cm : Nat) (Lm : List Int) (Av : Option Addr) (nv cv : Nat) (Lv : List Int) (Ag : Option Addr) (ng cg : Nat) (Lg : List Int),
      v = .agg #[.slice Aw nw cw, .slice Am nm cm, .slice Av nv cv, .slice Ag ng cg] ∧ (IR W Aw nw cw Lw ∧ IR W Am nm cm Lm ∧ IR W Av nv cv Lv ∧ IR W Ag ng cg Lg) ∧ ((∀ z ∈ Lw, I64 z) ∧ (∀ z ∈ Lm, I64 z) ∧ (∀ z ∈ Lv, I64 z) ∧ (∀ z ∈ Lg, I64 z)) ∧
      Rd17 26 d (nw ≤ 2305843009213693951 ∧ nm ≤ 2305843009213693951 ∧ nv ≤ 2305843009213693951 ∧ ng ≤ 2305843009213693951) := by
  obtain ⟨cs, rfl, hsz⟩ := okWide_struct Try.underlying26 hv
  obtain ⟨fuel, hf⟩ := h
  obtain ⟨l⟩ := cs
  obtain ⟨Aw, nw, cw, Lw, Am, nm, cm, Lm, Av, nv, cv, Lv, Ag, ng, cg, Lg, e, h1⟩ := trod_rows17 hf
  have e2 : l = _ := e
  subst e2
  exact ⟨Aw, nw, cw, Lw, Am, nm, cm, Lm, Av, nv, cv, Lv, Ag, ng, cg, Lg, rfl, h1⟩
end Go.Proofs.Ytckdbcngnghhiaa
