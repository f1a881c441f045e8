/-
  Several texts in one: RSub, RMul, RShift, RDiv, U, Z4, Sq, Z5, Z6, Z7, MathF, YB, RGcd, E5, E6, E7, E8, E9, QM.
-/
import Derived.Deep.QuietTactic
import Derived.BigQuiet
import Derived.Test.YtpephogadljncaaA2
import Derived.Test.YtpephogadljncaaA1
import Derived.OrdersHeld
import Derived.Deep.RegionHeld3
import Derived.OpenShut
import Derived.Deep.DeepCutAuto
import Derived.Deep.LoopGhost

/-
  The contract of the reference's Sub.
-/
namespace Go.Proofs.Ytpephogadljncaa
set_option maxRecDepth 100000
set_option maxHeartbeats 4000000
open Go.RowKit

/-- A figure of a difference, and the borrow. -/
def dLo (a b c : Nat) : Nat := (H32 + a - b - c) % H32
def dHi (a b c : Nat) : Nat := 1 - (H32 + a - b - c) / H32
theorem dLo_lt (a b c : Nat) : dLo a b c < H32 := Nat.mod_lt _ H32_pos
theorem dHi_le (a b c : Nat) : dHi a b c ≤ 1 := Nat.sub_le _ _
theorem d_split {a b c : Nat} (ha : a < H32) (hb : b < H32) (hc : c ≤ 1) : dLo a b c + b + c = a + H32 * dHi a b c := by
  unfold dLo dHi
  unfold H32 at *
  omega
theorem rsub_lo {a b c : Nat} (hb : b < H32) (hc : c ≤ 1) : (IntKind.u64.wrap (IntKind.u64.wrap (IntKind.u64.wrap (4294967296 + (a : Int)) - (b : Int)) - (c : Int))).tmod 4294967296 = (dLo a b c : Int) := by
  simp only [IntKind.wrap_u64]
  rw [Int.tmod_eq_emod_of_nonneg (by omega)]
  unfold dLo
  unfold H32 at *
  omega
theorem rsub_hi {a b c : Nat} (ha : a < H32) (hb : b < H32) (hc : c ≤ 1) : IntKind.u64.wrap (1 - IntKind.u64.wrap ((IntKind.u64.wrap (IntKind.u64.wrap (IntKind.u64.wrap (4294967296 + (a : Int)) - (b : Int)) - (c : Int))).tdiv 4294967296)) = (dHi a b c : Int) := by
  simp only [IntKind.wrap_u64]
  rw [Int.tdiv_eq_ediv_of_nonneg (by omega)]
  unfold dHi
  unfold H32 at *
  omega

def SubAt (la lb D : List Nat) (k c : Nat) : Prop := DigH D ∧ D.length = k ∧ c ≤ 1 ∧ valH D + valH (lb.take k) = valH (la.take k) + H32 ^ k * c
theorem SubAt.start (la lb : List Nat) : SubAt la lb [] 0 0 := ⟨DigH.nil, rfl, by omega, by simp [valH_nil]⟩
theorem SubAt.step {la lb D : List Nat} {k c : Nat} (ha : DigH la) (hb : DigH lb) (h : SubAt la lb D k c) :
    SubAt la lb (D ++ [dLo (la[k]?.getD 0) (lb[k]?.getD 0) c]) (k + 1) (dHi (la[k]?.getD 0) (lb[k]?.getD 0) c) := by
  obtain ⟨h1, h2, h3, h4⟩ := h
  refine ⟨h1.snoc (dLo_lt _ _ _), by simp [h2], dHi_le _ _ _, ?_⟩
  rw [valH_snoc, h2, valH_take_succ, valH_take_succ, Nat.pow_succ, Nat.mul_assoc]
  have hs := d_split (ha.get k) (hb.get k) h3
  generalize dLo (la[k]?.getD 0) (lb[k]?.getD 0) c = lo at *
  generalize dHi (la[k]?.getD 0) (lb[k]?.getD 0) c = hi at *
  have h5 : H32 ^ k * lo + H32 ^ k * lb[k]?.getD 0 + H32 ^ k * c = H32 ^ k * la[k]?.getD 0 + H32 ^ k * (H32 * hi) := by
    rw [← Nat.mul_add, ← Nat.mul_add, hs, Nat.mul_add]
  omega
theorem SubAt.done {la lb D : List Nat} {c : Nat} (hl : lb.length ≤ la.length) (hle : valH lb ≤ valH la) (h : SubAt la lb D la.length c) : valH D = valH la - valH lb := by
  obtain ⟨h1, h2, h3, h4⟩ := h
  rw [List.take_of_length_le (by omega), List.take_of_length_le (by omega)] at h4
  have h5 := valH_lt h1
  rw [h2] at h5
  generalize H32 ^ la.length = P at *
  rcases (by omega : c = 0 ∨ c = 1) with rfl | rfl
  · rw [Nat.mul_zero, Nat.add_zero] at h4; omega
  · rw [Nat.mul_one] at h4; omega

theorem at_same (B : Nat) (A : Option Addr) (n c k : Nat) (l : List Nat) (w : World) (h : Lim B w A n c l) (hn : n ≤ 9223372036854775807) (hk : k ≤ 9223372036854775807) :
    Calls Try.prog 40 #[.slice A n c, .int .i64 k] w fun e w' => e = .returned (.int .u64 ((l[k]?.getD 0 : Nat) : Int)) ∧ w' = w :=
  (at_any B A n c k l w h hn hk).mono fun _ _ ⟨he, hw⟩ => ⟨he, hw.symm⟩

theorem rsub_F {w : World} {A B : Option Addr} {n c m d x y : Nat} (ha : Num w A n c x) (hb : Num w B m d y) (hx : (limbs x).length ≤ 1000000) (hy : (limbs y).length ≤ 1000000) (hle : y ≤ x) : Calls Try.prog 18 #[.slice A n c, .slice B m d] w (GotPF w (x - y) 0) := by
  obtain ⟨i0, hi, hz0, hz1, hz2⟩ := info_parts info24
  have hcm : ¬ cmpN x y < 0 := by
    rcases Nat.lt_or_ge y x with h | h
    · rw [cmpN_gt h]; omega
    · rw [cmpN_zero.2 (by omega)]; omega
  have hll : (halvesL (limbs y)).length ≤ (halvesL (limbs x)).length := by rw [halvesL_length, halvesL_length]; have := limbs_length_mono hle; omega
  go_enter Try.func18, Try.ntmps18
  go_wp2_with fail
  refine (rcmp_N ha hb (by omega) (by omega)).mono ?_
  rintro e w0 ⟨rfl, b0⟩
  replace ha := ha.on b0
  replace hb := hb.on b0
  go_wp2_with fail
  refine (halves_F ha (by omega)).mono ?_
  rintro e w1 ⟨A1, n1, c1, rfl, h1, b1⟩
  go_wp2_with fail
  refine (halves_F (hb.on b1) (by omega)).mono ?_
  rintro e w2 ⟨A2, n2, c2, rfl, h2, b2⟩
  replace h1 := h1.on b2
  have cc := b0.trans ((b1.trans (b2.mono b1.size)).mono b0.size)
  clear b0 b1 b2 ha hb
  have hv1 : valH (halvesL (limbs x)) = x := by rw [halvesL_val, val_limbs]
  have hv2 : valH (halvesL (limbs y)) = y := by rw [halvesL_val, val_limbs]
  have hd1 := halvesL_dig (limbs_dig x)
  have hd2 := halvesL_dig (limbs_dig y)
  have hn1 : n1 ≤ 2000000 := by have := h1.1; rw [halvesL_length] at this; omega
  have hn2 : n2 ≤ 2000000 := by have := h2.1; rw [halvesL_length] at this; omega
  have hle' : valH (halvesL (limbs y)) ≤ valH (halvesL (limbs x)) := by rw [hv1, hv2]; exact hle
  have hE : valH (halvesL (limbs x)) - valH (halvesL (limbs y)) = x - y := by rw [hv1, hv2]
  have HE := Lib.hid hE
  have HLE := Lib.hid hle'
  have HLL := Lib.hid hll
  have HN1 := Lib.hid h1.1
  clear hv1 hv2 hx hy hE hle' hll hle hcm
  generalize halvesL (limbs x) = la at *
  generalize halvesL (limbs y) = lb at *
  go_wp2_with fail
  go_loopw [8, 9, 10] (fun ov cv iv wr => ∃ (k : Nat) (v : Nat) (D : List Nat) (g cap : Nat), k ≤ n1 ∧ iv = .int .i64 (k : Int) ∧ cv = .int .u64 (v : Int) ∧ ov = .slice (some ⟨g, 0, none⟩) k cap ∧ SubAt la lb D k v ∧ wr.ownsRow w2.heap.size 43 1 (.slice (some ⟨g, 0, none⟩) k cap) k (D.map encD) ∧ Below w2.heap.size w2 wr) (fun _ _ iv _ => n1 - (intOf iv).toNat)
  case atStart => exact ⟨0, 0, [], w2.heap.size, 0, by omega, rfl, rfl, rfl, SubAt.start _ _, own_empty w2 _ (Nat.le_refl _), (Below.refl _ w2).alloc (Nat.le_refl _) _⟩
  case round =>
    obtain ⟨k, v, D, g, cap, hk, rfl, rfl, rfl, hA, hown, hbl⟩ := hrel
    by_cases hlt : k < n1
    · have hp := hd1.get k
      have hq := hd2.get k
      have hv1 : v ≤ 1 := hA.2.2.1
      have hgl := hown.lt g rfl
      obtain ⟨b, off, rfl, hbb, hcell⟩ := (h1.on hbl).2.2.2 (by omega)
      have hck := hcell k hlt
      have HA := Lib.hid hA
      have HO := Lib.hid hown
      have h2' := h2.on hbl
      have hk0 : (0 : Int) ≤ (k : Int) := by omega
      have hkn : (k : Int) < (n1 : Int) := by omega
      clear hA hown hcell
      go_wp2_with fail
      go_quiet ((go_at_call 40; exact Calls.quiet_of_same (at_same _ _ _ _ _ _ _ h2' (by omega) (by omega))))
      go_wp2_with (at_builtin; go_must (refine wpList_append_lies _ rfl _ _ 25 rfl w2.heap.size 43 i0 (.int .u64 0) 1 8 Try.underlying25 hi hz0 hz1 hz2 rfl (by decide) _ _ _ rfl (by exact HO.out.alloc _) ⟨wr.heap.size, 0, none⟩ 1 1 [.int .u64 ((IntKind.u64.wrap (IntKind.u64.wrap (IntKind.u64.wrap (4294967296 + ((la[k]?.getD 0 : Nat) : Int)) - ((lb[k]?.getD 0 : Nat) : Int)) - (v : Int))).tmod 4294967296)] rfl rfl (fun j u h => cell_one_new wr _ 43 j u h) (by simp [Value.oneCell']) (by omega) (by unfold maxLen; omega) (by omega) (by simp; have := hbl.size; omega) _ rfl ?_); intro g1 cap1 w4 hown1 hgrow1 hat hlt1)
      go_roundw
      case rel =>
        refine ⟨k + 1, dHi (la[k]?.getD 0) (lb[k]?.getD 0) v, _, g1, cap1, by omega, by go_num, by rw [rsub_hi hp hq hv1], rfl, HA.out.step hd1 hd2, ?_, ?_⟩
        · rw [rsub_lo hq hv1] at hown1
          rw [List.map_append]
          exact hown1
        · exact (below_drewN (hbl.alloc hbl.size _) nq).grown hgrow1 (by simp; have := hbl.size; omega) (fun q e => by injection (show some g = some q from e) with e1; omega)
      case measure => simp [intOf]; omega
    · obtain rfl : k = n1 := by omega
      have hlim := Lim.of_own hown hA.1.dig
      have hD := hA.1
      have hA' := hA
      rw [HN1.out] at hA'
      have hval := hA'.done HLL.out HLE.out
      rw [HE.out] at hval
      have HV := Lib.hid hval
      clear hval hA hown hA'
      go_wp2_with fail
      refine (whole_F _ _ _ _ _ hlim hD (by omega)).mono ?_
      rintro e w3 ⟨A3, n3, c3, rfl, h3, b3, f3⟩
      go_wp2_with fail
      go_ret2
      rw [HV.out] at h3
      exact ⟨A3, n3, c3, rfl, h3, cc.trans ((hbl.trans (b3.mono hbl.size)).mono cc.size), f3.mono (Nat.le_trans cc.size hbl.size)⟩

theorem rsub_N {w : World} {A B : Option Addr} {n c m d x y : Nat} (ha : Num w A n c x) (hb : Num w B m d y) (hx : (limbs x).length ≤ 1000000) (hy : (limbs y).length ≤ 1000000) (hle : y ≤ x) : Calls Try.prog 18 #[.slice A n c, .slice B m d] w (GotP w (x - y) 0) := (rsub_F ha hb hx hy hle).mono fun _ _ h => h.weak

theorem rsub_less_N {w : World} {A B : Option Addr} {n c m d x y : Nat} (ha : Num w A n c x) (hb : Num w B m d y) (hx : (limbs x).length ≤ 1000000) (hy : (limbs y).length ≤ 1000000) (hlt : x < y) : Calls Try.prog 18 #[.slice A n c, .slice B m d] w (GotV w (.tuple #[.slice none 0 0, .int .i64 2])) := by
  have hcm : cmpN x y < 0 := by rw [cmpN_lt hlt]; omega
  go_enter Try.func18, Try.ntmps18
  go_wp2_with fail
  refine (rcmp_N ha hb (by omega) (by omega)).mono ?_
  rintro e w0 ⟨rfl, b0⟩
  go_wp2_with fail
  go_ret2
  exact ⟨rfl, b0⟩

end Go.Proofs.Ytpephogadljncaa

/-
  The contract of the reference's Mul.
-/
namespace Go.Proofs.Ytpephogadljncaa
set_option maxRecDepth 100000
open Go.RowKit

/-- A product of figures, a figure and a carry, in two parts. -/
def pLo (x y q c : Nat) : Nat := (q + x * y + c) % H32
def pHi (x y q c : Nat) : Nat := (q + x * y + c) / H32
theorem pLo_lt (x y q c : Nat) : pLo x y q c < H32 := Nat.mod_lt _ H32_pos
theorem p_split (x y q c : Nat) : pLo x y q c + H32 * pHi x y q c = q + x * y + c := Nat.mod_add_div _ _
theorem p_bound {x y q c : Nat} (hx : x < H32) (hy : y < H32) (hq : q < H32) (hc : c < H32) : q + x * y + c < B64 := by
  have h1 : x * y ≤ (H32 - 1) * (H32 - 1) := Nat.mul_le_mul (by omega) (by omega)
  have h2 : (H32 - 1) * (H32 - 1) + (H32 - 1) + (H32 - 1) < B64 := by unfold H32 B64; omega
  omega
theorem pHi_lt {x y q c : Nat} (hx : x < H32) (hy : y < H32) (hq : q < H32) (hc : c < H32) : pHi x y q c < H32 := by
  unfold pHi
  rw [Nat.div_lt_iff_lt_mul H32_pos, H32_sq]
  exact p_bound hx hy hq hc
theorem p_wrap {x y q c : Nat} (hx : x < H32) (hy : y < H32) (hq : q < H32) (hc : c < H32) :
    IntKind.u64.wrap (IntKind.u64.wrap ((q : Int) + IntKind.u64.wrap ((x : Int) * (y : Int))) + (c : Int)) = ((q + x * y + c : Nat) : Int) := by
  have h := p_bound hx hy hq hc
  simp only [IntKind.wrap_u64]
  have e : (x : Int) * (y : Int) = ((x * y : Nat) : Int) := by simp
  rw [e]
  generalize x * y = p at *
  unfold B64 at h
  omega
theorem rmul_lo {x y q c : Nat} (hx : x < H32) (hy : y < H32) (hq : q < H32) (hc : c < H32) :
    (IntKind.u64.wrap (IntKind.u64.wrap ((q : Int) + IntKind.u64.wrap ((x : Int) * (y : Int))) + (c : Int))).tmod 4294967296 = (pLo x y q c : Int) := by
  rw [p_wrap hx hy hq hc, tmod_lo]
  rfl
theorem rmul_hi {x y q c : Nat} (hx : x < H32) (hy : y < H32) (hq : q < H32) (hc : c < H32) :
    IntKind.u64.wrap ((IntKind.u64.wrap (IntKind.u64.wrap ((q : Int) + IntKind.u64.wrap ((x : Int) * (y : Int))) + (c : Int))).tdiv 4294967296) = (pHi x y q c : Int) := by
  rw [p_wrap hx hy hq hc, Int.tdiv_eq_ediv_of_nonneg (by omega), wrap_hi (p_bound hx hy hq hc)]
  rfl

/-- What has been reckoned when k figures of one line are done: the row Q and the carry c. -/
def LineAt (P Q : List Nat) (i k x : Nat) (l : List Nat) (c : Nat) : Prop :=
  DigH Q ∧ Q.length = P.length ∧ c < H32 ∧ (∀ j, i + k ≤ j → Q[j]?.getD 0 = P[j]?.getD 0) ∧ valH Q + H32 ^ (i + k) * c = valH P + H32 ^ i * (x * valH (l.take k))
theorem LineAt.start {P : List Nat} (h : DigH P) (i x : Nat) (l : List Nat) : LineAt P P i 0 x l 0 := ⟨h, rfl, H32_pos, fun _ _ => rfl, by simp [valH_nil]⟩
theorem LineAt.step {P Q l : List Nat} {i k x c : Nat} (h : LineAt P Q i k x l c) (hx : x < H32) (hl : DigH l) (hk : i + k < P.length) :
    LineAt P (Q.set (i + k) (pLo x (l[k]?.getD 0) (Q[i + k]?.getD 0) c)) i (k + 1) x l (pHi x (l[k]?.getD 0) (Q[i + k]?.getD 0) c) := by
  obtain ⟨hd, hlen, hc, hsame, hv⟩ := h
  refine ⟨hd.set _ (pLo_lt _ _ _ _), by rw [List.length_set, hlen], pHi_lt hx (hl.get k) (hd.get _) hc, fun j hj => ?_, ?_⟩
  · rw [List.getElem?_set_ne (by omega)]; exact hsame j (by omega)
  · have hs := valH_set (l := Q) (k := i + k) (by omega) (pLo x (l[k]?.getD 0) (Q[i + k]?.getD 0) c)
    have hm := p_split x (l[k]?.getD 0) (Q[i + k]?.getD 0) c
    rw [valH_take_succ, ← Nat.add_assoc, Nat.pow_succ, Nat.mul_assoc]
    generalize pLo x (l[k]?.getD 0) (Q[i + k]?.getD 0) c = lo at *
    generalize pHi x (l[k]?.getD 0) (Q[i + k]?.getD 0) c = hi at *
    generalize Q[i + k]?.getD 0 = q at *
    generalize l[k]?.getD 0 = y at *
    have h1 : H32 ^ (i + k) * lo + H32 ^ (i + k) * (H32 * hi) = H32 ^ (i + k) * q + H32 ^ (i + k) * (x * y) + H32 ^ (i + k) * c := by
      rw [← Nat.mul_add, hm, Nat.mul_add, Nat.mul_add]
    have h2 : H32 ^ i * (x * (valH (l.take k) + H32 ^ k * y)) = H32 ^ i * (x * valH (l.take k)) + H32 ^ (i + k) * (x * y) := by
      rw [Nat.mul_add, Nat.mul_add, Nat.pow_add]
      have : H32 ^ i * (x * (H32 ^ k * y)) = H32 ^ i * H32 ^ k * (x * y) := by ac_rfl
      rw [this]
    rw [h2]
    omega
theorem LineAt.done {P Q l : List Nat} {i x c m : Nat} (hml : m = l.length) (h : LineAt P Q i m x l c) (hk : i + m < P.length) (hz : P[i + m]?.getD 0 = 0) :
    DigH (Q.set (i + m) c) ∧ (Q.set (i + m) c).length = P.length ∧ (∀ j, i + m < j → (Q.set (i + m) c)[j]?.getD 0 = P[j]?.getD 0) ∧ valH (Q.set (i + m) c) = valH P + H32 ^ i * (x * valH l) := by
  obtain ⟨hd, hlen, hc, hsame, hv⟩ := h
  refine ⟨hd.set _ hc, by rw [List.length_set, hlen], fun j hj => ?_, ?_⟩
  · rw [List.getElem?_set_ne (by omega)]; exact hsame j (by omega)
  · have hs := valH_set (l := Q) (k := i + m) (by omega) c
    rw [hsame _ (Nat.le_refl _), hz, Nat.mul_zero, Nat.add_zero] at hs
    rw [List.take_of_length_le (by omega)] at hv
    omega

set_option maxHeartbeats 4000000 in
theorem rmul_N {w : World} {A B : Option Addr} {n c m d x y : Nat} (ha : Num w A n c x) (hb : Num w B m d y) (hx : (limbs x).length ≤ 1000000) (hy : (limbs y).length ≤ 1000000) : Calls Try.prog 16 #[.slice A n c, .slice B m d] w (GotN w (x * y)) := by
  obtain ⟨i0, hi, hz0, hz1, hz2⟩ := info_parts info24
  go_enter Try.func16, Try.ntmps16
  go_wp2_with fail
  refine (halves_F ha (by omega)).mono ?_
  rintro e w1 ⟨A1, n1, c1, rfl, h1, b1⟩
  go_wp2_with fail
  refine (halves_F (hb.on b1) (by omega)).mono ?_
  rintro e w2 ⟨A2, n2, c2, rfl, h2, b2⟩
  replace h1 := h1.on b2
  have cc := b1.trans (b2.mono b1.size)
  clear b1 b2 ha hb
  have hv1 : valH (halvesL (limbs x)) = x := by rw [halvesL_val, val_limbs]
  have hv2 : valH (halvesL (limbs y)) = y := by rw [halvesL_val, val_limbs]
  have hd1 := halvesL_dig (limbs_dig x)
  have hd2 := halvesL_dig (limbs_dig y)
  have hn1 : n1 ≤ 2000000 := by have := h1.1; rw [halvesL_length] at this; omega
  have hn2 : n2 ≤ 2000000 := by have := h2.1; rw [halvesL_length] at this; omega
  have hE : valH (halvesL (limbs x)) * valH (halvesL (limbs y)) = x * y := by rw [hv1, hv2]
  have HE := Lib.hid hE
  have HN1 := Lib.hid h1.1
  have HN2 := Lib.hid h2.1
  clear hv1 hv2 hx hy hE
  generalize halvesL (limbs x) = la at *
  generalize halvesL (limbs y) = lb at *
  obtain ⟨s, hs⟩ : ∃ s, w2.heap.size = s := ⟨_, rfl⟩
  rw [hs] at h1 h2
  have HS := Lib.hid hs
  clear hs
  go_wp2_with (at_make; refine wpList_make_full _ rfl _ _ 25 rfl s 43 i0 (.int .u64 0) 1 Try.underlying25 hi hz0 hz1 .i64 .i64 _ _ (n1 + n2 + 1) rfl rfl (by omega) (by omega) (by rw [hz2]; omega) (by unfold maxLen; omega) (by rw [HS.out]; omega) ?_; intro w3 hown3 hgrow3; rw [made_zero] at hown3)
  rw [HS.out] at hown3 ⊢
  have hb3 : Below s w2 w3 := (Below.refl s w2).grown hgrow3 (by have := HS.out; omega) (fun k h => by cases h)
  clear hgrow3
  go_loopw [8] (fun iv wr => ∃ (k : Nat) (P : List Nat), k ≤ n1 ∧ iv = .int .i64 (k : Int) ∧ DigH P ∧ Hid (valH P = valH (la.take k) * valH lb) ∧ (∀ j, k + n2 ≤ j → Hid (P[j]?.getD 0 = 0)) ∧ wr.ownsRow s 43 1 (.slice (some ⟨s, 0, none⟩) (n1 + n2 + 1) (n1 + n2 + 1)) (n1 + n2 + 1) (P.map encD) ∧ Below s w2 wr)
    (fun iv _ => n1 - (intOf iv).toNat)
  case atStart => exact ⟨0, List.replicate (n1 + n2 + 1) 0, Nat.zero_le _, rfl, digH_zeros _, by rw [valH_zeros]; simp [valH_nil, Hid], fun j _ => get_zeros _ _, hown3, hb3⟩
  case round =>
    obtain ⟨k, P, hk, rfl, hP, hv, hzs, hown, hbl⟩ := hrel
    by_cases hlt : k < n1
    · obtain ⟨b, off, rfl, hbb, hcell⟩ := (h1.below hbl).2.2.2 (by omega)
      have hxl : la[k]?.getD 0 < H32 := hd1.get k
      have hPl : P.length = n1 + n2 + 1 := by have := hown.1; simpa using this
      have HPL := Lib.hid hPl
      have HV := Lib.hid hv
      have HZS := Lib.hid hzs
      clear hPl hv hzs
      obtain ⟨wo, hwo⟩ : ∃ wo : World, wo = wr := ⟨_, rfl⟩
      subst hwo
      go_wp2_with fail
      go_loopw [9, 10] (fun cv jv wi => ∃ (j : Nat) (v : Nat) (Q : List Nat), j ≤ n2 ∧ jv = .int .i64 (j : Int) ∧ cv = .int .u64 (v : Int) ∧ LineAt P Q k j (la[k]?.getD 0) lb v ∧ wi.ownsRow s 43 1 (.slice (some ⟨s, 0, none⟩) (n1 + n2 + 1) (n1 + n2 + 1)) (n1 + n2 + 1) (Q.map encD) ∧ Below s w2 wi)
        (fun _ jv _ => n2 - (intOf jv).toNat)
      case atStart => exact ⟨0, 0, P, Nat.zero_le _, rfl, rfl, LineAt.start hP _ _ _, hown, hbl⟩
      case round =>
        obtain ⟨j, v, Q, hj, rfl, rfl, hL, hown2, hbl2⟩ := hrel
        by_cases hlt2 : j < n2
        · have g1 := hcell k hlt
          have hc1 : wr.cell? ⟨b, off + k, none⟩ = some (.int .u64 ((la[k]?.getD 0 : Nat) : Int)) := by
            obtain ⟨b', off', e, _, hc'⟩ := (h1.below hbl2).2.2.2 (by omega)
            injection e with e
            injection e with e1 e2
            subst e1; subst e2
            exact hc' k hlt
          obtain ⟨b3, off3, rfl, hb3', hcell3⟩ := (h2.below hbl2).2.2.2 (by omega)
          have hc2 := hcell3 j hlt2
          have hQl : Q.length = n1 + n2 + 1 := by rw [hL.2.1]; exact HPL.out
          have hc3 : wr.cell? ⟨s, k + j, none⟩ = some (.int .u64 ((Q[k + j]?.getD 0 : Nat) : Int)) := by
            rw [hown2.cellAt (k + j) (by omega), List.getElem?_map, List.getElem?_eq_getElem (by omega)]
            simp [encD]
          have hf3 := hown2.frozenAt (k + j)
          have hyl : lb[j]?.getD 0 < H32 := hd2.get j
          have hql : Q[k + j]?.getD 0 < H32 := hL.1.get _
          have hvl : v < H32 := hL.2.2.1
          have HL := Lib.hid hL
          have HO2 := Lib.hid hown2
          clear hL hown2 hcell3 hQl g1
          have t1 : (0 : Int) ≤ (k : Int) := by omega
          have t2 : (k : Int) < (n1 : Int) := by omega
          have t3 : (0 : Int) ≤ (j : Int) := by omega
          have t4 : (j : Int) < (n2 : Int) := by omega
          have t5 : (0 : Int) ≤ (k : Int) + (j : Int) := by omega
          have t6 : (k : Int) + (j : Int) < (n1 : Int) + (n2 : Int) + 1 := by omega
          have t7 : IntKind.i64.wrap ((k : Int) + (j : Int)) = (k : Int) + (j : Int) := IntWalk.i64_in _ (by omega)
          have t8 : ((k : Int) + (j : Int)).toNat = k + j := by omega
          go_wp2_with fail
          go_quiet (fail)
          clear t7 t8
          go_wp2_with fail
          have hst := World.ownsRow.stored (w := wr.drewN nq) HO2.out (k + j) (.int .u64 ((IntKind.u64.wrap (IntKind.u64.wrap (((Q[k + j]?.getD 0 : Nat) : Int) + IntKind.u64.wrap (((la[k]?.getD 0 : Nat) : Int) * ((lb[j]?.getD 0 : Nat) : Int))) + (v : Int))).tmod 4294967296))
          refine ⟨⟨j + 1, pHi (la[k]?.getD 0) (lb[j]?.getD 0) (Q[k + j]?.getD 0) v, Q.set (k + j) (pLo (la[k]?.getD 0) (lb[j]?.getD 0) (Q[k + j]?.getD 0) v), by omega, by go_num, ?_, HL.out.step hxl hd2 (by have := HPL.out; omega), ?_, ?_⟩, by simp [intOf]; omega⟩
          · rw [rmul_hi hxl hyl hql hvl]
          · have h5 := hst.1
            rw [List.map_set]
            rw [rmul_lo hxl hyl hql hvl] at h5 ⊢
            exact h5
          · exact (below_drewN hbl2 nq).grown hst.2 (by have := hbl2.size; have := HS.out; simp; omega) (fun q e => by cases e; exact Nat.le_refl _)
        · obtain rfl : j = n2 := by omega
          have hQl : Q.length = n1 + j + 1 := by rw [hL.2.1]; exact HPL.out
          have hc3 : wr.cell? ⟨s, k + j, none⟩ = some (.int .u64 ((Q[k + j]?.getD 0 : Nat) : Int)) := by
            rw [hown2.cellAt (k + j) (by omega), List.getElem?_map, List.getElem?_eq_getElem (by omega)]
            simp [encD]
          have hf3 := hown2.frozenAt (k + j)
          obtain ⟨q1, q2, q3, q4⟩ := hL.done HN2.out (by have := HPL.out; omega) (HZS.out _ (Nat.le_refl _)).out
          have hst := hown2.stored (k + j) (.int .u64 (v : Int))
          have Q4 := Lib.hid q4
          have HST := Lib.hid hst
          have Q3 := Lib.hid q3
          clear hL hown2 hQl q2 q3 q4 hst
          go_wp2_with fail
          go_roundw
          case rel =>
            refine ⟨k + 1, Q.set (k + j) v, by omega, by go_num, q1, ?_, fun i hi => ?_, ?_, ?_⟩
            · have e1 := Q4.out
              rw [HV.out] at e1
              rw [e1, valH_take_succ, Nat.add_mul, Nat.mul_assoc]
              exact Lib.hid rfl
            · rw [Q3.out i (by omega)]
              exact HZS.out i (by omega)
            · rw [List.map_set]
              exact HST.out.1
            · exact hbl2.grown HST.out.2 (by have := hbl2.size; have := HS.out; omega) (fun q e => by cases e; exact Nat.le_refl _)
          case measure => simp [intOf]; omega
    · obtain rfl : k = n1 := by omega
      have hlim := Lim.of_own hown hP.dig
      have hval := hv.out
      rw [List.take_of_length_le (by have := HN1.out; omega), HE.out] at hval
      have HV := Lib.hid hval
      clear hval hv hown
      go_wp2_with fail
      refine (whole_any _ _ _ _ _ hlim hP (by omega)).mono ?_
      rintro e w4 ⟨A4, n4, c4, rfl, h4, b4⟩
      go_wp2_with fail
      go_ret
      rw [HV.out] at h4
      refine ⟨A4, n4, c4, rfl, h4, cc.trans (Below.mono (B := s) ?_ (by have := cc.size; have := HS.out; omega))⟩
      exact hbl.trans (b4.mono (by have := hbl.size; have := HS.out; omega))

end Go.Proofs.Ytpephogadljncaa

/-
  The contracts of the second reference's power, bit, Shl and Shr.
-/
namespace Go.Proofs.Ytpephogadljncaa
open Go.RowKit

theorem made_zeros (n : Nat) : (madeCells (Value.int .u64 0).cells (n * 1)).toList = (List.replicate n 0).map encD := by
  rw [Nat.mul_one, show (Value.int .u64 0).cells = #[Value.int .u64 0] from rfl, toList_madeCells_one, List.map_replicate]
  rfl

theorem wrap_pw {k : Nat} (h : k + 1 < 64) : IntKind.u64.wrap ((pw k : Int) * 2) = (pw (k + 1) : Int) := by
  have h1 := pw_lt h
  rw [pw_succ] at h1 ⊢
  rw [IntKind.wrap_u64]
  unfold B64 at h1
  omega

theorem wrap_sh {g k : Nat} (h : g < B64) : IntKind.u64.wrap (((g / 2 ^ k : Nat) : Int) / 2) = ((g / 2 ^ (k + 1) : Nat) : Int) := by
  have h1 : g / 2 ^ k < B64 := Nat.lt_of_le_of_lt (Nat.div_le_self _ _) h
  rw [Nat.pow_succ, ← Nat.div_div_eq_div_mul]
  generalize g / 2 ^ k = t at *
  rw [IntKind.wrap_u64]
  unfold B64 at h1
  omega
/-- Shifted down by k places, behind a name. -/
def sd (g k : Nat) : Nat := g / 2 ^ k
theorem sd_step {g k : Nat} (h : g < B64) : IntKind.u64.wrap ((sd g k : Int) / 2) = (sd g (k + 1) : Int) := wrap_sh h
theorem sd_zero (g : Nat) : sd g 0 = g := Nat.div_one g

/-- A step of the inner loop, as the walk has it. -/
theorem wrap_step {x y k : Nat} (hx : x < B64) :
    IntKind.u64.wrap (IntKind.u64.wrap ((sh2 x y k : Int) / 2) + (sd y k : Int) % 2 * 9223372036854775808) = (sh2 x y (k + 1) : Int) := by
  have h1 := sh2_lt x y (k + 1)
  have h2 := sh2_succ hx y k
  rw [show y / 2 ^ k = sd y k from rfl] at h2
  have h3 := sh2_lt x y k
  generalize sh2 x y k = a at *
  generalize sh2 x y (k + 1) = b at *
  generalize sd y k = c at *
  simp only [IntKind.wrap_u64]
  unfold B64 at h1 h3
  omega

end Go.Proofs.Ytpephogadljncaa

/-
  The contract of the second reference's DivMod.
-/
namespace Go.Proofs.Ytpephogadljncaa
open Go.RowKit

/-- A call has answered a quotient, what is left, and no error. -/
def GotD (w : World) (q r : Nat) (e : Ending) (w' : World) : Prop := ∃ A n c B m d, e = .returned (.tuple #[.slice A n c, .slice B m d, .int .i64 0]) ∧ Num w' A n c q ∧ Num w' B m d r ∧ Below w.heap.size w w'

theorem ownsRow_below {w w' : World} {base : Nat} {e : TypeId} {size : Nat} {v : Value} {n : Nat} {xs : List Value} (h : w.ownsRow base e size v n xs) (hb : Below w.heap.size w w') : w'.ownsRow base e size v n xs := by
  refine h.kept (row := none) ⟨hb.os, hb.tape, hb.output, hb.size, fun k hk _ => hb.block k hk⟩ ?_
  rcases h.2 with ⟨rfl, _⟩ | ⟨g, cap, cur, rfl, _⟩
  · exact .inl rfl
  · exact .inr (by simp [Value.ownBlock])

/-- A number that lies elsewhere is kept where a cell of a block is written. -/
theorem Num.far {w : World} {A : Option Addr} {n c x s o : Nat} {v : Value} (h : Num w A n c x) (hf : Fresh (s + 1) A n) : Num (w.setCell ⟨s, o, none⟩ v) A n c x := by
  refine ⟨h.1, h.2.1, h.2.2.1, fun h0 => ?_⟩
  obtain ⟨b, off, e, hb, hc⟩ := h.2.2.2 h0
  obtain ⟨b', off', e', hb'⟩ := hf h0
  rw [e] at e'
  injection e' with e'
  injection e' with e1 e2
  refine ⟨b, off, e, by rw [World.size_setCell]; exact hb, fun j hj => ?_⟩
  exact (World.cell?_of_block (a := ⟨b, off + j, none⟩) (Below.heap_setCell w ⟨s, o, none⟩ v b (by simp; omega))).trans (hc j hj)

/-- Twice what a digit holds. -/
def tq (F i : Nat) : Nat := 2 * qd F (i + 1) (i / 64)
theorem wrap_two (F i : Nat) : IntKind.u64.wrap ((qd F (i + 1) (i / 64) : Int) * 2) = (tq F i : Int) := by
  have := qd_room F i
  unfold tq
  rw [IntKind.wrap_u64]
  unfold B64 at this
  omega
theorem wrap_tq (F i : Nat) : IntKind.u64.wrap ((tq F i : Int) + 1) = ((tq F i + 1 : Nat) : Int) := by
  have := qd_room F i
  unfold tq
  rw [IntKind.wrap_u64]
  unfold B64 at this
  omega

theorem div_start {x y f : Nat} (hy : y ≠ 0) (h : blen x = f + blen y) : x / y < 2 ^ (f + 1) ∧ x / 2 ^ (f + 1) < y := by
  have h1 := lt_blen x
  have h2 := blen_ge hy
  have h3 := blen_pos hy
  have e : 2 ^ blen x = 2 ^ (f + 1) * 2 ^ (blen y - 1) := by rw [← Nat.pow_add, h]; congr 1; omega
  have h4 : 2 ^ (f + 1) * 2 ^ (blen y - 1) ≤ 2 ^ (f + 1) * y := Nat.mul_le_mul_left _ h2
  constructor
  · rw [Nat.div_lt_iff_lt_mul (by omega)]; omega
  · rw [Nat.div_lt_iff_lt_mul (Nat.pow_pos (by omega)), Nat.mul_comm]; omega

theorem len_bits {x k : Nat} (h : (limbs x).length ≤ k) : blen x ≤ 64 * k := by
  refine blen_le ?_
  have h1 := lt_of_limbs_length h
  rw [B64_pow2] at h1
  exact h1
theorem r_len {x y k : Nat} (hy : 0 < y) (h : (limbs y).length ≤ k) : (limbs (x % y)).length ≤ k := Nat.le_trans (limbs_length_mono (Nat.le_of_lt (Nat.mod_lt _ hy))) h

theorem own_two (w : World) (o : Obj) (base : Nat) (h : base ≤ w.heap.size) : ((w.alloc o).alloc (.cells #[] 43)).ownsRow base 43 1 (.slice (some ⟨w.heap.size + 1, 0, none⟩) 0 0) 0 [] := by
  have := own_empty (w.alloc o) base (by rw [World.size_alloc]; omega)
  rw [World.size_alloc] at this
  exact this

theorem num_empty (w : World) (A : Option Addr) (c : Nat) : Num w A 0 c 0 := by
  unfold Num
  rw [limbs_zero]
  exact Lim.nil _ _ _ _

end Go.Proofs.Ytpephogadljncaa

/-
  Small helps for the laws: a digit in new memory, lengths of small numbers.
-/
namespace Go.Proofs.Ytpephogadljncaa
open Go.RowKit

theorem new_digit {x : Nat} (h0 : x ≠ 0) (hx : x < B64) (w : World) (t : TypeId) : Num (w.alloc (.cells #[.int .u64 (x : Int)] t)) (some ⟨w.heap.size, 0, none⟩) 1 1 x := by
  obtain ⟨A, n, c, e, hl⟩ := isN_new h0 hx w t
  injection e with e1 e2 e3
  subst e1; subst e2; subst e3
  exact hl
theorem len_one {x : Nat} (hx : x < B64) : (limbs x).length ≤ 1 := limbs_length_le (k := 1) (by rw [Nat.pow_one]; exact hx)
theorem len_nought : (limbs 0).length ≤ 0 := by rw [limbs_zero]; simp
/-- The only digit of a small number. -/
theorem Num.cell {w : World} {A : Option Addr} {n c x : Nat} (h : Num w A n c x) (h0 : x ≠ 0) (hx : x < B64) : n = 1 ∧ ∃ b off, A = some ⟨b, off, none⟩ ∧ w.cell? ⟨b, off, none⟩ = some (.int .u64 (x : Int)) := by
  have hn := h.len
  rw [limbs_one h0 hx] at hn
  obtain ⟨b, off, e, _, hc⟩ := h.2.2.2 (by simp at hn; omega)
  have := hc 0 (by simp at hn; omega)
  rw [limbs_one h0 hx] at this
  exact ⟨hn, b, off, e, this⟩
theorem new_first {x : Nat} {v : Int} (h0 : x ≠ 0) (hx : x < B64) (hv : v = (x : Int)) (w : World) (t : TypeId) : Num (w.alloc (.cells #[.int .u64 v] t)) (some ⟨w.heap.size, 0, none⟩) 1 1 x := by
  rw [hv]
  exact new_digit h0 hx w t
theorem Num.nought {w : World} {A : Option Addr} {n c : Nat} (h : Num w A n c 0) : n = 0 := by
  have := h.len
  rwa [limbs_zero] at this
theorem Num.some_len {w : World} {A : Option Addr} {n c x : Nat} (h : Num w A n c x) (h0 : x ≠ 0) : 0 < n := by
  have := h.len
  have := limbs_ne_nil h0
  omega

end Go.Proofs.Ytpephogadljncaa

/-
  Integers in memory, and the contracts of the fourth reference: made, Right, Same, Neg, Cmp.
-/
namespace Go.Proofs.Ytpephogadljncaa
set_option maxRecDepth 100000
set_option maxHeartbeats 1000000
open Go.RowKit

/-- The value '.agg #[.bool b, .slice A n c]' stands for the integer z. -/
def Zn (w : World) (b : Bool) (A : Option Addr) (n c : Nat) (z : Int) : Prop := Num w A n c z.natAbs ∧ b = decide (z < 0)
theorem Zn.on {w w' : World} {b : Bool} {A : Option Addr} {n c : Nat} {z : Int} (h : Zn w b A n c z) (hb : Below w.heap.size w w') : Zn w' b A n c z := ⟨h.1.on hb, h.2⟩
/-- A number with a side. -/
def sgn (b : Bool) (x : Nat) : Int := if b then -(x : Int) else (x : Int)
theorem sgn_abs (b : Bool) (x : Nat) : (sgn b x).natAbs = x := by unfold sgn; split <;> omega
theorem Zn.eq {w : World} {b : Bool} {A : Option Addr} {n c : Nat} {z : Int} (h : Zn w b A n c z) : z = sgn b z.natAbs := by
  rw [h.2]; unfold sgn
  by_cases hz : z < 0
  · simp [hz]; omega
  · simp [hz]; omega
/-- A call has answered an integer. -/
def GotZ (w : World) (z : Int) (e : Ending) (w' : World) : Prop := ∃ b A n c, e = .returned (.agg #[.bool b, .slice A n c]) ∧ Zn w' b A n c z ∧ Below w.heap.size w w'
theorem bcell {W w1 : World} (hb : Below W.heap.size W w1) : (∀ b o, b < W.heap.size → w1.cell? ⟨b, o, none⟩ = W.cell? ⟨b, o, none⟩) ∧ (∀ b o, b < W.heap.size → w1.frozen? ⟨b, o, none⟩ = W.frozen? ⟨b, o, none⟩) :=
  ⟨fun b o h => hb.cell (p := ⟨b, o, none⟩) h, fun b o h => hb.frozen (p := ⟨b, o, none⟩) h⟩

theorem made_N {w : World} {A : Option Addr} {n c x : Nat} (b : Bool) (ha : Num w A n c x) (hn : n ≤ 1000000) : Calls Try.prog 32 #[.bool b, .slice A n c] w (GotZ w (sgn b x)) := by
  have hl := ha.len
  by_cases h0 : n = 0
  · subst h0
    have hx : x = 0 := by
      have h2 := val_limbs x
      rw [List.eq_nil_of_length_eq_zero hl.symm] at h2
      exact h2.symm
    subst hx
    have hz : Zn w false A 0 c (sgn b 0) := by
      refine ⟨by rw [sgn_abs]; exact ha, ?_⟩
      unfold sgn; split <;> rfl
    clear hl
    cases b
    all_goals
      go_enter Try.func32, Try.ntmps32
      go_wp2_with fail
      refine bodyPost_ret (v := .agg #[.bool false, .slice A 0 c]) (by simp [results, Try.results32, go_sem]) rfl ⟨_, _, _, _, rfl, hz.on ?_, ?_⟩
      all_goals exact (Below.refl _ w).alloc (Nat.le_refl _) _
  · have hx : x ≠ 0 := fun h => by rw [h, limbs_zero] at hl; simp at hl; omega
    have hn0 : (0 : Int) < (n : Int) := by omega
    have hz : Zn w b A n c (sgn b x) := by
      refine ⟨by rw [sgn_abs]; exact ha, ?_⟩
      unfold sgn
      cases b
      · simp
      · simp; omega
    clear hl
    cases b
    all_goals
      go_enter Try.func32, Try.ntmps32
      go_wp2_with fail
    · refine bodyPost_ret (v := .agg #[.bool false, .slice A n c]) (by simp [results, Try.results32, go_sem]) rfl ⟨_, _, _, _, rfl, hz.on ?_, ?_⟩
      all_goals exact (Below.refl _ w).alloc (Nat.le_refl _) _
    · refine bodyPost_ret (v := .agg #[.bool true, .slice A n c]) (by simp [results, Try.results32, go_sem]; omega) rfl ⟨_, _, _, _, rfl, hz.on ?_, ?_⟩
      all_goals exact (Below.refl _ w).alloc (Nat.le_refl _) _

/-- The boxes of two structs that came in. -/
theorem below_two (w : World) (o o' : Obj) : Below w.heap.size w ((w.alloc o).alloc o') := ((Below.refl _ w).alloc (Nat.le_refl _) _).alloc (by simp) _
theorem below_one (w : World) (o : Obj) : Below w.heap.size w (w.alloc o) := (Below.refl _ w).alloc (Nat.le_refl _) _

/-- An integer's form is right. -/
def okZ (b : Bool) (n : Nat) (l : List Nat) : Bool := canon l && (decide (0 < n) || !b)

theorem zn_inj {w w' : World} {b b' : Bool} {A B : Option Addr} {n c m d : Nat} {z z' : Int} (ha : Zn w b A n c z) (hb : Zn w' b' B m d z') : (z = z' ↔ b = b' ∧ z.natAbs = z'.natAbs) := by
  constructor
  · intro h; subst h; exact ⟨ha.2.trans hb.2.symm, rfl⟩
  · intro ⟨h1, h2⟩
    rw [ha.eq, hb.eq, h1, h2]

theorem Zn.stored {w : World} {s : Nat} {b b0 : Bool} {A A0 : Option Addr} {n c n0 c0 : Nat} {z : Int} (h : Zn w b A n c z) (h0 : w.cell? ⟨s, 0, none⟩ = some (.bool b0)) (h1 : w.cell? ⟨s, 1, none⟩ = some (.slice A0 n0 c0)) :
    Zn ((w.setCell ⟨s, 0, none⟩ (.bool b)).setCell ⟨s, 1, none⟩ (.slice A n c)) b A n c z := by
  refine ⟨(h.1.set_other h0 (fun _ _ e => by cases e)).set_other (u := .slice A0 n0 c0) ?_ (fun _ _ e => by cases e), h.2⟩
  have hne : (⟨s, 0, none⟩ : Addr) ≠ ⟨s, 1, none⟩ := fun e => by injection e with _ e2; omega
  rw [World.cell?_setCell_other (h := hne)]
  exact h1

theorem sgn_neg {b : Bool} {z : Int} (hb : b = decide (z < 0)) : sgn (!b) z.natAbs = -z := by
  subst hb; unfold sgn
  by_cases h : z < 0
  · simp [h]; omega
  · simp [h]; omega

theorem rzneg_N {w : World} {b : Bool} {A : Option Addr} {n c : Nat} {z : Int} (ha : Zn w b A n c z) (hx : (limbs z.natAbs).length ≤ 1000000) :
    Calls Try.prog 46 #[.agg #[.bool b, .slice A n c]] w (GotZ w (-z)) := by
  have hs := sgn_neg ha.2
  have hn : n ≤ 1000000 := by rw [ha.1.len]; exact hx
  obtain ⟨W, hW⟩ : ∃ W, (w.alloc (.cells #[.bool b, .slice A n c] 29)).alloc (.cells #[.bool false, .slice none 0 0] 29) = W := ⟨_, rfl⟩
  have hB := below_two w (.cells #[.bool b, .slice A n c] 29) (.cells #[.bool false, .slice none 0 0] 29)
  have ha' := ha.1.on hB
  have HS := Lib.hid hs
  clear hs hW
  go_enter Try.func46, Try.ntmps46
  go_wp2_with fail
  refine (made_N (!b) ha' hn).mono ?_
  rintro e w1 ⟨b1, A1, n1, c1, rfl, hz, hb1⟩
  rw [HS.out] at hz
  obtain ⟨hc, hf⟩ := bcell hb1
  have hsz := hb1.size
  simp at hsz
  have e0 := (hc (w.heap.size + 1) 0 (by simp)).trans (show _ = some (.bool false) by simp)
  have e1 := (hc (w.heap.size + 1) 1 (by simp)).trans (show _ = some (.slice none 0 0) by simp)
  have HZ := Lib.hid (hz.stored e0 e1)
  have HB : Below w.heap.size w w1 := hB.trans (hb1.mono hB.size)
  go_wp2_with fail
  refine bodyPost_ret (v := .agg #[.bool b1, .slice A1 n1 c1]) (by simp [results, Try.results46, go_sem, e0, e1]) rfl ⟨_, _, _, _, rfl, HZ.out, ?_⟩
  exact (HB.setCell (p := ⟨w.heap.size + 1, 0, none⟩) (Nat.le_succ _) _).setCell (p := ⟨w.heap.size + 1, 1, none⟩) (Nat.le_succ _) _


end Go.Proofs.Ytpephogadljncaa

/-
  Facts carried over what a call does: short names, so that texts stay short.
-/
namespace Go.Proofs.Ytpephogadljncaa
open Go.RowKit
theorem cK {n : Nat} {w w' : World} (b : Below n w w') {p : Addr} {v : Option Value} (h : w.cell? p = v) (l : p.block < n) : w'.cell? p = v := (b.cell l).trans h
theorem fK {n : Nat} {w w' : World} (b : Below n w w') {p : Addr} {v : Bool} (h : w.frozen? p = v) (l : p.block < n) : w'.frozen? p = v := (b.frozen l).trans h
theorem lK {n : Nat} {w w' : World} (b : Below n w w') {a : Nat} (l : a < w.heap.size) : a < w'.heap.size := Nat.lt_of_lt_of_le l b.size
theorem bK {w w1 w2 : World} (c : Below w.heap.size w w1) (b : Below w1.heap.size w1 w2) : Below w.heap.size w w2 := c.trans (b.mono c.size)
theorem cR {n : Nat} {w w' : World} (b : Below n w w') {g i : Nat} (l : g < n) : w.cell? ⟨g, i, none⟩ = w'.cell? ⟨g, i, none⟩ := (b.cell (p := ⟨g, i, none⟩) l).symm
theorem fR {n : Nat} {w w' : World} (b : Below n w w') {g i : Nat} (l : g < n) : w.frozen? ⟨g, i, none⟩ = w'.frozen? ⟨g, i, none⟩ := (b.frozen (p := ⟨g, i, none⟩) l).symm
/-- A new box's cells, and that they may be written. -/
def Cs2 (w : World) (g : Nat) (a b : Value) : Prop := w.cell? ⟨g, 0, none⟩ = some a ∧ w.cell? ⟨g, 1, none⟩ = some b
def Cs3 (w : World) (g : Nat) (a b c : Value) : Prop := w.cell? ⟨g, 0, none⟩ = some a ∧ w.cell? ⟨g, 1, none⟩ = some b ∧ w.cell? ⟨g, 2, none⟩ = some c
def Cs6 (w : World) (g : Nat) (a b c d e f : Value) : Prop := w.cell? ⟨g, 0, none⟩ = some a ∧ w.cell? ⟨g, 1, none⟩ = some b ∧ w.cell? ⟨g, 2, none⟩ = some c ∧ w.cell? ⟨g, 3, none⟩ = some d ∧ w.cell? ⟨g, 4, none⟩ = some e ∧ w.cell? ⟨g, 5, none⟩ = some f
def Fz2 (w : World) (g : Nat) : Prop := w.frozen? ⟨g, 0, none⟩ = false ∧ w.frozen? ⟨g, 1, none⟩ = false
def Fz3 (w : World) (g : Nat) : Prop := w.frozen? ⟨g, 0, none⟩ = false ∧ w.frozen? ⟨g, 1, none⟩ = false ∧ w.frozen? ⟨g, 2, none⟩ = false
def Fz6 (w : World) (g : Nat) : Prop := w.frozen? ⟨g, 0, none⟩ = false ∧ w.frozen? ⟨g, 1, none⟩ = false ∧ w.frozen? ⟨g, 2, none⟩ = false ∧ w.frozen? ⟨g, 3, none⟩ = false ∧ w.frozen? ⟨g, 4, none⟩ = false ∧ w.frozen? ⟨g, 5, none⟩ = false
theorem pT {α : Type} : (∀ (l : List α) (i : Nat) (h : i < l.toArray.size), l.toArray[i]'h = l[i]'(by simpa using h)) ∧ (∀ (a : α) (l : List α) (h : 0 < (a :: l).length), (a :: l)[0]'h = a) ∧ (∀ (a : α) (l : List α) (i : Nat) (h : i + 1 < (a :: l).length), (a :: l)[i + 1]'h = l[i]'(by simpa using h)) ∧ (∀ (l : List α) (i : Nat) (v : α), l.toArray.setIfInBounds i v = (l.set i v).toArray) ∧ (∀ (a : α) (l : List α) (v : α), (a :: l).set 0 v = v :: l) ∧ (∀ (a : α) (l : List α) (i : Nat) (v : α), (a :: l).set (i + 1) v = a :: l.set i v) :=
  ⟨fun _ _ _ => by simp, fun _ _ _ => rfl, fun _ _ _ _ => rfl, fun _ _ _ => by simp, fun _ _ _ => rfl, fun _ _ _ _ => rfl⟩
theorem cl_lt {w : World} {p : Addr} {v : Value} (h : w.cell? p = some v) : p.block < w.heap.size := by
  rcases Nat.lt_or_ge p.block w.heap.size with h1 | h1
  · exact h1
  · simp [World.cell?, Array.getElem?_eq_none h1] at h
theorem zb2 {n g : Nat} {w w' : World} (q : Below n w w') (l : g < n) (c : Cs2 w g (.bool false) (.slice none 0 0)) (f : Fz2 w g) : w'.cell? ⟨g, 0, none⟩ = some (.bool false) ∧ w'.frozen? ⟨g, 0, none⟩ = false ∧ w'.cell? ⟨g, 1, none⟩ = some (.slice none 0 0) ∧ w'.frozen? ⟨g, 1, none⟩ = false ∧ g < w'.heap.size := ⟨cK q c.1 l, fK q f.1 l, cK q c.2 l, fK q f.2 l, Nat.lt_of_lt_of_le (cl_lt c.1) q.size⟩
theorem zb3 {n g : Nat} {w w' : World} (q : Below n w w') (l : g < n) (c : Cs3 w g (.bool false) (.slice none 0 0) (.slice none 0 0)) (f : Fz3 w g) : w'.cell? ⟨g, 0, none⟩ = some (.bool false) ∧ w'.frozen? ⟨g, 0, none⟩ = false ∧ w'.cell? ⟨g, 1, none⟩ = some (.slice none 0 0) ∧ w'.frozen? ⟨g, 1, none⟩ = false ∧ w'.cell? ⟨g, 2, none⟩ = some (.slice none 0 0) ∧ w'.frozen? ⟨g, 2, none⟩ = false ∧ g < w'.heap.size := ⟨cK q c.1 l, fK q f.1 l, cK q c.2.1 l, fK q f.2.1 l, cK q c.2.2 l, fK q f.2.2 l, Nat.lt_of_lt_of_le (cl_lt c.1) q.size⟩
theorem zb6 {n g : Nat} {w w' : World} (q : Below n w w') (l : g < n) (c : Cs6 w g (.bool false) (.slice none 0 0) (.slice none 0 0) (.bool false) (.slice none 0 0) (.slice none 0 0)) (f : Fz6 w g) : w'.cell? ⟨g, 0, none⟩ = some (.bool false) ∧ w'.frozen? ⟨g, 0, none⟩ = false ∧ w'.cell? ⟨g, 1, none⟩ = some (.slice none 0 0) ∧ w'.frozen? ⟨g, 1, none⟩ = false ∧ w'.cell? ⟨g, 2, none⟩ = some (.slice none 0 0) ∧ w'.frozen? ⟨g, 2, none⟩ = false ∧ w'.cell? ⟨g, 3, none⟩ = some (.bool false) ∧ w'.frozen? ⟨g, 3, none⟩ = false ∧ w'.cell? ⟨g, 4, none⟩ = some (.slice none 0 0) ∧ w'.frozen? ⟨g, 4, none⟩ = false ∧ w'.cell? ⟨g, 5, none⟩ = some (.slice none 0 0) ∧ w'.frozen? ⟨g, 5, none⟩ = false ∧ g < w'.heap.size := ⟨cK q c.1 l, fK q f.1 l, cK q c.2.1 l, fK q f.2.1 l, cK q c.2.2.1 l, fK q f.2.2.1 l, cK q c.2.2.2.1 l, fK q f.2.2.2.1 l, cK q c.2.2.2.2.1 l, fK q f.2.2.2.2.1 l, cK q c.2.2.2.2.2 l, fK q f.2.2.2.2.2 l, Nat.lt_of_lt_of_le (cl_lt c.1) q.size⟩
theorem uK {V y z x : World} (qq : Below V.heap.size V y) (up : Below y.heap.size y z) (q : Below z.heap.size z x) : Below V.heap.size V x := (qq.trans (up.mono qq.size)).trans (q.mono (Nat.le_trans qq.size up.size))
/-- An operation of a region is taken: one that yields, and one that is passed over. -/
theorem tY {P : Program} {md : Region.Mode} {ops : Array Oper} {Q : Exit → Act → World → Prop} {S : World → Prop} {i fuel : Nat} {oi : Oper} {v : Value} {listed : Array Bool} {a : Act} {w : World} (hi : ops[i]? = some oi)
    (hv : ∀ w, S w → (execOp a.eval oi).run P w = .ok (.value v) w) (hS : S w) (h : wpAnyH P md ops Q S fuel (listed.setIfInBounds i true) (a.put oi.dst v) w)
    (hs : Region.noSelect ops = true := by kernel_rfl) (hf : Region.free md ops listed i = true := by kernel_rfl) (hr : (Region.ready md ops listed).contains i = true := by kernel_rfl)
    (hQ : ∀ c a w, Q (.panic c) (a.put oi.dst v) w → Q (.panic c) a w := by exact fun _ _ _ h => h) (hw : Region.wanted oi (yielded ops a.tmps) = true := by rfl) : wpAnyH P md ops Q S (fuel + 1) listed a w :=
  wpAnyH_take hi hs hf hr hQ (.inl ⟨hw, hv⟩) hS h
theorem tU {P : Program} {md : Region.Mode} {ops : Array Oper} {Q : Exit → Act → World → Prop} {S : World → Prop} {i fuel : Nat} {oi : Oper} {listed : Array Bool} {a : Act} {w : World} (hi : ops[i]? = some oi)
    (hS : S w) (h : wpAnyH P md ops Q S fuel (listed.setIfInBounds i true) (a.put oi.dst undef) w)
    (hs : Region.noSelect ops = true := by kernel_rfl) (hf : Region.free md ops listed i = true := by kernel_rfl) (hr : (Region.ready md ops listed).contains i = true := by kernel_rfl)
    (hQ : ∀ c a w, Q (.panic c) (a.put oi.dst undef) w → Q (.panic c) a w := by exact fun _ _ _ h => h) (hw : Region.wanted oi (yielded ops a.tmps) = false := by rfl) : wpAnyH P md ops Q S (fuel + 1) listed a w :=
  wpAnyH_take hi hs hf hr hQ (.inr ⟨hw, rfl⟩) hS h
end Go.Proofs.Ytpephogadljncaa

/-
  The contracts of the fourth reference: Cmp, Mul, Add, Of, Int, Few.
-/
namespace Go.Proofs.Ytpephogadljncaa
set_option maxRecDepth 100000
open Go.RowKit

/-- Which of two integers is greater. -/
def cmpZ (a b : Int) : Int := if a < b then -1 else if b < a then 1 else 0
theorem cmpN_bd (a b : Nat) : -1 ≤ cmpN a b ∧ cmpN a b ≤ 1 := by unfold cmpN; split <;> (try split) <;> omega
theorem cmpZ_neg {z z' : Int} (h : z < 0) (h' : z' < 0) : cmpZ z z' = -cmpN z.natAbs z'.natAbs := by
  unfold cmpZ cmpN
  by_cases h1 : z < z'
  · rw [if_pos h1, if_neg (by omega), if_pos (by omega)]
  · rw [if_neg h1]
    by_cases h2 : z' < z
    · rw [if_pos h2, if_pos (by omega)]; rfl
    · rw [if_neg h2, if_neg (by omega), if_neg (by omega)]; rfl
theorem cmpZ_pos {z z' : Int} (h : ¬ z < 0) (h' : ¬ z' < 0) : cmpZ z z' = cmpN z.natAbs z'.natAbs := by
  have e1 : (z < z') ↔ (z.natAbs < z'.natAbs) := by omega
  have e2 : (z' < z) ↔ (z'.natAbs < z.natAbs) := by omega
  unfold cmpZ cmpN
  simp only [e1, e2]
theorem cmpZ_np {z z' : Int} (h : z < 0) (h' : ¬ z' < 0) : cmpZ z z' = -1 := by unfold cmpZ; rw [if_pos (by omega)]
theorem cmpZ_pn {z z' : Int} (h : ¬ z < 0) (h' : z' < 0) : cmpZ z z' = 1 := by unfold cmpZ; rw [if_neg (by omega), if_pos (by omega)]

theorem sgn_mul {b b' : Bool} {z z' : Int} (hb : b = decide (z < 0)) (hb' : b' = decide (z' < 0)) : sgn (b != b') (z.natAbs * z'.natAbs) = z * z' := by
  subst hb; subst hb'
  obtain ⟨x, hx⟩ : ∃ x : Nat, z.natAbs = x := ⟨_, rfl⟩
  obtain ⟨y, hy⟩ : ∃ y : Nat, z'.natAbs = y := ⟨_, rfl⟩
  unfold sgn
  by_cases h1 : z < 0
  · have e1 : z = -(x : Int) := by omega
    by_cases h2 : z' < 0
    · have e2 : z' = -(y : Int) := by omega
      simp only [h1, h2, hx, hy]
      simp [e1, e2, Int.neg_mul_neg]
    · have e2 : z' = (y : Int) := by omega
      simp only [h1, h2, hx, hy]
      simp [e1, e2, Int.neg_mul]
  · have e1 : z = (x : Int) := by omega
    by_cases h2 : z' < 0
    · have e2 : z' = -(y : Int) := by omega
      simp only [h1, h2, hx, hy]
      simp [e1, e2, Int.mul_neg]
    · have e2 : z' = (y : Int) := by omega
      simp only [h1, h2, hx, hy]
      simp [e1, e2]

theorem cell_store {w : World} {s b o : Nat} {u v : Value} (h : b ≠ s) : ((w.setCell ⟨s, 0, none⟩ u).setCell ⟨s, 1, none⟩ v).cell? ⟨b, o, none⟩ = w.cell? ⟨b, o, none⟩ := by
  have h0 : (⟨s, 0, none⟩ : Addr) ≠ ⟨b, o, none⟩ := fun e => by injection e with e1; omega
  have h1 : (⟨s, 1, none⟩ : Addr) ≠ ⟨b, o, none⟩ := fun e => by injection e with e1; omega
  rw [World.cell?_setCell_other (h := h1), World.cell?_setCell_other (h := h0)]

set_option maxHeartbeats 2000000 in
theorem rzmul_N {w : World} {b b' : Bool} {A B : Option Addr} {n c m d : Nat} {z z' : Int} (ha : Zn w b A n c z) (hb : Zn w b' B m d z') (hx : (limbs z.natAbs).length ≤ 1000) (hy : (limbs z'.natAbs).length ≤ 1000) :
    Calls Try.prog 23 #[.agg #[.bool b, .slice A n c], .agg #[.bool b', .slice B m d]] w (GotZ w (z * z')) := by
  obtain ⟨W, hW⟩ : ∃ W, ((w.alloc (.cells #[.bool b, .slice A n c] 29)).alloc (.cells #[.bool b', .slice B m d] 29)).alloc (.cells #[.bool false, .slice none 0 0] 29) = W := ⟨_, rfl⟩
  have hB : Below w.heap.size w W := by rw [← hW]; exact (below_two w (.cells #[.bool b, .slice A n c] 29) (.cells #[.bool b', .slice B m d] 29)).alloc (by simp; omega) (.cells #[.bool false, .slice none 0 0] 29)
  have hsz : W.heap.size = w.heap.size + 3 := by rw [← hW]; simp
  have hBd : Below w.heap.size w W.drew := below_drewN hB 1
  have ha' : Num W.drew A n c z.natAbs := ha.1.on hBd
  have hb' : Num W.drew B m d z'.natAbs := hb.1.on hBd
  have c1 : W.cell? ⟨w.heap.size, 0, none⟩ = some (.bool b) := by rw [← hW]; simp [go_sem]
  have c2 : W.cell? ⟨w.heap.size, 1, none⟩ = some (.slice A n c) := by rw [← hW]; simp [go_sem]
  have c3 : W.cell? ⟨w.heap.size + 1, 0, none⟩ = some (.bool b') := by rw [← hW]; simp [go_sem]
  have c4 : W.cell? ⟨w.heap.size + 1, 1, none⟩ = some (.slice B m d) := by rw [← hW]; simp [go_sem]
  have c5 : W.cell? ⟨w.heap.size + 1 + 1, 0, none⟩ = some (.bool false) := by rw [← hW]; simp [go_sem]
  have c6 : W.cell? ⟨w.heap.size + 1 + 1, 1, none⟩ = some (.slice none 0 0) := by rw [← hW]; simp [go_sem]
  have c7 : W.frozen? ⟨w.heap.size + 1 + 1, 0, none⟩ = false := by rw [← hW]; simp [go_sem]
  have c8 : W.frozen? ⟨w.heap.size + 1 + 1, 1, none⟩ = false := by rw [← hW]; simp [go_sem]
  have HS : Hid (sgn (!(b == b')) (z.natAbs * z'.natAbs) = z * z') := Lib.hid (sgn_mul ha.2 hb.2)
  have hl := limbs_length_mul hx hy
  have hcall : Calls Try.prog 16 #[.slice A n c, .slice B m d] W.drew fun e w' => ∃ A1 n1 c1, e = .returned (.slice A1 n1 c1) ∧ Num w' A1 n1 c1 (z.natAbs * z'.natAbs) ∧ Below W.heap.size W w' := (rmul_N ha' hb' (by omega) (by omega)).mono fun _ _ ⟨A1, n1, c1, he, hm, hb⟩ => ⟨A1, n1, c1, he, hm, ⟨hb.os, hb.tape, hb.output, hb.size, hb.block⟩⟩
  have HC := Lib.hid hcall
  have HW := Lib.hid hW
  clear hcall
  go_enter Try.func23, Try.ntmps23
  go_wp2_with fail
  clear hW HW
  go_region_held3 (fun w' => w'.cell? ⟨w.heap.size, 0, none⟩ = some (.bool b) ∧ w'.cell? ⟨w.heap.size, 1, none⟩ = some (.slice A n c) ∧ w'.cell? ⟨w.heap.size + 1, 0, none⟩ = some (.bool b') ∧ w'.cell? ⟨w.heap.size + 1, 1, none⟩ = some (.slice B m d))
    (first | exact ⟨(cell_store (by omega)).trans ((hb1.cell (p := ⟨w.heap.size, 0, none⟩) (by simp; omega)).trans c1), (cell_store (by omega)).trans ((hb1.cell (p := ⟨w.heap.size, 1, none⟩) (by simp; omega)).trans c2), (cell_store (by omega)).trans ((hb1.cell (p := ⟨w.heap.size + 1, 0, none⟩) (by simp; omega)).trans c3), (cell_store (by omega)).trans ((hb1.cell (p := ⟨w.heap.size + 1, 1, none⟩) (by simp; omega)).trans c4)⟩ | go_keep | exact ⟨(hb1.cell (p := ⟨w.heap.size, 0, none⟩) (by simp; omega)).trans c1, (hb1.cell (p := ⟨w.heap.size, 1, none⟩) (by simp; omega)).trans c2, (hb1.cell (p := ⟨w.heap.size + 1, 0, none⟩) (by simp; omega)).trans c3, (hb1.cell (p := ⟨w.heap.size + 1, 1, none⟩) (by simp; omega)).trans c4⟩)
    (first
      | (go_at_call 16; (with_reducible refine HC.out.mono ?_); rintro e w1 ⟨A1, n1, k1, rfl, hm, hb1⟩)
      | (go_at_call 32; (with_reducible refine (made_N _ hm (by rw [hm.len]; omega)).mono ?_); rintro e w2 ⟨b2, A2, n2, k2, rfl, hz2, hb2⟩; replace hb1 := bK hb1 hb2; have e5 := (hb1.cell (p := ⟨w.heap.size + 1 + 1, 0, none⟩) (by simp; omega)).trans c5; have e6 := (hb1.cell (p := ⟨w.heap.size + 1 + 1, 1, none⟩) (by simp; omega)).trans c6; have e7 := (hb1.frozen (p := ⟨w.heap.size + 1 + 1, 0, none⟩) (by simp; omega)).trans c7; have e8 := (hb1.frozen (p := ⟨w.heap.size + 1 + 1, 1, none⟩) (by simp; omega)).trans c8))
  rw [HS.out] at hz2
  have HZ := Lib.hid (hz2.stored e5 e6)
  have HB : Below w.heap.size w w2 := hB.trans (hb1.mono hB.size)
  go_wp2_with fail
  refine bodyPost_ret (v := .agg #[.bool b2, .slice A2 n2 k2]) (by simp [results, Try.results23, go_sem, e5, e6]) rfl ⟨_, _, _, _, rfl, HZ.out, ?_⟩
  exact (HB.setCell (p := ⟨w.heap.size + 1 + 1, 0, none⟩) (show w.heap.size ≤ w.heap.size + 1 + 1 by omega) _).setCell (p := ⟨w.heap.size + 1 + 1, 1, none⟩) (show w.heap.size ≤ w.heap.size + 1 + 1 by omega) _

end Go.Proofs.Ytpephogadljncaa

/-
  The contracts of the fourth reference: Add, Of, Int.
-/
namespace Go.Proofs.Ytpephogadljncaa
set_option maxRecDepth 100000
set_option maxHeartbeats 2000000
open Go.RowKit

theorem sgn_same {b : Bool} {z z' : Int} (hb : b = decide (z < 0)) (hb' : b = decide (z' < 0)) : sgn b (z.natAbs + z'.natAbs) = z + z' := by
  by_cases h1 : z < 0
  · have h2 : z' < 0 := by simpa [h1] using hb.symm.trans hb'
    subst hb; unfold sgn; simp [h1]; omega
  · have h2 : ¬ z' < 0 := by have := hb.symm.trans hb'; simpa [h1] using this.symm
    subst hb; unfold sgn; simp [h1]; omega
theorem sgn_diff {b b' : Bool} {z z' : Int} (hb : b = decide (z < 0)) (hb' : b' = decide (z' < 0)) (hne : b ≠ b') (hle : z'.natAbs ≤ z.natAbs) : sgn b (z.natAbs - z'.natAbs) = z + z' := by
  subst hb; subst hb'
  unfold sgn
  by_cases h1 : z < 0
  · have h2 : ¬ z' < 0 := fun h => hne (by simp [h1, h])
    simp [h1]; omega
  · have h2 : z' < 0 := by
      by_cases h : z' < 0
      · exact h
      · exact absurd (by simp [h1, h]) hne
    simp [h1]; omega

/-- The boxes of two integers that came in, and of the one that goes out. -/
structure Box3 (w W : World) (b b' : Bool) (A B : Option Addr) (n c m d : Nat) : Prop where
  hB : Below w.heap.size w W
  sz : W.heap.size = w.heap.size + 3
  c1 : W.cell? ⟨w.heap.size, 0, none⟩ = some (.bool b)
  c2 : W.cell? ⟨w.heap.size, 1, none⟩ = some (.slice A n c)
  c3 : W.cell? ⟨w.heap.size + 1, 0, none⟩ = some (.bool b')
  c4 : W.cell? ⟨w.heap.size + 1, 1, none⟩ = some (.slice B m d)
  c5 : W.cell? ⟨w.heap.size + 1 + 1, 0, none⟩ = some (.bool false)
  c6 : W.cell? ⟨w.heap.size + 1 + 1, 1, none⟩ = some (.slice none 0 0)
  c7 : W.frozen? ⟨w.heap.size + 1 + 1, 0, none⟩ = false
  c8 : W.frozen? ⟨w.heap.size + 1 + 1, 1, none⟩ = false
theorem box3 {w W : World} {b b' : Bool} {A B : Option Addr} {n c m d : Nat} (hW : ((w.alloc (.cells #[.bool b, .slice A n c] 29)).alloc (.cells #[.bool b', .slice B m d] 29)).alloc (.cells #[.bool false, .slice none 0 0] 29) = W) : Box3 w W b b' A B n c m d := by
  refine ⟨?_, ?_, ?_, ?_, ?_, ?_, ?_, ?_, ?_, ?_⟩ <;> rw [← hW]
  · exact (below_two w (.cells #[.bool b, .slice A n c] 29) (.cells #[.bool b', .slice B m d] 29)).alloc (by simp; omega) (.cells #[.bool false, .slice none 0 0] 29)
  all_goals simp [go_sem]
theorem Box3.on {w W W' : World} {b b' : Bool} {A B : Option Addr} {n c m d : Nat} (h : Box3 w W b b' A B n c m d) (hb : Below W.heap.size W W') : Below w.heap.size w W' ∧ w.heap.size + 3 ≤ W'.heap.size ∧ W'.cell? ⟨w.heap.size, 0, none⟩ = some (.bool b) ∧ W'.cell? ⟨w.heap.size, 1, none⟩ = some (.slice A n c) ∧ W'.cell? ⟨w.heap.size + 1, 0, none⟩ = some (.bool b') ∧ W'.cell? ⟨w.heap.size + 1, 1, none⟩ = some (.slice B m d) ∧
    W'.cell? ⟨w.heap.size + 1 + 1, 0, none⟩ = some (.bool false) ∧ W'.cell? ⟨w.heap.size + 1 + 1, 1, none⟩ = some (.slice none 0 0) ∧ W'.frozen? ⟨w.heap.size + 1 + 1, 0, none⟩ = false ∧ W'.frozen? ⟨w.heap.size + 1 + 1, 1, none⟩ = false := by
  have hs := h.sz
  have hs' := hb.size
  refine ⟨h.hB.trans (hb.mono h.hB.size), by omega, ?_, ?_, ?_, ?_, ?_, ?_, ?_, ?_⟩
  · exact (hb.cell (p := ⟨w.heap.size, 0, none⟩) (by simp; omega)).trans h.c1
  · exact (hb.cell (p := ⟨w.heap.size, 1, none⟩) (by simp; omega)).trans h.c2
  · exact (hb.cell (p := ⟨w.heap.size + 1, 0, none⟩) (by simp; omega)).trans h.c3
  · exact (hb.cell (p := ⟨w.heap.size + 1, 1, none⟩) (by simp; omega)).trans h.c4
  · exact (hb.cell (p := ⟨w.heap.size + 1 + 1, 0, none⟩) (by simp; omega)).trans h.c5
  · exact (hb.cell (p := ⟨w.heap.size + 1 + 1, 1, none⟩) (by simp; omega)).trans h.c6
  · exact (hb.frozen (p := ⟨w.heap.size + 1 + 1, 0, none⟩) (by simp; omega)).trans h.c7
  · exact (hb.frozen (p := ⟨w.heap.size + 1 + 1, 1, none⟩) (by simp; omega)).trans h.c8

theorem below_undrew {W w' : World} (hb : Below W.drew.heap.size W.drew w') : Below W.heap.size W w' := ⟨hb.os, hb.tape, hb.output, hb.size, hb.block⟩

theorem rzadd_same {w : World} {b : Bool} {A B : Option Addr} {n c m d : Nat} {z z' : Int} (ha : Zn w b A n c z) (hb : Zn w b B m d z') (hx : (limbs z.natAbs).length ≤ 1000) (hy : (limbs z'.natAbs).length ≤ 1000) :
    Calls Try.prog 21 #[.agg #[.bool b, .slice A n c], .agg #[.bool b, .slice B m d]] w (GotZ w (z + z')) := by
  obtain ⟨W, hW⟩ : ∃ W, ((w.alloc (.cells #[.bool b, .slice A n c] 29)).alloc (.cells #[.bool b, .slice B m d] 29)).alloc (.cells #[.bool false, .slice none 0 0] 29) = W := ⟨_, rfl⟩
  have X := box3 hW
  have hBd : Below w.heap.size w W.drew := below_drewN X.hB 1
  have ha' : Num W.drew A n c z.natAbs := ha.1.on hBd
  have hb' : Num W.drew B m d z'.natAbs := hb.1.on hBd
  have HS := Lib.hid (sgn_same ha.2 hb.2)
  have hl := limbs_length_add hx hy
  have hcall : Calls Try.prog 24 #[.slice A n c, .slice B m d] W.drew fun e w' => ∃ A1 n1 c1, e = .returned (.slice A1 n1 c1) ∧ Num w' A1 n1 c1 (z.natAbs + z'.natAbs) ∧ Below W.heap.size W w' := (radd_N ha' hb' (by omega) (by omega)).mono fun _ _ ⟨A1, n1, c1, he, hm, hb⟩ => ⟨A1, n1, c1, he, hm, below_undrew hb⟩
  have HC := Lib.hid hcall
  have hc1 := X.c1
  have hc2 := X.c2
  have hc3 := X.c3
  have hc4 := X.c4
  clear hcall
  go_enter Try.func21, Try.ntmps21
  go_wp2_with fail
  clear hW
  go_region_held3 (fun w' => w'.cell? ⟨w.heap.size, 0, none⟩ = some (.bool b) ∧ w'.cell? ⟨w.heap.size, 1, none⟩ = some (.slice A n c) ∧ w'.cell? ⟨w.heap.size + 1, 0, none⟩ = some (.bool b) ∧ w'.cell? ⟨w.heap.size + 1, 1, none⟩ = some (.slice B m d))
    (first | exact ⟨(cell_store (by omega)).trans (X.on hb1).2.2.1, (cell_store (by omega)).trans (X.on hb1).2.2.2.1, (cell_store (by omega)).trans (X.on hb1).2.2.2.2.1, (cell_store (by omega)).trans (X.on hb1).2.2.2.2.2.1⟩ | go_keep | exact ⟨(X.on hb1).2.2.1, (X.on hb1).2.2.2.1, (X.on hb1).2.2.2.2.1, (X.on hb1).2.2.2.2.2.1⟩)
    (first
      | (go_at_call 24; (with_reducible refine HC.out.mono ?_); rintro e w1 ⟨A1, n1, k1, rfl, hm, hb1⟩)
      | (go_at_call 32; (with_reducible refine (made_N _ hm (by rw [hm.len]; omega)).mono ?_); rintro e w2 ⟨b2, A2, n2, k2, rfl, hz2, hb2⟩; replace hb1 := bK hb1 hb2; have e5 := (X.on hb1).2.2.2.2.2.2.1; have e6 := (X.on hb1).2.2.2.2.2.2.2.1; have e7 := (X.on hb1).2.2.2.2.2.2.2.2.1; have e8 := (X.on hb1).2.2.2.2.2.2.2.2.2))
  rw [HS.out] at hz2
  have HZ := Lib.hid (hz2.stored e5 e6)
  have HB := (X.on hb1).1
  go_wp2_with fail
  refine bodyPost_ret (v := .agg #[.bool b2, .slice A2 n2 k2]) (by simp [results, Try.results21, go_sem, e5, e6]) rfl ⟨_, _, _, _, rfl, HZ.out, ?_⟩
  exact (HB.setCell (p := ⟨w.heap.size + 1 + 1, 0, none⟩) (show w.heap.size ≤ w.heap.size + 1 + 1 by omega) _).setCell (p := ⟨w.heap.size + 1 + 1, 1, none⟩) (show w.heap.size ≤ w.heap.size + 1 + 1 by omega) _

theorem rzadd_first {w : World} {b b' : Bool} {A B : Option Addr} {n c m d : Nat} {z z' : Int} (ha : Zn w b A n c z) (hb : Zn w b' B m d z') (hx : (limbs z.natAbs).length ≤ 1000) (hy : (limbs z'.natAbs).length ≤ 1000) (hne : b ≠ b') (hle : z'.natAbs ≤ z.natAbs) :
    Calls Try.prog 21 #[.agg #[.bool b, .slice A n c], .agg #[.bool b', .slice B m d]] w (GotZ w (z + z')) := by
  obtain ⟨W, hW⟩ : ∃ W, ((w.alloc (.cells #[.bool b, .slice A n c] 29)).alloc (.cells #[.bool b', .slice B m d] 29)).alloc (.cells #[.bool false, .slice none 0 0] 29) = W := ⟨_, rfl⟩
  have X := box3 hW
  have ha' := ha.1.on X.hB
  have hb' := hb.1.on X.hB
  have HS := Lib.hid (sgn_diff ha.2 hb.2 hne hle)
  have hl : (limbs (z.natAbs - z'.natAbs)).length ≤ 1000 := Nat.le_trans (limbs_length_mono (Nat.sub_le _ _)) (by assumption)
  have hcm : 0 ≤ cmpN z.natAbs z'.natAbs := by
    rcases Nat.lt_or_ge z'.natAbs z.natAbs with h | h
    · rw [cmpN_gt h]; omega
    · rw [cmpN_zero.2 (by omega)]; omega
  have hneb : (b == b') = false := by simp [hne]
  have hc1 := X.c1
  have hc2 := X.c2
  have hc3 := X.c3
  have hc4 := X.c4
  go_enter Try.func21, Try.ntmps21
  go_wp2_with fail
  clear hW
  refine (rcmp_N ha' hb' (by omega) (by omega)).mono ?_
  rintro e w1 ⟨rfl, b1⟩
  have ha1 := ha'.on b1
  have hb1' := hb'.on b1
  obtain ⟨-, -, d1, d2, d3, d4, -, -, -, -⟩ := X.on b1
  clear ha' hb' hc1 hc2 hc3 hc4
  go_wp2_with fail
  refine (rsub_N ha1 hb1' (by omega) (by omega) hle).mono ?_
  rintro e w2 ⟨A2, n2, c2, rfl, hm, b2⟩
  have b12 := b1.trans (b2.mono b1.size)
  obtain ⟨-, -, f1, f2, f3, f4, -, -, -, -⟩ := X.on b12
  clear ha1 hb1' d1 d2 d3 d4 b1 b2
  go_wp2_with fail
  refine (made_N _ hm (by rw [hm.len]; omega)).mono ?_
  rintro e w3 ⟨b3, A3, n3, k3, rfl, hz3, b3'⟩
  have b13 := b12.trans (b3'.mono b12.size)
  obtain ⟨HB, -, -, -, -, -, e5, e6, e7, e8⟩ := X.on b13
  rw [HS.out] at hz3
  have HZ := Lib.hid (hz3.stored e5 e6)
  clear b12 b13 b3' f1 f2 f3 f4 hz3
  go_wp2_with fail
  refine bodyPost_ret (v := .agg #[.bool b3, .slice A3 n3 k3]) (by simp [results, Try.results21, go_sem, e5, e6]) rfl ⟨_, _, _, _, rfl, HZ.out, ?_⟩
  exact (HB.setCell (p := ⟨w.heap.size + 1 + 1, 0, none⟩) (show w.heap.size ≤ w.heap.size + 1 + 1 by omega) _).setCell (p := ⟨w.heap.size + 1 + 1, 1, none⟩) (show w.heap.size ≤ w.heap.size + 1 + 1 by omega) _

theorem rzadd_second {w : World} {b b' : Bool} {A B : Option Addr} {n c m d : Nat} {z z' : Int} (ha : Zn w b A n c z) (hb : Zn w b' B m d z') (hx : (limbs z.natAbs).length ≤ 1000) (hy : (limbs z'.natAbs).length ≤ 1000) (hne : b ≠ b') (hlt : z.natAbs < z'.natAbs) :
    Calls Try.prog 21 #[.agg #[.bool b, .slice A n c], .agg #[.bool b', .slice B m d]] w (GotZ w (z + z')) := by
  obtain ⟨W, hW⟩ : ∃ W, ((w.alloc (.cells #[.bool b, .slice A n c] 29)).alloc (.cells #[.bool b', .slice B m d] 29)).alloc (.cells #[.bool false, .slice none 0 0] 29) = W := ⟨_, rfl⟩
  have X := box3 hW
  have ha' := ha.1.on X.hB
  have hb' := hb.1.on X.hB
  have HS := Lib.hid ((sgn_diff hb.2 ha.2 (fun e => hne e.symm) (by omega)).trans (Int.add_comm z' z))
  have hl : (limbs (z'.natAbs - z.natAbs)).length ≤ 1000 := Nat.le_trans (limbs_length_mono (Nat.sub_le _ _)) (by assumption)
  have hcm : ¬ 0 ≤ cmpN z.natAbs z'.natAbs := by rw [cmpN_lt hlt]; omega
  have hneb : (b == b') = false := by simp [hne]
  have hc1 := X.c1
  have hc2 := X.c2
  have hc3 := X.c3
  have hc4 := X.c4
  go_enter Try.func21, Try.ntmps21
  go_wp2_with fail
  clear hW
  refine (rcmp_N ha' hb' (by omega) (by omega)).mono ?_
  rintro e w1 ⟨rfl, b1⟩
  have ha1 := ha'.on b1
  have hb1' := hb'.on b1
  obtain ⟨-, -, d1, d2, d3, d4, -, -, -, -⟩ := X.on b1
  clear ha' hb' hc1 hc2 hc3 hc4
  go_wp2_with fail
  refine (rsub_N hb1' ha1 (by omega) (by omega) (by omega)).mono ?_
  rintro e w2 ⟨A2, n2, c2, rfl, hm, b2⟩
  have b12 := b1.trans (b2.mono b1.size)
  obtain ⟨-, -, f1, f2, f3, f4, -, -, -, -⟩ := X.on b12
  clear ha1 hb1' d1 d2 d3 d4 b1 b2
  go_wp2_with fail
  refine (made_N _ hm (by rw [hm.len]; omega)).mono ?_
  rintro e w3 ⟨b3, A3, n3, k3, rfl, hz3, b3'⟩
  have b13 := b12.trans (b3'.mono b12.size)
  obtain ⟨HB, -, -, -, -, -, e5, e6, e7, e8⟩ := X.on b13
  rw [HS.out] at hz3
  have HZ := Lib.hid (hz3.stored e5 e6)
  clear b12 b13 b3' f1 f2 f3 f4 hz3
  go_wp2_with fail
  refine bodyPost_ret (v := .agg #[.bool b3, .slice A3 n3 k3]) (by simp [results, Try.results21, go_sem, e5, e6]) rfl ⟨_, _, _, _, rfl, HZ.out, ?_⟩
  exact (HB.setCell (p := ⟨w.heap.size + 1 + 1, 0, none⟩) (show w.heap.size ≤ w.heap.size + 1 + 1 by omega) _).setCell (p := ⟨w.heap.size + 1 + 1, 1, none⟩) (show w.heap.size ≤ w.heap.size + 1 + 1 by omega) _

theorem rzadd_N {w : World} {b b' : Bool} {A B : Option Addr} {n c m d : Nat} {z z' : Int} (ha : Zn w b A n c z) (hb : Zn w b' B m d z') (hx : (limbs z.natAbs).length ≤ 1000) (hy : (limbs z'.natAbs).length ≤ 1000) :
    Calls Try.prog 21 #[.agg #[.bool b, .slice A n c], .agg #[.bool b', .slice B m d]] w (GotZ w (z + z')) := by
  by_cases h : b = b'
  · subst h; exact rzadd_same ha hb hx hy
  · rcases Nat.lt_or_ge z.natAbs z'.natAbs with h1 | h1
    · exact rzadd_second ha hb hx hy h h1
    · exact rzadd_first ha hb hx hy h h1

end Go.Proofs.Ytpephogadljncaa

/-
  The contracts of the fourth reference: Of, Int.
-/
namespace Go.Proofs.Ytpephogadljncaa
set_option maxRecDepth 100000
open Go.RowKit

/-- An integer of 64 bits. -/
def I64 (z : Int) : Prop := -9223372036854775808 ≤ z ∧ z ≤ 9223372036854775807
theorem I64.abs {z : Int} (h : I64 z) : z.natAbs < B64 := by unfold I64 at h; unfold B64; omega

theorem sgn_of {b : Bool} {z : Int} (hb : b = decide (z < 0)) : sgn b z.natAbs = z := by
  subst hb; unfold sgn
  by_cases h : z < 0
  · simp [h]; omega
  · simp [h]; omega

set_option maxHeartbeats 2000000 in
theorem rzof_N (w : World) (z : Int) (h : I64 z) : Calls Try.prog 11 #[.int .i64 z] w (GotZ w z) := by
  have hx := h.abs
  obtain ⟨x, hxe⟩ : ∃ x, z.natAbs = x := ⟨_, rfl⟩
  rw [hxe] at hx
  obtain ⟨W, hW⟩ : ∃ W, w.alloc (.cells #[.bool false, .slice none 0 0] 29) = W := ⟨_, rfl⟩
  have hB : Below w.heap.size w W := by rw [← hW]; exact below_one w _
  have hsz : W.heap.size = w.heap.size + 1 := by rw [← hW]; simp
  have c1 : W.cell? ⟨w.heap.size, 0, none⟩ = some (.bool false) := by rw [← hW]; simp [go_sem]
  have c2 : W.cell? ⟨w.heap.size, 1, none⟩ = some (.slice none 0 0) := by rw [← hW]; simp [go_sem]
  have c3 : W.frozen? ⟨w.heap.size, 0, none⟩ = false := by rw [← hW]; simp [go_sem]
  have c4 : W.frozen? ⟨w.heap.size, 1, none⟩ = false := by rw [← hW]; simp [go_sem]
  have HSZ := Lib.hid hsz
  clear hsz
  have hl := len_one hx
  by_cases hz : z < 0
  · have hs : sgn true x = z := by rw [← hxe]; exact sgn_of (by simp [hz])
    have e1 : IntKind.u64.wrap (IntKind.u64.wrap (-(z + 1)) + 1) = (x : Int) := by
      unfold I64 at h; rw [IntKind.wrap_u64, IntKind.wrap_u64]; omega
    have e2 : IntKind.i64.wrap (z + 1) = z + 1 := IntWalk.i64_in _ (by unfold I64 at h; omega)
    have e3 : IntKind.i64.wrap (-(z + 1)) = -(z + 1) := IntWalk.i64_in _ (by unfold I64 at h; omega)
    have HS := Lib.hid hs
    clear hs hxe
    go_enter Try.func11, Try.ntmps11
    go_wp2_with fail
    clear hW e1 e2 e3
    refine (rof_N W x hx).mono ?_
    rintro e w1 ⟨A1, n1, k1, rfl, hm, b1⟩
    go_wp2_with fail
    refine (made_N _ hm (by rw [hm.len]; omega)).mono ?_
    rintro e w2 ⟨b2, A2, n2, k2, rfl, hz2, b2'⟩
    have b12 := b1.trans (b2'.mono b1.size)
    have hsz := HSZ.out
    have g1 := (b12.cell (p := ⟨w.heap.size, 0, none⟩) (by simp; omega)).trans c1
    have g2 := (b12.cell (p := ⟨w.heap.size, 1, none⟩) (by simp; omega)).trans c2
    have g3 := (b12.frozen (p := ⟨w.heap.size, 0, none⟩) (by simp; omega)).trans c3
    have g4 := (b12.frozen (p := ⟨w.heap.size, 1, none⟩) (by simp; omega)).trans c4
    rw [HS.out] at hz2
    have HZ := Lib.hid (hz2.stored g1 g2)
    have HB := hB.trans (b12.mono hB.size)
    clear hsz b12 b1 b2' hz2 hm
    go_wp2_with fail
    refine bodyPost_ret (v := .agg #[.bool b2, .slice A2 n2 k2]) (by simp [results, Try.results11, go_sem, g1, g2]) rfl ⟨_, _, _, _, rfl, HZ.out, ?_⟩
    exact (HB.setCell (p := ⟨w.heap.size, 0, none⟩) (Nat.le_refl _) _).setCell (p := ⟨w.heap.size, 1, none⟩) (Nat.le_refl _) _
  · have hs : sgn false x = z := by rw [← hxe]; exact sgn_of (by simp [hz])
    have e1 : IntKind.u64.wrap z = (x : Int) := by
      unfold I64 at h; rw [IntKind.wrap_u64]; omega
    have HS := Lib.hid hs
    clear hs hxe
    go_enter Try.func11, Try.ntmps11
    go_wp2_with fail
    clear hW e1
    refine (rof_N W x hx).mono ?_
    rintro e w1 ⟨A1, n1, k1, rfl, hm, b1⟩
    go_wp2_with fail
    refine (made_N _ hm (by rw [hm.len]; omega)).mono ?_
    rintro e w2 ⟨b2, A2, n2, k2, rfl, hz2, b2'⟩
    have b12 := b1.trans (b2'.mono b1.size)
    have hsz := HSZ.out
    have g1 := (b12.cell (p := ⟨w.heap.size, 0, none⟩) (by simp; omega)).trans c1
    have g2 := (b12.cell (p := ⟨w.heap.size, 1, none⟩) (by simp; omega)).trans c2
    have g3 := (b12.frozen (p := ⟨w.heap.size, 0, none⟩) (by simp; omega)).trans c3
    have g4 := (b12.frozen (p := ⟨w.heap.size, 1, none⟩) (by simp; omega)).trans c4
    rw [HS.out] at hz2
    have HZ := Lib.hid (hz2.stored g1 g2)
    have HB := hB.trans (b12.mono hB.size)
    clear hsz b12 b1 b2' hz2 hm
    go_wp2_with fail
    refine bodyPost_ret (v := .agg #[.bool b2, .slice A2 n2 k2]) (by simp [results, Try.results11, go_sem, g1, g2]) rfl ⟨_, _, _, _, rfl, HZ.out, ?_⟩
    exact (HB.setCell (p := ⟨w.heap.size, 0, none⟩) (Nat.le_refl _) _).setCell (p := ⟨w.heap.size, 1, none⟩) (Nat.le_refl _) _

theorem abs_sgn {b : Bool} {z : Int} (hb : b = decide (z < 0)) (hz : z < 0) : b = true := by rw [hb]; simp [hz]
theorem abs_sgn' {b : Bool} {z : Int} (hb : b = decide (z < 0)) (hz : ¬ z < 0) : b = false := by rw [hb]; simp [hz]

end Go.Proofs.Ytpephogadljncaa

/-
  Rationals: one number by another one, reduced; how many limbs they have; which is greater.
-/
namespace Go.Proofs.Ytpephogadljncaa
open Go.RowKit

/-- Which of two rationals is greater. -/
def cmpQ (a b : Rat) : Int := if a < b then -1 else if b < a then 1 else 0
theorem cmpQ_eq (a b : Rat) : cmpZ (a.num * (b.den : Int)) (b.num * (a.den : Int)) = cmpQ a b := by
  unfold cmpQ cmpZ; simp only [Rat.lt_iff]
theorem cmpQ_bd (a b : Rat) : -1 ≤ cmpQ a b ∧ cmpQ a b ≤ 1 := by unfold cmpQ; split <;> (try split) <;> omega

theorem mkRat_den (p : Int) (q : Nat) (hq : q ≠ 0) : (mkRat p q).den = q / Nat.gcd p.natAbs q := by
  rw [Rat.den_mkRat, if_neg hq, Nat.gcd_comm]
theorem mkRat_num (p : Int) (q : Nat) (hq : q ≠ 0) : (mkRat p q).num = p / ((Nat.gcd p.natAbs q : Nat) : Int) := by
  rw [Rat.num_mkRat, if_neg hq, Nat.gcd_comm]
theorem natAbs_ediv (p : Int) (g : Nat) (hg : g ∣ p.natAbs) : (p / (g : Int)).natAbs = p.natAbs / g := by
  rcases Nat.eq_zero_or_pos g with h0 | h0
  · subst h0; simp
  · obtain ⟨k, hk⟩ := hg
    have h1 : p = (g : Int) * (k : Int) ∨ p = (g : Int) * (-(k : Int)) := by
      rcases Int.natAbs_eq p with h | h
      · left; rw [h, hk]; simp
      · right; rw [h, hk]; simp [Int.mul_neg]
    have hg0 : (g : Int) ≠ 0 := by omega
    rw [hk, Nat.mul_div_cancel_left _ h0]
    rcases h1 with h | h
    · rw [h, Int.mul_ediv_cancel_left _ hg0]; simp
    · rw [h, Int.mul_ediv_cancel_left _ hg0]; simp
theorem mkRat_abs (p : Int) (q : Nat) (hq : q ≠ 0) : (mkRat p q).num.natAbs = p.natAbs / Nat.gcd p.natAbs q := by
  rw [mkRat_num p q hq, natAbs_ediv _ _ (Nat.gcd_dvd_left _ _)]
theorem mkRat_neg (p : Int) (q : Nat) (hq : q ≠ 0) : decide ((mkRat p q).num < 0) = decide (p < 0) := by
  have hg : 0 < Nat.gcd p.natAbs q := Nat.gcd_pos_of_pos_right _ (by omega)
  have h1 := mkRat_num p q hq
  have h2 : (mkRat p q).num * ((Nat.gcd p.natAbs q : Nat) : Int) = p := by
    rw [h1]
    refine Int.ediv_mul_cancel ?_
    exact Int.ofNat_dvd_left.2 (Nat.gcd_dvd_left _ _)
  have h3 : (mkRat p q).num < 0 ↔ p < 0 := by
    constructor
    · intro h
      rw [← h2]
      exact Int.mul_neg_of_neg_of_pos h (by omega)
    · intro h
      rcases Int.lt_or_le (mkRat p q).num 0 with h4 | h4
      · exact h4
      · exfalso
        have := Int.mul_nonneg h4 (show (0 : Int) ≤ ((Nat.gcd p.natAbs q : Nat) : Int) by omega)
        omega
  simp only [h3]

/-- A rational both of whose sides have at most k limbs. -/
def Sz (r : Rat) (k : Nat) : Prop := (limbs r.num.natAbs).length ≤ k ∧ (limbs r.den).length ≤ k
theorem Sz.le {r : Rat} {k m : Nat} (h : Sz r k) (hk : k ≤ m) : Sz r m := ⟨Nat.le_trans h.1 hk, Nat.le_trans h.2 hk⟩
theorem sz_mk {p : Int} {q k : Nat} (hq : q ≠ 0) (hp : (limbs p.natAbs).length ≤ k) (hd : (limbs q).length ≤ k) : Sz (mkRat p q) k := by
  refine ⟨?_, ?_⟩
  · rw [mkRat_abs p q hq]; exact Nat.le_trans (limbs_length_mono (Nat.div_le_self _ _)) hp
  · rw [mkRat_den p q hq]; exact Nat.le_trans (limbs_length_mono (Nat.div_le_self _ _)) hd
theorem natAbs_over (a : Int) (b : Nat) : (a * (b : Int)).natAbs = a.natAbs * b := by rw [Int.natAbs_mul, Int.natAbs_natCast]
theorem den_mul_ne (a b : Rat) : a.den * b.den ≠ 0 := Nat.mul_ne_zero a.den_nz b.den_nz
theorem Sz.add {a b : Rat} {j k : Nat} (ha : Sz a j) (hb : Sz b k) : Sz (a + b) (j + k + 1) := by
  rw [Rat.add_def']
  refine sz_mk (den_mul_ne a b) ?_ (Nat.le_trans (limbs_length_mul ha.2 hb.2) (by omega))
  refine Nat.le_trans (limbs_length_mono (Int.natAbs_add_le _ _)) (limbs_length_add ?_ ?_)
  · rw [natAbs_over]; exact limbs_length_mul ha.1 hb.2
  · rw [natAbs_over, Nat.add_comm j k]; exact limbs_length_mul hb.1 ha.2
theorem Sz.neg {a : Rat} {j : Nat} (ha : Sz a j) : Sz (-a) j := ⟨by rw [Rat.neg_num, Int.natAbs_neg]; exact ha.1, ha.2⟩
theorem Sz.sub {a b : Rat} {j k : Nat} (ha : Sz a j) (hb : Sz b k) : Sz (a - b) (j + k + 1) := by
  rw [Rat.sub_eq_add_neg]; exact ha.add hb.neg
theorem Sz.mul {a b : Rat} {j k : Nat} (ha : Sz a j) (hb : Sz b k) : Sz (a * b) (j + k) := by
  rw [Rat.mul_def']
  refine sz_mk (den_mul_ne a b) ?_ (limbs_length_mul ha.2 hb.2)
  rw [Int.natAbs_mul]; exact limbs_length_mul ha.1 hb.1
theorem Sz.inv {a : Rat} {j : Nat} (ha : Sz a j) (h0 : a.num ≠ 0) : Sz a⁻¹ j := by
  refine ⟨?_, ?_⟩
  · rw [Rat.num_inv, Int.natAbs_mul, Int.natAbs_sign_of_ne_zero h0, Nat.one_mul, Int.natAbs_natCast]; exact ha.2
  · rw [Rat.den_inv, if_neg h0]; exact ha.1
theorem Sz.div {a b : Rat} {j k : Nat} (ha : Sz a j) (hb : Sz b k) (h0 : b.num ≠ 0) : Sz (a / b) (j + k) := by
  rw [Rat.div_def]; exact ha.mul (hb.inv h0)
/-- A quotient, as it is made. -/
def dnum (a b : Rat) : Int := if b.num < 0 then -(a.num * (b.den : Int)) else a.num * (b.den : Int)
theorem div_mk (a b : Rat) (h0 : b.num ≠ 0) : a / b = mkRat (a.num * sgn (decide (b.num < 0)) b.den) (a.den * b.num.natAbs) := by
  rw [Rat.div_def, Rat.mul_def', Rat.num_inv, Rat.den_inv, if_neg h0]
  congr 2
  unfold sgn
  by_cases h : b.num < 0
  · simp [h, Int.sign_eq_neg_one_of_neg h]
  · have : 0 < b.num := by omega
    simp [h, Int.sign_eq_one_of_pos this]
/-- Two sides that nothing divides are a rational's. -/
theorem rat_of (p : Int) (q : Nat) (hq : q ≠ 0) (hg : Nat.gcd p.natAbs q = 1) : ∃ r : Rat, r.num = p ∧ r.den = q := ⟨⟨p, q, hq, hg⟩, rfl, rfl⟩
theorem of_num (n : Int) : ((n : Int) : Rat).num = n := rfl
theorem of_den (n : Int) : ((n : Int) : Rat).den = 1 := rfl
theorem sz_of {n : Int} (h : (limbs n.natAbs).length ≤ 1) : Sz ((n : Int) : Rat) 1 := ⟨h, by rw [of_den]; exact limbs_length_le (by decide)⟩
theorem rat_inj (a b : Rat) : decide (a.num = b.num ∧ a.den = b.den) = decide (a = b) := by
  have : (a.num = b.num ∧ a.den = b.den) ↔ a = b := ⟨fun h => Rat.ext h.1 h.2, fun h => h ▸ ⟨rfl, rfl⟩⟩
  simp only [this]
end Go.Proofs.Ytpephogadljncaa

/-
  Small helps for the laws of integers: boxes, and what is kept.
-/
namespace Go.Proofs.Ytpephogadljncaa
open Go.RowKit
set_option linter.unusedVariables false

theorem Zn.ok {w : World} {b : Bool} {A : Option Addr} {n c : Nat} {z : Int} (h : Zn w b A n c z) : okZ b n (limbs z.natAbs) = true := by
  unfold okZ
  rw [limbs_canon, Bool.true_and]
  by_cases hz : z < 0
  · have h0 : 0 < n := by have := h.1.some_len (by omega); omega
    simp [h0]
  · rw [h.2]; simp [hz]
theorem len_z {z : Int} (h : z.natAbs < B64) : (limbs z.natAbs).length ≤ 300 := Nat.le_trans (len_one h) (by omega)
theorem okZ_zn {w : World} {b : Bool} {A : Option Addr} {n c : Nat} {l : List Nat} (h : Lim w.heap.size w A n c l) (hk : okZ b n l = true) : Zn w b A n c (sgn b (val l)) := by
  unfold okZ at hk
  rw [Bool.and_eq_true] at hk
  have hN := h.num hk.1
  refine ⟨by rw [sgn_abs]; exact hN, ?_⟩
  unfold sgn
  cases b
  · simp
  · have h0 : 0 < n := by simpa using hk.2
    have hl := hN.len
    have hv : val l ≠ 0 := fun e => by rw [e, limbs_zero] at hl; simp at hl; omega
    simp; omega
theorem len_z0 : (limbs (0 : Int).natAbs).length ≤ 1000000 := by rw [show (0 : Int).natAbs = 0 from rfl, limbs_zero]; simp
/-- A cell that is there stays behind a new block. -/
theorem keep_alloc {w : World} {o : Obj} {p : Addr} {v : Value} (h : w.cell? p = some v) : (w.alloc o).cell? p = some v := by
  have hlt : p.block < w.heap.size := by
    rcases Nat.lt_or_ge p.block w.heap.size with h1 | h1
    · exact h1
    · simp [World.cell?, Array.getElem?_eq_none h1] at h
  rw [World.cell?_of_block (w := w) (Below.heap_alloc w o p.block hlt)]
  exact h

theorem zlen_add {z z' : Int} {k : Nat} (h : (limbs z.natAbs).length ≤ k) (h' : (limbs z'.natAbs).length ≤ k) : (limbs (z + z').natAbs).length ≤ k + 1 :=
  Nat.le_trans (limbs_length_mono (Int.natAbs_add_le z z')) (limbs_length_add h h')
theorem zlen_mul {z z' : Int} {k m : Nat} (h : (limbs z.natAbs).length ≤ k) (h' : (limbs z'.natAbs).length ≤ m) : (limbs (z * z').natAbs).length ≤ k + m := by
  rw [Int.natAbs_mul]
  exact limbs_length_mul h h'
theorem zlen_neg {z : Int} {k : Nat} (h : (limbs z.natAbs).length ≤ k) : (limbs (-z).natAbs).length ≤ k := by
  rw [Int.natAbs_neg]
  exact h

theorem cell_lt {w : World} {p : Addr} {v : Value} (h : w.cell? p = some v) : p.block < w.heap.size := by
  rcases Nat.lt_or_ge p.block w.heap.size with h1 | h1
  · exact h1
  · simp [World.cell?, Array.getElem?_eq_none h1] at h
/-- A struct of two cells in memory. -/
def Box (W : World) (g : Nat) (b : Bool) (A : Option Addr) (n k : Nat) : Prop := W.cell? ⟨g, 0, none⟩ = some (.bool b) ∧ W.cell? ⟨g, 1, none⟩ = some (.slice A n k)
theorem Box.new (W : World) (b : Bool) (A : Option Addr) (n k : Nat) (T : TypeId) : Box (W.alloc (.cells #[.bool b, .slice A n k] T)) W.heap.size b A n k := ⟨by simp [go_sem], by simp [go_sem]⟩
theorem Box.alloc {W : World} {g : Nat} {b : Bool} {A : Option Addr} {n k : Nat} (h : Box W g b A n k) (o : Obj) : Box (W.alloc o) g b A n k := ⟨keep_alloc h.1, keep_alloc h.2⟩
theorem Box.other {W : World} {g g' : Nat} {b : Bool} {A : Option Addr} {n k : Nat} {u v : Value} (h : Box W g b A n k) (hne : g ≠ g') : Box ((W.setCell ⟨g', 0, none⟩ u).setCell ⟨g', 1, none⟩ v) g b A n k := ⟨(cell_store hne).trans h.1, (cell_store hne).trans h.2⟩
theorem Box.put {W : World} {g : Nat} {b0 : Bool} {A0 : Option Addr} {n0 k0 : Nat} (h : Box W g b0 A0 n0 k0) (b : Bool) (A : Option Addr) (n k : Nat) : Box ((W.setCell ⟨g, 0, none⟩ (.bool b)).setCell ⟨g, 1, none⟩ (.slice A n k)) g b A n k := by
  have h1 : (⟨g, 0, none⟩ : Addr) ≠ ⟨g, 1, none⟩ := fun e => by injection e with _ e2; omega
  have h2 : (⟨g, 1, none⟩ : Addr) ≠ ⟨g, 0, none⟩ := fun e => by injection e with _ e2; omega
  refine ⟨?_, ?_⟩
  · rw [World.cell?_setCell_other (h := h2)]
    exact World.cell?_setCell_same _ _ _ h.1
  · exact World.cell?_setCell_same _ _ _ ((World.cell?_setCell_other W _ _ _ h1).trans h.2)
theorem Zn.put {W : World} {g : Nat} {b b0 : Bool} {A A0 : Option Addr} {n c n0 c0 : Nat} {z : Int} (h : Zn W b A n c z) (hb : Box W g b0 A0 n0 c0) (u v : Value) : Zn ((W.setCell ⟨g, 0, none⟩ u).setCell ⟨g, 1, none⟩ v) b A n c z := by
  refine ⟨(h.1.set_other hb.1 (fun _ _ e => by cases e)).set_other (u := .slice A0 n0 c0) ?_ (fun _ _ e => by cases e), h.2⟩
  have hne : (⟨g, 0, none⟩ : Addr) ≠ ⟨g, 1, none⟩ := fun e => by injection e with _ e2; omega
  rw [World.cell?_setCell_other (h := hne)]
  exact hb.2
theorem Zn.alloc {W : World} {b : Bool} {A : Option Addr} {n c : Nat} {z : Int} (h : Zn W b A n c z) (o : Obj) : Zn (W.alloc o) b A n c z := h.on (below_one _ _)
theorem below_put {B g : Nat} {V W : World} (h : Below B V W) (hg : B ≤ g) (u v : Value) : Below B V ((W.setCell ⟨g, 0, none⟩ u).setCell ⟨g, 1, none⟩ v) := (h.setCell (p := ⟨g, 0, none⟩) hg u).setCell (p := ⟨g, 1, none⟩) hg v

/-- Behind 'top := ..': a box of two cells, and what it holds. -/
def LoneZ (V U : World) (g : Nat) (b : Bool) (A : Option Addr) (n k : Nat) (z : Int) : Prop := Box U g b A n k ∧ Zn U b A n k z ∧ Below V.heap.size V U ∧ V.heap.size ≤ g
section
variable {V wz : World} {g : Nat} {b : Bool} {A : Option Addr} {n k : Nat} {z : Int}
theorem loneZA (h : Zn wz b A n k z) (qq : Below V.heap.size V wz) (T : TypeId) : LoneZ V (wz.alloc (.cells #[.bool b, .slice A n k] T)) wz.heap.size b A n k z := ⟨Box.new wz b A n k T, h.alloc _, qq.alloc qq.size _, qq.size⟩
theorem loneZB (o0 : wz.cell? ⟨g, 0, none⟩ = some (.bool false)) (o1 : wz.cell? ⟨g, 1, none⟩ = some (.slice none 0 0)) (h : Zn wz b A n k z) (qq : Below V.heap.size V wz) (l : V.heap.size ≤ g) : LoneZ V ((wz.setCell ⟨g, 0, none⟩ (.bool b)).setCell ⟨g, 1, none⟩ (.slice A n k)) g b A n k z := have o : Box wz g false none 0 0 := ⟨o0, o1⟩; ⟨o.put b A n k, h.put o _ _, below_put qq l _ _, l⟩
end

/-- Behind 'x, y := f(..), g(..)': two boxes, and what they hold. -/
def Both (V U : World) (gx gy : Nat) (bx : Bool) (Ax : Option Addr) (nx kx : Nat) (bY : Bool) (Ay : Option Addr) (ny ky : Nat) (zx zy : Int) : Prop :=
  Box U gx bx Ax nx kx ∧ Box U gy bY Ay ny ky ∧ Zn U bx Ax nx kx zx ∧ Zn U bY Ay ny ky zy ∧ Below V.heap.size V U
section
variable {V wz : World} {gx gy : Nat} {bx bY : Bool} {Ax Ay : Option Addr} {nx kx ny ky : Nat} {zx zy : Int}
theorem pairA (hx : Zn wz bx Ax nx kx zx) (hy : Zn wz bY Ay ny ky zy) (qq : Below V.heap.size V wz) (T : TypeId) : Both V ((wz.alloc (.cells #[.bool bx, .slice Ax nx kx] T)).alloc (.cells #[.bool bY, .slice Ay ny ky] T)) wz.heap.size (wz.heap.size + 1) bx Ax nx kx bY Ay ny ky zx zy :=
  ⟨(Box.new wz bx Ax nx kx T).alloc _, by have := Box.new (wz.alloc (.cells #[.bool bx, .slice Ax nx kx] T)) bY Ay ny ky T; simpa using this, (hx.alloc _).alloc _, (hy.alloc _).alloc _, (qq.alloc qq.size _).alloc (by have := qq.size; simp; omega) _⟩
theorem pairA' (hx : Zn wz bx Ax nx kx zx) (hy : Zn wz bY Ay ny ky zy) (qq : Below V.heap.size V wz) (T : TypeId) : Both V ((wz.alloc (.cells #[.bool bY, .slice Ay ny ky] T)).alloc (.cells #[.bool bx, .slice Ax nx kx] T)) (wz.heap.size + 1) wz.heap.size bx Ax nx kx bY Ay ny ky zx zy :=
  ⟨by have := Box.new (wz.alloc (.cells #[.bool bY, .slice Ay ny ky] T)) bx Ax nx kx T; simpa using this, (Box.new wz bY Ay ny ky T).alloc _, (hx.alloc _).alloc _, (hy.alloc _).alloc _, (qq.alloc qq.size _).alloc (by have := qq.size; simp; omega) _⟩
theorem pairB (c0 : wz.cell? ⟨gx, 0, none⟩ = some (.bool false)) (c1 : wz.cell? ⟨gx, 1, none⟩ = some (.slice none 0 0)) (hx : Zn wz bx Ax nx kx zx) (hy : Zn wz bY Ay ny ky zy) (qq : Below V.heap.size V wz) (lx : V.heap.size ≤ gx) (T : TypeId) :
    Both V (((wz.setCell ⟨gx, 0, none⟩ (.bool bx)).setCell ⟨gx, 1, none⟩ (.slice Ax nx kx)).alloc (.cells #[.bool bY, .slice Ay ny ky] T)) gx wz.heap.size bx Ax nx kx bY Ay ny ky zx zy :=
  have B : Box wz gx false none 0 0 := ⟨c0, c1⟩
  ⟨(B.put bx Ax nx kx).alloc _, by have := Box.new ((wz.setCell ⟨gx, 0, none⟩ (.bool bx)).setCell ⟨gx, 1, none⟩ (.slice Ax nx kx)) bY Ay ny ky T; simpa using this, (hx.put B _ _).alloc _, (hy.put B _ _).alloc _, (below_put qq lx _ _).alloc (by have := qq.size; simp; omega) _⟩
theorem pairB' (c0 : wz.cell? ⟨gy, 0, none⟩ = some (.bool false)) (c1 : wz.cell? ⟨gy, 1, none⟩ = some (.slice none 0 0)) (hx : Zn wz bx Ax nx kx zx) (hy : Zn wz bY Ay ny ky zy) (qq : Below V.heap.size V wz) (ly : V.heap.size ≤ gy) (T : TypeId) :
    Both V (((wz.setCell ⟨gy, 0, none⟩ (.bool bY)).setCell ⟨gy, 1, none⟩ (.slice Ay ny ky)).alloc (.cells #[.bool bx, .slice Ax nx kx] T)) wz.heap.size gy bx Ax nx kx bY Ay ny ky zx zy :=
  have B : Box wz gy false none 0 0 := ⟨c0, c1⟩
  ⟨by have := Box.new ((wz.setCell ⟨gy, 0, none⟩ (.bool bY)).setCell ⟨gy, 1, none⟩ (.slice Ay ny ky)) bx Ax nx kx T; simpa using this, (B.put bY Ay ny ky).alloc _, (hx.put B _ _).alloc _, (hy.put B _ _).alloc _, (below_put qq ly _ _).alloc (by have := qq.size; simp; omega) _⟩
theorem pairC (c0 : wz.cell? ⟨gx, 0, none⟩ = some (.bool false)) (c1 : wz.cell? ⟨gx, 1, none⟩ = some (.slice none 0 0)) (d0 : wz.cell? ⟨gy, 0, none⟩ = some (.bool false)) (d1 : wz.cell? ⟨gy, 1, none⟩ = some (.slice none 0 0)) (hx : Zn wz bx Ax nx kx zx) (hy : Zn wz bY Ay ny ky zy) (qq : Below V.heap.size V wz) (lx : V.heap.size ≤ gx) (ly : V.heap.size ≤ gy) (hne : gx ≠ gy) :
    Both V ((((wz.setCell ⟨gx, 0, none⟩ (.bool bx)).setCell ⟨gx, 1, none⟩ (.slice Ax nx kx)).setCell ⟨gy, 0, none⟩ (.bool bY)).setCell ⟨gy, 1, none⟩ (.slice Ay ny ky)) gx gy bx Ax nx kx bY Ay ny ky zx zy :=
  have B : Box wz gx false none 0 0 := ⟨c0, c1⟩
  have D : Box ((wz.setCell ⟨gx, 0, none⟩ (.bool bx)).setCell ⟨gx, 1, none⟩ (.slice Ax nx kx)) gy false none 0 0 := Box.other ⟨d0, d1⟩ (Ne.symm hne)
  ⟨(B.put bx Ax nx kx).other hne, D.put bY Ay ny ky, (hx.put B _ _).put D _ _, (hy.put B _ _).put D _ _, below_put (below_put qq lx _ _) ly _ _⟩
end

/-- An integer that is right and of few limbs. -/
theorem few_zn {w : World} {b : Bool} {A : Option Addr} {n c : Nat} {l : List Nat} (m : Nat) (h : Lim w.heap.size w A n c l) (hr : (decide ((n : Int) ≤ (m : Int)) && okZ b n l) = true) : Zn w b A n c (sgn b (val l)) ∧ (limbs (sgn b (val l)).natAbs).length ≤ m := by
  rw [Bool.and_eq_true] at hr
  have h0 := okZ_zn h hr.2
  refine ⟨h0, ?_⟩
  rw [← h0.1.len]
  have := of_decide_eq_true hr.1
  omega

theorem i64_wf {n : Int} (h : (Lit.int .i64 n).wf = true) : I64 n := bounds_i64 h
theorem i32_wf {n : Int} (h : (Lit.int .i32 n).wf = true) : -2147483648 ≤ n ∧ n ≤ 2147483647 := bounds_i32 h

end Go.Proofs.Ytpephogadljncaa

/-
  The contracts of the second reference's Gcd and Goes.
-/
namespace Go.Proofs.Ytpephogadljncaa
open Go.RowKit
end Go.Proofs.Ytpephogadljncaa

/-
  The contracts of the fifth reference: Make, Of, Right.
-/
namespace Go.Proofs.Ytpephogadljncaa
open Go.RowKit

/-- The value '.agg #[.bool b, .slice A n c, .slice B m d]' has the sides p and q. -/
def Rw (w : World) (b : Bool) (A : Option Addr) (n c : Nat) (B : Option Addr) (m d : Nat) (p : Int) (q : Nat) : Prop := Zn w b A n c p ∧ Num w B m d q
theorem Rw.on {w w' : World} {b : Bool} {A B : Option Addr} {n c m d : Nat} {p : Int} {q : Nat} (h : Rw w b A n c B m d p q) (hb : Below w.heap.size w w') : Rw w' b A n c B m d p q := ⟨h.1.on hb, h.2.on hb⟩
/-- It is the rational r. -/
def Rt (w : World) (b : Bool) (A : Option Addr) (n c : Nat) (B : Option Addr) (m d : Nat) (r : Rat) : Prop := Rw w b A n c B m d r.num r.den
theorem Rt.on {w w' : World} {b : Bool} {A B : Option Addr} {n c m d : Nat} {r : Rat} (h : Rt w b A n c B m d r) (hb : Below w.heap.size w w') : Rt w' b A n c B m d r := Rw.on h hb
/-- A call has answered a rational; and one with a code. -/
def GotRt (w : World) (r : Rat) (e : Ending) (w' : World) : Prop := ∃ b A n c B m d, e = .returned (.agg #[.bool b, .slice A n c, .slice B m d]) ∧ Rt w' b A n c B m d r ∧ Below w.heap.size w w'
def GotRp (w : World) (r : Rat) (k : Int) (e : Ending) (w' : World) : Prop := ∃ b A n c B m d, e = .returned (.tuple #[.agg #[.bool b, .slice A n c, .slice B m d], .int .i64 k]) ∧ Rt w' b A n c B m d r ∧ Below w.heap.size w w'

/-- A struct of three cells in memory. -/
def BoxR (W : World) (g : Nat) (b : Bool) (A : Option Addr) (n k : Nat) (B : Option Addr) (m d : Nat) : Prop := W.cell? ⟨g, 0, none⟩ = some (.bool b) ∧ W.cell? ⟨g, 1, none⟩ = some (.slice A n k) ∧ W.cell? ⟨g, 2, none⟩ = some (.slice B m d)
/-- What is written into it. -/
@[reducible] def putR (W : World) (g : Nat) (u v x : Value) : World := ((W.setCell ⟨g, 0, none⟩ u).setCell ⟨g, 1, none⟩ v).setCell ⟨g, 2, none⟩ x
theorem addr_ne {g i j : Nat} (h : i ≠ j) : (⟨g, i, none⟩ : Addr) ≠ ⟨g, j, none⟩ := fun e => by injection e with _ e2; omega
theorem addr_ne' {g g' i j : Nat} (h : g ≠ g') : (⟨g, i, none⟩ : Addr) ≠ ⟨g', j, none⟩ := fun e => by injection e with e1; omega
theorem cell_putR {w : World} {s b o : Nat} {u v x : Value} (h : b ≠ s) : (putR w s u v x).cell? ⟨b, o, none⟩ = w.cell? ⟨b, o, none⟩ := by
  unfold putR
  rw [World.cell?_setCell_other (h := addr_ne' (Ne.symm h)), World.cell?_setCell_other (h := addr_ne' (Ne.symm h)), World.cell?_setCell_other (h := addr_ne' (Ne.symm h))]
section
variable {W : World} {g g' : Nat} {b b0 : Bool} {A A0 B B0 : Option Addr} {n k m d n0 k0 m0 d0 : Nat}
theorem BoxR.new (W : World) (b : Bool) (A : Option Addr) (n k : Nat) (B : Option Addr) (m d : Nat) (T : TypeId) : BoxR (W.alloc (.cells #[.bool b, .slice A n k, .slice B m d] T)) W.heap.size b A n k B m d := ⟨by simp [go_sem], by simp [go_sem], by simp [go_sem]⟩
theorem BoxR.alloc (h : BoxR W g b A n k B m d) (o : Obj) : BoxR (W.alloc o) g b A n k B m d := ⟨keep_alloc h.1, keep_alloc h.2.1, keep_alloc h.2.2⟩
theorem BoxR.otherZ {u v : Value} (h : BoxR W g b A n k B m d) (hne : g ≠ g') : BoxR ((W.setCell ⟨g', 0, none⟩ u).setCell ⟨g', 1, none⟩ v) g b A n k B m d := ⟨(cell_store hne).trans h.1, (cell_store hne).trans h.2.1, (cell_store hne).trans h.2.2⟩
theorem BoxR.other {u v x : Value} (h : BoxR W g b A n k B m d) (hne : g ≠ g') : BoxR (putR W g' u v x) g b A n k B m d := ⟨(cell_putR hne).trans h.1, (cell_putR hne).trans h.2.1, (cell_putR hne).trans h.2.2⟩
theorem Box.otherR {u v x : Value} (h : Box W g b A n k) (hne : g ≠ g') : Box (putR W g' u v x) g b A n k := ⟨(cell_putR hne).trans h.1, (cell_putR hne).trans h.2⟩
theorem BoxR.put (h : BoxR W g b0 A0 n0 k0 B0 m0 d0) (b : Bool) (A : Option Addr) (n k : Nat) (B : Option Addr) (m d : Nat) : BoxR (putR W g (.bool b) (.slice A n k) (.slice B m d)) g b A n k B m d := by
  have e1 : (W.setCell ⟨g, 0, none⟩ (.bool b)).cell? ⟨g, 1, none⟩ = some (.slice A0 n0 k0) := (World.cell?_setCell_other W _ _ _ (addr_ne (by omega))).trans h.2.1
  have e2 : ((W.setCell ⟨g, 0, none⟩ (.bool b)).setCell ⟨g, 1, none⟩ (.slice A n k)).cell? ⟨g, 2, none⟩ = some (.slice B0 m0 d0) := (World.cell?_setCell_other _ _ _ _ (addr_ne (by omega))).trans ((World.cell?_setCell_other W _ _ _ (addr_ne (by omega))).trans h.2.2)
  unfold putR
  refine ⟨?_, ?_, ?_⟩
  · rw [World.cell?_setCell_other (h := addr_ne (by omega)), World.cell?_setCell_other (h := addr_ne (by omega))]
    exact World.cell?_setCell_same _ _ _ h.1
  · rw [World.cell?_setCell_other (h := addr_ne (by omega))]
    exact World.cell?_setCell_same _ _ _ e1
  · exact World.cell?_setCell_same _ _ _ e2
theorem Num.putR {A : Option Addr} {n c x : Nat} (h : Num W A n c x) (hb : BoxR W g b0 A0 n0 k0 B0 m0 d0) (u v y : Value) : Num (putR W g u v y) A n c x := by
  have e1 : (W.setCell ⟨g, 0, none⟩ u).cell? ⟨g, 1, none⟩ = some (.slice A0 n0 k0) := (World.cell?_setCell_other W _ _ _ (addr_ne (by omega))).trans hb.2.1
  have e2 : ((W.setCell ⟨g, 0, none⟩ u).setCell ⟨g, 1, none⟩ v).cell? ⟨g, 2, none⟩ = some (.slice B0 m0 d0) := (World.cell?_setCell_other _ _ _ _ (addr_ne (by omega))).trans ((World.cell?_setCell_other W _ _ _ (addr_ne (by omega))).trans hb.2.2)
  exact ((h.set_other hb.1 (fun _ _ e => by cases e)).set_other e1 (fun _ _ e => by cases e)).set_other e2 (fun _ _ e => by cases e)
theorem Zn.putR {z : Int} {c : Nat} (h : Zn W b A n c z) (hb : BoxR W g b0 A0 n0 k0 B0 m0 d0) (u v y : Value) : Zn (putR W g u v y) b A n c z := ⟨h.1.putR hb u v y, h.2⟩
theorem Rw.putR {p : Int} {q : Nat} (h : Rw W b A n k B m d p q) (hb : BoxR W g b0 A0 n0 k0 B0 m0 d0) (u v y : Value) : Rw (putR W g u v y) b A n k B m d p q := ⟨h.1.putR hb u v y, h.2.putR hb u v y⟩
theorem Rt.putR {r : Rat} (h : Rt W b A n k B m d r) (hb : BoxR W g b0 A0 n0 k0 B0 m0 d0) (u v y : Value) : Rt (putR W g u v y) b A n k B m d r := Rw.putR h hb u v y
theorem Rt.alloc {r : Rat} (h : Rt W b A n k B m d r) (o : Obj) : Rt (W.alloc o) b A n k B m d r := h.on (below_one _ _)
theorem below_putR {C g : Nat} {V W : World} (h : Below C V W) (hg : C ≤ g) (u v y : Value) : Below C V (putR W g u v y) := ((h.setCell (p := ⟨g, 0, none⟩) hg u).setCell (p := ⟨g, 1, none⟩) hg v).setCell (p := ⟨g, 2, none⟩) hg y
end

/-- Behind 'x, e := f(..)': a box, and what it holds. -/
def Lone (V U : World) (g : Nat) (b : Bool) (A : Option Addr) (n k : Nat) (B : Option Addr) (m d : Nat) (r : Rat) : Prop := BoxR U g b A n k B m d ∧ Rt U b A n k B m d r ∧ Below V.heap.size V U
section
variable {V wz : World} {g : Nat} {b : Bool} {A B : Option Addr} {n k m d : Nat} {r : Rat}
theorem loneA (h : Rt wz b A n k B m d r) (qq : Below V.heap.size V wz) (T : TypeId) : Lone V (wz.alloc (.cells #[.bool b, .slice A n k, .slice B m d] T)) wz.heap.size b A n k B m d r := ⟨BoxR.new wz b A n k B m d T, h.alloc _, qq.alloc qq.size _⟩
theorem loneB (o0 : wz.cell? ⟨g, 0, none⟩ = some (.bool false)) (o1 : wz.cell? ⟨g, 1, none⟩ = some (.slice none 0 0)) (o2 : wz.cell? ⟨g, 2, none⟩ = some (.slice none 0 0)) (h : Rt wz b A n k B m d r) (qq : Below V.heap.size V wz) (l : V.heap.size ≤ g) : Lone V (putR wz g (.bool b) (.slice A n k) (.slice B m d)) g b A n k B m d r := have o : BoxR wz g false none 0 0 none 0 0 := ⟨o0, o1, o2⟩; ⟨o.put b A n k B m d, h.putR o _ _ _, below_putR qq l _ _ _⟩
end

theorem gcd_len {p q k : Nat} (hq : q ≠ 0) (h : (limbs q).length ≤ k) : (limbs (Nat.gcd p q)).length ≤ k := Nat.le_trans (limbs_length_mono (Nat.le_of_dvd (by omega) (Nat.gcd_dvd_right p q))) h

end Go.Proofs.Ytpephogadljncaa

/-
  The contracts of the fifth reference: over, Cmp.
-/
namespace Go.Proofs.Ytpephogadljncaa
open Go.RowKit
set_option linter.unusedVariables false

theorem zn_nat {w : World} {B : Option Addr} {m d q : Nat} (h : Num w B m d q) : Zn w false B m d (q : Int) := ⟨by rw [Int.natAbs_natCast]; exact h, by simp⟩





end Go.Proofs.Ytpephogadljncaa

/-
  The contracts of the fifth reference: Neg, Sub, Div and the rest.
-/
namespace Go.Proofs.Ytpephogadljncaa
open Go.RowKit
set_option linter.unusedVariables false



theorem zn_side {w : World} {b : Bool} {A B : Option Addr} {n c m d q : Nat} {p : Int} (h : Zn w b A n c p) (hB : Num w B m d q) (hq : q ≠ 0) : Zn w b B m d (sgn (decide (p < 0)) q) := by
  refine ⟨by rw [sgn_abs]; exact hB, ?_⟩
  rw [h.2]; unfold sgn
  by_cases h1 : p < 0
  · simp [h1]; omega
  · simp [h1]




end Go.Proofs.Ytpephogadljncaa

/-
  The contracts of the fifth reference: Of, Same, Right, Few.
-/
namespace Go.Proofs.Ytpephogadljncaa
set_option maxRecDepth 100000
open Go.RowKit
set_option linter.unusedVariables false

theorem nsame_N {w : World} {A B : Option Addr} {n c m d x y : Nat} (r : Bool) (ha : Num w A n c x) (hb : Num w B m d y) (hx : (limbs x).length ≤ 1000000) (hy : (limbs y).length ≤ 1000000) (hr : decide (x = y) = r) : Calls Try.prog 25 #[.slice A n c, .slice B m d] w (GotV w (.bool r)) := by
  cases r with
  | true => exact same_N ha hb (by omega) (by omega) (of_decide_eq_true hr)
  | false => exact same_not_N ha hb (by omega) (by omega) (of_decide_eq_false hr)






/-- A rational's form is right. -/
def okR (b : Bool) (n : Nat) (l : List Nat) (m : Nat) (l2 : List Nat) : Bool := okZ b n l && (canon l2 && (decide (0 < m) && decide (Nat.gcd (val l) (val l2) = 1)))


theorem okZ_canon {b : Bool} {n : Nat} {l : List Nat} (h : okZ b n l = true) : canon l = true := by
  unfold okZ at h
  rw [Bool.and_eq_true] at h
  exact h.1
theorem num_ne {w : World} {A : Option Addr} {n c x : Nat} (h : Num w A n c x) (h0 : 0 < n) : x ≠ 0 := by
  intro e
  have hl := h.len
  rw [e, limbs_zero] at hl
  simp at hl
  omega









end Go.Proofs.Ytpephogadljncaa

/-
  The contracts of the fifth reference: Frac.
-/
namespace Go.Proofs.Ytpephogadljncaa
set_option maxRecDepth 100000
open Go.RowKit
set_option linter.unusedVariables false

/-- The parts of a struct that is no variable. -/
theorem field_N (b : Bool) (A : Option Addr) (n c : Nat) (w : World) : Sem.run Try.prog (Instr.field 29 (.agg #[.bool b, .slice A n c]) 1) w = .ok (.slice A n c) w := by rfl
theorem field_P (b : Bool) (A B : Option Addr) (n c m d : Nat) (w : World) : Sem.run Try.prog (Instr.field 78 (.agg #[.bool b, .slice A n c, .slice B m d]) 0) w = .ok (.agg #[.bool b, .slice A n c]) w := by rfl
theorem field_Q (b : Bool) (A B : Option Addr) (n c m d : Nat) (w : World) : Sem.run Try.prog (Instr.field 78 (.agg #[.bool b, .slice A n c, .slice B m d]) 1) w = .ok (.slice B m d) w := by rfl
attribute [local go_sem] field_N field_P field_Q


end Go.Proofs.Ytpephogadljncaa

/-
  Rationals over the fifth reference: which is greater, few limbs, the same.
-/
namespace Go.Proofs.Ytpephogadljncaa
open Go.RowKit
set_option linter.unusedVariables false
set_option linter.unusedSimpArgs false

theorem cmpQ_swap (a b : Rat) : cmpQ b a = -cmpQ a b := by unfold cmpQ; grind
theorem cmpQ_same (a b : Rat) : (cmpQ a b == 0) = decide (a = b) := by unfold cmpQ; grind
theorem cmpQ_plus (a b c : Rat) : cmpQ (a + c) (b + c) = cmpQ a b := by unfold cmpQ; grind
theorem cmpQ_diff (a b : Rat) : cmpQ (a - b) ((0 : Int) : Rat) = cmpQ a b := by
  rw [show ((0 : Int) : Rat) = 0 from rfl]; unfold cmpQ; grind
theorem cmpQ_times (a b c : Rat) (h : 0 < c) : cmpQ (a * c) (b * c) = cmpQ a b := by
  have e1 : (a * c < b * c) ↔ a < b := by
    constructor
    · intro h1; exact Rat.lt_of_mul_lt_mul_right h1 (Rat.le_of_lt h)
    · intro h1; exact Rat.mul_lt_mul_of_pos_right h1 h
  have e2 : (b * c < a * c) ↔ b < a := by
    constructor
    · intro h1; exact Rat.lt_of_mul_lt_mul_right h1 (Rat.le_of_lt h)
    · intro h1; exact Rat.mul_lt_mul_of_pos_right h1 h
  unfold cmpQ; simp only [e1, e2]
theorem cmpQ_trans (a b c : Rat) (h : cmpQ a b ≤ 0) (h2 : cmpQ b c ≤ 0) : cmpQ a c ≤ 0 := by unfold cmpQ at *; grind
theorem cmpQ_low (a b : Rat) : cmpQ a ((a + b) / ((2 : Int) : Rat)) = cmpQ a b := by
  rw [show ((2 : Int) : Rat) = 2 from rfl]; unfold cmpQ; grind
theorem cmpQ_high (a b : Rat) : cmpQ ((a + b) / ((2 : Int) : Rat)) b = cmpQ a b := by
  rw [show ((2 : Int) : Rat) = 2 from rfl]; unfold cmpQ; grind
theorem q1 (a b : Rat) : a + b - b = a := by grind
theorem q2 (a : Rat) : a - ((0 : Int) : Rat) = a := by rw [show ((0 : Int) : Rat) = 0 from rfl]; grind
theorem q3 (a : Rat) : a * ((1 : Int) : Rat) = a := by rw [show ((1 : Int) : Rat) = 1 from rfl]; grind
theorem q4 (a b : Rat) (h : b ≠ 0) : a * b / b = a := by grind
theorem q5 (a b : Rat) : b + (a - b) = a := by grind
theorem q6 (a b c : Rat) : a + b + c = a + (b + c) := by grind
theorem q7 (a b c : Rat) : a * b * c = a * (b * c) := by grind
theorem q8 (a b c : Rat) : (a + b) * c = a * c + b * c := by grind
theorem q9 (a b c : Rat) : a * b  = b * a := by grind
theorem mk_cross (p p' : Int) (q q' : Nat) (h : q ≠ 0) (h' : q' ≠ 0) : decide (mkRat p q = mkRat p' q') = decide (p * (q' : Int) = p' * (q : Int)) := by
  simp only [Rat.mkRat_eq_iff h h']
theorem mk_more (p : Int) (q c : Nat) (h : c ≠ 0) : mkRat p q = mkRat (p * (c : Int)) (q * c) := by
  rw [Rat.mkRat_mul_right h]

/-- Behind 'x, e := f(..)': a box, and what it holds; the box is new. -/
def LoneR (V U : World) (g : Nat) (b : Bool) (A : Option Addr) (n k : Nat) (B : Option Addr) (m d : Nat) (r : Rat) : Prop := BoxR U g b A n k B m d ∧ Rt U b A n k B m d r ∧ Below V.heap.size V U ∧ V.heap.size ≤ g
section
variable {V wz : World} {g : Nat} {b : Bool} {A B : Option Addr} {n k m d : Nat} {r : Rat}
theorem loneRA (h : Rt wz b A n k B m d r) (qq : Below V.heap.size V wz) (T : TypeId) : LoneR V (wz.alloc (.cells #[.bool b, .slice A n k, .slice B m d] T)) wz.heap.size b A n k B m d r := have o := loneA h qq T; ⟨o.1, o.2.1, o.2.2, qq.size⟩
theorem loneRB (o0 : wz.cell? ⟨g, 0, none⟩ = some (.bool false)) (o1 : wz.cell? ⟨g, 1, none⟩ = some (.slice none 0 0)) (o2 : wz.cell? ⟨g, 2, none⟩ = some (.slice none 0 0)) (h : Rt wz b A n k B m d r) (qq : Below V.heap.size V wz) (l : V.heap.size ≤ g) : LoneR V (putR wz g (.bool b) (.slice A n k) (.slice B m d)) g b A n k B m d r := have o := loneB o0 o1 o2 h qq l; ⟨o.1, o.2.1, o.2.2, l⟩
end
/-- Behind 'x, e := f(..)' that was refused: a new box of noughts. -/
def LoneO (V U : World) (g : Nat) : Prop := BoxR U g false none 0 0 none 0 0 ∧ Below V.heap.size V U ∧ V.heap.size ≤ g
section
variable {V wz : World} {g : Nat}
theorem loneOA (qq : Below V.heap.size V wz) (T : TypeId) : LoneO V (wz.alloc (.cells #[.bool false, .slice none 0 0, .slice none 0 0] T)) wz.heap.size := ⟨BoxR.new wz false none 0 0 none 0 0 T, qq.alloc qq.size _, qq.size⟩
theorem loneOB (o0 : wz.cell? ⟨g, 0, none⟩ = some (.bool false)) (o1 : wz.cell? ⟨g, 1, none⟩ = some (.slice none 0 0)) (o2 : wz.cell? ⟨g, 2, none⟩ = some (.slice none 0 0)) (qq : Below V.heap.size V wz) (l : V.heap.size ≤ g) : LoneO V (putR wz g (.bool false) (.slice none 0 0) (.slice none 0 0)) g := have o : BoxR wz g false none 0 0 none 0 0 := ⟨o0, o1, o2⟩; ⟨o.put false none 0 0 none 0 0, below_putR qq l _ _ _, l⟩
end
/-- Behind 'x, y := f(..), g(..)': two boxes, and what they hold. -/
def BothR (V U : World) (gx gy : Nat) (bx : Bool) (Ax : Option Addr) (nx kx : Nat) (Cx : Option Addr) (mx dx : Nat) (bY : Bool) (Ay : Option Addr) (ny ky : Nat) (Cy : Option Addr) (my dy : Nat) (rx ry : Rat) : Prop :=
  BoxR U gx bx Ax nx kx Cx mx dx ∧ BoxR U gy bY Ay ny ky Cy my dy ∧ Rt U bx Ax nx kx Cx mx dx rx ∧ Rt U bY Ay ny ky Cy my dy ry ∧ Below V.heap.size V U ∧ V.heap.size ≤ gx ∧ V.heap.size ≤ gy ∧ gx ≠ gy
section
variable {V wz : World} {gx gy : Nat} {bx bY : Bool} {Ax Ay Cx Cy : Option Addr} {nx kx ny ky mx dx my dy : Nat} {rx ry : Rat}
theorem pairRA (hx : Rt wz bx Ax nx kx Cx mx dx rx) (hy : Rt wz bY Ay ny ky Cy my dy ry) (qq : Below V.heap.size V wz) (T : TypeId) : BothR V ((wz.alloc (.cells #[.bool bx, .slice Ax nx kx, .slice Cx mx dx] T)).alloc (.cells #[.bool bY, .slice Ay ny ky, .slice Cy my dy] T)) wz.heap.size (wz.heap.size + 1) bx Ax nx kx Cx mx dx bY Ay ny ky Cy my dy rx ry :=
  ⟨(BoxR.new wz bx Ax nx kx Cx mx dx T).alloc _, by have := BoxR.new (wz.alloc (.cells #[.bool bx, .slice Ax nx kx, .slice Cx mx dx] T)) bY Ay ny ky Cy my dy T; simpa using this, (hx.alloc _).alloc _, (hy.alloc _).alloc _, (qq.alloc qq.size _).alloc (by have := qq.size; simp; omega) _, qq.size, Nat.le_succ_of_le qq.size, by omega⟩
theorem pairRA' (hx : Rt wz bx Ax nx kx Cx mx dx rx) (hy : Rt wz bY Ay ny ky Cy my dy ry) (qq : Below V.heap.size V wz) (T : TypeId) : BothR V ((wz.alloc (.cells #[.bool bY, .slice Ay ny ky, .slice Cy my dy] T)).alloc (.cells #[.bool bx, .slice Ax nx kx, .slice Cx mx dx] T)) (wz.heap.size + 1) wz.heap.size bx Ax nx kx Cx mx dx bY Ay ny ky Cy my dy rx ry :=
  ⟨by have := BoxR.new (wz.alloc (.cells #[.bool bY, .slice Ay ny ky, .slice Cy my dy] T)) bx Ax nx kx Cx mx dx T; simpa using this, (BoxR.new wz bY Ay ny ky Cy my dy T).alloc _, (hx.alloc _).alloc _, (hy.alloc _).alloc _, (qq.alloc qq.size _).alloc (by have := qq.size; simp; omega) _, Nat.le_succ_of_le qq.size, qq.size, by omega⟩
theorem pairRB (c0 : wz.cell? ⟨gx, 0, none⟩ = some (.bool false)) (c1 : wz.cell? ⟨gx, 1, none⟩ = some (.slice none 0 0)) (c2 : wz.cell? ⟨gx, 2, none⟩ = some (.slice none 0 0)) (hx : Rt wz bx Ax nx kx Cx mx dx rx) (hy : Rt wz bY Ay ny ky Cy my dy ry) (qq : Below V.heap.size V wz) (lx : V.heap.size ≤ gx) (T : TypeId) :
    BothR V ((putR wz gx (.bool bx) (.slice Ax nx kx) (.slice Cx mx dx)).alloc (.cells #[.bool bY, .slice Ay ny ky, .slice Cy my dy] T)) gx wz.heap.size bx Ax nx kx Cx mx dx bY Ay ny ky Cy my dy rx ry :=
  have B : BoxR wz gx false none 0 0 none 0 0 := ⟨c0, c1, c2⟩
  ⟨(B.put bx Ax nx kx Cx mx dx).alloc _, by have := BoxR.new (putR wz gx (.bool bx) (.slice Ax nx kx) (.slice Cx mx dx)) bY Ay ny ky Cy my dy T; simpa using this, (hx.putR B _ _ _).alloc _, (hy.putR B _ _ _).alloc _, (below_putR qq lx _ _ _).alloc (by have := qq.size; simp; omega) _, lx, qq.size, by have := cell_lt c0; simp only at this; omega⟩
theorem pairRB' (c0 : wz.cell? ⟨gy, 0, none⟩ = some (.bool false)) (c1 : wz.cell? ⟨gy, 1, none⟩ = some (.slice none 0 0)) (c2 : wz.cell? ⟨gy, 2, none⟩ = some (.slice none 0 0)) (hx : Rt wz bx Ax nx kx Cx mx dx rx) (hy : Rt wz bY Ay ny ky Cy my dy ry) (qq : Below V.heap.size V wz) (ly : V.heap.size ≤ gy) (T : TypeId) :
    BothR V ((putR wz gy (.bool bY) (.slice Ay ny ky) (.slice Cy my dy)).alloc (.cells #[.bool bx, .slice Ax nx kx, .slice Cx mx dx] T)) wz.heap.size gy bx Ax nx kx Cx mx dx bY Ay ny ky Cy my dy rx ry :=
  have B : BoxR wz gy false none 0 0 none 0 0 := ⟨c0, c1, c2⟩
  ⟨by have := BoxR.new (putR wz gy (.bool bY) (.slice Ay ny ky) (.slice Cy my dy)) bx Ax nx kx Cx mx dx T; simpa using this, (B.put bY Ay ny ky Cy my dy).alloc _, (hx.putR B _ _ _).alloc _, (hy.putR B _ _ _).alloc _, (below_putR qq ly _ _ _).alloc (by have := qq.size; simp; omega) _, qq.size, ly, by have := cell_lt c0; simp only at this; omega⟩
theorem pairRC (c0 : wz.cell? ⟨gx, 0, none⟩ = some (.bool false)) (c1 : wz.cell? ⟨gx, 1, none⟩ = some (.slice none 0 0)) (c2 : wz.cell? ⟨gx, 2, none⟩ = some (.slice none 0 0)) (d0 : wz.cell? ⟨gy, 0, none⟩ = some (.bool false)) (d1 : wz.cell? ⟨gy, 1, none⟩ = some (.slice none 0 0)) (d2 : wz.cell? ⟨gy, 2, none⟩ = some (.slice none 0 0)) (hx : Rt wz bx Ax nx kx Cx mx dx rx) (hy : Rt wz bY Ay ny ky Cy my dy ry) (qq : Below V.heap.size V wz) (lx : V.heap.size ≤ gx) (ly : V.heap.size ≤ gy) (hne : gx ≠ gy) :
    BothR V (putR (putR wz gx (.bool bx) (.slice Ax nx kx) (.slice Cx mx dx)) gy (.bool bY) (.slice Ay ny ky) (.slice Cy my dy)) gx gy bx Ax nx kx Cx mx dx bY Ay ny ky Cy my dy rx ry :=
  have B : BoxR wz gx false none 0 0 none 0 0 := ⟨c0, c1, c2⟩
  have D : BoxR (putR wz gx (.bool bx) (.slice Ax nx kx) (.slice Cx mx dx)) gy false none 0 0 none 0 0 := BoxR.other ⟨d0, d1, d2⟩ (Ne.symm hne)
  ⟨(B.put bx Ax nx kx Cx mx dx).other hne, D.put bY Ay ny ky Cy my dy, (hx.putR B _ _ _).putR D _ _ _, (hy.putR B _ _ _).putR D _ _ _, below_putR (below_putR qq lx _ _ _) ly _ _ _, lx, ly, hne⟩
end

theorem num_nil (w : World) (A : Option Addr) (c : Nat) : Num w A 0 c 0 := by unfold Num; rw [limbs_zero]; exact Lim.nil _ _ _ _
theorem len_nil : (limbs 0).length ≤ 300 := by rw [limbs_zero]; simp
theorem okR_rt {w : World} {b : Bool} {A B : Option Addr} {n c m d : Nat} {r : Rat} (h : Rt w b A n c B m d r) : okR b n (limbs r.num.natAbs) m (limbs r.den) = true := by
  unfold okR
  have h1 : 0 < m := h.2.some_len r.den_nz
  have h2 := r.reduced
  unfold Nat.Coprime at h2
  simp only [h.1.ok, limbs_canon, val_limbs, Bool.true_and, decide_eq_true h1]
  exact decide_eq_true h2
theorem num_one {x : Nat} (hx : x < B64) (h0 : x ≠ 0) (w : World) : Num (w.alloc (.cells #[.int .u64 (x : Int)] 43)) (some ⟨w.heap.size, 0, none⟩) 1 1 x := by
  have h := (lim_one hx w).num (by simp [canon]; omega)
  have hv : val [x] = x := by simp [val_cons, val_nil]
  rwa [hv] at h

/-- A rational that is right and of few limbs. -/
theorem few_rt {w : World} {b : Bool} {A B : Option Addr} {n c m d : Nat} {l l2 : List Nat} (k : Nat) (h : Lim w.heap.size w A n c l) (h2 : Lim w.heap.size w B m d l2) (hr : (decide ((n : Int) ≤ (k : Int)) && (decide ((m : Int) ≤ (k : Int)) && okR b n l m l2)) = true) : ∃ r : Rat, Rt w b A n c B m d r ∧ Sz r k := by
  rw [Bool.and_eq_true, Bool.and_eq_true] at hr
  obtain ⟨e1, e2, e3⟩ := hr
  unfold okR at e3
  rw [Bool.and_eq_true, Bool.and_eq_true, Bool.and_eq_true] at e3
  obtain ⟨e4, e5, e6, e7⟩ := e3
  have hz := okZ_zn h e4
  have hN := h2.num e5
  have h0 := num_ne hN (of_decide_eq_true e6)
  have hg : Nat.gcd (sgn b (val l)).natAbs (val l2) = 1 := by rw [sgn_abs]; exact of_decide_eq_true e7
  obtain ⟨r, r1, r2⟩ := rat_of _ _ h0 hg
  refine ⟨r, ⟨by rw [r1]; exact hz, by rw [r2]; exact hN⟩, ?_, ?_⟩
  · rw [r1, ← hz.1.len]; have := of_decide_eq_true e1; omega
  · rw [r2, ← hN.len]; have := of_decide_eq_true e2; omega
theorem rt_nought {w : World} {b : Bool} {A B : Option Addr} {n c m d : Nat} {x : Rat} (h : Rt w b A n c B m d x) (hn : 0 < n) : x.num ≠ 0 := by
  have := num_ne h.1.1 hn
  omega
theorem rt_zero {w : World} {b : Bool} {A B : Option Addr} {n c m d : Nat} {x : Rat} (h : Rt w b A n c B m d x) (hx : x.num = 0) : n = 0 := by
  have := h.1.1.len
  rw [hx] at this
  rw [this, show (0 : Int).natAbs = 0 from rfl, limbs_zero]; rfl
theorem rt_above {w : World} {b : Bool} {A B : Option Addr} {n c m d : Nat} {x : Rat} (h : Rt w b A n c B m d x) (hn : 0 < n) (hb : b = false) : 0 < x := by
  have h1 := rt_nought h hn
  have h2 := h.1.2
  rw [hb] at h2
  have h3 : ¬ x.num < 0 := of_decide_eq_false h2.symm
  rw [Rat.lt_iff]
  show 0 * (x.den : Int) < x.num * ((1 : Nat) : Int)
  omega
theorem rat_zero {x : Rat} (h : x.num = 0) : x = 0 := Rat.num_eq_zero.1 h

end Go.Proofs.Ytpephogadljncaa
