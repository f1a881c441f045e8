/-
  Several texts in one: MathJ, MathK, MathG, S1, S2, ZA, ZB, S3, S4, S5.
-/
import Derived.Test.YtpephogadljncaaA3
import Derived.Test.YtpephogadljncaaA2
import Derived.Test.YtpephogadljncaaA1
import Derived.Deep.RegionHeld3
import Derived.Lib.SliceRun
import Derived.Lib.AppendZerosOnto
import Derived.Deep.QuietTactic
import Derived.BigQuiet
import Derived.Deep.DeepCutAuto
import Derived.Deep.CutBlock

/-
  Rationals: a product whose sides are reduced crosswise, and a sum over the least number that both divide, as they are.
-/
namespace Go.Proofs.Ytpephogadljncaa

/-- Two sides that nothing divides are those of their quotient. -/
theorem mk_sides {p : Int} {q : Nat} {r : Rat} (hq : q ≠ 0) (hg : Nat.gcd p.natAbs q = 1) (h : mkRat p q = r) : r.num = p ∧ r.den = q := by
  subst h
  rw [Rat.num_mkRat, Rat.den_mkRat, if_neg hq, if_neg hq, Nat.gcd_comm, hg]
  simp

theorem num_dvd (p : Int) (q : Nat) (hq : q ≠ 0) : (mkRat p q).num.natAbs ∣ p.natAbs := by
  rw [Rat.num_mkRat, if_neg hq]
  have h : ((Nat.gcd q p.natAbs : Nat) : Int) ∣ p := Int.ofNat_dvd_left.2 (Nat.gcd_dvd_right _ _)
  exact Int.natAbs_dvd_natAbs.2 ⟨_, (Int.ediv_mul_cancel h).symm⟩
theorem den_dvd (p : Int) (q : Nat) (hq : q ≠ 0) : (mkRat p q).den ∣ q := by
  rw [Rat.den_mkRat, if_neg hq]
  exact Nat.div_dvd_of_dvd (Nat.gcd_dvd_left _ _)

theorem mul_sides (a b : Rat) : (a * b).num = (mkRat a.num b.den).num * (mkRat b.num a.den).num ∧ (a * b).den = (mkRat a.num b.den).den * (mkRat b.num a.den).den := by
  refine mk_sides (Nat.mul_ne_zero (Rat.den_nz _) (Rat.den_nz _)) ?_ ?_
  · rw [Int.natAbs_mul]
    have h1 := num_dvd a.num b.den b.den_nz
    have h2 := den_dvd a.num b.den b.den_nz
    have h3 := num_dvd b.num a.den a.den_nz
    have h4 := den_dvd b.num a.den a.den_nz
    refine Nat.Coprime.mul_left (Nat.Coprime.mul_right (Rat.reduced _) ?_) (Nat.Coprime.mul_right ?_ (Rat.reduced _))
    · exact (a.reduced.coprime_dvd_left h1).coprime_dvd_right h4
    · exact (b.reduced.coprime_dvd_left h3).coprime_dvd_right h2
  · rw [← Rat.mkRat_mul_mkRat, Rat.mkRat_self, Rat.mkRat_self, Rat.mkRat_mul_mkRat, Nat.mul_comm b.den a.den, ← Rat.mul_def']

theorem cop_part {t u : Int} {l : Nat} (h : Nat.Coprime u.natAbs l) (hd : (l : Int) ∣ t - u) : Nat.Coprime t.natAbs l := by
  have h1 : Nat.gcd t.natAbs l ∣ l := Nat.gcd_dvd_right _ _
  have h2 : ((Nat.gcd t.natAbs l : Nat) : Int) ∣ t := Int.ofNat_dvd_left.2 (Nat.gcd_dvd_left _ _)
  have h3 : ((Nat.gcd t.natAbs l : Nat) : Int) ∣ t - u := Int.dvd_trans (Int.ofNat_dvd.2 h1) hd
  have h4 : ((Nat.gcd t.natAbs l : Nat) : Int) ∣ u := by
    have := Int.dvd_sub h2 h3
    rwa [show t - (t - u) = u by omega] at this
  have h5 := Nat.dvd_gcd (Int.ofNat_dvd_left.1 h4) h1
  rw [h] at h5
  exact Nat.eq_one_of_dvd_one h5

theorem add_sides (a b : Rat) {g l r : Nat} {t : Int} (hg : Nat.gcd a.den b.den = g) (hl : b.den / g = l) (hr : a.den / g = r) (ht : a.num * (l : Int) + b.num * (r : Int) = t) :
    (a + b).num = (mkRat t g).num ∧ (a + b).den = (mkRat t g).den * (l * r) := by
  have hg0 : g ≠ 0 := by rw [← hg]; exact Nat.ne_of_gt (Nat.gcd_pos_of_pos_left _ (Nat.pos_of_ne_zero a.den_nz))
  have ha : a.den = g * r := by rw [← hr, Nat.mul_div_cancel' (by rw [← hg]; exact Nat.gcd_dvd_left _ _)]
  have hb : b.den = g * l := by rw [← hl, Nat.mul_div_cancel' (by rw [← hg]; exact Nat.gcd_dvd_right _ _)]
  have hlr : Nat.Coprime r l := by
    rw [← hl, ← hr, ← hg]
    exact Nat.coprime_div_gcd_div_gcd (Nat.gcd_pos_of_pos_left _ (Nat.pos_of_ne_zero a.den_nz))
  have hr0 : r ≠ 0 := fun e => a.den_nz (by rw [ha, e, Nat.mul_zero])
  have hl0 : l ≠ 0 := fun e => b.den_nz (by rw [hb, e, Nat.mul_zero])
  have h1 := num_dvd t g hg0
  have hal : Nat.Coprime t.natAbs l := by
    have hbl : Nat.Coprime b.num.natAbs l := b.reduced.coprime_dvd_right ⟨g, by rw [hb, Nat.mul_comm]⟩
    have h2 : Nat.Coprime (b.num * (r : Int)).natAbs l := by rw [Int.natAbs_mul, Int.natAbs_natCast]; exact hbl.mul_left hlr
    refine cop_part h2 ⟨a.num, ?_⟩
    rw [← ht, Int.mul_comm (l : Int)]; omega
  have har : Nat.Coprime t.natAbs r := by
    have hbl : Nat.Coprime a.num.natAbs r := a.reduced.coprime_dvd_right ⟨g, by rw [ha, Nat.mul_comm]⟩
    have h2 : Nat.Coprime (a.num * (l : Int)).natAbs r := by rw [Int.natAbs_mul, Int.natAbs_natCast]; exact hbl.mul_left hlr.symm
    refine cop_part h2 ⟨b.num, ?_⟩
    rw [← ht, Int.mul_comm (r : Int)]; omega
  refine mk_sides (Nat.mul_ne_zero (Rat.den_nz _) (Nat.mul_ne_zero hl0 hr0)) ?_ ?_
  · refine Nat.Coprime.mul_right (Rat.reduced _) (Nat.Coprime.mul_right ?_ ?_)
    · exact hal.coprime_dvd_left h1
    · exact har.coprime_dvd_left h1
  · rw [Rat.add_def', Rat.mkRat_eq_iff (Nat.mul_ne_zero (Rat.den_nz _) (Nat.mul_ne_zero hl0 hr0)) (Nat.mul_ne_zero a.den_nz b.den_nz)]
    have h2 : mkRat t g = mkRat (mkRat t g).num (mkRat t g).den := (Rat.mkRat_self _).symm
    rw [Rat.mkRat_eq_iff hg0 (Rat.den_nz _)] at h2
    generalize (mkRat t g).num = pn at h2 ⊢
    generalize (mkRat t g).den = pd at h2 ⊢
    rw [ha, hb]
    simp only [Int.natCast_mul]
    have e1 : pn * ((g : Int) * r * (g * l)) = (pn * g) * (r * (g * l)) := by ac_rfl
    have e2 : (a.num * ((g : Int) * l) + b.num * (g * r)) * (pd * (l * r)) = (a.num * l + b.num * r) * pd * (r * (g * l)) := by
      rw [Int.add_mul, Int.add_mul, Int.add_mul]
      congr 1 <;> ac_rfl
    rw [e1, e2, ht, h2]
theorem inv_num (x : Rat) (h : x.num ≠ 0) : (x⁻¹).num = Go.Proofs.Ytpephogadljncaa.sgn (decide (x.num < 0)) x.den := by
  rw [Rat.num_inv]
  unfold sgn
  by_cases h1 : x.num < 0
  · simp [h1, Int.sign_eq_neg_one_of_neg h1]
  · have : 0 < x.num := by omega
    simp [h1, Int.sign_eq_one_of_pos this]
theorem inv_den (x : Rat) (h : x.num ≠ 0) : (x⁻¹).den = x.num.natAbs := by rw [Rat.den_inv, if_neg h]
theorem cmpN_nil (x : Nat) : (cmpN x 0 == 0) = decide (x = 0) := by
  unfold cmpN
  by_cases h : x = 0
  · subst h; simp
  · have : 0 < x := by omega
    simp [h, this]
theorem cmpN_unit (x : Nat) : (cmpN x 1 == 0) = decide (x = 1) := by
  unfold cmpN
  rcases Nat.lt_trichotomy x 1 with h | h | h
  · have : x ≠ 1 := by omega
    simp [h, this]
  · subst h; simp
  · have h2 : x ≠ 1 := by omega
    have h3 : ¬ x < 1 := by omega
    simp only [if_neg h3, if_pos h, h2, decide_false]
    rfl
end Go.Proofs.Ytpephogadljncaa

/-
  Plain arithmetic of long division: digits shifted within rows, products taken off rows, guesses.
-/
namespace Go.Proofs.Ytpephogadljncaa

/-- A digit shifted up, what stays and what goes over. -/
def shlD (x s : Nat) : Nat := x * 2 ^ s % B64
def shrD (x s : Nat) : Nat := x / 2 ^ (64 - s)
theorem B64_parts {s : Nat} (hs : s ≤ 64) : 2 ^ s * 2 ^ (64 - s) = B64 := by
  rw [B64_two, ← Nat.pow_add]
  congr 1
  omega
theorem shlD_mul (x : Nat) {s : Nat} (hs : s ≤ 64) : shlD x s = 2 ^ s * (x % 2 ^ (64 - s)) := by
  unfold shlD
  rw [← B64_parts hs, Nat.mul_comm x, Nat.mul_mod_mul_left]
theorem sh_split (x : Nat) {s : Nat} (hs : s ≤ 64) : shlD x s + B64 * shrD x s = x * 2 ^ s := by
  rw [shlD_mul x hs, ← B64_parts hs, Nat.mul_assoc, ← Nat.mul_add]
  unfold shrD
  rw [Nat.mod_add_div, Nat.mul_comm]
theorem shlD_add_lt (x : Nat) {s c : Nat} (hs : s ≤ 64) (hc : c < 2 ^ s) : shlD x s + c < B64 := by
  rw [shlD_mul x hs, ← B64_parts hs]
  have h1 : x % 2 ^ (64 - s) + 1 ≤ 2 ^ (64 - s) := Nat.mod_lt _ (Nat.pow_pos (by omega))
  have h2 : 2 ^ s * (x % 2 ^ (64 - s) + 1) ≤ 2 ^ s * 2 ^ (64 - s) := Nat.mul_le_mul_left _ h1
  rw [Nat.mul_add, Nat.mul_one] at h2
  omega
theorem shrD_lt {x s : Nat} (hx : x < B64) (hs : s ≤ 64) : shrD x s < 2 ^ s := by
  unfold shrD
  rw [Nat.div_lt_iff_lt_mul (Nat.pow_pos (by omega)), B64_parts hs]
  exact hx

/-- What has been reckoned of a row shifted up when k digits are done. -/
def RaisedAt (l R : List Nat) (k s c : Nat) : Prop := Dig R ∧ R.length = k ∧ c < 2 ^ s ∧ val R + B64 ^ k * c = val (l.take k) * 2 ^ s
theorem RaisedAt.start (l : List Nat) (s : Nat) : RaisedAt l [] 0 s 0 := ⟨Dig.nil, rfl, Nat.pow_pos (by omega), by simp [val_nil]⟩
theorem RaisedAt.step {l R : List Nat} {k s c : Nat} (h : RaisedAt l R k s c) (hl : Dig l) (hs : s ≤ 64) : RaisedAt l (R ++ [shlD (l[k]?.getD 0) s + c]) (k + 1) s (shrD (l[k]?.getD 0) s) := by
  obtain ⟨h1, h2, h3, h4⟩ := h
  refine ⟨h1.snoc (shlD_add_lt _ hs h3), by simp [h2], shrD_lt (hl.get k) hs, ?_⟩
  rw [val_snoc, h2, val_take_succ, Nat.add_mul, ← h4, Nat.pow_succ]
  have h5 := sh_split (l[k]?.getD 0) hs
  generalize l[k]?.getD 0 = x at *
  have h6 : B64 ^ k * (shlD x s + B64 * shrD x s) = B64 ^ k * (x * 2 ^ s) := by rw [h5]
  rw [Nat.mul_add, ← Nat.mul_assoc, ← Nat.mul_assoc] at h6
  rw [Nat.mul_add]
  omega
theorem RaisedAt.done {l R : List Nat} {k s c : Nat} (h : RaisedAt l R k s c) (hk : k = l.length) (hs : s ≤ 64) : Dig (R ++ [c]) ∧ (R ++ [c]).length = l.length + 1 ∧ val (R ++ [c]) = val l * 2 ^ s := by
  obtain ⟨h1, h2, h3, h4⟩ := h
  have h5 : c < B64 := Nat.lt_of_lt_of_le h3 (by rw [B64_two]; exact Nat.pow_le_pow_right (by omega) hs)
  refine ⟨h1.snoc h5, by simp [h2, hk], ?_⟩
  rw [val_snoc, h2, h4, List.take_of_length_le (by omega)]

theorem get_dig {l : List Nat} (hl : Dig l) (j : Nat) : l[j]?.getD 0 = dig (val l) j := by
  induction j generalizing l with
  | zero =>
    cases l with
    | nil => simp [dig, val_nil]
    | cons x xs => unfold dig; rw [Nat.pow_zero, Nat.div_one, val_cons, Nat.add_mul_mod_self_left, Nat.mod_eq_of_lt hl.head]; rfl
  | succ j ih =>
    cases l with
    | nil => simp [dig, val_nil]
    | cons x xs =>
      rw [List.getElem?_cons_succ, ih hl.tail]
      unfold dig
      rw [val_cons, Nat.pow_succ, Nat.mul_comm _ B64, ← Nat.div_div_eq_div_mul, Nat.add_mul_div_left _ _ B64_pos, Nat.div_eq_of_lt hl.head, Nat.zero_add]

/-- A digit shifted down, with what comes from the one above. -/
theorem low_dig {x : Nat} (hx : x < B64) (y : Nat) {s : Nat} (hs : s ≤ 64) : x / 2 ^ s + shlD y (64 - s) = sh2 x y s := by
  unfold sh2 shlD
  have e : B64 * y = 2 ^ s * (2 ^ (64 - s) * y) := by rw [← Nat.mul_assoc, B64_parts hs]
  rw [e, Nat.add_mul_div_left _ _ (Nat.pow_pos (by omega)), Nat.mul_comm y]
  have h1 : x / 2 ^ s < 2 ^ (64 - s) := by
    rw [Nat.div_lt_iff_lt_mul (Nat.pow_pos (by omega)), Nat.mul_comm, B64_parts hs]; exact hx
  have h2 : 2 ^ (64 - s) * y % B64 = 2 ^ (64 - s) * (y % 2 ^ s) := by rw [← B64_parts hs, Nat.mul_comm (2 ^ s), Nat.mul_mod_mul_left]
  have h3 : y % 2 ^ s + 1 ≤ 2 ^ s := Nat.mod_lt _ (Nat.pow_pos (by omega))
  have h4 : 2 ^ (64 - s) * (y % 2 ^ s + 1) ≤ 2 ^ (64 - s) * 2 ^ s := Nat.mul_le_mul_left _ h3
  rw [Nat.mul_comm (2 ^ (64 - s)) (2 ^ s), B64_parts hs, Nat.mul_add, Nat.mul_one] at h4
  have h5 : (x / 2 ^ s + 2 ^ (64 - s) * y) % B64 = (x / 2 ^ s + 2 ^ (64 - s) * (y % 2 ^ s)) % B64 := by
    rw [Nat.add_mod, h2, ← Nat.add_mod_mod, Nat.mod_add_mod, ← h2, Nat.mod_mod, h2]
  rw [h5, h2]
  generalize 2 ^ (64 - s) * (y % 2 ^ s) = z at *
  exact (Nat.mod_eq_of_lt (by omega)).symm
theorem low_row {l : List Nat} (hl : Dig l) {s : Nat} (hs : s < 64) (k : Nat) : l[k]?.getD 0 / 2 ^ s + shlD (l[k + 1]?.getD 0) (64 - s) = dig (val l / 2 ^ s) k := by
  rw [low_dig (hl.get k) _ (by omega), get_dig hl, get_dig hl]
  have := shr_dig (val l) s k
  rw [Nat.div_eq_of_lt hs, Nat.zero_add, Nat.mod_eq_of_lt hs] at this
  exact this
theorem low_done {l : List Nat} (hl : Dig l) (s : Nat) : val (digs (val l / 2 ^ s) l.length) = val l / 2 ^ s :=
  digs_all (Nat.lt_of_le_of_lt (Nat.div_le_self _ _) (val_lt hl))

/-- What has been reckoned when x times the first k digits of l is taken off P. -/
def LessAt (P Q : List Nat) (k x : Nat) (l : List Nat) (c : Nat) : Prop :=
  Dig Q ∧ Q.length = P.length ∧ c < B64 ∧ (∀ j, k ≤ j → Q[j]?.getD 0 = P[j]?.getD 0) ∧ val Q + x * val (l.take k) = val P + B64 ^ k * c
theorem LessAt.start {P : List Nat} (h : Dig P) (x : Nat) (l : List Nat) : LessAt P P 0 x l 0 :=
  ⟨h, rfl, B64_pos, fun _ _ => rfl, by simp [val_nil]⟩
/-- What is owed to the next digit. -/
def owed (x y q c : Nat) : Nat := mulHi y x + sumHi (mulLo y x) c 0 + subHi q (sumLo (mulLo y x) c 0) 0
/-- The digit that is left. -/
def lessD (x y q c : Nat) : Nat := subLo q (sumLo (mulLo y x) c 0) 0
theorem lessD_lt (x y q c : Nat) : lessD x y q c < B64 := subLo_lt _ _ _
theorem owed_split {x y q c : Nat} (hq : q < B64) : lessD x y q c + (y * x + c) = q + B64 * owed x y q c := by
  have h1 := sum_split (mulLo y x) c 0
  have h2 : mulLo y x + B64 * mulHi y x = y * x := Nat.mod_add_div _ _
  have h3 := sub_split hq (sumLo_lt (mulLo y x) c 0) (Nat.zero_le 1)
  unfold lessD owed
  rw [Nat.mul_add, Nat.mul_add]
  omega
theorem owed_lt {x y q c : Nat} (hx : x < B64) (hy : y < B64) (hc : c < B64) : mulHi y x + sumHi (mulLo y x) c 0 < B64 ∧ owed x y q c < B64 := by
  have h1 := sum_split (mulLo y x) c 0
  have h2 : mulLo y x + B64 * mulHi y x = y * x := Nat.mod_add_div _ _
  have h4 : y * x ≤ (B64 - 1) * (B64 - 1) := Nat.mul_le_mul (by omega) (by omega)
  have h5 : B64 * (mulHi y x + sumHi (mulLo y x) c 0) + sumLo (mulLo y x) c 0 ≤ B64 * (B64 - 1) := by
    have e : (B64 - 1) * (B64 - 1) + (B64 - 1) = B64 * (B64 - 1) := by unfold B64; omega
    rw [Nat.mul_add]
    omega
  unfold owed
  have hb := subHi_le q (sumLo (mulLo y x) c 0) 0
  have hz : sumLo (mulLo y x) c 0 = 0 → subHi q (sumLo (mulLo y x) c 0) 0 = 0 := fun h => by unfold subHi; rw [h]; simp
  generalize mulHi y x + sumHi (mulLo y x) c 0 = a at *
  generalize subHi q (sumLo (mulLo y x) c 0) 0 = b at *
  generalize sumLo (mulLo y x) c 0 = d at *
  unfold B64 at *
  omega
theorem LessAt.step {P Q l : List Nat} {k x c : Nat} (h : LessAt P Q k x l c) (hx : x < B64) (hl : Dig l) (hk : k < P.length) :
    LessAt P (Q.set k (lessD x (l[k]?.getD 0) (Q[k]?.getD 0) c)) (k + 1) x l (owed x (l[k]?.getD 0) (Q[k]?.getD 0) c) := by
  obtain ⟨hd, hlen, hc, hsame, hv⟩ := h
  refine ⟨hd.set _ (lessD_lt _ _ _ _), by rw [List.length_set, hlen], (owed_lt hx (hl.get k) hc).2, fun j hj => ?_, ?_⟩
  · rw [List.getElem?_set_ne (by omega)]; exact hsame j (by omega)
  · have hs := val_set (l := Q) (k := k) (by omega) (lessD x (l[k]?.getD 0) (Q[k]?.getD 0) c)
    have hm := owed_split (x := x) (y := l[k]?.getD 0) (c := c) (hd.get k)
    rw [val_take_succ, Nat.pow_succ, Nat.mul_assoc]
    generalize lessD x (l[k]?.getD 0) (Q[k]?.getD 0) c = d at *
    generalize owed x (l[k]?.getD 0) (Q[k]?.getD 0) c = o at *
    generalize Q[k]?.getD 0 = q at *
    generalize l[k]?.getD 0 = y at *
    have h1 : B64 ^ k * d + (B64 ^ k * (y * x) + B64 ^ k * c) = B64 ^ k * q + B64 ^ k * (B64 * o) := by
      rw [← Nat.mul_add, ← Nat.mul_add, hm, Nat.mul_add]
    have h2 : x * (val (l.take k) + B64 ^ k * y) = x * val (l.take k) + B64 ^ k * (y * x) := by
      rw [Nat.mul_add]
      have : x * (B64 ^ k * y) = B64 ^ k * (y * x) := by ac_rfl
      rw [this]
    rw [h2]
    omega
theorem LessAt.done {P Q l : List Nat} {x c : Nat} (h : LessAt P Q l.length x l c) (hk : P.length = l.length + 1) :
    Dig (Q.set l.length (subLo (Q[l.length]?.getD 0) c 0)) ∧ (Q.set l.length (subLo (Q[l.length]?.getD 0) c 0)).length = l.length + 1 ∧ val (Q.set l.length (subLo (Q[l.length]?.getD 0) c 0)) + x * val l = val P + B64 ^ (l.length + 1) * subHi (Q[l.length]?.getD 0) c 0 := by
  obtain ⟨hd, hlen, hc, hsame, hv⟩ := h
  refine ⟨hd.set _ (subLo_lt _ _ _), by rw [List.length_set, hlen, hk], ?_⟩
  have hs := val_set (l := Q) (k := l.length) (by omega) (subLo (Q[l.length]?.getD 0) c 0)
  have hm := sub_split (hd.get l.length) hc (Nat.zero_le 1)
  rw [List.take_of_length_le (Nat.le_refl _)] at hv
  generalize subLo (Q[l.length]?.getD 0) c 0 = d at *
  generalize subHi (Q[l.length]?.getD 0) c 0 = b at *
  generalize Q[l.length]?.getD 0 = q at *
  rw [Nat.pow_succ, Nat.mul_assoc]
  have h1 : B64 ^ l.length * d + B64 ^ l.length * c = B64 ^ l.length * q + B64 ^ l.length * (B64 * b) := by
    rw [← Nat.mul_add, ← Nat.mul_add]; congr 1
  omega

/-- What has been reckoned when the first k digits of l are added to P. -/
def BackAt (P Q : List Nat) (k : Nat) (l : List Nat) (c : Nat) : Prop :=
  Dig Q ∧ Q.length = P.length ∧ c ≤ 1 ∧ val Q + B64 ^ k * c = val P + val (l.take k)
theorem BackAt.start {P : List Nat} (h : Dig P) (l : List Nat) : BackAt P P 0 l 0 := ⟨h, rfl, by omega, by simp [val_nil]⟩
theorem BackAt.step {P Q l : List Nat} {k c : Nat} (h : BackAt P Q k l c) (hl : Dig l) (hk : k < P.length) :
    BackAt P (Q.set k (sumLo (Q[k]?.getD 0) (l[k]?.getD 0) c)) (k + 1) l (sumHi (Q[k]?.getD 0) (l[k]?.getD 0) c) := by
  obtain ⟨hd, hlen, hc, hv⟩ := h
  refine ⟨hd.set _ (sumLo_lt _ _ _), by rw [List.length_set, hlen], sumHi_le (hd.get k) (hl.get k) hc, ?_⟩
  have hs := val_set (l := Q) (k := k) (by omega) (sumLo (Q[k]?.getD 0) (l[k]?.getD 0) c)
  have hm := sum_split (Q[k]?.getD 0) (l[k]?.getD 0) c
  rw [val_take_succ, Nat.pow_succ, Nat.mul_assoc]
  generalize sumLo (Q[k]?.getD 0) (l[k]?.getD 0) c = d at *
  generalize sumHi (Q[k]?.getD 0) (l[k]?.getD 0) c = o at *
  generalize Q[k]?.getD 0 = q at *
  generalize l[k]?.getD 0 = y at *
  have h1 : B64 ^ k * d + B64 ^ k * (B64 * o) = B64 ^ k * q + B64 ^ k * y + B64 ^ k * c := by
    rw [← Nat.mul_add, hm, Nat.mul_add, Nat.mul_add]
  omega
theorem BackAt.done {P Q l : List Nat} {c : Nat} (h : BackAt P Q l.length l c) (hk : P.length = l.length + 1) :
    Dig (Q.set l.length (sumLo (Q[l.length]?.getD 0) c 0)) ∧ (Q.set l.length (sumLo (Q[l.length]?.getD 0) c 0)).length = l.length + 1 ∧ ∃ b, val (Q.set l.length (sumLo (Q[l.length]?.getD 0) c 0)) + B64 ^ (l.length + 1) * b = val P + val l := by
  obtain ⟨hd, hlen, hc, hv⟩ := h
  refine ⟨hd.set _ (sumLo_lt _ _ _), by rw [List.length_set, hlen, hk], sumHi (Q[l.length]?.getD 0) c 0, ?_⟩
  have hs := val_set (l := Q) (k := l.length) (by omega) (sumLo (Q[l.length]?.getD 0) c 0)
  have hm := sum_split (Q[l.length]?.getD 0) c 0
  rw [List.take_of_length_le (Nat.le_refl _)] at hv
  generalize sumLo (Q[l.length]?.getD 0) c 0 = d at *
  generalize sumHi (Q[l.length]?.getD 0) c 0 = b at *
  generalize Q[l.length]?.getD 0 = q at *
  rw [Nat.pow_succ, Nat.mul_assoc]
  have h1 : B64 ^ l.length * d + B64 ^ l.length * (B64 * b) = B64 ^ l.length * q + B64 ^ l.length * c := by
    rw [← Nat.mul_add, ← Nat.mul_add]; congr 1
  omega

/-- A guess is good: it is how often D goes into R, or one more. -/
def Good (R D t : Nat) : Prop := R < (t + 1) * D ∧ t * D ≤ R + D ∧ t < B64

/-- Nothing was borrowed: the guess is right. -/
theorem good_zero {R D t v : Nat} (h : Good R D t) (hv : v + t * D = R) : R / D = t ∧ R % D = v := by
  obtain ⟨h1, h2, _⟩ := h
  rw [Nat.add_mul, Nat.one_mul] at h1
  have hlt : v < D := by omega
  have e : R = v + D * t := by rw [Nat.mul_comm D]; omega
  have hD : 0 < D := by omega
  rw [e, Nat.add_mul_div_left _ _ hD, Nat.div_eq_of_lt hlt, Nat.add_mul_mod_self_left, Nat.mod_eq_of_lt hlt]
  omega
/-- Something was: it is one less. -/
theorem good_one {R D t v u M b : Nat} (h : Good R D t) (hv : v + t * D = R + M) (hvM : v < M) (hD : D ≤ M) (hu : u + M * b = v + D) (huM : u < M) : t ≠ 0 ∧ R / D = t - 1 ∧ R % D = u := by
  obtain ⟨h1, h2, _⟩ := h
  have ht : t ≠ 0 := fun e => by subst e; omega
  obtain ⟨t', rfl⟩ : ∃ t', t = t' + 1 := ⟨t - 1, by omega⟩
  rw [Nat.add_sub_cancel]
  rw [Nat.add_mul, Nat.one_mul] at hv h2
  have hb : b = 1 := by
    rcases Nat.lt_or_ge b 1 with h3 | h3
    · have : b = 0 := by omega
      subst this; omega
    · rcases Nat.lt_or_ge 1 b with h4 | h4
      · have : M * 2 ≤ M * b := Nat.mul_le_mul_left _ h4
        omega
      · omega
  subst hb
  have hlt : u < D := by omega
  have e : R = u + D * t' := by rw [Nat.mul_comm D]; omega
  have hD0 : 0 < D := by omega
  refine ⟨ht, ?_⟩
  rw [e, Nat.add_mul_div_left _ _ hD0, Nat.div_eq_of_lt hlt, Nat.add_mul_mod_self_left, Nat.mod_eq_of_lt hlt]
  omega

end Go.Proofs.Ytpephogadljncaa

/-
  Plain arithmetic of a division's guesses: of digits (the program's), and of halves of a digit (the library's).
-/
namespace Go.Proofs.Ytpephogadljncaa

/-- What a guess sees: the two top digits of R and of D; P: what the places below the top one hold. -/
structure Seen (R D P u v1 v2 d1 r : Nat) : Prop where
  hD : D = v1 * P + d1
  hR : R = u * P + r
  hd : d1 < P
  hr : r < P
  lo : v2 * P ≤ B64 * d1
  hi : B64 * d1 < (v2 + 1) * P
  top : B64 ≤ 2 * v1
  v1lt : v1 < B64
  v2lt : v2 < B64

theorem Seen.first {R D P u v1 v2 d1 r t h : Nat} (S : Seen R D P u v1 v2 d1 r) (e : t * v1 + h = u) (hh : h < v1) : R < (t + 1) * D := by
  have h1 : R < (u + 1) * P := by rw [S.hR, Nat.add_mul]; have := S.hr; omega
  have h2 : (u + 1) * P ≤ (t + 1) * v1 * P := Nat.mul_le_mul_right _ (by rw [Nat.add_mul]; omega)
  have h3 : (t + 1) * (v1 * P) ≤ (t + 1) * D := Nat.mul_le_mul_left _ (by rw [S.hD]; omega)
  rw [← Nat.mul_assoc] at h3
  omega
theorem Seen.less {R D P u v1 v2 d1 r t h : Nat} (S : Seen R D P u v1 v2 d1 r) (e : t * v1 + h = u) (hc : (h + 1) * B64 ≤ t * v2) : R < t * D := by
  have h1 : R < (u + 1) * P := by rw [S.hR, Nat.add_mul]; have := S.hr; omega
  have h2 : t * (v2 * P) ≤ t * (B64 * d1) := Nat.mul_le_mul_left _ S.lo
  have h3 : (h + 1) * B64 * P ≤ t * v2 * P := Nat.mul_le_mul_right _ hc
  have h4 : (h + 1) * P ≤ t * d1 := by
    refine Nat.le_of_mul_le_mul_left (c := B64) ?_ B64_pos
    calc B64 * ((h + 1) * P) = (h + 1) * B64 * P := by ac_rfl
      _ ≤ t * v2 * P := h3
      _ = t * (v2 * P) := by ac_rfl
      _ ≤ t * (B64 * d1) := h2
      _ = B64 * (t * d1) := by ac_rfl
  have h5 : t * D = t * v1 * P + t * d1 := by rw [S.hD, Nat.mul_add, Nat.mul_assoc]
  have h6 : (u + 1) * P = t * v1 * P + (h + 1) * P := by rw [← Nat.add_mul]; congr 1; omega
  omega
theorem Seen.done {R D P u v1 v2 d1 r t h : Nat} (S : Seen R D P u v1 v2 d1 r) (e : t * v1 + h = u) (ht : t < B64) (hc : t * v2 < (h + 1) * B64) : t * D ≤ R + D := by
  have h5 : t * D = t * v1 * P + t * d1 := by rw [S.hD, Nat.mul_add, Nat.mul_assoc]
  have h1 : t * (B64 * d1) ≤ t * ((v2 + 1) * P) := Nat.mul_le_mul_left _ (Nat.le_of_lt S.hi)
  have h2 : t * v2 + t ≤ (h + 2) * B64 := by rw [Nat.add_mul] at hc ⊢; omega
  have h3 : t * d1 ≤ (h + 2) * P := by
    refine Nat.le_of_mul_le_mul_left (c := B64) ?_ B64_pos
    calc B64 * (t * d1) = t * (B64 * d1) := by ac_rfl
      _ ≤ t * ((v2 + 1) * P) := h1
      _ = (t * v2 + t) * P := by rw [← Nat.mul_assoc, Nat.mul_add, Nat.mul_one]
      _ ≤ (h + 2) * B64 * P := Nat.mul_le_mul_right _ h2
      _ = B64 * ((h + 2) * P) := by ac_rfl
  have h6 : u * P = t * v1 * P + h * P := by rw [← Nat.add_mul]; congr 1; omega
  have h7 : 2 * P ≤ v1 * P := Nat.mul_le_mul_right _ (by have := S.top; have := B64_gt; unfold B64 at *; omega)
  have h8 : (h + 2) * P = h * P + 2 * P := Nat.add_mul ..
  have h9 := S.hR
  have h10 := S.hD
  omega
theorem Seen.great {R D P u v1 v2 d1 r : Nat} (S : Seen R D P u v1 v2 d1 r) (hu : v1 * B64 ≤ u) (hlt : R < B64 * D) : Good R D (B64 - 1) := by
  have e : B64 - 1 + 1 = B64 := by have := B64_pos; omega
  refine ⟨by rw [e]; exact hlt, ?_, by have := B64_pos; omega⟩
  obtain ⟨b, hb⟩ : ∃ b, B64 = b + 2 := ⟨B64 - 2, by unfold B64; omega⟩
  have h1 : b * D ≤ R := by
    have h2 : b * D ≤ b * ((v1 + 1) * P) := Nat.mul_le_mul_left _ (by rw [S.hD, Nat.add_mul]; have := S.hd; omega)
    have h3 : b * (v1 + 1) ≤ v1 * B64 := by
      have := S.top
      rw [hb] at this ⊢
      rw [Nat.mul_add, Nat.mul_add, Nat.mul_comm v1 b]
      omega
    have h4 : b * (v1 + 1) * P ≤ u * P := Nat.mul_le_mul_right _ (Nat.le_trans h3 hu)
    rw [← Nat.mul_assoc] at h2
    have := S.hR
    omega
  rw [hb, show b + 2 - 1 = b + 1 by omega, Nat.add_mul, Nat.one_mul]
  omega

theorem mulHi_le_iff {a b h : Nat} : mulHi a b ≤ h ↔ a * b < (h + 1) * B64 := by
  unfold mulHi
  rw [← Nat.lt_succ_iff, Nat.div_lt_iff_lt_mul B64_pos]



/-- One half of the library's division: u is less than y, d is a half. -/
structure Half (u y y1 y0 d q r : Nat) : Prop where
  hy : y = y1 * H32 + y0
  h0 : y0 < H32
  h1 : y1 < H32
  top : H32 ≤ 2 * y1
  hu : u < y
  hd : d < H32
  hq : q * y1 + r = u
  hlt : u * H32 + d < (q + 1) * y

theorem Half.start {u y y1 y0 d : Nat} (hy : y = y1 * H32 + y0) (h0 : y0 < H32) (h1 : y1 < H32) (top : H32 ≤ 2 * y1) (hu : u < y) (hd : d < H32) : Half u y y1 y0 d (u / y1) (u % y1) := by
  have hy1 : 0 < y1 := by unfold H32 at top; omega
  have e : u / y1 * y1 + u % y1 = u := by rw [Nat.mul_comm]; exact Nat.div_add_mod u y1
  refine ⟨hy, h0, h1, top, hu, hd, e, ?_⟩
  have h2 := Nat.mod_lt u hy1
  have h3 : u + 1 ≤ (u / y1 + 1) * y1 := by rw [Nat.add_mul]; omega
  have h4 : (u + 1) * H32 ≤ (u / y1 + 1) * y1 * H32 := Nat.mul_le_mul_right _ h3
  have h5 : (u / y1 + 1) * (y1 * H32) ≤ (u / y1 + 1) * y := Nat.mul_le_mul_left _ (by omega)
  rw [← Nat.mul_assoc] at h5
  rw [Nat.add_mul, Nat.one_mul] at h4
  omega
theorem Half.r_lt {u y1 : Nat} (top : H32 ≤ 2 * y1) : u % y1 < y1 := Nat.mod_lt _ (by unfold H32 at top; omega)
/-- The test of the library's loop, read as numbers. -/
def tooBig (q y0 r d : Nat) : Prop := H32 ≤ q ∨ H32 * r + d < q * y0
theorem Half.pos {u y y1 y0 d q r : Nat} (h : Half u y y1 y0 d q r) (ht : tooBig q y0 r d) : u * H32 + d < q * y ∧ 0 < q := by
  have e : q * y = q * y1 * H32 + q * y0 := by rw [h.hy, Nat.mul_add, Nat.mul_assoc]
  have h2 : u * H32 = q * y1 * H32 + r * H32 := by rw [← Nat.add_mul, h.hq]
  have hlt : u * H32 + d < q * y := by
    rcases ht with ht | ht
    · have h3 : H32 * y ≤ q * y := Nat.mul_le_mul_right _ ht
      have h4 : (u + 1) * H32 ≤ y * H32 := Nat.mul_le_mul_right _ h.hu
      rw [Nat.add_mul, Nat.one_mul] at h4
      have := h.hd
      rw [Nat.mul_comm] at h3
      omega
    · rw [Nat.mul_comm H32] at ht
      omega
  refine ⟨hlt, ?_⟩
  rcases Nat.eq_zero_or_pos q with h3 | h3
  · subst h3; omega
  · exact h3
theorem Half.step {u y y1 y0 d q r : Nat} (h : Half u y y1 y0 d q r) (ht : tooBig q y0 r d) : Half u y y1 y0 d (q - 1) (r + y1) := by
  obtain ⟨h1, h2⟩ := h.pos ht
  refine ⟨h.hy, h.h0, h.h1, h.top, h.hu, h.hd, ?_, by rw [Nat.sub_add_cancel h2]; exact h1⟩
  have := h.hq
  obtain ⟨p, rfl⟩ : ∃ p, q = p + 1 := ⟨q - 1, by omega⟩
  rw [Nat.add_sub_cancel]
  rw [Nat.add_mul] at this
  omega
/-- It ends either way with the quotient. -/
theorem Half.fin {u y y1 y0 d q r : Nat} (h : Half u y y1 y0 d q r) (ht : H32 ≤ r ∨ ¬ tooBig q y0 r d) : q = (u * H32 + d) / y ∧ q < H32 := by
  have e : q * y = q * y1 * H32 + q * y0 := by rw [h.hy, Nat.mul_add, Nat.mul_assoc]
  have h2 : u * H32 = q * y1 * H32 + r * H32 := by rw [← Nat.add_mul, h.hq]
  have h0 := h.h0
  have key : q * y ≤ u * H32 + d ∧ q < H32 := by
    rcases ht with ht | ht
    · have hq : q < H32 := by
        rcases Nat.lt_or_ge q H32 with h3 | h3
        · exact h3
        · have h4 : H32 * y1 ≤ q * y1 := Nat.mul_le_mul_right _ h3
          have := h.hq
          have := h.hu
          have h5 := h.hy
          rw [Nat.mul_comm] at h5
          omega
      refine ⟨?_, hq⟩
      have h3 : q * y0 ≤ H32 * H32 := Nat.mul_le_mul (by omega) (by omega)
      have h4 : H32 * H32 ≤ r * H32 := Nat.mul_le_mul_right _ ht
      omega
    · unfold tooBig at ht
      have h3 : ¬ H32 ≤ q := fun k => ht (.inl k)
      have h4 : ¬ H32 * r + d < q * y0 := fun k => ht (.inr k)
      rw [Nat.mul_comm H32] at h4
      omega
  refine ⟨?_, key.2⟩
  have hlt := h.hlt
  have hy0 : 0 < y := by have := h.hu; omega
  refine (Nat.div_eq_of_lt_le ?_ ?_).symm
  · exact key.1
  · exact hlt
theorem Half.q_le {u y y1 y0 d q r : Nat} (h : Half u y y1 y0 d q r) : q ≤ 2 * H32 := by
  rcases Nat.lt_or_ge (2 * H32) q with h3 | h3
  · have h4 : 2 * H32 * y1 ≤ q * y1 := Nat.mul_le_mul_right _ (by omega)
    have := h.hq
    have := h.hu
    have h5 := h.hy
    have h6 : y1 * H32 * 2 = 2 * H32 * y1 := by ac_rfl
    have := h.h0
    have h7 : H32 ≤ y1 * H32 := Nat.le_mul_of_pos_left _ (by have := h.top; unfold H32 at this; omega)
    omega
  · exact h3

/-- Both halves together. -/
theorem both_halves {hi l1 l0 y q1 u q0 : Nat} (hy : 0 < y) (e1 : q1 = (hi * H32 + l1) / y) (eu : u = (hi * H32 + l1) % y) (e0 : q0 = (u * H32 + l0) / y) :
    q1 * H32 + q0 = (hi * B64 + (l1 * H32 + l0)) / y ∧ (u * H32 + l0) % y = (hi * B64 + (l1 * H32 + l0)) % y := by
  have h1 : hi * H32 + l1 = u + y * q1 := by rw [e1, eu]; exact (Nat.mod_add_div _ _).symm
  have h2 : hi * B64 + (l1 * H32 + l0) = (u * H32 + l0) + y * (q1 * H32) := by
    have : (hi * H32 + l1) * H32 = (u + y * q1) * H32 := by rw [h1]
    rw [Nat.add_mul, Nat.add_mul, Nat.mul_assoc, Nat.mul_assoc, H32_sq] at this
    omega
  rw [h2, Nat.add_mul_div_left _ _ hy, Nat.add_mul_mod_self_left, e0]
  exact ⟨by omega, rfl⟩

end Go.Proofs.Ytpephogadljncaa

/-
  The contracts of div's trim, limb, raised, isShift, and of the library's Clone.
-/
namespace Go.Proofs.Ytpephogadljncaa
set_option maxRecDepth 100000
set_option maxHeartbeats 2000000
open Go.RowKit

theorem dtrim_lim (B : Nat) (A : Option Addr) (n c : Nat) (l : List Nat) (w : World) (h : Lim B w A n c l) (hn : n ≤ 4294967296) :
    Calls Try.prog 72 #[.slice A n c] w fun e w' => ∃ k, e = .returned (.slice A k c) ∧ Lim B w A k c (limbs (val l)) ∧ w = w' := by
  obtain ⟨hl, hcap, hdg, hc⟩ := h
  have HL := Lib.hid hl
  clear hl
  go_enter Try.func72, Try.ntmps72
  go_wp2
  go_loop [0] (fun v => ∃ k : Nat, k ≤ n ∧ v = .slice A k c ∧ Hid (val (l.take k) = val l)) (fun v => match v with | .slice _ k _ => k | _ => 0)
  case atStart => exact ⟨n, Nat.le_refl _, rfl, by rw [List.take_of_length_le (by have := HL.out; omega)]; exact Lib.hid rfl⟩
  case round =>
    obtain ⟨k, hk, rfl, hv⟩ := hrel
    by_cases h0 : k = 0
    · subst h0
      go_wp2
      go_ret
      refine ⟨0, rfl, ?_, rfl⟩
      have := take_limbs hdg (k := 0) (Nat.zero_le _) hv.out (by omega)
      rw [← this]
      exact Lim.nil _ _ _ _
    · obtain ⟨j, hj⟩ : ∃ j, k = j + 1 := ⟨k - 1, by omega⟩
      subst hj
      obtain ⟨b, off, rfl, hb, hcell⟩ := hc (by omega)
      have h1 := hcell j (by omega)
      by_cases hz : l[j]?.getD 0 = 0
      · have hzb : (((l[j]?.getD 0 : Nat) : Int) == 0) = true := by simp [hz]
        have HZ := Lib.hid hz
        clear hz
        go_wp2
        exact ⟨⟨j, by omega, rfl, Lib.hid (val_take_zero HZ.out hv.out)⟩, Nat.lt_succ_self j⟩
      · have hzb : (((l[j]?.getD 0 : Nat) : Int) == 0) = false := by simp [hz]
        have HZ := Lib.hid hz
        clear hz
        go_wp2
        go_ret
        refine ⟨j + 1, rfl, ?_, rfl⟩
        have ht := take_limbs hdg (k := j + 1) (by have := HL.out; omega) hv.out (fun _ => by rw [Nat.add_sub_cancel]; exact HZ.out)
        rw [← ht]
        refine ⟨by rw [List.length_take, Nat.min_eq_left (by have := HL.out; omega)], by omega, hdg.take _, fun _ => ⟨b, off, rfl, hb, fun i hi => ?_⟩⟩
        rw [List.getElem?_take_of_lt hi]
        exact hcell i (by omega)

theorem dlimb_any (B : Nat) (A : Option Addr) (n c k : Nat) (l : List Nat) (w : World) (h : Lim B w A n c l) (hn : n ≤ 9223372036854775807) (hk : k ≤ 9223372036854775807) :
    Calls Try.prog 92 #[.slice A n c, .int .i64 k] w fun e w' => e = .returned (.int .u64 ((l[k]?.getD 0 : Nat) : Int)) ∧ w = w' := by
  obtain ⟨hl, hcap, hdg, hc⟩ := h
  by_cases hlt : k < n
  · obtain ⟨b, off, rfl, hb, hcell⟩ := hc (by omega)
    have h1 := hcell k hlt
    clear hcell hc hdg
    have HL := Lib.hid hl
    clear hl
    go_enter Try.func92, Try.ntmps92
    go_wp2
    go_ret
    exact ⟨rfl, rfl⟩
  · have hz : l[k]?.getD 0 = 0 := by rw [List.getElem?_eq_none (by omega)]; rfl
    have HZ := Lib.hid hz
    clear hc hdg hl hz
    go_enter Try.func92, Try.ntmps92
    go_wp2
    go_ret
    exact ⟨by rw [HZ.out]; rfl, rfl⟩

theorem dlimb_neg (A : Option Addr) (n c : Nat) (w : World) :
    Calls Try.prog 92 #[.slice A n c, .int .i64 (-1)] w fun e w' => e = .returned (.int .u64 0) ∧ w = w' := by
  go_enter Try.func92, Try.ntmps92
  go_wp2
  go_ret
  exact ⟨rfl, rfl⟩

theorem isShift_yes (k : Nat) (w : World) (hk : k ≤ 20000) : Calls Try.prog 86 #[.int .i64 (k : Int)] w fun e w' => e = .returned (.bool true) ∧ w = w' := by
  go_enter Try.func86, Try.ntmps86
  go_wp2
  go_ret
  exact ⟨ret_bool (by simp; omega), rfl⟩

theorem isShift_no (k : Int) (w : World) (hk : k < 0 ∨ 20000 < k) : Calls Try.prog 86 #[.int .i64 k] w fun e w' => e = .returned (.bool false) ∧ w = w' := by
  rcases hk with h | h
  · go_enter Try.func86, Try.ntmps86
    go_wp2
    go_ret
    exact ⟨rfl, rfl⟩
  · have h0 : 0 ≤ k := by omega
    go_enter Try.func86, Try.ntmps86
    go_wp2
    go_ret
    exact ⟨ret_bool (by simp; omega), rfl⟩

/-- Two digits' figures that do not meet, joined by an or. -/
theorem or_shl (x : Nat) {s c : Nat} (hs : s ≤ 64) (hc : c < 2 ^ s) : bits .or .u64 (IntKind.u64.wrap ((x : Int) * 2 ^ s)) (c : Int) = ((shlD x s + c : Nat) : Int) := by
  have hlt := shlD_add_lt x hs hc
  have e1 : IntKind.u64.wrap ((x : Int) * 2 ^ s) = ((shlD x s : Nat) : Int) := by
    rw [IntKind.wrap_u64, show (18446744073709551616 : Int) = (B64 : Int) from rfl]
    unfold shlD
    simp
  rw [e1]
  have key : (BitVec.ofInt 64 ((shlD x s : Nat) : Int) ||| BitVec.ofInt 64 (c : Int)).toNat = shlD x s + c := by
    have h1 : ((shlD x s : Nat) : Int) % ((2 ^ 64 : Nat) : Int) = ((shlD x s : Nat) : Int) := Int.emod_eq_of_lt (by omega) (by rw [← B64_two]; omega)
    have h2 : (c : Int) % ((2 ^ 64 : Nat) : Int) = (c : Int) := Int.emod_eq_of_lt (by omega) (by rw [← B64_two]; omega)
    rw [BitVec.toNat_or, BitVec.toNat_ofInt, BitVec.toNat_ofInt, h1, h2, Int.toNat_natCast, Int.toNat_natCast, shlD_mul x hs]
    exact (Nat.two_pow_add_eq_or_of_lt hc _).symm
  show IntKind.u64.wrap ((BitVec.ofInt 64 ((shlD x s : Nat) : Int) ||| BitVec.ofInt 64 (c : Int)).toNat : Nat) = _
  rw [key, IntKind.wrap_u64]
  unfold B64 at hlt
  omega

theorem shr_eq (x s : Nat) : (x : Int) / 2 ^ (64 - s) = ((shrD x s : Nat) : Int) := by
  unfold shrD
  simp

theorem raised_lim (A : Option Addr) (n c s : Nat) (l : List Nat) (w : World) (h : Lim w.heap.size w A n c l) (hn : n ≤ 2147483648) (hs : s < 64) :
    Calls Try.prog 75 #[.slice A n c, .int .i64 (s : Int)] w fun e w' => ∃ g cap R, e = .returned (.slice (some ⟨g, 0, none⟩) (n + 1) cap) ∧ w'.ownsRow w.heap.size 43 1 (.slice (some ⟨g, 0, none⟩) (n + 1) cap) (n + 1) (R.map encD) ∧ Dig R ∧ val R = val l * 2 ^ s ∧ Below w.heap.size w w' := by
  obtain ⟨i0, hi, hz0, hz1, hz2⟩ := info_parts info24
  have HL := Lib.hid h.1
  obtain ⟨t, ht⟩ : ∃ t, w.heap.size = t := ⟨_, rfl⟩
  have HT := Lib.hid ht
  rw [ht] at h ⊢
  clear ht
  go_enter Try.func75, Try.ntmps75
  go_wp2_with (at_make; refine wpList_make_own _ rfl _ _ 26 rfl t 43 i0 (.int .u64 0) 1 Try.underlying26 hi hz0 hz1 .i64 .i64 _ (n + 1) rfl rfl (by omega) (by rw [hz2]; omega) (by unfold maxLen; omega) (by rw [HT.out]; omega) ?_; intro w1 hown1 hgrow1)
  rw [HT.out] at hown1 ⊢
  go_loopw [5, 6, 15] (fun ov cv iv wr => ∃ (k cap cc g : Nat) (R : List Nat), k ≤ n ∧ iv = .int .i64 (k : Int) ∧ cv = .int .u64 (cc : Int) ∧ ov = .slice (some ⟨g, 0, none⟩) k cap ∧ RaisedAt l R k s cc ∧ wr.ownsRow t 43 1 (.slice (some ⟨g, 0, none⟩) k cap) k (R.map encD) ∧ Below t w wr) (fun _ _ iv _ => n - (intOf iv).toNat)
  case atStart => exact ⟨0, n + 1, 0, t, [], Nat.zero_le _, rfl, rfl, rfl, RaisedAt.start l s, hown1, (Below.refl t w).grown hgrow1 (by have := HT.out; omega) (fun k h => by cases h)⟩
  case round =>
    obtain ⟨k, cap, cc, g, R, hk, rfl, rfl, rfl, hR, hown, hbl⟩ := hrel
    have hgl := hown.lt g rfl
    have hcc : cc < 2 ^ s := hR.2.2.1
    have HCC := Lib.hid hcc
    have HR := Lib.hid hR
    have HO := Lib.hid hown
    clear hown hcc hR
    by_cases hlt : k < n
    · obtain ⟨b, off, rfl, hb, hcell⟩ := (h.below hbl).2.2.2 (by omega)
      have h1 := hcell k hlt
      have hs1 : (0 : Int) ≤ (s : Int) := by omega
      have hs2 : (s : Int) ≤ 64 := by omega
      have hs3 : (0 : Int) ≤ 64 - (s : Int) := by omega
      have hs4 : 64 - (s : Int) ≤ 64 := by omega
      clear hcell
      have HR' := Lib.hid (HR.out.step h.2.2.1 (by omega))
      generalize l[k]?.getD 0 = x at *
      have hor := or_shl x (by omega) HCC.out
      have HOR := Lib.hid hor
      clear hor
      go_wp2_with (at_builtin; refine wpList_append_lies _ rfl _ _ 26 rfl t 43 i0 (.int .u64 0) 1 8 Try.underlying26 hi hz0 hz1 hz2 rfl (by decide) _ _ _ rfl (HO.out.alloc _) ⟨wr.heap.size, 0, none⟩ 1 1 [.int .u64 (bits .or .u64 (IntKind.u64.wrap ((x : Int) * 2 ^ s)) (cc : Int))] rfl rfl (cell_one_new _ _ _) (by simp [Value.oneCell']) (by omega) (by unfold maxLen; omega) (by omega) (by simp; have := hbl.size; have := HT.out; omega) _ rfl ?_; intro g1 cap1 w1 hown1 hgrow1 hat hlt1)
      go_roundw
      case rel =>
        refine ⟨k + 1, cap1, shrD x s, g1, R ++ [shlD x s + cc], by omega, by go_num, ?_, rfl, HR'.out, ?_, ?_⟩
        · exact congrArg (Value.int .u64) (shr_eq x s)
        · rw [HOR.out] at hown1
          rw [List.map_append]
          exact hown1
        · exact (hbl.alloc (by have := hbl.size; have := HT.out; omega) _).grown hgrow1 (by simp; have := hbl.size; have := HT.out; omega) (fun q e => by injection (show some g = some q from e) with e1; omega)
      case measure => simp [intOf]; omega
    · obtain rfl : k = n := by omega
      have HD := Lib.hid (HR.out.done HL.out (by omega))
      go_wp2_with (at_builtin; refine wpList_append_lies _ rfl _ _ 26 rfl t 43 i0 (.int .u64 0) 1 8 Try.underlying26 hi hz0 hz1 hz2 rfl (by decide) _ _ _ rfl (HO.out.alloc _) ⟨wr.heap.size, 0, none⟩ 1 1 [.int .u64 (cc : Int)] rfl rfl (cell_one_new _ _ _) (by simp [Value.oneCell']) (by omega) (by unfold maxLen; omega) (by omega) (by simp; have := hbl.size; have := HT.out; omega) _ rfl ?_; intro g1 cap1 w1 hown1 hgrow1 hat hlt1)
      go_ret
      obtain ⟨d1, d2, d3⟩ := HD.out
      refine ⟨g1, cap1, R ++ [cc], rfl, ?_, d1, d3, ?_⟩
      · rw [List.map_append]
        exact hown1
      · exact (hbl.alloc (by have := hbl.size; have := HT.out; omega) _).grown hgrow1 (by simp; have := hbl.size; have := HT.out; omega) (fun q e => by injection (show some g = some q from e) with e1; omega)

end Go.Proofs.Ytpephogadljncaa

/-
  The contracts of div's lowered, and of the library's Clone and LeadingZeros64.
-/
namespace Go.Proofs.Ytpephogadljncaa
set_option maxRecDepth 100000
set_option maxHeartbeats 2000000
open Go.RowKit

theorem or_low {x : Nat} (hx : x < B64) (y : Nat) {s : Nat} (hs : s ≤ 64) : bits .or .u64 ((x : Int) / 2 ^ s) (IntKind.u64.wrap ((y : Int) * 2 ^ (64 - s))) = ((x / 2 ^ s + shlD y (64 - s) : Nat) : Int) := by
  have h1 : x / 2 ^ s < 2 ^ (64 - s) := by
    rw [Nat.div_lt_iff_lt_mul (Nat.pow_pos (by omega)), Nat.mul_comm, B64_parts hs]; exact hx
  have h2 := or_shl y (s := 64 - s) (by omega) h1
  rw [Nat.add_comm, ← h2]
  show IntKind.u64.wrap ((BitVec.ofInt 64 _ ||| BitVec.ofInt 64 _).toNat : Nat) = IntKind.u64.wrap ((BitVec.ofInt 64 _ ||| BitVec.ofInt 64 _).toNat : Nat)
  rw [BitVec.or_comm]
  simp

theorem lowered_lim (A : Option Addr) (n c s : Nat) (l : List Nat) (w : World) (h : Lim w.heap.size w A n c l) (hn : n ≤ 2147483648) (hs : s < 64) :
    Calls Try.prog 77 #[.slice A n c, .int .i64 (s : Int)] w fun e w' => ∃ g cap, e = .returned (.slice (some ⟨g, 0, none⟩) n cap) ∧ w'.ownsRow w.heap.size 43 1 (.slice (some ⟨g, 0, none⟩) n cap) n ((digs (val l / 2 ^ s) n).map encD) ∧ Below w.heap.size w w' := by
  obtain ⟨i0, hi, hz0, hz1, hz2⟩ := info_parts info24
  have HL := Lib.hid h.1
  obtain ⟨t, ht⟩ : ∃ t, w.heap.size = t := ⟨_, rfl⟩
  have HT := Lib.hid ht
  rw [ht] at h ⊢
  clear ht
  go_enter Try.func77, Try.ntmps77
  go_wp2_with (at_make; refine wpList_make_own _ rfl _ _ 26 rfl t 43 i0 (.int .u64 0) 1 Try.underlying26 hi hz0 hz1 .i64 .i64 _ n rfl rfl (by omega) (by rw [hz2]; omega) (by unfold maxLen; omega) (by rw [HT.out]; omega) ?_; intro w1 hown1 hgrow1)
  rw [HT.out] at hown1 ⊢
  go_loopw [5, 13] (fun ov iv wr => ∃ (k cap g : Nat), k ≤ n ∧ iv = .int .i64 (k : Int) ∧ ov = .slice (some ⟨g, 0, none⟩) k cap ∧ wr.ownsRow t 43 1 (.slice (some ⟨g, 0, none⟩) k cap) k ((digs (val l / 2 ^ s) k).map encD) ∧ Below t w wr) (fun _ iv _ => n - (intOf iv).toNat)
  case atStart => exact ⟨0, n, t, Nat.zero_le _, rfl, rfl, hown1, (Below.refl t w).grown hgrow1 (by have := HT.out; omega) (fun k h => by cases h)⟩
  case round =>
    obtain ⟨k, cap, g, hk, rfl, rfl, hown, hbl⟩ := hrel
    have hgl := hown.lt g rfl
    have HO := Lib.hid hown
    clear hown
    by_cases hlt : k < n
    · have hlim := h.below hbl
      obtain ⟨b, off, rfl, hb, hcell⟩ := hlim.2.2.2 (by omega)
      have h1 := hcell k hlt
      have hs1 : (0 : Int) ≤ (s : Int) := by omega
      have hs2 : (s : Int) ≤ 64 := by omega
      have hs3 : (0 : Int) ≤ 64 - (s : Int) := by omega
      have hs4 : 64 - (s : Int) ≤ 64 := by omega
      have hw1 : IntKind.i64.wrap ((k : Int) + 1) = ((k + 1 : Nat) : Int) := by rw [IntWalk.i64_in _ (by omega)]; omega
      have hw2 : IntKind.i64.wrap (64 - (s : Int)) = 64 - (s : Int) := IntWalk.i64_in _ (by omega)
      clear hcell
      have HD := Lib.hid (low_row h.2.2.1 hs k)
      have hx : l[k]?.getD 0 < B64 := h.2.2.1.get k
      have hor := or_low hx (l[k + 1]?.getD 0) (s := s) (by omega)
      have HOR := Lib.hid hor
      clear hor
      have hc := dlimb_any t (some ⟨b, off, none⟩) n c (k + 1) l wr.drew hlim (by omega) (by omega)
      have HC := Lib.hid hc
      clear hc
      go_wp2_with fail
      go_region_held3 (fun w' => True) (trivial) (first
        | (go_at_call 92; refine HC.out.mono ?_; rintro e w' ⟨rfl, rfl⟩)
        | (refine step_append_lies _ rfl _ _ 26 rfl t 43 i0 (.int .u64 0) 1 8 Try.underlying26 hi hz0 hz1 hz2 rfl (by decide) _ _ _ rfl ((HO.out.alloc _).drew) ⟨wr.heap.size, 0, none⟩ 1 1 [.int .u64 (bits .or .u64 (((l[k]?.getD 0 : Nat) : Int) / 2 ^ s) (IntKind.u64.wrap (((l[k + 1]?.getD 0 : Nat) : Int) * 2 ^ (64 - s))))] rfl rfl (cell_one_new _ _ _) (by simp [Value.oneCell']) (by omega) (by unfold maxLen; omega) (by omega) (by simp; have := hbl.size; have := HT.out; omega) _ rfl ?_; intro g1 cap1 w1 hown1 hgrow1 hat hlt1))
      clear hw1 hw2 hs1 hs2 hs3 hs4
      go_wp2
      go_roundw
      case rel =>
        refine ⟨k + 1, cap1, g1, by omega, by go_num, rfl, ?_, ?_⟩
        · rw [HOR.out, HD.out] at hown1
          rw [digs_succ, List.map_append]
          exact hown1
        · exact (below_drewN (hbl.alloc (by have := hbl.size; have := HT.out; omega) _) 1).grown hgrow1 (by simp; have := hbl.size; have := HT.out; omega) (fun q e => by injection (show some g = some q from e) with e1; omega)
      case measure => simp [intOf]; omega
    · obtain rfl : k = n := by omega
      go_wp2
      go_ret
      exact ⟨g, cap, rfl, HO.out, hbl⟩

/-- A number of digits, copied into new memory. -/
theorem append_src {w : World} {b off n c : Nat} {l : List Nat} (h : Lim w.heap.size w (some ⟨b, off, none⟩) n c l) (h0 : 0 < n) (o : Obj) : ∀ (j : Nat) u, (l.map encD)[j]? = some u → (w.alloc o).cell? ((⟨b, off, none⟩ : Addr).add j) = some u := by
  intro j u hu
  obtain ⟨b', off', e, hb, hcell⟩ := h.2.2.2 h0
  injection e with e
  injection e with e1 e2
  subst e1; subst e2
  have hj : j < n := by
    have := (List.getElem?_eq_some_iff.1 hu).1
    rw [List.length_map] at this
    have := h.1; omega
  have e1 : ((⟨b, off, none⟩ : Addr).add j) = ⟨b, off + j, none⟩ := by unfold Addr.add; split <;> simp_all
  rw [e1, World.cell?_alloc_lt _ _ _ hb, hcell j hj]
  rw [List.getElem?_map] at hu
  have hjl : j < l.length := by have := h.1; omega
  rw [List.getElem?_eq_getElem hjl] at hu ⊢
  exact hu

theorem clone_F {w : World} {A : Option Addr} {n c x : Nat} (h : Num w A n c x) (hn : n ≤ 2147483648) : Calls Try.prog 73 #[.slice A n c] w (GotNF w x) := by
  obtain ⟨i0, hi, hz0, hz1, hz2⟩ := info_parts info24
  have q23 : ∀ (w : World) (a : Option Addr) (n c n' c' : Nat), (binOp .eql 26 (.slice a n c) (.slice none n' c')).run Try.prog w = .ok (.bool a.isNone) w := fun w a n c n' c' => Lib.run_eql_slice_nil w _ _ a n c n' c' Try.underlying26
  have HL := Lib.hid h.len
  by_cases h0 : n = 0
  · subst h0
    have hx : x = 0 := by
      have h2 := val_limbs x
      rw [List.eq_nil_of_length_eq_zero HL.out.symm] at h2
      exact h2.symm
    subst hx
    cases A with
    | none =>
      have e : GotNF w 0 (.returned (.slice none 0 0)) w := ⟨_, _, _, rfl, num_empty _ _ _, Below.refl _ _, fun h => by omega⟩
      have HE := Lib.hid e
      clear e
      go_enter Try.func73, Try.ntmps73
      go_wp2
      go_ret
      exact HE.out
    | some ad =>
      go_enter Try.func73, Try.ntmps73
      go_wp2_with (at_builtin; refine wpList_append_own _ rfl _ _ 26 rfl w.heap.size 43 i0 (.int .u64 0) 1 8 Try.underlying26 hi hz0 hz1 hz2 rfl (by decide) _ _ _ rfl (own_empty w w.heap.size (Nat.le_refl _)) ad 0 _ [] rfl rfl (by intro j u h; simp at h) (by simp) (by unfold maxLen; omega) (by omega) (by simp) ?_; intro v' w1 hown1 hgrow1 _)
      go_ret
      obtain ⟨A', c', rfl, hl'⟩ := isL_of_own (l := []) hown1 Dig.nil
      exact ⟨_, _, _, rfl, num_empty _ _ _, ((Below.refl _ w).alloc (Nat.le_refl _) _).grown hgrow1 (by simp) (fun q e => by injection (show some w.heap.size = some q from e) with e1; omega), fun h => by simp at h⟩
  · obtain ⟨b, off, rfl, hb, _⟩ := h.2.2.2 (by omega)
    have HC := Lib.hid (append_src h (by omega) (.cells #[] 43))
    go_enter Try.func73, Try.ntmps73
    go_wp2_with (at_builtin; refine wpList_append_own _ rfl _ _ 26 rfl w.heap.size 43 i0 (.int .u64 0) 1 8 Try.underlying26 hi hz0 hz1 hz2 rfl (by decide) _ _ _ rfl (own_empty w w.heap.size (Nat.le_refl _)) ⟨b, off, none⟩ n _ ((limbs x).map encD) rfl (by have := HL.out; simp only [List.length_map]; omega) HC.out (encD_one _) (by unfold maxLen; omega) (by omega) (by simp) ?_; intro v' w1 hown1 hgrow1 _)
    go_ret
    rw [List.nil_append] at hown1
    obtain ⟨A', c', rfl, hl'⟩ := isL_of_own hown1 (limbs_dig x)
    exact ⟨_, _, _, rfl, hl', ((Below.refl _ w).alloc (Nat.le_refl _) _).grown hgrow1 (by simp) (fun q e => by injection (show some w.heap.size = some q from e) with e1; omega), fresh_of_own hown1⟩

theorem lead_any (x : Nat) (w : World) (hx : x < B64) : Calls Try.prog 74 #[.int .u64 (x : Int)] w fun e w' => e = .returned (.int .i64 ((64 - blen x : Nat) : Int)) ∧ w = w' := by
  have hb : blen x ≤ 64 := blen_le (by rw [← B64_two]; exact hx)
  go_enter Try.func74, Try.ntmps74
  go_wp2_with (go_at_call 88; refine (len64_any _ _ hx).mono ?_; rintro e w' ⟨rfl, rfl⟩)
  go_ret
  exact ⟨ret_i64 (by omega), rfl⟩

end Go.Proofs.Ytpephogadljncaa

/-
  The contracts of zed: signed, Right, Of, Int, Neg, Cmp.
-/
namespace Go.Proofs.Ytpephogadljncaa
set_option maxRecDepth 100000
set_option maxHeartbeats 2000000
open Go.RowKit
set_option linter.unusedVariables false

theorem signed_N {w : World} {A : Option Addr} {n c x : Nat} (b : Bool) (ha : Num w A n c x) (hn : n ≤ 1000000) : Calls Try.prog 47 #[.bool b, .slice A n c] w (GotZ w (sgn b x)) := by
  have hl := ha.len
  by_cases h0 : n = 0
  · subst h0
    have hx : x = 0 := by
      have h2 := val_limbs x
      rw [List.eq_nil_of_length_eq_zero hl.symm] at h2
      exact h2.symm
    subst hx
    have hz : Zn w false A 0 c (sgn b 0) := by
      refine ⟨by rw [sgn_abs]; exact ha, ?_⟩
      unfold sgn; split <;> rfl
    clear hl
    cases b
    all_goals
      go_enter Try.func47, Try.ntmps47
      go_wp2_with fail
      refine bodyPost_ret (v := .agg #[.bool false, .slice A 0 c]) (by simp [results, Try.results47, go_sem]) rfl ⟨_, _, _, _, rfl, hz.on ?_, ?_⟩
      all_goals exact (Below.refl _ w).alloc (Nat.le_refl _) _
  · have hx : x ≠ 0 := fun h => by rw [h, limbs_zero] at hl; simp at hl; omega
    have hn0 : (0 : Int) < (n : Int) := by omega
    have hz : Zn w b A n c (sgn b x) := by
      refine ⟨by rw [sgn_abs]; exact ha, ?_⟩
      unfold sgn
      cases b
      · simp
      · simp; omega
    clear hl
    cases b
    all_goals
      go_enter Try.func47, Try.ntmps47
      go_wp2_with fail
    · refine bodyPost_ret (v := .agg #[.bool false, .slice A n c]) (by simp [results, Try.results47, go_sem]) rfl ⟨_, _, _, _, rfl, hz.on ?_, ?_⟩
      all_goals exact (Below.refl _ w).alloc (Nat.le_refl _) _
    · refine bodyPost_ret (v := .agg #[.bool true, .slice A n c]) (by simp [results, Try.results47, go_sem]; omega) rfl ⟨_, _, _, _, rfl, hz.on ?_, ?_⟩
      all_goals exact (Below.refl _ w).alloc (Nat.le_refl _) _

theorem zof_N (w : World) (z : Int) (h : I64 z) : Calls Try.prog 28 #[.int .i64 z] w (GotZ w z) := by
  have hx := h.abs
  obtain ⟨x, hxe⟩ : ∃ x, z.natAbs = x := ⟨_, rfl⟩
  rw [hxe] at hx
  obtain ⟨W, hW⟩ : ∃ W, w.alloc (.cells #[.bool false, .slice none 0 0] 29) = W := ⟨_, rfl⟩
  have hB : Below w.heap.size w W := by rw [← hW]; exact below_one w _
  have hsz : W.heap.size = w.heap.size + 1 := by rw [← hW]; simp
  have c1 : W.cell? ⟨w.heap.size, 0, none⟩ = some (.bool false) := by rw [← hW]; simp [go_sem]
  have c2 : W.cell? ⟨w.heap.size, 1, none⟩ = some (.slice none 0 0) := by rw [← hW]; simp [go_sem]
  have c3 : W.frozen? ⟨w.heap.size, 0, none⟩ = false := by rw [← hW]; simp [go_sem]
  have c4 : W.frozen? ⟨w.heap.size, 1, none⟩ = false := by rw [← hW]; simp [go_sem]
  have HSZ := Lib.hid hsz
  clear hsz
  have hl := len_one hx
  by_cases hz : z < 0
  · have hs : sgn true x = z := by rw [← hxe]; exact sgn_of (by simp [hz])
    have e1 : IntKind.u64.wrap (-IntKind.u64.wrap z) = (x : Int) := by
      unfold I64 at h; rw [IntKind.wrap_u64, IntKind.wrap_u64]; omega
    have HS := Lib.hid hs
    clear hs hxe
    go_enter Try.func28, Try.ntmps28
    go_wp2_with fail
    clear hW e1
    refine (of_N W x hx).mono ?_
    rintro e w1 ⟨A1, n1, k1, rfl, hm, b1⟩
    go_wp2_with fail
    refine (signed_N _ hm (by rw [hm.len]; omega)).mono ?_
    rintro e w2 ⟨b2, A2, n2, k2, rfl, hz2, b2'⟩
    have b12 := b1.trans (b2'.mono b1.size)
    have hsz := HSZ.out
    have g1 := (b12.cell (p := ⟨w.heap.size, 0, none⟩) (by simp; omega)).trans c1
    have g2 := (b12.cell (p := ⟨w.heap.size, 1, none⟩) (by simp; omega)).trans c2
    have g3 := (b12.frozen (p := ⟨w.heap.size, 0, none⟩) (by simp; omega)).trans c3
    have g4 := (b12.frozen (p := ⟨w.heap.size, 1, none⟩) (by simp; omega)).trans c4
    rw [HS.out] at hz2
    have HZ := Lib.hid (hz2.stored g1 g2)
    have HB := hB.trans (b12.mono hB.size)
    clear hsz b12 b1 b2' hz2 hm
    go_wp2_with fail
    refine bodyPost_ret (v := .agg #[.bool b2, .slice A2 n2 k2]) (by simp [results, Try.results28, go_sem, g1, g2]) rfl ⟨_, _, _, _, rfl, HZ.out, ?_⟩
    exact (HB.setCell (p := ⟨w.heap.size, 0, none⟩) (Nat.le_refl _) _).setCell (p := ⟨w.heap.size, 1, none⟩) (Nat.le_refl _) _
  · have hs : sgn false x = z := by rw [← hxe]; exact sgn_of (by simp [hz])
    have e1 : IntKind.u64.wrap z = (x : Int) := by
      unfold I64 at h; rw [IntKind.wrap_u64]; omega
    have HS := Lib.hid hs
    clear hs hxe
    go_enter Try.func28, Try.ntmps28
    go_wp2_with fail
    clear hW e1
    refine (of_N W x hx).mono ?_
    rintro e w1 ⟨A1, n1, k1, rfl, hm, b1⟩
    go_wp2_with fail
    refine (signed_N _ hm (by rw [hm.len]; omega)).mono ?_
    rintro e w2 ⟨b2, A2, n2, k2, rfl, hz2, b2'⟩
    have b12 := b1.trans (b2'.mono b1.size)
    have hsz := HSZ.out
    have g1 := (b12.cell (p := ⟨w.heap.size, 0, none⟩) (by simp; omega)).trans c1
    have g2 := (b12.cell (p := ⟨w.heap.size, 1, none⟩) (by simp; omega)).trans c2
    have g3 := (b12.frozen (p := ⟨w.heap.size, 0, none⟩) (by simp; omega)).trans c3
    have g4 := (b12.frozen (p := ⟨w.heap.size, 1, none⟩) (by simp; omega)).trans c4
    rw [HS.out] at hz2
    have HZ := Lib.hid (hz2.stored g1 g2)
    have HB := hB.trans (b12.mono hB.size)
    clear hsz b12 b1 b2' hz2 hm
    go_wp2_with fail
    refine bodyPost_ret (v := .agg #[.bool b2, .slice A2 n2 k2]) (by simp [results, Try.results28, go_sem, g1, g2]) rfl ⟨_, _, _, _, rfl, HZ.out, ?_⟩
    exact (HB.setCell (p := ⟨w.heap.size, 0, none⟩) (Nat.le_refl _) _).setCell (p := ⟨w.heap.size, 1, none⟩) (Nat.le_refl _) _

theorem zint_yes {w : World} {b : Bool} {A : Option Addr} {n c : Nat} {z : Int} (ha : Zn w b A n c z) (h : I64 z) :
    Calls Try.prog 57 #[.agg #[.bool b, .slice A n c]] w (GotV w (.tuple #[.int .i64 z, .bool true])) := by
  have hx := h.abs
  obtain ⟨x, hxe⟩ : ∃ x, z.natAbs = x := ⟨_, rfl⟩
  rw [hxe] at hx
  have hB := below_one w (.cells #[.bool b, .slice A n c] 29)
  have ha' := ha.1.on hB
  rw [hxe] at ha'
  have hl := len_one hx
  have hn : n ≤ 9223372036854775807 := by rw [ha'.len]; omega
  have HC := Lib.hid (small_any A n c x _ ha' hn hx)
  have hs := ha.2
  by_cases hz : z < 0
  · have hbt := abs_sgn hs hz
    subst hbt
    have e2 : (x : Int) ≤ 9223372036854775808 := by unfold I64 at h; omega
    have e3 : IntKind.i64.wrap (IntKind.u64.wrap (-(x : Int))) = z := by
      rw [IntKind.wrap_u64, IntKind.wrap_i64]; omega
    have E3 := Lib.hid e3
    clear hxe hs ha hz
    go_enter Try.func57, Try.ntmps57
    go_wp2_with fail
    refine HC.out.mono ?_
    rintro e w' ⟨rfl, rfl⟩
    go_wp2_with fail
    go_ret2
    exact ⟨rfl, hB⟩
  · have hbt := abs_sgn' hs hz
    subst hbt
    have e2 : (x : Int) < 9223372036854775808 := by unfold I64 at h; omega
    have e3 : IntKind.i64.wrap (x : Int) = z := by rw [IntWalk.i64_in _ (by omega)]; omega
    clear hxe hs ha hz
    go_enter Try.func57, Try.ntmps57
    go_wp2_with fail
    refine HC.out.mono ?_
    rintro e w' ⟨rfl, rfl⟩
    go_wp2_with fail
    go_ret2
    exact ⟨rfl, hB⟩

theorem zint_no {w : World} {b : Bool} {A : Option Addr} {n c : Nat} {z : Int} (ha : Zn w b A n c z) (hx : (limbs z.natAbs).length ≤ 300) (h : ¬ I64 z) :
    Calls Try.prog 57 #[.agg #[.bool b, .slice A n c]] w (GotV w (.tuple #[.int .i64 0, .bool false])) := by
  obtain ⟨x, hxe⟩ : ∃ x, z.natAbs = x := ⟨_, rfl⟩
  rw [hxe] at hx
  have hB := below_one w (.cells #[.bool b, .slice A n c] 29)
  have ha' := ha.1.on hB
  rw [hxe] at ha'
  have hn : n ≤ 9223372036854775807 := by rw [ha'.len]; omega
  have hs := ha.2
  rcases Nat.lt_or_ge x B64 with hlt | hge
  · have HC := Lib.hid (small_any A n c x _ ha' hn hlt)
    by_cases hz : z < 0
    · have hbt := abs_sgn hs hz
      subst hbt
      have e2 : ¬ (x : Int) ≤ 9223372036854775808 := by unfold I64 at h; omega
      clear hxe hs ha hz
      go_enter Try.func57, Try.ntmps57
      go_wp2_with fail
      refine HC.out.mono ?_
      rintro e w' ⟨rfl, rfl⟩
      go_wp2_with fail
      go_ret2
      exact ⟨rfl, hB⟩
    · have hbt := abs_sgn' hs hz
      subst hbt
      have e2 : decide ((x : Int) < 9223372036854775808) = false := by simp; unfold I64 at h; omega
      clear hxe hs ha hz hn hlt
      go_enter Try.func57, Try.ntmps57
      go_wp2_with fail
      refine HC.out.mono ?_
      rintro e w' ⟨rfl, rfl⟩
      go_wp2_with fail
      go_ret2
      exact ⟨rfl, hB⟩
  · have HC := Lib.hid (small_great A n c x _ ha' hn hge)
    clear hxe hs ha
    go_enter Try.func57, Try.ntmps57
    go_wp2_with fail
    refine HC.out.mono ?_
    rintro e w' ⟨rfl, rfl⟩
    go_wp2_with fail
    go_ret2
    exact ⟨rfl, hB⟩

end Go.Proofs.Ytpephogadljncaa

/-
  The contracts of zed: Mul, Add.
-/
namespace Go.Proofs.Ytpephogadljncaa
set_option maxRecDepth 100000
set_option maxHeartbeats 2000000
open Go.RowKit
set_option linter.unusedVariables false

theorem zadd_same {w : World} {b : Bool} {A B : Option Addr} {n c m d : Nat} {z z' : Int} (ha : Zn w b A n c z) (hb : Zn w b B m d z') (hx : (limbs z.natAbs).length ≤ 1000) (hy : (limbs z'.natAbs).length ≤ 1000) :
    Calls Try.prog 44 #[.agg #[.bool b, .slice A n c], .agg #[.bool b, .slice B m d]] w (GotZ w (z + z')) := by
  obtain ⟨W, hW⟩ : ∃ W, ((w.alloc (.cells #[.bool b, .slice A n c] 29)).alloc (.cells #[.bool b, .slice B m d] 29)).alloc (.cells #[.bool false, .slice none 0 0] 29) = W := ⟨_, rfl⟩
  have X := box3 hW
  have hBd : Below w.heap.size w W.drew := below_drewN X.hB 1
  have ha' : Num W.drew A n c z.natAbs := ha.1.on hBd
  have hb' : Num W.drew B m d z'.natAbs := hb.1.on hBd
  have HS := Lib.hid (sgn_same ha.2 hb.2)
  have hl := limbs_length_add hx hy
  have hcall : Calls Try.prog 29 #[.slice A n c, .slice B m d] W.drew fun e w' => ∃ A1 n1 c1, e = .returned (.slice A1 n1 c1) ∧ Num w' A1 n1 c1 (z.natAbs + z'.natAbs) ∧ Below W.heap.size W w' := (add_N ha' hb' (by omega) (by omega)).mono fun _ _ ⟨A1, n1, c1, he, hm, hb⟩ => ⟨A1, n1, c1, he, hm, below_undrew hb⟩
  have HC := Lib.hid hcall
  have hc1 := X.c1
  have hc2 := X.c2
  have hc3 := X.c3
  have hc4 := X.c4
  clear hcall
  go_enter Try.func44, Try.ntmps44
  go_wp2_with fail
  clear hW
  go_region_held3 (fun w' => w'.cell? ⟨w.heap.size, 0, none⟩ = some (.bool b) ∧ w'.cell? ⟨w.heap.size, 1, none⟩ = some (.slice A n c) ∧ w'.cell? ⟨w.heap.size + 1, 0, none⟩ = some (.bool b) ∧ w'.cell? ⟨w.heap.size + 1, 1, none⟩ = some (.slice B m d))
    (first | exact ⟨(cell_store (by omega)).trans (X.on hb1).2.2.1, (cell_store (by omega)).trans (X.on hb1).2.2.2.1, (cell_store (by omega)).trans (X.on hb1).2.2.2.2.1, (cell_store (by omega)).trans (X.on hb1).2.2.2.2.2.1⟩ | go_keep | exact ⟨(X.on hb1).2.2.1, (X.on hb1).2.2.2.1, (X.on hb1).2.2.2.2.1, (X.on hb1).2.2.2.2.2.1⟩)
    (first
      | (go_at_call 29; (with_reducible refine HC.out.mono ?_); rintro e w1 ⟨A1, n1, k1, rfl, hm, hb1⟩)
      | (go_at_call 47; (with_reducible refine (signed_N _ hm (by rw [hm.len]; omega)).mono ?_); rintro e w2 ⟨b2, A2, n2, k2, rfl, hz2, hb2⟩; replace hb1 := bK hb1 hb2; have e5 := (X.on hb1).2.2.2.2.2.2.1; have e6 := (X.on hb1).2.2.2.2.2.2.2.1; have e7 := (X.on hb1).2.2.2.2.2.2.2.2.1; have e8 := (X.on hb1).2.2.2.2.2.2.2.2.2))
  rw [HS.out] at hz2
  have HZ := Lib.hid (hz2.stored e5 e6)
  have HB := (X.on hb1).1
  go_wp2_with fail
  refine bodyPost_ret (v := .agg #[.bool b2, .slice A2 n2 k2]) (by simp [results, Try.results44, go_sem, e5, e6]) rfl ⟨_, _, _, _, rfl, HZ.out, ?_⟩
  exact (HB.setCell (p := ⟨w.heap.size + 1 + 1, 0, none⟩) (show w.heap.size ≤ w.heap.size + 1 + 1 by omega) _).setCell (p := ⟨w.heap.size + 1 + 1, 1, none⟩) (show w.heap.size ≤ w.heap.size + 1 + 1 by omega) _

theorem zadd_first {w : World} {b b' : Bool} {A B : Option Addr} {n c m d : Nat} {z z' : Int} (ha : Zn w b A n c z) (hb : Zn w b' B m d z') (hx : (limbs z.natAbs).length ≤ 1000) (hy : (limbs z'.natAbs).length ≤ 1000) (hne : b ≠ b') (hle : z'.natAbs ≤ z.natAbs) :
    Calls Try.prog 44 #[.agg #[.bool b, .slice A n c], .agg #[.bool b', .slice B m d]] w (GotZ w (z + z')) := by
  obtain ⟨W, hW⟩ : ∃ W, ((w.alloc (.cells #[.bool b, .slice A n c] 29)).alloc (.cells #[.bool b', .slice B m d] 29)).alloc (.cells #[.bool false, .slice none 0 0] 29) = W := ⟨_, rfl⟩
  have X := box3 hW
  have ha' := ha.1.on X.hB
  have hb' := hb.1.on X.hB
  have HS := Lib.hid (sgn_diff ha.2 hb.2 hne hle)
  have hl : (limbs (z.natAbs - z'.natAbs)).length ≤ 1000 := Nat.le_trans (limbs_length_mono (Nat.sub_le _ _)) (by assumption)
  have hneb : (b == b') = false := by simp [hne]
  have hc1 := X.c1
  have hc2 := X.c2
  have hc3 := X.c3
  have hc4 := X.c4
  go_enter Try.func44, Try.ntmps44
  go_wp2_with fail
  clear hW
  refine (sub_N ha' hb' (by omega) (by omega) hle).mono ?_
  rintro e w2 ⟨A2, n2, c2, rfl, hm, b12⟩
  obtain ⟨-, -, f1, f2, f3, f4, -, -, -, -⟩ := X.on b12
  clear ha' hb' hc1 hc2 hc3 hc4
  go_wp2_with fail
  refine (signed_N _ hm (by rw [hm.len]; omega)).mono ?_
  rintro e w3 ⟨b3, A3, n3, k3, rfl, hz3, b3'⟩
  have b13 := b12.trans (b3'.mono b12.size)
  obtain ⟨HB, -, -, -, -, -, e5, e6, e7, e8⟩ := X.on b13
  rw [HS.out] at hz3
  have HZ := Lib.hid (hz3.stored e5 e6)
  clear b12 b13 b3' f1 f2 f3 f4 hz3
  go_wp2_with fail
  refine bodyPost_ret (v := .agg #[.bool b3, .slice A3 n3 k3]) (by simp [results, Try.results44, go_sem, e5, e6]) rfl ⟨_, _, _, _, rfl, HZ.out, ?_⟩
  exact (HB.setCell (p := ⟨w.heap.size + 1 + 1, 0, none⟩) (show w.heap.size ≤ w.heap.size + 1 + 1 by omega) _).setCell (p := ⟨w.heap.size + 1 + 1, 1, none⟩) (show w.heap.size ≤ w.heap.size + 1 + 1 by omega) _

theorem zadd_second {w : World} {b b' : Bool} {A B : Option Addr} {n c m d : Nat} {z z' : Int} (ha : Zn w b A n c z) (hb : Zn w b' B m d z') (hx : (limbs z.natAbs).length ≤ 1000) (hy : (limbs z'.natAbs).length ≤ 1000) (hne : b ≠ b') (hlt : z.natAbs < z'.natAbs) :
    Calls Try.prog 44 #[.agg #[.bool b, .slice A n c], .agg #[.bool b', .slice B m d]] w (GotZ w (z + z')) := by
  obtain ⟨W, hW⟩ : ∃ W, ((w.alloc (.cells #[.bool b, .slice A n c] 29)).alloc (.cells #[.bool b', .slice B m d] 29)).alloc (.cells #[.bool false, .slice none 0 0] 29) = W := ⟨_, rfl⟩
  have X := box3 hW
  have ha' := ha.1.on X.hB
  have hb' := hb.1.on X.hB
  have HS := Lib.hid ((sgn_diff hb.2 ha.2 (fun e => hne e.symm) (by omega)).trans (Int.add_comm z' z))
  have hl : (limbs (z'.natAbs - z.natAbs)).length ≤ 1000 := Nat.le_trans (limbs_length_mono (Nat.sub_le _ _)) (by assumption)
  have hneb : (b == b') = false := by simp [hne]
  have hc1 := X.c1
  have hc2 := X.c2
  have hc3 := X.c3
  have hc4 := X.c4
  go_enter Try.func44, Try.ntmps44
  go_wp2_with fail
  clear hW
  refine (sub_less_N ha' hb' (by omega) (by omega) hlt).mono ?_
  rintro e w1 ⟨rfl, b1⟩
  have ha1 := ha'.on b1
  have hb1' := hb'.on b1
  obtain ⟨-, -, d1, d2, d3, d4, -, -, -, -⟩ := X.on b1
  clear ha' hb' hc1 hc2 hc3 hc4
  go_wp2_with fail
  refine (sub_N hb1' ha1 (by omega) (by omega) (by omega)).mono ?_
  rintro e w2 ⟨A2, n2, c2, rfl, hm, b2⟩
  have b12 := b1.trans (b2.mono b1.size)
  obtain ⟨-, -, f1, f2, f3, f4, -, -, -, -⟩ := X.on b12
  clear ha1 hb1' d1 d2 d3 d4 b1 b2
  go_wp2_with fail
  refine (signed_N _ hm (by rw [hm.len]; omega)).mono ?_
  rintro e w3 ⟨b3, A3, n3, k3, rfl, hz3, b3'⟩
  have b13 := b12.trans (b3'.mono b12.size)
  obtain ⟨HB, -, -, -, -, -, e5, e6, e7, e8⟩ := X.on b13
  rw [HS.out] at hz3
  have HZ := Lib.hid (hz3.stored e5 e6)
  clear b12 b13 b3' f1 f2 f3 f4 hz3
  go_wp2_with fail
  refine bodyPost_ret (v := .agg #[.bool b3, .slice A3 n3 k3]) (by simp [results, Try.results44, go_sem, e5, e6]) rfl ⟨_, _, _, _, rfl, HZ.out, ?_⟩
  exact (HB.setCell (p := ⟨w.heap.size + 1 + 1, 0, none⟩) (show w.heap.size ≤ w.heap.size + 1 + 1 by omega) _).setCell (p := ⟨w.heap.size + 1 + 1, 1, none⟩) (show w.heap.size ≤ w.heap.size + 1 + 1 by omega) _

theorem zadd_N {w : World} {b b' : Bool} {A B : Option Addr} {n c m d : Nat} {z z' : Int} (ha : Zn w b A n c z) (hb : Zn w b' B m d z') (hx : (limbs z.natAbs).length ≤ 300) (hy : (limbs z'.natAbs).length ≤ 300) :
    Calls Try.prog 44 #[.agg #[.bool b, .slice A n c], .agg #[.bool b', .slice B m d]] w (GotZ w (z + z')) := by
  by_cases h : b = b'
  · subst h; exact zadd_same ha hb (by omega) (by omega)
  · rcases Nat.lt_or_ge z.natAbs z'.natAbs with h1 | h1
    · exact zadd_second ha hb (by omega) (by omega) h h1
    · exact zadd_first ha hb (by omega) (by omega) h h1

end Go.Proofs.Ytpephogadljncaa

/-
  The contracts of the library's Grow and Concat.
-/
namespace Go.Proofs.Ytpephogadljncaa
set_option maxRecDepth 100000
set_option maxHeartbeats 4000000
open Go.RowKit

theorem grow_nil (n : Nat) (w : World) (h0 : 0 < n) (hn : n ≤ 2147483648) :
    Calls Try.prog 102 #[.slice none 0 0, .int .i64 (n : Int)] w fun e w' => ∃ cap, e = .returned (.slice (some ⟨w.heap.size, 0, none⟩) 0 cap) ∧ w'.ownsRow w.heap.size 43 1 (.slice (some ⟨w.heap.size, 0, none⟩) 0 cap) 0 [] ∧ Below w.heap.size w w' := by
  obtain ⟨i0, hi, hz0, hz1, hz2⟩ := info_parts info24
  have hold : (Builtin.firstCells i0.size 0 (.slice none 0 0)).run Try.prog w.drew = .ok ([] : List Value).toArray w.drew := run_firstCells_none w.drew i0.size 0 0 0
  have hrz := fun ty => Lib.run_append_grow_zeros (P := Try.prog) w 26 3 ty 43 i0 (.int .u64 0) .i64 .i64 Try.underlying26 Try.underlying3 hi hz0 none 0 0 [] hold n h0 (by omega) (by omega) (by omega) (by rw [hz2]; omega) (growslice_fits (by omega) (by rw [hz2]; omega))
  obtain ⟨G, hG⟩ : ∃ G, G = grownCap w (0 + n) 0 43 := ⟨_, rfl⟩
  rw [← hG] at hrz
  have hGn : n ≤ G := by rw [hG]; have := grownCap_ge w (0 + n) 0 43; omega
  have hG63 : G ≤ maxLen := by
    rw [hG]; exact grownCap_le_maxLen w (0 + n) 0 43 (by unfold maxLen; omega)
  have hown : ∀ cur : Array Value, cur.size = G * 1 → (w.drew.alloc (.cells cur 43)).ownsRow w.heap.size 43 1 (.slice (some ⟨w.heap.size, 0, none⟩) 0 G) 0 [] := fun cur hc => World.ownsRow_made w.drew cur G (Nat.le_refl _) hG63 hc
  have HOW := Lib.hid hown
  have HG := Lib.hid hG63
  have HGG := Lib.hid hG
  have hG1 : G ≤ 9223372036854775807 := by unfold maxLen at hG63; omega
  clear hold hown hG63 hG
  go_enter Try.func102, Try.ntmps102
  go_wp2_with (at_builtin; refine Lib.wpList_append_run _ rfl _ _ _ _ rfl _ _ rfl rfl _ _ (hrz _) ?_)
  go_ret
  refine ⟨G, rfl, HOW.out _ ?_, below_drewN ((Below.refl _ w)) 1 |>.alloc (Nat.le_refl _) _⟩
  simp [size_zeroCells]
  omega

theorem Lim.src {w w' : World} {b off n c : Nat} {l : List Nat} (h : Lim w.heap.size w (some ⟨b, off, none⟩) n c l) (hb : Below w.heap.size w w') : ∀ (j : Nat) u, (l.map encD)[j]? = some u → w'.cell? ((⟨b, off, none⟩ : Addr).add j) = some u := by
  intro j u hu
  have hj : j < n := by
    have := (List.getElem?_eq_some_iff.1 hu).1
    rw [List.length_map] at this
    have := h.1; omega
  obtain ⟨b', off', e, hlt, hcell⟩ := h.2.2.2 (by omega)
  injection e with e
  injection e with e1 e2
  subst e1; subst e2
  have e1 : ((⟨b, off, none⟩ : Addr).add j) = ⟨b, off + j, none⟩ := by unfold Addr.add; split <;> simp_all
  rw [e1, hb.cell (p := ⟨b, off + j, none⟩) hlt, hcell j hj]
  rw [List.getElem?_map] at hu
  have hjl : j < l.length := by have := h.1; omega
  rw [List.getElem?_eq_getElem hjl] at hu ⊢
  exact hu

theorem concat_two (w : World) (s b1 o1 n c b2 o2 m d : Nat) (la lb : List Nat) (h1 : Lim w.heap.size w (some ⟨b1, o1, none⟩) n c la) (h2 : Lim w.heap.size w (some ⟨b2, o2, none⟩) m d lb)
    (hs0 : w.cell? ⟨s, 0, none⟩ = some (.slice (some ⟨b1, o1, none⟩) n c)) (hs1 : w.cell? ⟨s, 1, none⟩ = some (.slice (some ⟨b2, o2, none⟩) m d)) (hs : s < w.heap.size) (hn : n ≤ 1073741824) (hm : m ≤ 1073741824) (h0 : 0 < n + m) :
    Calls Try.prog 101 #[.slice (some ⟨s, 0, none⟩) 2 2] w fun e w' => ∃ A' c', e = .returned (.slice A' (n + m) c') ∧ Lim w'.heap.size w' A' (n + m) c' (la ++ lb) ∧ Fresh w.heap.size A' (n + m) ∧ Below w.heap.size w w' := by
  obtain ⟨i0, hi, hz0, hz1, hz2⟩ := info_parts info24
  have H1 := Lib.hid h1.1
  have H2 := Lib.hid h2.1
  have hda := h1.2.2.1
  have hdb := h2.2.2.1
  go_enter Try.func101, Try.ntmps101
  go_wp2_with fail
  go_loop [3, 11] (fun sv iv => (iv = .int .i64 0 ∧ sv = .int .i64 0) ∨ (iv = .int .i64 1 ∧ sv = .int .i64 (n : Int)) ∨ (iv = .int .i64 2 ∧ sv = .int .i64 ((n + m : Nat) : Int))) (fun _ iv => 2 - (intOf iv).toNat)
  case atStart => exact .inl ⟨rfl, rfl⟩
  case round =>
    rcases hrel with ⟨rfl, rfl⟩ | ⟨rfl, rfl⟩ | ⟨rfl, rfl⟩
    · go_wp2_with fail
      go_round
      case rel => exact .inr (.inl ⟨rfl, rfl⟩)
      case measure => simp [intOf]
    · go_wp2_with fail
      go_round
      case rel => exact .inr (.inr ⟨rfl, by go_num⟩)
      case measure => simp [intOf]
    · go_wp2_with fail
      refine (grow_nil _ _ h0 (by omega)).mono ?_
      rintro e w1 ⟨cap, rfl, hown1, hb1⟩
      go_wp2_with fail
      go_loopw [6, 27] (fun ov iv wr => ∃ k xs, Hid (xs = List.map encD k) ∧ wr.ownsRow w.heap.size 43 1 ov k.length xs ∧ Below w.heap.size w wr ∧ ((iv = .int .i64 0 ∧ k = []) ∨ (iv = .int .i64 1 ∧ k = la) ∨ (iv = .int .i64 2 ∧ k = la ++ lb))) (fun _ iv _ => 2 - (intOf iv).toNat)
      case atStart => exact ⟨[], [], Lib.hid rfl, hown1, hb1, .inl ⟨rfl, rfl⟩⟩
      case round =>
        obtain ⟨k, xs, hxs, hown, hbl, hk⟩ := hrel
        have c0 := cK hbl hs0 hs
        have c1 := cK hbl hs1 hs
        have HO := Lib.hid hown
        clear hown
        rcases hk with ⟨rfl, rfl⟩ | ⟨rfl, rfl⟩ | ⟨rfl, rfl⟩
        · go_wp2_with (at_builtin; refine wpList_append_own _ rfl _ _ 26 rfl w.heap.size 43 i0 (.int .u64 0) 1 8 Try.underlying26 hi hz0 hz1 hz2 rfl (by decide) _ _ _ rfl HO.out ⟨b1, o1, none⟩ n c (la.map encD) rfl (by have := H1.out; simp only [List.length_map]; omega) (h1.src hbl) (encD_one _) (by simp only [List.length_nil]; unfold maxLen; omega) (by simp only [List.length_nil]; omega) hbl.size ?_; intro v' w2 hown2 hgrow2 _)
          go_roundw
          case rel =>
            refine ⟨la, la.map encD, Lib.hid rfl, ?_, hbl.grown hgrow2 hbl.size (fun q e => (HO.out.lt q e).1), .inr (.inl ⟨rfl, rfl⟩)⟩
            rw [hxs.out, List.map_nil, List.nil_append, List.length_nil, Nat.zero_add] at hown2
            rw [← H1.out]
            exact hown2
          case measure => simp [intOf]
        · go_wp2_with (at_builtin; refine wpList_append_own _ rfl _ _ 26 rfl w.heap.size 43 i0 (.int .u64 0) 1 8 Try.underlying26 hi hz0 hz1 hz2 rfl (by decide) _ _ _ rfl HO.out ⟨b2, o2, none⟩ m d (lb.map encD) rfl (by have := H2.out; simp only [List.length_map]; omega) (h2.src hbl) (encD_one _) (by have := H1.out; unfold maxLen; omega) (by have := H1.out; omega) hbl.size ?_; intro v' w2 hown2 hgrow2 _)
          go_roundw
          case rel =>
            refine ⟨k ++ lb, (k ++ lb).map encD, Lib.hid rfl, ?_, hbl.grown hgrow2 hbl.size (fun q e => (HO.out.lt q e).1), .inr (.inr ⟨rfl, rfl⟩)⟩
            rw [hxs.out] at hown2
            rw [List.map_append, List.length_append, ← H2.out]
            exact hown2
          case measure => simp [intOf]
        · go_wp2_with fail
          go_ret
          have hown := HO.out
          rw [hxs.out] at hown
          have e : (la ++ lb).length = n + m := by rw [List.length_append, ← H1.out, ← H2.out]
          rw [e] at hown
          obtain ⟨A', c', rfl, hl'⟩ := isL_of_own hown (fun x hx => by
            rcases List.mem_append.1 hx with h | h
            · exact hda x h
            · exact hdb x h)
          exact ⟨A', c', rfl, hl', fresh_of_own hown, hbl⟩

end Go.Proofs.Ytpephogadljncaa

/-
  The contracts of div's Shl and Shr.
-/
namespace Go.Proofs.Ytpephogadljncaa
set_option maxRecDepth 100000
set_option maxHeartbeats 2000000
open Go.RowKit

theorem val_drop {l : List Nat} (hl : Dig l) (q : Nat) : val (l.drop q) = val l / B64 ^ q := by
  induction q generalizing l with
  | zero => simp
  | succ q ih =>
    cases l with
    | nil => simp [val_nil]
    | cons x xs => rw [List.drop_succ_cons, ih hl.tail, val_cons, Nat.pow_succ, Nat.mul_comm _ B64, ← Nat.div_div_eq_div_mul, Nat.add_mul_div_left _ _ B64_pos, Nat.div_eq_of_lt hl.head, Nat.zero_add]
theorem Dig.drop {l : List Nat} (h : Dig l) (k : Nat) : Dig (l.drop k) := fun x hx => h x (List.mem_of_mem_drop hx)
theorem Lim.dropped {B : Nat} {w : World} {b off n c q : Nat} {l : List Nat} (h : Lim B w (some ⟨b, off, none⟩) n c l) (hq : q < n) : Lim B w (some ⟨b, off + q, none⟩) (n - q) (c - q) (l.drop q) := by
  refine ⟨by rw [List.length_drop, ← h.1], by have := h.2.1; omega, h.2.2.1.drop q, fun _ => ⟨b, off + q, rfl, ?_, fun j hj => ?_⟩⟩
  · obtain ⟨b', off', e, hb, _⟩ := h.2.2.2 (by omega)
    injection e with e
    injection e with e1 e2
    omega
  · obtain ⟨b', off', e, _, hc⟩ := h.2.2.2 (by omega)
    injection e with e
    injection e with e1 e2
    subst e1; subst e2
    have := hc (q + j) (by omega)
    rw [← Nat.add_assoc] at this
    rw [this, List.getElem?_drop]

theorem GotNF.from {w w1 : World} {x : Nat} {e : Ending} {w' : World} (h : GotNF w1 x e w') (hb : Below w.heap.size w w1) : GotNF w x e w' := by
  obtain ⟨A, n, c, he, hl, hb', hf⟩ := h
  exact ⟨A, n, c, he, hl, hb.trans (hb'.mono hb.size), hf.mono hb.size⟩

theorem dshl_no (w : World) (A : Option Addr) (n c : Nat) (k : Int) (hk : k < 0 ∨ 20000 < k) : Calls Try.prog 100 #[.slice A n c, .int .i64 k] w (GotV w (.tuple #[.slice none 0 0, .int .i64 1])) := by
  go_enter Try.func100, Try.ntmps100
  go_wp2_with (go_at_call 86; refine (isShift_no _ _ hk).mono ?_; rintro e w' ⟨rfl, rfl⟩)
  go_ret2
  exact ⟨rfl, Below.refl _ _⟩
theorem dshr_no (w : World) (A : Option Addr) (n c : Nat) (k : Int) (hk : k < 0 ∨ 20000 < k) : Calls Try.prog 66 #[.slice A n c, .int .i64 k] w (GotV w (.tuple #[.slice none 0 0, .int .i64 1])) := by
  go_enter Try.func66, Try.ntmps66
  go_wp2_with (go_at_call 86; refine (isShift_no _ _ hk).mono ?_; rintro e w' ⟨rfl, rfl⟩)
  go_ret2
  exact ⟨rfl, Below.refl _ _⟩

/-- A row's digits, shifted down and trimmed: the number that is left. -/
theorem shr_shr (x k : Nat) : x / B64 ^ (k / 64) / 2 ^ (k % 64) = x / 2 ^ k := by
  rw [B64_pow2, Nat.div_div_eq_div_mul, ← Nat.pow_add]
  congr 2
  omega
theorem shl_shl (x k : Nat) : B64 ^ (k / 64) * (x * 2 ^ (k % 64)) = x * 2 ^ k := by
  rw [B64_pow2, ← Nat.mul_assoc, Nat.mul_comm _ x, Nat.mul_assoc, ← Nat.pow_add]
  congr 2
  omega
theorem val_append (a b : List Nat) : val (a ++ b) = val a + B64 ^ a.length * val b := by
  induction a with
  | nil => simp [val_nil]
  | cons x xs ih =>
    have e : B64 * (B64 ^ xs.length * val b) = B64 ^ xs.length * B64 * val b := by ac_rfl
    rw [List.cons_append, val_cons, ih, val_cons, List.length_cons, Nat.pow_succ, Nat.mul_add, e]
    omega
/-- A row of noughts. -/
def zrow (q : Nat) : Obj := .cells (madeCells #[.int .u64 0] q) 43
theorem zrow_run (q : Nat) (hq : q ≤ 1000000) (W : World) : (Instr.makeSlice 26 (.int .i64 (q : Int)) (.int .i64 (q : Int))).run Try.prog W = .ok (.slice (some ⟨W.heap.size, 0, none⟩) q q) (W.alloc (zrow q)) := by
  obtain ⟨i0, hi, hz0, hz1, hz2⟩ := info_parts info24
  have h := run_make (P := Try.prog) W 26 43 i0 (.int .u64 0) Try.underlying26 hi hz0 .i64 .i64 (q : Int) (q : Int) (by omega) (Int.le_refl _) (by rw [hz2]; omega) (by omega)
  rw [hz1, Int.toNat_natCast, Nat.mul_one] at h
  exact h
theorem zrow_lim (q : Nat) (hq : q ≤ 1000000) (W : World) : Lim (W.alloc (zrow q)).heap.size (W.alloc (zrow q)) (some ⟨W.heap.size, 0, none⟩) q q (List.replicate q 0) := by
  refine Lim.of_own (base := 0) (e := 43) ?_ (dig_zeros q)
  refine ⟨by simp, .inr ⟨W.heap.size, q, madeCells #[.int .u64 0] q, rfl, Nat.zero_le _, heap_alloc_new W _, Nat.le_refl _, by unfold maxLen; omega, by rw [size_madeCells, Nat.mul_one], ?_⟩⟩
  rw [toList_madeCells_one, List.map_replicate, Nat.mul_one, List.take_of_length_le (by simp)]
  rfl
theorem Lim.alloc {w : World} {A : Option Addr} {n c : Nat} {l : List Nat} (h : Lim w.heap.size w A n c l) (o : Obj) : Lim (w.alloc o).heap.size (w.alloc o) A n c l :=
  (h.below ((Below.refl _ w).alloc (Nat.le_refl _) o)).more (by simp)

/-- Two rows, side by side in a new row of slices, joined. -/
theorem concat_new (W : World) (s : Nat) (hs : W.heap.size = s) (b1 o1 n c b2 o2 m d : Nat) (la lb : List Nat) (h1 : Lim W.heap.size W (some ⟨b1, o1, none⟩) n c la) (h2 : Lim W.heap.size W (some ⟨b2, o2, none⟩) m d lb) (hn : n ≤ 1073741824) (hm : m ≤ 1073741824) (h0 : 0 < n + m) :
    Calls Try.prog 101 #[.slice (some ⟨s, 0, none⟩) 2 2] (W.alloc (.cells #[.slice (some ⟨b1, o1, none⟩) n c, .slice (some ⟨b2, o2, none⟩) m d] 26)) fun e w' => ∃ A' c', e = .returned (.slice A' (n + m) c') ∧ Lim w'.heap.size w' A' (n + m) c' (la ++ lb) ∧ Below W.heap.size W w' := by
  subst hs
  refine (concat_two _ W.heap.size b1 o1 n c b2 o2 m d la lb (h1.alloc _) (h2.alloc _) ?_ ?_ (by simp) hn hm h0).mono ?_
  · exact cell_two_new W _ _ 26 0 _ rfl
  · exact cell_two_new W _ _ 26 1 _ rfl
  · rintro e w' ⟨A', c', rfl, hl, _, hb⟩
    exact ⟨A', c', rfl, hl, ((Below.refl _ W).alloc (Nat.le_refl _) _).trans (hb.mono (by simp))⟩

theorem dshr_N {w : World} {A : Option Addr} {n c x k : Nat} (ha : Num w A n c x) (hx : (limbs x).length ≤ 300) (hk : k ≤ 20000) : Calls Try.prog 66 #[.slice A n c, .int .i64 (k : Int)] w (GotP w (x / 2 ^ k) 0) := by
  have hn : n ≤ 300 := by rw [ha.len]; exact hx
  have HL := Lib.hid ha.len
  by_cases hlt : k / 64 < n
  · obtain ⟨b, off, rfl, hb, _⟩ := ha.2.2.2 (by omega)
    have hcap := ha.2.1
    have hd := ha.dropped hlt
    have hne : ¬ c = k / 64 := by omega
    have e1 : val ((limbs x).drop (k / 64)) / 2 ^ (k % 64) = x / 2 ^ k := by rw [val_drop (limbs_dig x), val_limbs]; exact shr_shr x k
    have HE := Lib.hid e1
    have HV := Lib.hid (low_done ((limbs_dig x).drop (k / 64)) (k % 64))
    have HLD := Lib.hid hd.1
    clear e1 hx
    go_enter Try.func66, Try.ntmps66
    go_wp2_with (go_at_call 86; refine (isShift_yes _ _ hk).mono ?_; rintro e w' ⟨rfl, rfl⟩)
    refine (lowered_lim _ _ _ (k % 64) _ _ hd (by omega) (by omega)).mono ?_
    rintro e w1 ⟨g, cap, rfl, hown, hb1⟩
    have hl1 := Lim.of_own hown (digs_dig _ _)
    clear hown
    go_wp2_with fail
    refine (dtrim_lim _ _ _ _ _ _ hl1 (by omega)).mono ?_
    rintro e w2 ⟨j, rfl, hj, rfl⟩
    go_wp2_with fail
    go_ret2
    refine ⟨_, _, _, rfl, ?_, hb1⟩
    rw [HLD.out, HV.out, HE.out] at hj
    exact hj
  · have h0 : x / 2 ^ k = 0 := by
      refine Nat.div_eq_of_lt (Nat.lt_of_lt_of_le (lt_of_limbs_length (k := k / 64) (by rw [← HL.out]; omega)) ?_)
      rw [B64_pow2]
      exact Nat.pow_le_pow_right (by omega) (by omega)
    have HZ := Lib.hid h0
    clear h0
    go_enter Try.func66, Try.ntmps66
    go_wp2_with (go_at_call 86; refine (isShift_yes _ _ hk).mono ?_; rintro e w' ⟨rfl, rfl⟩)
    go_ret2
    rw [HZ.out]
    exact ⟨_, _, _, rfl, num_empty _ _ _, Below.refl _ _⟩

theorem dshl_N {w : World} {A : Option Addr} {n c x k : Nat} (ha : Num w A n c x) (hx : (limbs x).length ≤ 300) (hk : k ≤ 20000) : Calls Try.prog 100 #[.slice A n c, .int .i64 (k : Int)] w (GotP w (x * 2 ^ k) 0) := by
  have hn : n ≤ 300 := by rw [ha.len]; exact hx
  have HL := Lib.hid ha.len
  go_enter Try.func100, Try.ntmps100
  go_wp2_with (go_at_call 86; refine (isShift_yes _ _ hk).mono ?_; rintro e w' ⟨rfl, rfl⟩)
  obtain ⟨q, hq⟩ : ∃ q, q = k / 64 := ⟨_, rfl⟩
  obtain ⟨r, hr⟩ : ∃ r, r = k % 64 := ⟨_, rfl⟩
  have hq2 : q ≤ 1000 := by omega
  have hr2 : r < 64 := by omega
  have hmk := zrow_run q (by omega)
  have hw1 : IntKind.i64.wrap ((k : Int) / 64) = (q : Int) := by rw [IntWalk.i64_in _ (by omega)]; omega
  have hw2 : ((k : Int)).tmod 64 = (r : Int) := by rw [Int.tmod_eq_emod_of_nonneg (by omega)]; omega
  have HQ := Lib.hid hq
  have HR := Lib.hid hr
  clear hq hr
  have e1 : ∀ R : List Nat, val R = val (limbs x) * 2 ^ r → val (List.replicate q 0 ++ R) = x * 2 ^ k := fun R h => by
    rw [val_append, val_zeros, List.length_replicate, h, val_limbs, HQ.out, HR.out, Nat.zero_add]; exact shl_shl x k
  have HE := Lib.hid e1
  clear e1
  have hr1 : Calls Try.prog 75 #[.slice A n c, .int .i64 (r : Int)] w.drew fun e w2 => ∃ g cap R, e = .returned (.slice (some ⟨g, 0, none⟩) (n + 1) cap) ∧ Lim w2.heap.size w2 (some ⟨g, 0, none⟩) (n + 1) cap R ∧ Below w.heap.size w w2 ∧ Hid (val (List.replicate q 0 ++ R) = x * 2 ^ k) := by
    refine (raised_lim A n c r (limbs x) w.drew ha (by omega) hr2).mono ?_
    rintro e w2 ⟨g, cap, R, rfl, hown, hdR, hvR, hbR⟩
    exact ⟨g, cap, R, rfl, Lim.of_own hown hdR, ⟨hbR.os, hbR.tape, hbR.output, hbR.size, hbR.block⟩, Lib.hid (HE.out R hvR)⟩
  have hr2' : Calls Try.prog 75 #[.slice A n c, .int .i64 (r : Int)] (w.alloc (zrow q)).drew fun e w2 => ∃ g cap R, e = .returned (.slice (some ⟨g, 0, none⟩) (n + 1) cap) ∧ Lim w2.heap.size w2 (some ⟨g, 0, none⟩) (n + 1) cap R ∧ Lim w2.heap.size w2 (some ⟨w.heap.size, 0, none⟩) q q (List.replicate q 0) ∧ Below w.heap.size w w2 ∧ Hid (val (List.replicate q 0 ++ R) = x * 2 ^ k) := by
    refine (raised_lim A n c r (limbs x) (w.alloc (zrow q)).drew (Lim.alloc (w := w) ha _) (by omega) hr2).mono ?_
    rintro e w2 ⟨g, cap, R, rfl, hown, hdR, hvR, hbR⟩
    have hb2 : Below (w.alloc (zrow q)).heap.size (w.alloc (zrow q)) w2 := ⟨hbR.os, hbR.tape, hbR.output, hbR.size, hbR.block⟩
    exact ⟨g, cap, R, rfl, Lim.of_own hown hdR, (zrow_lim q (by omega) w).on hb2, ((Below.refl _ w).alloc (Nat.le_refl _) (zrow q)).trans (hb2.mono (by simp)), Lib.hid (HE.out R hvR)⟩
  have HR1 := Lib.hid hr1
  have HR2 := Lib.hid hr2'
  clear hr1 hr2'
  go_region_held3 (fun w' => True) (trivial) (first
    | (go_at_call 75; (with_reducible refine HR1.out.mono ?_); rintro e w2 ⟨g, cap, R, rfl, hL, hB, HV⟩)
    | (go_at_call 75; (with_reducible refine HR2.out.mono ?_); rintro e w2 ⟨g, cap, R, rfl, hL, hZ, hB, HV⟩)
    | (go_at_call 101; (with_reducible refine (concat_new w2 w2.heap.size rfl _ _ _ _ _ _ _ _ _ _ hZ hL (by omega) (by omega) (by omega)).mono ?_); rintro e w3 ⟨A', c', rfl, hl, hb3⟩; have hB3 := hB.trans (hb3.mono hB.size); clear hb3 hZ hL hB)
    | (go_at_call 101; (with_reducible refine (concat_new (w2.alloc (zrow q)) (w2.heap.size + 1) (by simp) _ _ _ _ _ _ _ _ _ _ (zrow_lim q (by omega) w2) (hL.alloc _) (by omega) (by omega) (by omega)).mono ?_); rintro e w3 ⟨A', c', rfl, hl, hb3⟩; have hB3 := (hB.alloc hB.size (zrow q)).trans (hb3.mono (by have := hB.size; simp; omega)); clear hb3 hL hB)
    | (go_at_call 72; (with_reducible refine (dtrim_lim _ _ _ _ _ _ hl (by omega)).mono ?_); rintro e w4 ⟨j, rfl, hj, rfl⟩; clear hl))
  all_goals
    clear hw1 hw2 hmk
    go_wp2_with fail
    go_ret2
    rw [HV.out] at hj
    exact ⟨A', j, c', rfl, hj, hB3⟩
end Go.Proofs.Ytpephogadljncaa

/-
  The contract of the library's Div64, for a divisor whose top bit is set.
-/
namespace Go.Proofs.Ytpephogadljncaa
set_option maxRecDepth 100000
set_option maxHeartbeats 4000000
open Go.RowKit

theorem lead_zero {y : Nat} (w : World) (hy : y < B64) (ht : B64 ≤ 2 * y) : Calls Try.prog 74 #[.int .u64 (y : Int)] w fun e w' => e = .returned (.int .i64 0) ∧ w = w' := by
  have e : blen y = 64 := blen_eq (k := 63) (by rw [show (2 : Nat) ^ 63 = B64 / 2 from rfl]; omega) (by rw [← B64_two]; exact hy)
  refine (lead_any y w hy).mono ?_
  rintro e' w' ⟨rfl, rfl⟩
  rw [e]
  exact ⟨rfl, rfl⟩

theorem wrap_nat {n : Nat} (h : n < B64) : IntKind.u64.wrap (n : Int) = (n : Int) := by
  rw [IntKind.wrap_u64]
  unfold B64 at h
  omega
theorem wrap_mul {a b : Nat} (h : a * b < B64) : IntKind.u64.wrap ((a : Int) * (b : Int)) = ((a * b : Nat) : Int) := by
  rw [← wrap_nat h]
  simp
theorem wrap_fit {r d : Nat} (hr : r < H32) (hd : d < H32) : IntKind.u64.wrap (IntKind.u64.wrap (4294967296 * (r : Int)) + (d : Int)) = ((H32 * r + d : Nat) : Int) := by
  rw [IntKind.wrap_u64, IntKind.wrap_u64]
  unfold H32 at *
  omega
/-- What the library's loop asks, said in its own spelling. -/
theorem Half.ask {u y y1 y0 d q r m1 m2 : Nat} (h : Half u y y1 y0 d q r) (hb : tooBig q y0 r d) (hm1 : m1 = q * y0) (hm2 : m2 = H32 * r + d) :
    (4294967296 : Int) ≤ (q : Int) ∨ (¬ (4294967296 : Int) ≤ (q : Int) ∧ IntKind.u64.wrap ((q : Int) * (y0 : Int)) = (m1 : Int) ∧ m2 < m1) := by
  rcases Nat.lt_or_ge q H32 with h1 | h1
  · refine .inr ⟨by unfold H32 at h1; omega, ?_, ?_⟩
    · rw [hm1]
      refine wrap_mul ?_
      rw [← H32_sq]
      exact Nat.mul_lt_mul_of_lt_of_le h1 (Nat.le_of_lt h.h0) H32_pos
    · rcases hb with h2 | h2
      · omega
      · omega
  · exact .inl (by unfold H32 at h1; omega)
theorem Half.ask_no {u y y1 y0 d q r m1 m2 : Nat} (h : Half u y y1 y0 d q r) (hb : ¬ tooBig q y0 r d) (hm1 : m1 = q * y0) (hm2 : m2 = H32 * r + d) :
    ¬ (4294967296 : Int) ≤ (q : Int) ∧ IntKind.u64.wrap ((q : Int) * (y0 : Int)) = (m1 : Int) ∧ ¬ m2 < m1 := by
  unfold tooBig at hb
  have h1 : q < H32 := by
    rcases Nat.lt_or_ge q H32 with h1 | h1
    · exact h1
    · exact absurd (.inl h1) hb
  refine ⟨by unfold H32 at h1; omega, ?_, fun h2 => hb (.inr (by omega))⟩
  rw [hm1]
  refine wrap_mul ?_
  rw [← H32_sq]
  exact Nat.mul_lt_mul_of_lt_of_le h1 (Nat.le_of_lt h.h0) H32_pos

theorem div64_main (hi lo y : Nat) (w : World) (h0 : hi ≠ 0) (hhi : hi < y) (hlo : lo < B64) (hy : y < B64) (ht : B64 ≤ 2 * y) :
    Calls Try.prog 98 #[.int .u64 (hi : Int), .int .u64 (lo : Int), .int .u64 (y : Int)] w fun e w' => e = .returned (.tuple #[.int .u64 ((hi * B64 + lo) / y : Nat), .int .u64 ((hi * B64 + lo) % y : Nat)]) ∧ w = w' := by
  have hy0 : ((y : Int) == 0) = false := by have := B64_pos; simp; omega
  have hle : decide (y ≤ hi) = false := by simp; omega
  have hh0 : ((hi : Int) == 0) = false := by simp; omega
  obtain ⟨y1, hy1⟩ : ∃ y1, y1 = hiH y := ⟨_, rfl⟩
  obtain ⟨y0, hyl⟩ : ∃ y0, y0 = loH y := ⟨_, rfl⟩
  obtain ⟨l1, hl1⟩ : ∃ l1, l1 = hiH lo := ⟨_, rfl⟩
  obtain ⟨l0, hll⟩ : ∃ l0, l0 = loH lo := ⟨_, rfl⟩
  have a1 : IntKind.u64.wrap (y : Int) = (y : Int) := by rw [IntKind.wrap_u64]; unfold B64 at hy; omega
  have a2 : (y : Int) / 4294967296 = (y1 : Int) := by rw [hy1]; unfold hiH H32; omega
  have a3 : bits .and .u64 (y : Int) 4294967295 = (y0 : Int) := by rw [u64_and32, hyl]; unfold loH H32; omega
  have a4 : IntKind.u64.wrap (lo : Int) = (lo : Int) := by rw [IntKind.wrap_u64]; unfold B64 at hlo; omega
  have a5 : (lo : Int) / 4294967296 = (l1 : Int) := by rw [hl1]; unfold hiH H32; omega
  have a6 : bits .and .u64 (lo : Int) 4294967295 = (l0 : Int) := by rw [u64_and32, hll]; unfold loH H32; omega
  have a7 : IntKind.u64.wrap (hi : Int) = (hi : Int) := by rw [IntKind.wrap_u64]; unfold B64 at hy; omega
  have a8 : (lo : Int) / 18446744073709551616 = 0 := by unfold B64 at hlo; omega
  have a9 : bits .or .u64 (hi : Int) 0 = (hi : Int) := by
    have := or_shl hi (s := 0) (c := 0) (by omega) (by simp)
    have e : shlD hi 0 = hi := by unfold shlD; rw [Nat.pow_zero, Nat.mul_one, Nat.mod_eq_of_lt (by omega)]
    rw [e] at this
    simpa [a7] using this
  have hY := Half.start (u := hi) (y := y) (y1 := y1) (y0 := y0) (d := l1) (by rw [hy1, hyl]; unfold hiH loH; rw [Nat.mul_comm]; exact (Nat.div_add_mod y H32).symm) (by rw [hyl]; exact loH_lt y) (by rw [hy1]; exact hiH_lt hy)
    (by rw [hy1]; unfold hiH H32; unfold B64 at ht; omega) hhi (by rw [hl1]; exact hiH_lt hlo)
  have b1 : ¬ y1 = 0 := by have := hY.top; unfold H32 at this; omega
  have hr := Half.r_lt (u := hi) hY.top
  obtain ⟨q, hq⟩ : ∃ q, q = hi / y1 := ⟨_, rfl⟩
  obtain ⟨r, hr'⟩ : ∃ r, r = hi % y1 := ⟨_, rfl⟩
  rw [← hq, ← hr'] at hY
  rw [← hr'] at hr
  have a10 : IntKind.u64.wrap ((hi : Int) / (y1 : Int)) = (q : Int) := by
    rw [hq, IntKind.wrap_u64]
    have h1 : hi / y1 ≤ hi := Nat.div_le_self _ _
    have h2 : ((hi / y1 : Nat) : Int) = (hi : Int) / (y1 : Int) := by simp
    rw [← h2]
    unfold B64 at hy
    omega
  have a11 : IntKind.u64.wrap ((hi : Int) - IntKind.u64.wrap ((q : Int) * (y1 : Int))) = (r : Int) := by
    have h1 := hY.hq
    have h2 : ((q * y1 : Nat) : Int) = (q : Int) * (y1 : Int) := by simp
    rw [← h2, IntKind.wrap_u64, IntKind.wrap_u64]
    unfold B64 at hy
    omega
  have HQ := Lib.hid hq
  have HR := Lib.hid hr'
  have HY1 := Lib.hid hy1
  have HYL := Lib.hid hyl
  have HL1 := Lib.hid hl1
  have HLL := Lib.hid hll
  have HYY := Lib.hid hY
  clear hq hr' hy1 hyl hl1 hll hY
  go_enter Try.func98, Try.ntmps98
  go_upto_block 0 with (go_at_call 74; refine (lead_zero _ hy ht).mono ?_; rintro e w' ⟨rfl, rfl⟩)
  go_cut [15] (fun qv wx => ∃ q : Nat, qv = .int .u64 (q : Int) ∧ q < H32 ∧ Hid (q = (hi * H32 + l1) / y) ∧ w = wx)
  case first =>
    go_wp2_with fail
    go_loop [15, 16] (fun qv rv => ∃ q r : Nat, qv = .int .u64 (q : Int) ∧ rv = .int .u64 (r : Int) ∧ Half hi y y1 y0 l1 q r ∧ r < H32) (fun qv _ => (intOf qv).toNat)
    case atStart => exact ⟨q, r, rfl, rfl, HYY.out, by have := HYY.out.h1; omega⟩
    case round =>
      obtain ⟨q, r, rfl, rfl, hH, hr32⟩ := hrel
      have hq2 := hH.q_le
      have hd32 := hH.hd
      have hy32 := hH.h1
      obtain ⟨m1, hm1⟩ : ∃ m1, m1 = q * y0 := ⟨_, rfl⟩
      obtain ⟨m2, hm2⟩ : ∃ m2, m2 = H32 * r + l1 := ⟨_, rfl⟩
      have c4 : IntKind.u64.wrap (IntKind.u64.wrap (4294967296 * (r : Int)) + (l1 : Int)) = (m2 : Int) := by rw [hm2]; exact wrap_fit hr32 hd32
      by_cases hb : tooBig q y0 r l1
      · have hH' := hH.step hb
        have hpos := (hH.pos hb).2
        have hask := hH.ask hb hm1 hm2
        obtain ⟨q', hq'⟩ : ∃ q', q' = q - 1 := ⟨_, rfl⟩
        obtain ⟨r', hr'⟩ : ∃ r', r' = r + y1 := ⟨_, rfl⟩
        rw [← hq', ← hr'] at hH'
        have c1 : IntKind.u64.wrap ((q : Int) - 1) = (q' : Int) := by
          rw [IntKind.wrap_u64]; unfold H32 at hq2; omega
        have c2 : IntKind.u64.wrap ((r : Int) + (y1 : Int)) = (r' : Int) := by
          rw [IntKind.wrap_u64]; unfold H32 at hr32 hy32; omega
        have hlt : q' < q := by omega
        have HH := Lib.hid hH'
        clear hH' hH hb hm1 hm2 hq' hr' hpos hq2 hd32 hy32
        by_cases hx : H32 ≤ r'
        · have g2 : (4294967296 : Int) ≤ (r' : Int) := by unfold H32 at hx; omega
          have hfin := HH.out.fin (.inl hx)
          have HF := Lib.hid hfin
          clear hfin hx
          rcases hask with g1 | ⟨g1, c3, g3⟩
          all_goals
            go_wp2_with fail
            go_meet
            exact ⟨q', rfl, HF.out.2, Lib.hid HF.out.1, rfl⟩
        · have g2 : ¬ (4294967296 : Int) ≤ (r' : Int) := by unfold H32 at hx; omega
          have hr3 : r' < H32 := by omega
          clear hx
          rcases hask with g1 | ⟨g1, c3, g3⟩
          all_goals
            go_wp2_with fail
            go_round
            case rel => exact ⟨q', r', rfl, rfl, HH.out, hr3⟩
            case measure => simp [intOf]; omega
      · have hfin := hH.fin (.inr hb)
        obtain ⟨g1, c3, g3⟩ := hH.ask_no hb hm1 hm2
        have HF := Lib.hid hfin
        clear hfin hH hb hm1 hm2 hq2 hd32 hy32
        go_wp2_with fail
        go_meet
        exact ⟨q, rfl, HF.out.2, Lib.hid HF.out.1, rfl⟩
  case rest =>
    obtain ⟨q1, rfl, hq1, HQ1, rfl⟩ := hcut
    obtain ⟨u, hu⟩ : ∃ u, u = (hi * H32 + l1) % y := ⟨_, rfl⟩
    have hy0' : 0 < y := by omega
    have huy : u < y := by rw [hu]; exact Nat.mod_lt _ hy0'
    have d1 : IntKind.u64.wrap (IntKind.u64.wrap (IntKind.u64.wrap ((hi : Int) * 4294967296) + (l1 : Int)) - IntKind.u64.wrap ((q1 : Int) * (y : Int))) = (u : Int) := by
      have e : u + y * q1 = hi * H32 + l1 := by rw [hu, HQ1.out]; exact Nat.mod_add_div _ _
      have e2 : ((q1 : Int) * (y : Int)) = ((y * q1 : Nat) : Int) := by rw [Nat.mul_comm]; simp
      rw [e2, IntKind.wrap_u64, IntKind.wrap_u64, IntKind.wrap_u64, IntKind.wrap_u64]
      generalize y * q1 = z at *
      unfold H32 at e
      unfold B64 at hy
      omega
    have hY := Half.start (u := u) (d := l0) HYY.out.hy HYY.out.h0 HYY.out.h1 HYY.out.top huy (by rw [HLL.out]; exact loH_lt lo)
    have hr2 := Half.r_lt (u := u) hY.top
    obtain ⟨q2, hq2⟩ : ∃ q, q = u / y1 := ⟨_, rfl⟩
    obtain ⟨r2, hr2'⟩ : ∃ r, r = u % y1 := ⟨_, rfl⟩
    rw [← hq2, ← hr2'] at hY
    rw [← hr2'] at hr2
    have d2 : IntKind.u64.wrap ((u : Int) / (y1 : Int)) = (q2 : Int) := by
      rw [hq2, IntKind.wrap_u64]
      have h1 : u / y1 ≤ u := Nat.div_le_self _ _
      have h2 : ((u / y1 : Nat) : Int) = (u : Int) / (y1 : Int) := by simp
      rw [← h2]
      unfold B64 at hy
      omega
    have d3 : IntKind.u64.wrap ((u : Int) - IntKind.u64.wrap ((q2 : Int) * (y1 : Int))) = (r2 : Int) := by
      have h1 := hY.hq
      have h2 : ((q2 * y1 : Nat) : Int) = (q2 : Int) * (y1 : Int) := by simp
      rw [← h2, IntKind.wrap_u64, IntKind.wrap_u64]
      unfold B64 at hy
      omega
    have HU := Lib.hid hu
    have HZ := Lib.hid hY
    clear hu hY hq2 hr2'
    go_upto_block 2 with fail
    go_cut [18] (fun qv wx => ∃ q : Nat, qv = .int .u64 (q : Int) ∧ q < H32 ∧ Hid (q = (u * H32 + l0) / y) ∧ w = wx)
    case first =>
      go_wp2_with fail
      go_loop [18, 16] (fun qv rv => ∃ q r : Nat, qv = .int .u64 (q : Int) ∧ rv = .int .u64 (r : Int) ∧ Half u y y1 y0 l0 q r ∧ r < H32) (fun qv _ => (intOf qv).toNat)
      case atStart => exact ⟨q2, r2, rfl, rfl, HZ.out, by have := HZ.out.h1; omega⟩
      case round =>
        obtain ⟨q, r, rfl, rfl, hH, hr32⟩ := hrel
        have hq2 := hH.q_le
        have hd32 := hH.hd
        have hy32 := hH.h1
        obtain ⟨m1, hm1⟩ : ∃ m1, m1 = q * y0 := ⟨_, rfl⟩
        obtain ⟨m2, hm2⟩ : ∃ m2, m2 = H32 * r + l0 := ⟨_, rfl⟩
        have c4 : IntKind.u64.wrap (IntKind.u64.wrap (4294967296 * (r : Int)) + (l0 : Int)) = (m2 : Int) := by rw [hm2]; exact wrap_fit hr32 hd32
        by_cases hb : tooBig q y0 r l0
        · have hH' := hH.step hb
          have hpos := (hH.pos hb).2
          have hask := hH.ask hb hm1 hm2
          obtain ⟨q', hq'⟩ : ∃ q', q' = q - 1 := ⟨_, rfl⟩
          obtain ⟨r', hr'⟩ : ∃ r', r' = r + y1 := ⟨_, rfl⟩
          rw [← hq', ← hr'] at hH'
          have c1 : IntKind.u64.wrap ((q : Int) - 1) = (q' : Int) := by
            rw [IntKind.wrap_u64]; unfold H32 at hq2; omega
          have c2 : IntKind.u64.wrap ((r : Int) + (y1 : Int)) = (r' : Int) := by
            rw [IntKind.wrap_u64]; unfold H32 at hr32 hy32; omega
          have hlt : q' < q := by omega
          have HH := Lib.hid hH'
          clear hH' hH hb hm1 hm2 hq' hr' hpos hq2 hd32 hy32
          by_cases hx : H32 ≤ r'
          · have g2 : (4294967296 : Int) ≤ (r' : Int) := by unfold H32 at hx; omega
            have hfin := HH.out.fin (.inl hx)
            have HF := Lib.hid hfin
            clear hfin hx
            rcases hask with g1 | ⟨g1, c3, g3⟩
            all_goals
              go_wp2_with fail
              go_meet
              exact ⟨q', rfl, HF.out.2, Lib.hid HF.out.1, rfl⟩
          · have g2 : ¬ (4294967296 : Int) ≤ (r' : Int) := by unfold H32 at hx; omega
            have hr3 : r' < H32 := by omega
            clear hx
            rcases hask with g1 | ⟨g1, c3, g3⟩
            all_goals
              go_wp2_with fail
              go_round
              case rel => exact ⟨q', r', rfl, rfl, HH.out, hr3⟩
              case measure => simp [intOf]; omega
        · have hfin := hH.fin (.inr hb)
          obtain ⟨g1, c3, g3⟩ := hH.ask_no hb hm1 hm2
          have HF := Lib.hid hfin
          clear hfin hH hb hm1 hm2 hq2 hd32 hy32
          go_wp2_with fail
          go_meet
          exact ⟨q, rfl, HF.out.2, Lib.hid HF.out.1, rfl⟩
    case rest =>
      obtain ⟨q0, rfl, hq0, HQ0, rfl⟩ := hcut
      have hB := both_halves (hi := hi) (l1 := l1) (l0 := l0) hy0' HQ1.out HU.out HQ0.out
      have hlo2 : l1 * H32 + l0 = lo := by rw [HL1.out, HLL.out]; unfold hiH loH; rw [Nat.mul_comm]; exact Nat.div_add_mod lo H32
      rw [hlo2] at hB
      have e1 : IntKind.u64.wrap (IntKind.u64.wrap ((q1 : Int) * 4294967296) + (q0 : Int)) = ((q1 * H32 + q0 : Nat) : Int) := by
        rw [IntKind.wrap_u64, IntKind.wrap_u64]
        unfold H32 at hq1 hq0 ⊢
        omega
      have e2 : IntKind.u64.wrap (IntKind.u64.wrap (IntKind.u64.wrap ((u : Int) * 4294967296) + (l0 : Int)) - IntKind.u64.wrap ((q0 : Int) * (y : Int))) = (((u * H32 + l0) % y : Nat) : Int) := by
        have e : (u * H32 + l0) % y + y * q0 = u * H32 + l0 := by rw [HQ0.out]; exact Nat.mod_add_div _ _
        have hlt : (u * H32 + l0) % y < y := Nat.mod_lt _ hy0'
        have e2 : ((q0 : Int) * (y : Int)) = ((y * q0 : Nat) : Int) := by rw [Nat.mul_comm]; simp
        rw [e2, IntKind.wrap_u64, IntKind.wrap_u64, IntKind.wrap_u64, IntKind.wrap_u64]
        generalize y * q0 = z at *
        generalize (u * H32 + l0) % y = v at *
        unfold H32 at e
        unfold B64 at hy
        omega
      have HB := Lib.hid hB
      have E1 := Lib.hid e1
      have E2 := Lib.hid e2
      clear hB hlo2 e1 e2
      go_wp2_with fail
      go_ret2
      refine ⟨ret_two ?_ ?_, rfl⟩
      · rw [E1.out, HB.out.1]
      · rw [← HB.out.2, ← E2.out]

theorem div64_zero (lo y : Nat) (w : World) (hlo : lo < B64) (hy0 : 0 < y) :
    Calls Try.prog 98 #[.int .u64 0, .int .u64 (lo : Int), .int .u64 (y : Int)] w fun e w' => e = .returned (.tuple #[.int .u64 (lo / y : Nat), .int .u64 (lo % y : Nat)]) ∧ ∃ n, w' = w.drewN n := by
  have h1 : ((y : Int) == 0) = false := by simp; omega
  have h2 : ¬ (y : Int) ≤ 0 := by omega
  have h3 : ¬ y = 0 := by omega
  have h4 : IntKind.u64.wrap ((lo : Int) / (y : Int)) = ((lo / y : Nat) : Int) := by
    have h5 : lo / y ≤ lo := Nat.div_le_self _ _
    have h6 : ((lo / y : Nat) : Int) = (lo : Int) / (y : Int) := by simp
    rw [← h6]
    exact wrap_nat (by omega)
  have h5 : ((lo : Int)).tmod (y : Int) = ((lo % y : Nat) : Int) := by
    rw [Int.tmod_eq_emod_of_nonneg (by omega)]
    simp
  have H4 := Lib.hid h4
  have H5 := Lib.hid h5
  clear h4 h5
  go_enter Try.func98, Try.ntmps98
  go_wp2_with fail
  go_quiet (fail)
  go_wp2_with fail
  go_ret2
  exact ⟨ret_two H4.out H5.out, _, rfl⟩

theorem div64_any (hi lo y : Nat) (w : World) (hhi : hi < y) (hlo : lo < B64) (hy : y < B64) (ht : B64 ≤ 2 * y) :
    Calls Try.prog 98 #[.int .u64 (hi : Int), .int .u64 (lo : Int), .int .u64 (y : Int)] w fun e w' => e = .returned (.tuple #[.int .u64 ((hi * B64 + lo) / y : Nat), .int .u64 ((hi * B64 + lo) % y : Nat)]) ∧ ∃ n, w' = w.drewN n := by
  by_cases h0 : hi = 0
  · subst h0
    rw [Nat.zero_mul, Nat.zero_add]
    exact div64_zero lo y w hlo hhi
  · refine (div64_main hi lo y w h0 hhi hlo hy ht).mono ?_
    rintro e w' ⟨rfl, rfl⟩
    exact ⟨rfl, 0, rfl⟩
end Go.Proofs.Ytpephogadljncaa
