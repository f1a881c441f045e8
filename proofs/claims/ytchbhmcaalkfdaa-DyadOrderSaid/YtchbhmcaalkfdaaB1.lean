/-
  Several texts in one: DX, DU, DT.
-/
import Derived.Test.YtchbhmcaalkfdaaA8
import Derived.Test.YtchbhmcaalkfdaaA9
import Derived.Test.YtchbhmcaalkfdaaA2

/-
  Numbers on a grid by what is left; the contracts of dyad: isGrid, isOdd, the closures.
-/
namespace Go.Proofs.Ytchbhmcaalkfdaa
open Go.RowKit
set_option linter.unusedVariables false
set_option linter.unusedSimpArgs false

theorem zn_minus {w : World} {A : Option Addr} {n c t : Nat} (h : Num w A n c t) (h0 : t ≠ 0) : Zn w true A n c (-(t : Int)) := ⟨by rw [Int.natAbs_neg, Int.natAbs_natCast]; exact h, (decide_eq_true (by omega)).symm⟩
theorem num_void {w : World} {A : Option Addr} {n c t : Nat} (h : Num w A n c t) (h0 : t = 0) : n = 0 := by
  have e := h.len
  rw [h0, limbs_zero] at e; simpa using e
theorem cei_pos (a : Rat) (k : Nat) (h : ¬ a.num < 0) : cei a k = ((a.num.natAbs * 2 ^ k / a.den + (if a.num.natAbs * 2 ^ k % a.den = 0 then 0 else 1) : Nat) : Int) := by
  unfold cei
  by_cases h0 : a.num = 0
  · have e : a.num.natAbs * 2 ^ k = 0 := by rw [h0]; simp
    have h1 : ¬ (-a).num < 0 := by rw [Rat.neg_num]; omega
    rw [flo_pos _ _ h1, Rat.neg_num, Int.natAbs_neg, Rat.neg_den, e]
    simp
  · have h1 : (-a).num < 0 := by rw [Rat.neg_num]; omega
    rw [flo_neg _ _ h1, Rat.neg_num, Int.natAbs_neg, Rat.neg_den, Int.neg_neg]
theorem cei_less (a : Rat) (k : Nat) (h : a.num < 0) : cei a k = -((a.num.natAbs * 2 ^ k / a.den : Nat) : Int) := by
  unfold cei
  have h1 : ¬ (-a).num < 0 := by rw [Rat.neg_num]; omega
  rw [flo_pos _ _ h1, Rat.neg_num, Int.natAbs_neg, Rat.neg_den]
/-- Whether the nearest is one step farther from nought. -/
def fars (u q : Nat) : Bool := decide (q < u % q + u % q) || (decide (u % q + u % q = q) && decide (u / q % 2 = 1))
theorem half_nat (u q : Nat) (hq : 0 < q) (A : Rat) (hA : A * (q : Rat) = (u : Rat)) : nr A = ((u / q + (if fars u q = true then 1 else 0) : Nat) : Int) := by
  have h1 := Nat.div_add_mod u q
  have h2 := Nat.mod_lt u hq
  unfold fars
  generalize u / q = T at h1 ⊢
  generalize u % q = r at h1 h2 ⊢
  have hqp : (0 : Rat) < (q : Rat) := Rat.natCast_pos.2 hq
  have hq0 : (q : Rat) ≠ 0 := by grind
  have e : A = (T : Rat) + (r : Rat) / (q : Rat) := by
    have : (u : Rat) = (q : Rat) * (T : Rat) + (r : Rat) := by rw [← h1, Rat.natCast_add, Rat.natCast_mul]
    grind
  have hr0 : (0 : Rat) ≤ (r : Rat) := Rat.natCast_nonneg
  have eT : ((T : Int) : Rat) = (T : Rat) := rfl
  have o : ((1 : Int) : Rat) = 1 := rfl
  obtain ⟨s, hs⟩ : ∃ s : Rat, (r : Rat) / (q : Rat) = s := ⟨_, rfl⟩
  have hsq : s * (q : Rat) = (r : Rat) := by rw [← hs]; grind
  have twice : ∀ {a b : Nat}, (a : Rat) ≤ (b : Rat) ↔ a ≤ b := fun {a b} => Rat.natCast_le_natCast
  have dbl : s + s = ((r + r : Nat) : Rat) / (q : Rat) := by rw [Rat.natCast_add]; grind
  have hle : s + s ≤ 1 ↔ r + r ≤ q := by
    rw [dbl]
    constructor
    · intro h
      have h3 : ((r + r : Nat) : Rat) ≤ (q : Rat) := by
        have := Rat.mul_le_mul_of_nonneg_right h (Rat.le_of_lt hqp)
        have e2 : ((r + r : Nat) : Rat) / (q : Rat) * (q : Rat) = ((r + r : Nat) : Rat) := by grind
        rw [e2, Rat.one_mul] at this; exact this
      exact twice.1 h3
    · intro h
      have h3 := twice.2 h
      have e2 : ((r + r : Nat) : Rat) / (q : Rat) * (q : Rat) = ((r + r : Nat) : Rat) := by grind
      apply Rat.le_of_mul_le_mul_right _ hqp
      rw [e2, Rat.one_mul]; exact h3
  have hge : 1 ≤ s + s ↔ q ≤ r + r := by
    rw [dbl]
    have e2 : ((r + r : Nat) : Rat) / (q : Rat) * (q : Rat) = ((r + r : Nat) : Rat) := by grind
    constructor
    · intro h
      have := Rat.mul_le_mul_of_nonneg_right h (Rat.le_of_lt hqp)
      rw [e2, Rat.one_mul] at this; exact twice.1 this
    · intro h
      apply Rat.le_of_mul_le_mul_right _ hqp
      rw [e2, Rat.one_mul]; exact twice.2 h
  have hs0 : 0 ≤ s := by
    apply Rat.le_of_mul_le_mul_right _ hqp
    rw [hsq, Rat.zero_mul]; exact hr0
  have hs1 : s < 1 := by
    have : (r : Rat) < (q : Rat) := Rat.natCast_lt_natCast.2 h2
    apply Rat.lt_of_mul_lt_mul_right _ (Rat.le_of_lt hqp)
    rw [hsq, Rat.one_mul]; exact this
  rw [hs] at e
  clear hsq dbl hr0 hqp hq0 hs h1 twice hA
  apply nr_unique
  unfold NrHalf
  subst e
  by_cases c1 : q < r + r
  · have c2 : 1 ≤ s + s := hge.2 (by omega)
    have c3 : ¬ s + s ≤ 1 := fun h => by have := hle.1 h; omega
    simp only [c1, decide_true, Bool.true_or, if_true]
    rw [Int.natCast_add, Rat.intCast_add, eT]
    have o2 : (((1 : Nat) : Int) : Rat) = 1 := rfl
    rw [o2]
    refine ⟨by grind, by grind, ?_⟩
    intro h; exfalso; grind
  · have c3 : s + s ≤ 1 := hle.2 (by omega)
    by_cases c2 : r + r = q
    · have c4 : 1 ≤ s + s := hge.2 (by omega)
      by_cases c5 : T % 2 = 1
      · simp only [c1, c2, c5, decide_true, decide_false, Bool.false_or, Bool.and_self, if_true, Nat.lt_irrefl]
        rw [Int.natCast_add, Rat.intCast_add, eT]
        have o2 : (((1 : Nat) : Int) : Rat) = 1 := rfl
        rw [o2]
        refine ⟨by grind, by grind, ?_⟩
        intro _; omega
      · simp only [c1, c2, c5, decide_true, decide_false, Bool.false_or, Bool.and_false, Nat.lt_irrefl]
        simp only [Bool.false_eq_true, if_false, Nat.add_zero]
        rw [eT]
        refine ⟨by grind, by grind, ?_⟩
        intro _; omega
    · have c4 : ¬ 1 ≤ s + s := fun h => by have := hge.1 h; omega
      simp only [c1, c2, decide_false, Bool.false_or, Bool.false_and]
      simp only [Bool.false_eq_true, if_false, Nat.add_zero]
      rw [eT]
      refine ⟨by grind, by grind, ?_⟩
      intro h; exfalso; grind
theorem sides_dw (a : Rat) (k : Nat) (h : ¬ a.num < 0) : a * dw k * (a.den : Rat) = ((a.num.natAbs * 2 ^ k : Nat) : Rat) := by
  unfold dw
  have h1 : a * (a.den : Rat) = ((a.num : Int) : Rat) := by
    conv => lhs; rw [← Rat.mkRat_self a]
    have h2 : ((a.den : Nat) : Rat) = mkRat ((a.den : Nat) : Int) 1 := by rw [Rat.mkRat_one]; rfl
    have h3 : ((a.num : Int) : Rat) = mkRat a.num 1 := by rw [Rat.mkRat_one]
    have hd := a.den_nz
    rw [Rat.mkRat_self, h3]
    conv => lhs; rw [← Rat.mkRat_self a]
    rw [Rat.mkRat_self]
    conv => lhs; arg 1; rw [← Rat.mkRat_self a]
    rw [h2, Rat.mkRat_mul_mkRat, Rat.mkRat_eq_iff (by omega) (by omega)]
    simp
  have h4 : ((a.num : Int) : Rat) = ((a.num.natAbs : Nat) : Rat) := by
    have : a.num = (a.num.natAbs : Int) := by omega
    conv => lhs; rw [this]
    rfl
  rw [Rat.natCast_mul, ← h4, ← h1]
  generalize ((2 ^ k : Nat) : Rat) = p
  grind
theorem nea_pos (a : Rat) (k : Nat) (h : ¬ a.num < 0) : nea a k = ((a.num.natAbs * 2 ^ k / a.den + (if fars (a.num.natAbs * 2 ^ k) a.den = true then 1 else 0) : Nat) : Int) := by
  unfold nea
  exact half_nat _ _ (Nat.pos_of_ne_zero a.den_nz) _ (sides_dw a k h)
theorem nea_less (a : Rat) (k : Nat) (h : a.num < 0) : nea a k = -((a.num.natAbs * 2 ^ k / a.den + (if fars (a.num.natAbs * 2 ^ k) a.den = true then 1 else 0) : Nat) : Int) := by
  have h1 : ¬ (-a).num < 0 := by rw [Rat.neg_num]; omega
  have e := nea_pos (-a) k h1
  rw [nea_neg, Rat.neg_num, Int.natAbs_neg, Rat.neg_den] at e
  omega

set_option maxRecDepth 100000 in
set_option maxHeartbeats 8000000 in
theorem isgrid_0 (w : World) {j : Int} (h : j < 0) :
    Calls Try.prog 47 #[.int .i64 j] w (GotV w (.bool false)) := by
  have t1 : decide (0 ≤ j) = false := decide_eq_false (by omega)
  go_enter Try.func47, Try.ntmps47
  go_wp2_with fail
  go_ret
  exact ⟨rfl, Below.refl _ _⟩

set_option maxRecDepth 100000 in
set_option maxHeartbeats 8000000 in
theorem isgrid_1 (w : World) {j : Int} (h0 : 0 ≤ j) (h1 : 2000 < j) :
    Calls Try.prog 47 #[.int .i64 j] w (GotV w (.bool false)) := by
  have t1 : decide (0 ≤ j) = true := decide_eq_true h0
  have t2 : decide (j ≤ 2000) = false := decide_eq_false (by omega)
  go_enter Try.func47, Try.ntmps47
  go_wp2_with fail
  go_ret
  exact ⟨rfl, Below.refl _ _⟩

set_option maxRecDepth 100000 in
set_option maxHeartbeats 8000000 in
theorem isgrid_2 (w : World) {j : Int} (h0 : 0 ≤ j) (h1 : j ≤ 2000) :
    Calls Try.prog 47 #[.int .i64 j] w (GotV w (.bool true)) := by
  have t1 : decide (0 ≤ j) = true := decide_eq_true h0
  have t2 : decide (j ≤ 2000) = true := decide_eq_true (by omega)
  go_enter Try.func47, Try.ntmps47
  go_wp2_with fail
  go_ret
  exact ⟨rfl, Below.refl _ _⟩

set_option maxRecDepth 100000 in
set_option maxHeartbeats 8000000 in
theorem isgrid_no (w : World) {j : Int} (h : j < 0 ∨ 2000 < j) :
    Calls Try.prog 47 #[.int .i64 j] w (GotV w (.bool false)) := by
  by_cases h0 : 0 ≤ j
  · exact isgrid_1 w h0 (by omega)
  · exact isgrid_0 w (by omega)

set_option maxRecDepth 100000 in
set_option maxHeartbeats 8000000 in
theorem disodd_0 {w : World} {A : Option Addr} {n c : Nat} (hn : n = 0) :
    Calls Try.prog 45 #[.slice A n c] w (GotV w (.bool false)) := by
  have t1 : decide ((0 : Int) < (n : Int)) = false := decide_eq_false (by omega)
  have t2 : decide (0 < n) = false := decide_eq_false (by omega)
  clear hn
  have cc := Below.refl w.heap.size w
  go_enter Try.func45, Try.ntmps45
  go_wp2_with fail
  go_ret
  exact ⟨rfl, cc⟩

set_option maxRecDepth 100000 in
set_option maxHeartbeats 8000000 in
theorem disodd_1 {w : World} {A : Option Addr} {n c x : Nat} (ha : Num w A n c x) (hn : 0 < n) (r : Bool) (hr : decide (x % 2 = 1) = r) :
    Calls Try.prog 45 #[.slice A n c] w (GotV w (.bool r)) := by
  obtain ⟨bk, off, rfl, hb, hc⟩ := ha.2.2.2 hn
  have h0 := hc 0 hn
  rw [Nat.add_zero] at h0
  have hz : x ≠ 0 := num_ne ha hn
  obtain ⟨v, hv⟩ : ∃ v, ((limbs x)[0]?.getD 0) = v := ⟨_, rfl⟩
  have hm := low_mod x hz
  rw [hv] at h0 hm
  clear hv hc
  have e1 : ((v : Int) % 2 == 1) = r := by rw [← hr, Bool.eq_iff_iff, beq_iff_eq, decide_eq_true_iff]; omega
  have hn2 : 1 ≤ n := hn
  have t1 : decide ((0 : Int) < (n : Int)) = true := decide_eq_true (by omega)
  have t2 : decide (0 < n) = true := decide_eq_true (by omega)
  have cc := Below.refl w.heap.size w
  go_enter Try.func45, Try.ntmps45
  go_wp2_with fail
  go_ret
  exact ⟨rfl, cc⟩

set_option maxRecDepth 100000 in
set_option maxHeartbeats 8000000 in
theorem disodd_N {w : World} {A : Option Addr} {n c x : Nat} (r : Bool) (ha : Num w A n c x) (hr : decide (x % 2 = 1) = r) :
    Calls Try.prog 45 #[.slice A n c] w (GotV w (.bool r)) := by
  rcases Nat.eq_zero_or_pos n with hn | hn
  · have : x = 0 := by
      have e := ha.len
      rw [hn] at e
      have e2 := List.length_eq_zero_iff.1 e.symm
      rw [← val_limbs x, e2, val_nil]
    subst this
    simp at hr
    subst hr
    exact disodd_0 hn
  · exact disodd_1 ha hn r hr

set_option maxRecDepth 100000 in
set_option maxHeartbeats 8000000 in
theorem kfloor_0 {w : World} {g n c m d : Nat} {A B : Option Addr} (r0 : w.cell? ⟨g, 0, none⟩ = some (.bool false)) :
    Calls Try.prog 36 #[.slice A n c, .slice B m d, .pointer (some ⟨g, 0, none⟩)] w (GotV w (.bool false)) := by
  have cc := Below.refl w.heap.size w
  go_enter Try.func36, Try.ntmps36
  go_wp2_with fail
  go_ret
  exact ⟨rfl, cc⟩

set_option maxRecDepth 100000 in
set_option maxHeartbeats 8000000 in
theorem kfloor_1f {w : World} {g n c m d y : Nat} {A B : Option Addr} (r0 : w.cell? ⟨g, 0, none⟩ = some (.bool true)) (hb : Num w B m d y) (hy : y = 0) :
    Calls Try.prog 36 #[.slice A n c, .slice B m d, .pointer (some ⟨g, 0, none⟩)] w (GotV w (.bool false)) := by
  have hm0 := num_void hb hy
  subst hm0
  have cc := Below.refl w.heap.size w
  go_enter Try.func36, Try.ntmps36
  go_wp2_with fail
  go_ret
  exact ⟨rfl, cc⟩

set_option maxRecDepth 100000 in
set_option maxHeartbeats 8000000 in
theorem kfloor_1t {w : World} {g n c m d y : Nat} {A B : Option Addr} (r0 : w.cell? ⟨g, 0, none⟩ = some (.bool true)) (hb : Num w B m d y) (hy : y ≠ 0) :
    Calls Try.prog 36 #[.slice A n c, .slice B m d, .pointer (some ⟨g, 0, none⟩)] w (GotV w (.bool true)) := by
  have hm0 := hb.some_len hy
  have t1 : decide ((0 : Int) < (m : Int)) = true := decide_eq_true (by omega)
  have t2 : decide (0 < m) = true := decide_eq_true (by omega)
  have cc := Below.refl w.heap.size w
  go_enter Try.func36, Try.ntmps36
  go_wp2_with fail
  go_ret
  exact ⟨rfl, cc⟩

set_option maxRecDepth 100000 in
set_option maxHeartbeats 8000000 in
theorem kceil_0 {w : World} {g n c m d : Nat} {A B : Option Addr} (r0 : w.cell? ⟨g, 0, none⟩ = some (.bool true)) :
    Calls Try.prog 41 #[.slice A n c, .slice B m d, .pointer (some ⟨g, 0, none⟩)] w (GotV w (.bool false)) := by
  have cc := Below.refl w.heap.size w
  go_enter Try.func41, Try.ntmps41
  go_wp2_with fail
  go_ret
  exact ⟨rfl, cc⟩

set_option maxRecDepth 100000 in
set_option maxHeartbeats 8000000 in
theorem kceil_1f {w : World} {g n c m d y : Nat} {A B : Option Addr} (r0 : w.cell? ⟨g, 0, none⟩ = some (.bool false)) (hb : Num w B m d y) (hy : y = 0) :
    Calls Try.prog 41 #[.slice A n c, .slice B m d, .pointer (some ⟨g, 0, none⟩)] w (GotV w (.bool false)) := by
  have hm0 := num_void hb hy
  subst hm0
  have cc := Below.refl w.heap.size w
  go_enter Try.func41, Try.ntmps41
  go_wp2_with fail
  go_ret
  exact ⟨rfl, cc⟩

set_option maxRecDepth 100000 in
set_option maxHeartbeats 8000000 in
theorem kceil_1t {w : World} {g n c m d y : Nat} {A B : Option Addr} (r0 : w.cell? ⟨g, 0, none⟩ = some (.bool false)) (hb : Num w B m d y) (hy : y ≠ 0) :
    Calls Try.prog 41 #[.slice A n c, .slice B m d, .pointer (some ⟨g, 0, none⟩)] w (GotV w (.bool true)) := by
  have hm0 := hb.some_len hy
  have t1 : decide ((0 : Int) < (m : Int)) = true := decide_eq_true (by omega)
  have t2 : decide (0 < m) = true := decide_eq_true (by omega)
  have cc := Below.refl w.heap.size w
  go_enter Try.func41, Try.ntmps41
  go_wp2_with fail
  go_ret
  exact ⟨rfl, cc⟩

set_option maxRecDepth 100000 in
set_option maxHeartbeats 8000000 in
theorem knear_gt {w : World} {g n c m d x y : Nat} {A B : Option Addr} {b0 : Bool} {A0 B0 : Option Addr} {n0 c0 m0 d0 q : Nat} (r0 : w.cell? ⟨g, 0, none⟩ = some (.bool b0)) (r1 : w.cell? ⟨g, 1, none⟩ = some (.slice A0 n0 c0)) (r2 : w.cell? ⟨g, 2, none⟩ = some (.slice B0 m0 d0)) (ha : Num w A n c x) (hb : Num w B m d y) (hq : Num w B0 m0 d0 q) (ly : (limbs y).length ≤ 299) (lq : (limbs q).length ≤ 300) (hy : q < y + y) :
    Calls Try.prog 42 #[.slice A n c, .slice B m d, .pointer (some ⟨g, 0, none⟩)] w (GotV w (.bool true)) := by
  have ll : (limbs (y + y)).length ≤ 300 := limbs_length_add ly ly
  have hc : cmpN (y + y) q = 1 := cmpN_gt hy
  have hrl := cell_lt r2
  simp only at hrl
  have CC : ∀ {W : World} {A B : Option Addr} {n c m d : Nat}, Num W A n c (y + y) → Num W B m d q → Calls Try.prog 43 #[.slice A n c, .slice B m d] W (GotV W (.int .i64 (1))) := fun hu hv => by rw [← hc]; exact cmp_N hu hv (by omega) (by omega)
  clear hc hy
  have rl := hrl
  clear hrl
  have cc := Below.refl w.heap.size w
  go_enter Try.func42, Try.ntmps42
  go_wp2_with fail
  have qq : Below w.heap.size w w.drew := below_drewN (Below.refl _ w) 1
  have ha' := ha.on qq
  have hb' := hb.on qq
  have hq' := hq.on qq
  go_region_held3 (fun w' => w'.cell? ⟨g, 0, none⟩ = some (.bool b0) ∧ w'.cell? ⟨g, 1, none⟩ = some (.slice A0 n0 c0) ∧ w'.cell? ⟨g, 2, none⟩ = some (.slice B0 m0 d0))
    (first | with_reducible exact ⟨cK qq r0 rl, cK qq r1 rl, cK qq r2 rl⟩ | go_keep)
    (first
      | (go_at_call 44; (with_reducible refine (add_N hb' hb' (by omega) (by omega)).mono ?_); rintro e wz ⟨As, ns, cs, rfl, s, q⟩; replace qq := bK qq q; (try replace ha' := ha'.on q); (try replace hb' := hb'.on q); (try replace hq' := hq'.on q); clear q)
      | (go_at_call 43; (with_reducible refine (CC s hq').mono ?_); rintro e wz ⟨rfl, q⟩; replace qq := bK qq q; (try replace ha' := ha'.on q); (try replace hb' := hb'.on q); (try replace hq' := hq'.on q); (try replace s := s.on q); clear q))
  clear ha
  have ha := ha'
  clear ha'
  clear hb
  have hb := hb'
  clear hb'
  clear hq
  have hq := hq'
  clear hq'
  replace r0 := cK qq r0 rl
  replace r1 := cK qq r1 rl
  replace r2 := cK qq r2 rl
  replace rl := lK qq rl
  replace cc := bK cc qq
  clear qq
  go_wp2_with fail
  go_ret
  exact ⟨rfl, cc⟩

set_option maxRecDepth 100000 in
set_option maxHeartbeats 8000000 in
theorem knear_eq {w : World} {g n c m d x y : Nat} {A B : Option Addr} {b0 : Bool} {A0 B0 : Option Addr} {n0 c0 m0 d0 q : Nat} (r0 : w.cell? ⟨g, 0, none⟩ = some (.bool b0)) (r1 : w.cell? ⟨g, 1, none⟩ = some (.slice A0 n0 c0)) (r2 : w.cell? ⟨g, 2, none⟩ = some (.slice B0 m0 d0)) (ha : Num w A n c x) (hb : Num w B m d y) (hq : Num w B0 m0 d0 q) (ly : (limbs y).length ≤ 299) (lq : (limbs q).length ≤ 300) (hy : y + y = q) (r : Bool) (hr : decide (x % 2 = 1) = r) :
    Calls Try.prog 42 #[.slice A n c, .slice B m d, .pointer (some ⟨g, 0, none⟩)] w (GotV w (.bool r)) := by
  have ll : (limbs (y + y)).length ≤ 300 := limbs_length_add ly ly
  have hc : cmpN (y + y) q = 0 := cmpN_zero.2 hy
  have hrl := cell_lt r2
  simp only at hrl
  have CC : ∀ {W : World} {A B : Option Addr} {n c m d : Nat}, Num W A n c (y + y) → Num W B m d q → Calls Try.prog 43 #[.slice A n c, .slice B m d] W (GotV W (.int .i64 (0))) := fun hu hv => by rw [← hc]; exact cmp_N hu hv (by omega) (by omega)
  clear hc hy
  have rl := hrl
  clear hrl
  have cc := Below.refl w.heap.size w
  go_enter Try.func42, Try.ntmps42
  go_wp2_with fail
  have qq : Below w.heap.size w w.drew := below_drewN (Below.refl _ w) 1
  have ha' := ha.on qq
  have hb' := hb.on qq
  have hq' := hq.on qq
  go_region_held3 (fun w' => w'.cell? ⟨g, 0, none⟩ = some (.bool b0) ∧ w'.cell? ⟨g, 1, none⟩ = some (.slice A0 n0 c0) ∧ w'.cell? ⟨g, 2, none⟩ = some (.slice B0 m0 d0))
    (first | with_reducible exact ⟨cK qq r0 rl, cK qq r1 rl, cK qq r2 rl⟩ | go_keep)
    (first
      | (go_at_call 44; (with_reducible refine (add_N hb' hb' (by omega) (by omega)).mono ?_); rintro e wz ⟨As, ns, cs, rfl, s, q⟩; replace qq := bK qq q; (try replace ha' := ha'.on q); (try replace hb' := hb'.on q); (try replace hq' := hq'.on q); clear q)
      | (go_at_call 43; (with_reducible refine (CC s hq').mono ?_); rintro e wz ⟨rfl, q⟩; replace qq := bK qq q; (try replace ha' := ha'.on q); (try replace hb' := hb'.on q); (try replace hq' := hq'.on q); (try replace s := s.on q); clear q))
  clear ha
  have ha := ha'
  clear ha'
  clear hb
  have hb := hb'
  clear hb'
  clear hq
  have hq := hq'
  clear hq'
  replace r0 := cK qq r0 rl
  replace r1 := cK qq r1 rl
  replace r2 := cK qq r2 rl
  replace rl := lK qq rl
  replace cc := bK cc qq
  clear qq
  go_wp2_with fail
  refine (disodd_N r ha hr).mono ?_
  rintro e w9 ⟨rfl, b⟩
  replace ha := ha.on b
  replace hb := hb.on b
  replace hq := hq.on b
  replace r0 := cK b r0 rl
  replace r1 := cK b r1 rl
  replace r2 := cK b r2 rl
  replace rl := lK b rl
  replace cc := bK cc b
  clear b
  go_wp2_with fail
  go_ret
  exact ⟨rfl, cc⟩

set_option maxRecDepth 100000 in
set_option maxHeartbeats 8000000 in
theorem knear_lt {w : World} {g n c m d x y : Nat} {A B : Option Addr} {b0 : Bool} {A0 B0 : Option Addr} {n0 c0 m0 d0 q : Nat} (r0 : w.cell? ⟨g, 0, none⟩ = some (.bool b0)) (r1 : w.cell? ⟨g, 1, none⟩ = some (.slice A0 n0 c0)) (r2 : w.cell? ⟨g, 2, none⟩ = some (.slice B0 m0 d0)) (ha : Num w A n c x) (hb : Num w B m d y) (hq : Num w B0 m0 d0 q) (ly : (limbs y).length ≤ 299) (lq : (limbs q).length ≤ 300) (hy : y + y < q) :
    Calls Try.prog 42 #[.slice A n c, .slice B m d, .pointer (some ⟨g, 0, none⟩)] w (GotV w (.bool false)) := by
  have ll : (limbs (y + y)).length ≤ 300 := limbs_length_add ly ly
  have hc : cmpN (y + y) q = -1 := cmpN_lt hy
  have hrl := cell_lt r2
  simp only at hrl
  have CC : ∀ {W : World} {A B : Option Addr} {n c m d : Nat}, Num W A n c (y + y) → Num W B m d q → Calls Try.prog 43 #[.slice A n c, .slice B m d] W (GotV W (.int .i64 (-1))) := fun hu hv => by rw [← hc]; exact cmp_N hu hv (by omega) (by omega)
  clear hc hy
  have rl := hrl
  clear hrl
  have cc := Below.refl w.heap.size w
  go_enter Try.func42, Try.ntmps42
  go_wp2_with fail
  have qq : Below w.heap.size w w.drew := below_drewN (Below.refl _ w) 1
  have ha' := ha.on qq
  have hb' := hb.on qq
  have hq' := hq.on qq
  go_region_held3 (fun w' => w'.cell? ⟨g, 0, none⟩ = some (.bool b0) ∧ w'.cell? ⟨g, 1, none⟩ = some (.slice A0 n0 c0) ∧ w'.cell? ⟨g, 2, none⟩ = some (.slice B0 m0 d0))
    (first | with_reducible exact ⟨cK qq r0 rl, cK qq r1 rl, cK qq r2 rl⟩ | go_keep)
    (first
      | (go_at_call 44; (with_reducible refine (add_N hb' hb' (by omega) (by omega)).mono ?_); rintro e wz ⟨As, ns, cs, rfl, s, q⟩; replace qq := bK qq q; (try replace ha' := ha'.on q); (try replace hb' := hb'.on q); (try replace hq' := hq'.on q); clear q)
      | (go_at_call 43; (with_reducible refine (CC s hq').mono ?_); rintro e wz ⟨rfl, q⟩; replace qq := bK qq q; (try replace ha' := ha'.on q); (try replace hb' := hb'.on q); (try replace hq' := hq'.on q); (try replace s := s.on q); clear q))
  clear ha
  have ha := ha'
  clear ha'
  clear hb
  have hb := hb'
  clear hb'
  clear hq
  have hq := hq'
  clear hq'
  replace r0 := cK qq r0 rl
  replace r1 := cK qq r1 rl
  replace r2 := cK qq r2 rl
  replace rl := lK qq rl
  replace cc := bK cc qq
  clear qq
  go_wp2_with fail
  go_ret
  exact ⟨rfl, cc⟩

set_option maxRecDepth 100000 in
set_option maxHeartbeats 8000000 in
theorem knear_N {w : World} {g n c m d : Nat} {A B : Option Addr} {b0 : Bool} {A0 B0 : Option Addr} {n0 c0 m0 d0 q u : Nat} (r0 : w.cell? ⟨g, 0, none⟩ = some (.bool b0)) (r1 : w.cell? ⟨g, 1, none⟩ = some (.slice A0 n0 c0)) (r2 : w.cell? ⟨g, 2, none⟩ = some (.slice B0 m0 d0)) (ha : Num w A n c (u / q)) (hb : Num w B m d (u % q)) (hq : Num w B0 m0 d0 q) (ly : (limbs (u % q)).length ≤ 299) (lq : (limbs q).length ≤ 300) :
    Calls Try.prog 42 #[.slice A n c, .slice B m d, .pointer (some ⟨g, 0, none⟩)] w (GotV w (.bool (fars u q))) := by
  unfold fars
  rcases Nat.lt_trichotomy q (u % q + u % q) with h | h | h
  · have e : (decide (q < u % q + u % q) || (decide (u % q + u % q = q) && decide (u / q % 2 = 1))) = true := by rw [decide_eq_true h]; rfl
    rw [e]; exact knear_gt r0 r1 r2 ha hb hq ly lq h
  · have e : (decide (q < u % q + u % q) || (decide (u % q + u % q = q) && decide (u / q % 2 = 1))) = decide (u / q % 2 = 1) := by rw [decide_eq_false (show ¬ q < u % q + u % q by omega), decide_eq_true h.symm]; simp
    rw [e]; exact knear_eq r0 r1 r2 ha hb hq ly lq h.symm _ rfl
  · have e : (decide (q < u % q + u % q) || (decide (u % q + u % q = q) && decide (u / q % 2 = 1))) = false := by rw [decide_eq_false (show ¬ q < u % q + u % q by omega), decide_eq_false (show ¬ u % q + u % q = q by omega)]; rfl
    rw [e]; exact knear_lt r0 r1 r2 ha hb hq ly lq h

end Go.Proofs.Ytchbhmcaalkfdaa

/-
  The contracts of dyad: rounded.
-/
namespace Go.Proofs.Ytchbhmcaalkfdaa
open Go.RowKit
set_option linter.unusedVariables false
set_option linter.unusedSimpArgs false

set_option maxRecDepth 100000 in
set_option maxHeartbeats 8000000 in
theorem rdflo_ff {w : World} {b0 : Bool} {A0 B0 : Option Addr} {n0 c0 m0 d0 : Nat} {g : Nat} {x0 : Rat} (hx : Rt w b0 A0 n0 c0 B0 m0 d0 x0) (s0 : Sz x0 20) {j : Int} (h0 : 0 ≤ j) (h1 : j ≤ 500) (hg : BoxR w g b0 A0 n0 c0 B0 m0 d0) (hs : ¬ x0.num < 0) (ht : True) :
    Calls Try.prog 35 #[.agg #[.bool b0, .slice A0 n0 c0, .slice B0 m0 d0], .int .i64 j, .func (.func 36) #[] #[.pointer (some ⟨g, 0, none⟩)]] w (GotZp w (flo x0 j.toNat) 0) := by
  have je := to_nat h0
  have jl : j.toNat ≤ 500 := by omega
  have hj2 : j ≤ 2000 := by omega
  obtain ⟨k, hk⟩ : ∃ k, j.toNat = k := ⟨_, rfl⟩
  rw [hk] at je jl ⊢
  have lk := len_pow2 jl
  have p0 := hx.1.1
  have q0 := hx.2
  have hb0 : b0 = false := by rw [hx.1.2]; exact decide_eq_false hs
  subst hb0
  have lp := s0.1
  have lq := s0.2
  have hq0 := x0.den_nz
  have lu : (limbs (x0.num.natAbs * 2 ^ k)).length ≤ 28 := limbs_length_mul lp lk
  have ld : (limbs (x0.num.natAbs * 2 ^ k / x0.den)).length ≤ 28 := Nat.le_trans (limbs_length_mono (Nat.div_le_self _ _)) lu
  have hlt := Nat.mod_lt (x0.num.natAbs * 2 ^ k) (Nat.pos_of_ne_zero hq0)
  have lr : (limbs (x0.num.natAbs * 2 ^ k % x0.den)).length ≤ 20 := Nat.le_trans (limbs_length_mono (Nat.le_of_lt hlt)) lq
  clear hlt
  have HF : flo x0 k = (((x0.num.natAbs * 2 ^ k / x0.den : Nat) : Nat) : Int) := by rw [flo_pos x0 k hs]
  have CK : ∀ {W : World} {A B : Option Addr} {n c m d : Nat}, W.cell? ⟨g, 0, none⟩ = some (.bool false) → W.cell? ⟨g, 1, none⟩ = some (.slice A0 n0 c0) → W.cell? ⟨g, 2, none⟩ = some (.slice B0 m0 d0) → Num W A n c (x0.num.natAbs * 2 ^ k / x0.den) → Num W B m d (x0.num.natAbs * 2 ^ k % x0.den) → Num W B0 m0 d0 x0.den → Calls Try.prog 36 #[.slice A n c, .slice B m d, .pointer (some ⟨g, 0, none⟩)] W (GotV W (.bool false)) := fun r0 r1 r2 ha hb hq => kfloor_0 r0
  obtain ⟨u, hU⟩ : ∃ u, x0.num.natAbs * 2 ^ k = u := ⟨_, rfl⟩
  obtain ⟨t, hT⟩ : ∃ t, x0.num.natAbs * 2 ^ k / x0.den = t := ⟨_, rfl⟩
  obtain ⟨l, hL⟩ : ∃ l, x0.num.natAbs * 2 ^ k % x0.den = l := ⟨_, rfl⟩
  rw [hT, hL] at CK
  rw [hT] at HF ld
  rw [hL] at lr
  rw [hU] at lu hT hL
  have CU : ∀ {W : World} {A : Option Addr} {m c : Nat}, Num W A m c x0.num.natAbs → Calls Try.prog 48 #[.slice A m c, .int .i64 j] W (GotP W u 0) := fun ha => by rw [← je, ← hU]; exact dshl_N ha (by omega) (by omega)
  have CD : ∀ {W : World} {A B : Option Addr} {n c m d : Nat}, Num W A n c u → Num W B m d x0.den → Calls Try.prog 61 #[.slice A n c, .slice B m d] W (GotD W t l) := fun ha hb => by rw [← hT, ← hL]; exact ddiv_N ha hb (by omega) (by omega) hq0
  have HV := Lib.hid HF
  clear HF hU hT hL hs ht lu
  obtain ⟨r0, r1, r2⟩ := hg
  have rl := cell_lt r0
  simp only at rl
  have cc := Below.refl w.heap.size w
  go_enter Try.func35, Try.ntmps35
  go_wp2_with fail
  have f0 : ((w.alloc (.cells #[.bool false, .slice A0 n0 c0, .slice B0 m0 d0] 27)).alloc (.cells #[.bool false, .slice none 0 0] 25)).frozen? ⟨w.heap.size + 1, 0, none⟩ = false := by simp [go_sem]
  have f1 : ((w.alloc (.cells #[.bool false, .slice A0 n0 c0, .slice B0 m0 d0] 27)).alloc (.cells #[.bool false, .slice none 0 0] 25)).frozen? ⟨w.heap.size + 1, 1, none⟩ = false := by simp [go_sem]
  have bA : Below w.heap.size w ((w.alloc (.cells #[.bool false, .slice A0 n0 c0, .slice B0 m0 d0] 27)).alloc (.cells #[.bool false, .slice none 0 0] 25)) := (((Below.refl _ w).alloc (by simp) _).alloc (by simp) _)
  replace p0 := p0.on bA
  replace q0 := q0.on bA
  replace r0 := cK bA r0 rl
  replace r1 := cK bA r1 rl
  replace r2 := cK bA r2 rl
  replace rl := lK bA rl
  replace cc := bK cc bA
  clear bA
  have k0 : ((w.alloc (.cells #[.bool false, .slice A0 n0 c0, .slice B0 m0 d0] 27)).alloc (.cells #[.bool false, .slice none 0 0] 25)).cell? ⟨w.heap.size, 0, none⟩ = some (.bool false) := by simp [go_sem]
  have k1 : ((w.alloc (.cells #[.bool false, .slice A0 n0 c0, .slice B0 m0 d0] 27)).alloc (.cells #[.bool false, .slice none 0 0] 25)).cell? ⟨w.heap.size, 1, none⟩ = some (.slice A0 n0 c0) := by simp [go_sem]
  have k2 : ((w.alloc (.cells #[.bool false, .slice A0 n0 c0, .slice B0 m0 d0] 27)).alloc (.cells #[.bool false, .slice none 0 0] 25)).cell? ⟨w.heap.size, 2, none⟩ = some (.slice B0 m0 d0) := by simp [go_sem]
  have kl : w.heap.size < ((w.alloc (.cells #[.bool false, .slice A0 n0 c0, .slice B0 m0 d0] 27)).alloc (.cells #[.bool false, .slice none 0 0] 25)).heap.size := by simp <;> omega
  have g0 : ((w.alloc (.cells #[.bool false, .slice A0 n0 c0, .slice B0 m0 d0] 27)).alloc (.cells #[.bool false, .slice none 0 0] 25)).cell? ⟨w.heap.size + 1, 0, none⟩ = some (.bool false) := by simp [go_sem]
  have g1 : ((w.alloc (.cells #[.bool false, .slice A0 n0 c0, .slice B0 m0 d0] 27)).alloc (.cells #[.bool false, .slice none 0 0] 25)).cell? ⟨w.heap.size + 1, 1, none⟩ = some (.slice none 0 0) := by simp [go_sem]
  have gl : w.heap.size + 1 < ((w.alloc (.cells #[.bool false, .slice A0 n0 c0, .slice B0 m0 d0] 27)).alloc (.cells #[.bool false, .slice none 0 0] 25)).heap.size := by simp <;> omega
  generalize (w.alloc (.cells #[.bool false, .slice A0 n0 c0, .slice B0 m0 d0] 27)).alloc (.cells #[.bool false, .slice none 0 0] 25) = v1 at *
  refine (isgrid_2 _ h0 hj2).mono ?_
  rintro e w2 ⟨rfl, b⟩
  replace f0 := fK b f0 gl
  replace f1 := fK b f1 gl
  replace p0 := p0.on b
  replace q0 := q0.on b
  replace r0 := cK b r0 rl
  replace r1 := cK b r1 rl
  replace r2 := cK b r2 rl
  replace rl := lK b rl
  replace k0 := cK b k0 kl
  replace k1 := cK b k1 kl
  replace k2 := cK b k2 kl
  replace kl := lK b kl
  replace g0 := cK b g0 gl
  replace g1 := cK b g1 gl
  replace gl := lK b gl
  replace cc := bK cc b
  clear b
  go_wp2_with fail
  refine (CU p0).mono ?_
  rintro e w3 ⟨Av, nv, cv, rfl, v, b⟩
  replace f0 := fK b f0 gl
  replace f1 := fK b f1 gl
  replace p0 := p0.on b
  replace q0 := q0.on b
  replace r0 := cK b r0 rl
  replace r1 := cK b r1 rl
  replace r2 := cK b r2 rl
  replace rl := lK b rl
  replace k0 := cK b k0 kl
  replace k1 := cK b k1 kl
  replace k2 := cK b k2 kl
  replace kl := lK b kl
  replace g0 := cK b g0 gl
  replace g1 := cK b g1 gl
  replace gl := lK b gl
  replace cc := bK cc b
  clear b
  go_wp2_with fail
  refine (CD v q0).mono ?_
  rintro e w4 ⟨Aq, nq, cq, Ar, nr_, cr, rfl, dq, dr, b⟩
  replace f0 := fK b f0 gl
  replace f1 := fK b f1 gl
  replace p0 := p0.on b
  replace q0 := q0.on b
  replace v := v.on b
  replace r0 := cK b r0 rl
  replace r1 := cK b r1 rl
  replace r2 := cK b r2 rl
  replace rl := lK b rl
  replace k0 := cK b k0 kl
  replace k1 := cK b k1 kl
  replace k2 := cK b k2 kl
  replace kl := lK b kl
  replace g0 := cK b g0 gl
  replace g1 := cK b g1 gl
  replace gl := lK b gl
  replace cc := bK cc b
  clear b
  go_wp2_with fail
  refine (CK r0 r1 r2 dq dr q0).mono ?_
  rintro e w5 ⟨rfl, b⟩
  replace f0 := fK b f0 gl
  replace f1 := fK b f1 gl
  replace p0 := p0.on b
  replace q0 := q0.on b
  replace v := v.on b
  replace dq := dq.on b
  replace dr := dr.on b
  replace r0 := cK b r0 rl
  replace r1 := cK b r1 rl
  replace r2 := cK b r2 rl
  replace rl := lK b rl
  replace k0 := cK b k0 kl
  replace k1 := cK b k1 kl
  replace k2 := cK b k2 kl
  replace kl := lK b kl
  replace g0 := cK b g0 gl
  replace g1 := cK b g1 gl
  replace gl := lK b gl
  replace cc := bK cc b
  clear b
  have hn : Zn w5 false Aq nq cq (flo x0 k) := by rw [HV.out]; exact zn_nat dq
  have eb : Box w5 (w.heap.size + 1) false none 0 0 := ⟨g0, g1⟩
  have HZ : Hid (Zn ((w5.setCell ⟨w.heap.size + 1, 0, none⟩ (.bool false)).setCell ⟨w.heap.size + 1, 1, none⟩ (.slice Aq nq cq)) false Aq nq cq (flo x0 k)) := Lib.hid (hn.put eb _ _)
  clear hn
  go_wp2_with fail
  refine bodyPost_ret (v := .tuple #[.agg #[.bool false, .slice Aq nq cq], .int .i64 0]) (by simp [results, Try.results35, go_sem, g0, g1]) rfl ⟨_, _, _, _, rfl, HZ.out, below_put cc (by omega) _ _⟩

set_option maxRecDepth 100000 in
set_option maxHeartbeats 8000000 in
theorem rdflo_tf0 {w : World} {b0 : Bool} {A0 B0 : Option Addr} {n0 c0 m0 d0 : Nat} {g : Nat} {x0 : Rat} (hx : Rt w b0 A0 n0 c0 B0 m0 d0 x0) (s0 : Sz x0 20) {j : Int} (h0 : 0 ≤ j) (h1 : j ≤ 500) (hg : BoxR w g b0 A0 n0 c0 B0 m0 d0) (hs : x0.num < 0) (ht : x0.num.natAbs * 2 ^ j.toNat % x0.den = 0) (hz : x0.num.natAbs * 2 ^ j.toNat / x0.den = 0) :
    Calls Try.prog 35 #[.agg #[.bool b0, .slice A0 n0 c0, .slice B0 m0 d0], .int .i64 j, .func (.func 36) #[] #[.pointer (some ⟨g, 0, none⟩)]] w (GotZp w (flo x0 j.toNat) 0) := by
  have je := to_nat h0
  have jl : j.toNat ≤ 500 := by omega
  have hj2 : j ≤ 2000 := by omega
  obtain ⟨k, hk⟩ : ∃ k, j.toNat = k := ⟨_, rfl⟩
  rw [hk] at je jl ht hz ⊢
  have lk := len_pow2 jl
  have p0 := hx.1.1
  have q0 := hx.2
  have hb0 : b0 = true := by rw [hx.1.2]; exact decide_eq_true hs
  subst hb0
  have lp := s0.1
  have lq := s0.2
  have hq0 := x0.den_nz
  have lu : (limbs (x0.num.natAbs * 2 ^ k)).length ≤ 28 := limbs_length_mul lp lk
  have ld : (limbs (x0.num.natAbs * 2 ^ k / x0.den)).length ≤ 28 := Nat.le_trans (limbs_length_mono (Nat.div_le_self _ _)) lu
  have hlt := Nat.mod_lt (x0.num.natAbs * 2 ^ k) (Nat.pos_of_ne_zero hq0)
  have lr : (limbs (x0.num.natAbs * 2 ^ k % x0.den)).length ≤ 20 := Nat.le_trans (limbs_length_mono (Nat.le_of_lt hlt)) lq
  clear hlt
  have HF : flo x0 k = -(((x0.num.natAbs * 2 ^ k / x0.den : Nat) : Nat) : Int) := by rw [flo_neg x0 k hs, if_pos ht, Nat.add_zero]
  have CK : ∀ {W : World} {A B : Option Addr} {n c m d : Nat}, W.cell? ⟨g, 0, none⟩ = some (.bool true) → W.cell? ⟨g, 1, none⟩ = some (.slice A0 n0 c0) → W.cell? ⟨g, 2, none⟩ = some (.slice B0 m0 d0) → Num W A n c (x0.num.natAbs * 2 ^ k / x0.den) → Num W B m d (x0.num.natAbs * 2 ^ k % x0.den) → Num W B0 m0 d0 x0.den → Calls Try.prog 36 #[.slice A n c, .slice B m d, .pointer (some ⟨g, 0, none⟩)] W (GotV W (.bool false)) := fun r0 r1 r2 ha hb hq => kfloor_1f r0 hb ht
  obtain ⟨u, hU⟩ : ∃ u, x0.num.natAbs * 2 ^ k = u := ⟨_, rfl⟩
  obtain ⟨t, hT⟩ : ∃ t, x0.num.natAbs * 2 ^ k / x0.den = t := ⟨_, rfl⟩
  obtain ⟨l, hL⟩ : ∃ l, x0.num.natAbs * 2 ^ k % x0.den = l := ⟨_, rfl⟩
  rw [hT, hL] at CK
  rw [hT] at HF ld hz
  rw [hL] at lr
  rw [hU] at lu hT hL
  have CU : ∀ {W : World} {A : Option Addr} {m c : Nat}, Num W A m c x0.num.natAbs → Calls Try.prog 48 #[.slice A m c, .int .i64 j] W (GotP W u 0) := fun ha => by rw [← je, ← hU]; exact dshl_N ha (by omega) (by omega)
  have CD : ∀ {W : World} {A B : Option Addr} {n c m d : Nat}, Num W A n c u → Num W B m d x0.den → Calls Try.prog 61 #[.slice A n c, .slice B m d] W (GotD W t l) := fun ha hb => by rw [← hT, ← hL]; exact ddiv_N ha hb (by omega) (by omega) hq0
  subst hz
  have HV := Lib.hid HF
  clear HF hU hT hL hs ht lu
  obtain ⟨r0, r1, r2⟩ := hg
  have rl := cell_lt r0
  simp only at rl
  have cc := Below.refl w.heap.size w
  go_enter Try.func35, Try.ntmps35
  go_wp2_with fail
  have f0 : ((w.alloc (.cells #[.bool true, .slice A0 n0 c0, .slice B0 m0 d0] 27)).alloc (.cells #[.bool false, .slice none 0 0] 25)).frozen? ⟨w.heap.size + 1, 0, none⟩ = false := by simp [go_sem]
  have f1 : ((w.alloc (.cells #[.bool true, .slice A0 n0 c0, .slice B0 m0 d0] 27)).alloc (.cells #[.bool false, .slice none 0 0] 25)).frozen? ⟨w.heap.size + 1, 1, none⟩ = false := by simp [go_sem]
  have bA : Below w.heap.size w ((w.alloc (.cells #[.bool true, .slice A0 n0 c0, .slice B0 m0 d0] 27)).alloc (.cells #[.bool false, .slice none 0 0] 25)) := (((Below.refl _ w).alloc (by simp) _).alloc (by simp) _)
  replace p0 := p0.on bA
  replace q0 := q0.on bA
  replace r0 := cK bA r0 rl
  replace r1 := cK bA r1 rl
  replace r2 := cK bA r2 rl
  replace rl := lK bA rl
  replace cc := bK cc bA
  clear bA
  have k0 : ((w.alloc (.cells #[.bool true, .slice A0 n0 c0, .slice B0 m0 d0] 27)).alloc (.cells #[.bool false, .slice none 0 0] 25)).cell? ⟨w.heap.size, 0, none⟩ = some (.bool true) := by simp [go_sem]
  have k1 : ((w.alloc (.cells #[.bool true, .slice A0 n0 c0, .slice B0 m0 d0] 27)).alloc (.cells #[.bool false, .slice none 0 0] 25)).cell? ⟨w.heap.size, 1, none⟩ = some (.slice A0 n0 c0) := by simp [go_sem]
  have k2 : ((w.alloc (.cells #[.bool true, .slice A0 n0 c0, .slice B0 m0 d0] 27)).alloc (.cells #[.bool false, .slice none 0 0] 25)).cell? ⟨w.heap.size, 2, none⟩ = some (.slice B0 m0 d0) := by simp [go_sem]
  have kl : w.heap.size < ((w.alloc (.cells #[.bool true, .slice A0 n0 c0, .slice B0 m0 d0] 27)).alloc (.cells #[.bool false, .slice none 0 0] 25)).heap.size := by simp <;> omega
  have g0 : ((w.alloc (.cells #[.bool true, .slice A0 n0 c0, .slice B0 m0 d0] 27)).alloc (.cells #[.bool false, .slice none 0 0] 25)).cell? ⟨w.heap.size + 1, 0, none⟩ = some (.bool false) := by simp [go_sem]
  have g1 : ((w.alloc (.cells #[.bool true, .slice A0 n0 c0, .slice B0 m0 d0] 27)).alloc (.cells #[.bool false, .slice none 0 0] 25)).cell? ⟨w.heap.size + 1, 1, none⟩ = some (.slice none 0 0) := by simp [go_sem]
  have gl : w.heap.size + 1 < ((w.alloc (.cells #[.bool true, .slice A0 n0 c0, .slice B0 m0 d0] 27)).alloc (.cells #[.bool false, .slice none 0 0] 25)).heap.size := by simp <;> omega
  generalize (w.alloc (.cells #[.bool true, .slice A0 n0 c0, .slice B0 m0 d0] 27)).alloc (.cells #[.bool false, .slice none 0 0] 25) = v1 at *
  refine (isgrid_2 _ h0 hj2).mono ?_
  rintro e w2 ⟨rfl, b⟩
  replace f0 := fK b f0 gl
  replace f1 := fK b f1 gl
  replace p0 := p0.on b
  replace q0 := q0.on b
  replace r0 := cK b r0 rl
  replace r1 := cK b r1 rl
  replace r2 := cK b r2 rl
  replace rl := lK b rl
  replace k0 := cK b k0 kl
  replace k1 := cK b k1 kl
  replace k2 := cK b k2 kl
  replace kl := lK b kl
  replace g0 := cK b g0 gl
  replace g1 := cK b g1 gl
  replace gl := lK b gl
  replace cc := bK cc b
  clear b
  go_wp2_with fail
  refine (CU p0).mono ?_
  rintro e w3 ⟨Av, nv, cv, rfl, v, b⟩
  replace f0 := fK b f0 gl
  replace f1 := fK b f1 gl
  replace p0 := p0.on b
  replace q0 := q0.on b
  replace r0 := cK b r0 rl
  replace r1 := cK b r1 rl
  replace r2 := cK b r2 rl
  replace rl := lK b rl
  replace k0 := cK b k0 kl
  replace k1 := cK b k1 kl
  replace k2 := cK b k2 kl
  replace kl := lK b kl
  replace g0 := cK b g0 gl
  replace g1 := cK b g1 gl
  replace gl := lK b gl
  replace cc := bK cc b
  clear b
  go_wp2_with fail
  refine (CD v q0).mono ?_
  rintro e w4 ⟨Aq, nq, cq, Ar, nr_, cr, rfl, dq, dr, b⟩
  replace f0 := fK b f0 gl
  replace f1 := fK b f1 gl
  replace p0 := p0.on b
  replace q0 := q0.on b
  replace v := v.on b
  replace r0 := cK b r0 rl
  replace r1 := cK b r1 rl
  replace r2 := cK b r2 rl
  replace rl := lK b rl
  replace k0 := cK b k0 kl
  replace k1 := cK b k1 kl
  replace k2 := cK b k2 kl
  replace kl := lK b kl
  replace g0 := cK b g0 gl
  replace g1 := cK b g1 gl
  replace gl := lK b gl
  replace cc := bK cc b
  clear b
  go_wp2_with fail
  refine (CK r0 r1 r2 dq dr q0).mono ?_
  rintro e w5 ⟨rfl, b⟩
  replace f0 := fK b f0 gl
  replace f1 := fK b f1 gl
  replace p0 := p0.on b
  replace q0 := q0.on b
  replace v := v.on b
  replace dq := dq.on b
  replace dr := dr.on b
  replace r0 := cK b r0 rl
  replace r1 := cK b r1 rl
  replace r2 := cK b r2 rl
  replace rl := lK b rl
  replace k0 := cK b k0 kl
  replace k1 := cK b k1 kl
  replace k2 := cK b k2 kl
  replace kl := lK b kl
  replace g0 := cK b g0 gl
  replace g1 := cK b g1 gl
  replace gl := lK b gl
  replace cc := bK cc b
  clear b
  have hn0 := num_void dq rfl
  subst hn0
  have hn : Zn w5 false Aq 0 cq (flo x0 k) := by rw [HV.out]; exact zn_nat dq
  have eb : Box w5 (w.heap.size + 1) false none 0 0 := ⟨g0, g1⟩
  have HZ : Hid (Zn ((w5.setCell ⟨w.heap.size + 1, 0, none⟩ (.bool false)).setCell ⟨w.heap.size + 1, 1, none⟩ (.slice Aq 0 cq)) false Aq 0 cq (flo x0 k)) := Lib.hid (hn.put eb _ _)
  clear hn
  go_wp2_with fail
  refine bodyPost_ret (v := .tuple #[.agg #[.bool false, .slice Aq 0 cq], .int .i64 0]) (by simp [results, Try.results35, go_sem, g0, g1]) rfl ⟨_, _, _, _, rfl, HZ.out, below_put cc (by omega) _ _⟩

set_option maxRecDepth 100000 in
set_option maxHeartbeats 8000000 in
theorem rdflo_tf1 {w : World} {b0 : Bool} {A0 B0 : Option Addr} {n0 c0 m0 d0 : Nat} {g : Nat} {x0 : Rat} (hx : Rt w b0 A0 n0 c0 B0 m0 d0 x0) (s0 : Sz x0 20) {j : Int} (h0 : 0 ≤ j) (h1 : j ≤ 500) (hg : BoxR w g b0 A0 n0 c0 B0 m0 d0) (hs : x0.num < 0) (ht : x0.num.natAbs * 2 ^ j.toNat % x0.den = 0) (hz : x0.num.natAbs * 2 ^ j.toNat / x0.den ≠ 0) :
    Calls Try.prog 35 #[.agg #[.bool b0, .slice A0 n0 c0, .slice B0 m0 d0], .int .i64 j, .func (.func 36) #[] #[.pointer (some ⟨g, 0, none⟩)]] w (GotZp w (flo x0 j.toNat) 0) := by
  have je := to_nat h0
  have jl : j.toNat ≤ 500 := by omega
  have hj2 : j ≤ 2000 := by omega
  obtain ⟨k, hk⟩ : ∃ k, j.toNat = k := ⟨_, rfl⟩
  rw [hk] at je jl ht hz ⊢
  have lk := len_pow2 jl
  have p0 := hx.1.1
  have q0 := hx.2
  have hb0 : b0 = true := by rw [hx.1.2]; exact decide_eq_true hs
  subst hb0
  have lp := s0.1
  have lq := s0.2
  have hq0 := x0.den_nz
  have lu : (limbs (x0.num.natAbs * 2 ^ k)).length ≤ 28 := limbs_length_mul lp lk
  have ld : (limbs (x0.num.natAbs * 2 ^ k / x0.den)).length ≤ 28 := Nat.le_trans (limbs_length_mono (Nat.div_le_self _ _)) lu
  have hlt := Nat.mod_lt (x0.num.natAbs * 2 ^ k) (Nat.pos_of_ne_zero hq0)
  have lr : (limbs (x0.num.natAbs * 2 ^ k % x0.den)).length ≤ 20 := Nat.le_trans (limbs_length_mono (Nat.le_of_lt hlt)) lq
  clear hlt
  have HF : flo x0 k = -(((x0.num.natAbs * 2 ^ k / x0.den : Nat) : Nat) : Int) := by rw [flo_neg x0 k hs, if_pos ht, Nat.add_zero]
  have CK : ∀ {W : World} {A B : Option Addr} {n c m d : Nat}, W.cell? ⟨g, 0, none⟩ = some (.bool true) → W.cell? ⟨g, 1, none⟩ = some (.slice A0 n0 c0) → W.cell? ⟨g, 2, none⟩ = some (.slice B0 m0 d0) → Num W A n c (x0.num.natAbs * 2 ^ k / x0.den) → Num W B m d (x0.num.natAbs * 2 ^ k % x0.den) → Num W B0 m0 d0 x0.den → Calls Try.prog 36 #[.slice A n c, .slice B m d, .pointer (some ⟨g, 0, none⟩)] W (GotV W (.bool false)) := fun r0 r1 r2 ha hb hq => kfloor_1f r0 hb ht
  obtain ⟨u, hU⟩ : ∃ u, x0.num.natAbs * 2 ^ k = u := ⟨_, rfl⟩
  obtain ⟨t, hT⟩ : ∃ t, x0.num.natAbs * 2 ^ k / x0.den = t := ⟨_, rfl⟩
  obtain ⟨l, hL⟩ : ∃ l, x0.num.natAbs * 2 ^ k % x0.den = l := ⟨_, rfl⟩
  rw [hT, hL] at CK
  rw [hT] at HF ld hz
  rw [hL] at lr
  rw [hU] at lu hT hL
  have CU : ∀ {W : World} {A : Option Addr} {m c : Nat}, Num W A m c x0.num.natAbs → Calls Try.prog 48 #[.slice A m c, .int .i64 j] W (GotP W u 0) := fun ha => by rw [← je, ← hU]; exact dshl_N ha (by omega) (by omega)
  have CD : ∀ {W : World} {A B : Option Addr} {n c m d : Nat}, Num W A n c u → Num W B m d x0.den → Calls Try.prog 61 #[.slice A n c, .slice B m d] W (GotD W t l) := fun ha hb => by rw [← hT, ← hL]; exact ddiv_N ha hb (by omega) (by omega) hq0
  have HV := Lib.hid HF
  clear HF hU hT hL hs ht lu
  have HT0 := Lib.hid hz
  clear hz
  obtain ⟨r0, r1, r2⟩ := hg
  have rl := cell_lt r0
  simp only at rl
  have cc := Below.refl w.heap.size w
  go_enter Try.func35, Try.ntmps35
  go_wp2_with fail
  have f0 : ((w.alloc (.cells #[.bool true, .slice A0 n0 c0, .slice B0 m0 d0] 27)).alloc (.cells #[.bool false, .slice none 0 0] 25)).frozen? ⟨w.heap.size + 1, 0, none⟩ = false := by simp [go_sem]
  have f1 : ((w.alloc (.cells #[.bool true, .slice A0 n0 c0, .slice B0 m0 d0] 27)).alloc (.cells #[.bool false, .slice none 0 0] 25)).frozen? ⟨w.heap.size + 1, 1, none⟩ = false := by simp [go_sem]
  have bA : Below w.heap.size w ((w.alloc (.cells #[.bool true, .slice A0 n0 c0, .slice B0 m0 d0] 27)).alloc (.cells #[.bool false, .slice none 0 0] 25)) := (((Below.refl _ w).alloc (by simp) _).alloc (by simp) _)
  replace p0 := p0.on bA
  replace q0 := q0.on bA
  replace r0 := cK bA r0 rl
  replace r1 := cK bA r1 rl
  replace r2 := cK bA r2 rl
  replace rl := lK bA rl
  replace cc := bK cc bA
  clear bA
  have k0 : ((w.alloc (.cells #[.bool true, .slice A0 n0 c0, .slice B0 m0 d0] 27)).alloc (.cells #[.bool false, .slice none 0 0] 25)).cell? ⟨w.heap.size, 0, none⟩ = some (.bool true) := by simp [go_sem]
  have k1 : ((w.alloc (.cells #[.bool true, .slice A0 n0 c0, .slice B0 m0 d0] 27)).alloc (.cells #[.bool false, .slice none 0 0] 25)).cell? ⟨w.heap.size, 1, none⟩ = some (.slice A0 n0 c0) := by simp [go_sem]
  have k2 : ((w.alloc (.cells #[.bool true, .slice A0 n0 c0, .slice B0 m0 d0] 27)).alloc (.cells #[.bool false, .slice none 0 0] 25)).cell? ⟨w.heap.size, 2, none⟩ = some (.slice B0 m0 d0) := by simp [go_sem]
  have kl : w.heap.size < ((w.alloc (.cells #[.bool true, .slice A0 n0 c0, .slice B0 m0 d0] 27)).alloc (.cells #[.bool false, .slice none 0 0] 25)).heap.size := by simp <;> omega
  have g0 : ((w.alloc (.cells #[.bool true, .slice A0 n0 c0, .slice B0 m0 d0] 27)).alloc (.cells #[.bool false, .slice none 0 0] 25)).cell? ⟨w.heap.size + 1, 0, none⟩ = some (.bool false) := by simp [go_sem]
  have g1 : ((w.alloc (.cells #[.bool true, .slice A0 n0 c0, .slice B0 m0 d0] 27)).alloc (.cells #[.bool false, .slice none 0 0] 25)).cell? ⟨w.heap.size + 1, 1, none⟩ = some (.slice none 0 0) := by simp [go_sem]
  have gl : w.heap.size + 1 < ((w.alloc (.cells #[.bool true, .slice A0 n0 c0, .slice B0 m0 d0] 27)).alloc (.cells #[.bool false, .slice none 0 0] 25)).heap.size := by simp <;> omega
  generalize (w.alloc (.cells #[.bool true, .slice A0 n0 c0, .slice B0 m0 d0] 27)).alloc (.cells #[.bool false, .slice none 0 0] 25) = v1 at *
  refine (isgrid_2 _ h0 hj2).mono ?_
  rintro e w2 ⟨rfl, b⟩
  replace f0 := fK b f0 gl
  replace f1 := fK b f1 gl
  replace p0 := p0.on b
  replace q0 := q0.on b
  replace r0 := cK b r0 rl
  replace r1 := cK b r1 rl
  replace r2 := cK b r2 rl
  replace rl := lK b rl
  replace k0 := cK b k0 kl
  replace k1 := cK b k1 kl
  replace k2 := cK b k2 kl
  replace kl := lK b kl
  replace g0 := cK b g0 gl
  replace g1 := cK b g1 gl
  replace gl := lK b gl
  replace cc := bK cc b
  clear b
  go_wp2_with fail
  refine (CU p0).mono ?_
  rintro e w3 ⟨Av, nv, cv, rfl, v, b⟩
  replace f0 := fK b f0 gl
  replace f1 := fK b f1 gl
  replace p0 := p0.on b
  replace q0 := q0.on b
  replace r0 := cK b r0 rl
  replace r1 := cK b r1 rl
  replace r2 := cK b r2 rl
  replace rl := lK b rl
  replace k0 := cK b k0 kl
  replace k1 := cK b k1 kl
  replace k2 := cK b k2 kl
  replace kl := lK b kl
  replace g0 := cK b g0 gl
  replace g1 := cK b g1 gl
  replace gl := lK b gl
  replace cc := bK cc b
  clear b
  go_wp2_with fail
  refine (CD v q0).mono ?_
  rintro e w4 ⟨Aq, nq, cq, Ar, nr_, cr, rfl, dq, dr, b⟩
  replace f0 := fK b f0 gl
  replace f1 := fK b f1 gl
  replace p0 := p0.on b
  replace q0 := q0.on b
  replace v := v.on b
  replace r0 := cK b r0 rl
  replace r1 := cK b r1 rl
  replace r2 := cK b r2 rl
  replace rl := lK b rl
  replace k0 := cK b k0 kl
  replace k1 := cK b k1 kl
  replace k2 := cK b k2 kl
  replace kl := lK b kl
  replace g0 := cK b g0 gl
  replace g1 := cK b g1 gl
  replace gl := lK b gl
  replace cc := bK cc b
  clear b
  go_wp2_with fail
  refine (CK r0 r1 r2 dq dr q0).mono ?_
  rintro e w5 ⟨rfl, b⟩
  replace f0 := fK b f0 gl
  replace f1 := fK b f1 gl
  replace p0 := p0.on b
  replace q0 := q0.on b
  replace v := v.on b
  replace dq := dq.on b
  replace dr := dr.on b
  replace r0 := cK b r0 rl
  replace r1 := cK b r1 rl
  replace r2 := cK b r2 rl
  replace rl := lK b rl
  replace k0 := cK b k0 kl
  replace k1 := cK b k1 kl
  replace k2 := cK b k2 kl
  replace kl := lK b kl
  replace g0 := cK b g0 gl
  replace g1 := cK b g1 gl
  replace gl := lK b gl
  replace cc := bK cc b
  clear b
  have hn0 : 0 < nq := dq.some_len HT0.out
  have hn1 : decide ((0 : Int) < (nq : Int)) = true := decide_eq_true (by omega)
  have hn2 : decide (0 < nq) = true := decide_eq_true hn0
  have hn : Zn w5 true Aq nq cq (flo x0 k) := by rw [HV.out]; exact zn_minus dq (HT0.out)
  have eb : Box w5 (w.heap.size + 1) false none 0 0 := ⟨g0, g1⟩
  have HZ : Hid (Zn ((w5.setCell ⟨w.heap.size + 1, 0, none⟩ (.bool true)).setCell ⟨w.heap.size + 1, 1, none⟩ (.slice Aq nq cq)) true Aq nq cq (flo x0 k)) := Lib.hid (hn.put eb _ _)
  clear hn
  go_wp2_with fail
  refine bodyPost_ret (v := .tuple #[.agg #[.bool true, .slice Aq nq cq], .int .i64 0]) (by simp [results, Try.results35, go_sem, g0, g1]) rfl ⟨_, _, _, _, rfl, HZ.out, below_put cc (by omega) _ _⟩

set_option maxRecDepth 100000 in
set_option maxHeartbeats 8000000 in
theorem rdflo_tt {w : World} {b0 : Bool} {A0 B0 : Option Addr} {n0 c0 m0 d0 : Nat} {g : Nat} {x0 : Rat} (hx : Rt w b0 A0 n0 c0 B0 m0 d0 x0) (s0 : Sz x0 20) {j : Int} (h0 : 0 ≤ j) (h1 : j ≤ 500) (hg : BoxR w g b0 A0 n0 c0 B0 m0 d0) (hs : x0.num < 0) (ht : x0.num.natAbs * 2 ^ j.toNat % x0.den ≠ 0) :
    Calls Try.prog 35 #[.agg #[.bool b0, .slice A0 n0 c0, .slice B0 m0 d0], .int .i64 j, .func (.func 36) #[] #[.pointer (some ⟨g, 0, none⟩)]] w (GotZp w (flo x0 j.toNat) 0) := by
  have je := to_nat h0
  have jl : j.toNat ≤ 500 := by omega
  have hj2 : j ≤ 2000 := by omega
  obtain ⟨k, hk⟩ : ∃ k, j.toNat = k := ⟨_, rfl⟩
  rw [hk] at je jl ht ⊢
  have lk := len_pow2 jl
  have p0 := hx.1.1
  have q0 := hx.2
  have hb0 : b0 = true := by rw [hx.1.2]; exact decide_eq_true hs
  subst hb0
  have lp := s0.1
  have lq := s0.2
  have hq0 := x0.den_nz
  have lu : (limbs (x0.num.natAbs * 2 ^ k)).length ≤ 28 := limbs_length_mul lp lk
  have ld : (limbs (x0.num.natAbs * 2 ^ k / x0.den)).length ≤ 28 := Nat.le_trans (limbs_length_mono (Nat.div_le_self _ _)) lu
  have hlt := Nat.mod_lt (x0.num.natAbs * 2 ^ k) (Nat.pos_of_ne_zero hq0)
  have lr : (limbs (x0.num.natAbs * 2 ^ k % x0.den)).length ≤ 20 := Nat.le_trans (limbs_length_mono (Nat.le_of_lt hlt)) lq
  clear hlt
  have HF : flo x0 k = -(((x0.num.natAbs * 2 ^ k / x0.den + 1 : Nat) : Nat) : Int) := by rw [flo_neg x0 k hs, if_neg ht]
  have CK : ∀ {W : World} {A B : Option Addr} {n c m d : Nat}, W.cell? ⟨g, 0, none⟩ = some (.bool true) → W.cell? ⟨g, 1, none⟩ = some (.slice A0 n0 c0) → W.cell? ⟨g, 2, none⟩ = some (.slice B0 m0 d0) → Num W A n c (x0.num.natAbs * 2 ^ k / x0.den) → Num W B m d (x0.num.natAbs * 2 ^ k % x0.den) → Num W B0 m0 d0 x0.den → Calls Try.prog 36 #[.slice A n c, .slice B m d, .pointer (some ⟨g, 0, none⟩)] W (GotV W (.bool true)) := fun r0 r1 r2 ha hb hq => kfloor_1t r0 hb ht
  obtain ⟨u, hU⟩ : ∃ u, x0.num.natAbs * 2 ^ k = u := ⟨_, rfl⟩
  obtain ⟨t, hT⟩ : ∃ t, x0.num.natAbs * 2 ^ k / x0.den = t := ⟨_, rfl⟩
  obtain ⟨l, hL⟩ : ∃ l, x0.num.natAbs * 2 ^ k % x0.den = l := ⟨_, rfl⟩
  rw [hT, hL] at CK
  rw [hT] at HF ld
  rw [hL] at lr
  rw [hU] at lu hT hL
  have CU : ∀ {W : World} {A : Option Addr} {m c : Nat}, Num W A m c x0.num.natAbs → Calls Try.prog 48 #[.slice A m c, .int .i64 j] W (GotP W u 0) := fun ha => by rw [← je, ← hU]; exact dshl_N ha (by omega) (by omega)
  have CD : ∀ {W : World} {A B : Option Addr} {n c m d : Nat}, Num W A n c u → Num W B m d x0.den → Calls Try.prog 61 #[.slice A n c, .slice B m d] W (GotD W t l) := fun ha hb => by rw [← hT, ← hL]; exact ddiv_N ha hb (by omega) (by omega) hq0
  have HV := Lib.hid HF
  clear HF hU hT hL hs ht lu
  have la : (limbs (t + 1)).length ≤ 29 := limbs_length_add ld (Nat.le_trans (len_one (by decide)) (by omega))
  have l1 : (limbs 1).length ≤ 1000 := Nat.le_trans (len_one (by decide)) (by omega)
  obtain ⟨r0, r1, r2⟩ := hg
  have rl := cell_lt r0
  simp only at rl
  have cc := Below.refl w.heap.size w
  go_enter Try.func35, Try.ntmps35
  go_wp2_with fail
  have f0 : ((w.alloc (.cells #[.bool true, .slice A0 n0 c0, .slice B0 m0 d0] 27)).alloc (.cells #[.bool false, .slice none 0 0] 25)).frozen? ⟨w.heap.size + 1, 0, none⟩ = false := by simp [go_sem]
  have f1 : ((w.alloc (.cells #[.bool true, .slice A0 n0 c0, .slice B0 m0 d0] 27)).alloc (.cells #[.bool false, .slice none 0 0] 25)).frozen? ⟨w.heap.size + 1, 1, none⟩ = false := by simp [go_sem]
  have bA : Below w.heap.size w ((w.alloc (.cells #[.bool true, .slice A0 n0 c0, .slice B0 m0 d0] 27)).alloc (.cells #[.bool false, .slice none 0 0] 25)) := (((Below.refl _ w).alloc (by simp) _).alloc (by simp) _)
  replace p0 := p0.on bA
  replace q0 := q0.on bA
  replace r0 := cK bA r0 rl
  replace r1 := cK bA r1 rl
  replace r2 := cK bA r2 rl
  replace rl := lK bA rl
  replace cc := bK cc bA
  clear bA
  have k0 : ((w.alloc (.cells #[.bool true, .slice A0 n0 c0, .slice B0 m0 d0] 27)).alloc (.cells #[.bool false, .slice none 0 0] 25)).cell? ⟨w.heap.size, 0, none⟩ = some (.bool true) := by simp [go_sem]
  have k1 : ((w.alloc (.cells #[.bool true, .slice A0 n0 c0, .slice B0 m0 d0] 27)).alloc (.cells #[.bool false, .slice none 0 0] 25)).cell? ⟨w.heap.size, 1, none⟩ = some (.slice A0 n0 c0) := by simp [go_sem]
  have k2 : ((w.alloc (.cells #[.bool true, .slice A0 n0 c0, .slice B0 m0 d0] 27)).alloc (.cells #[.bool false, .slice none 0 0] 25)).cell? ⟨w.heap.size, 2, none⟩ = some (.slice B0 m0 d0) := by simp [go_sem]
  have kl : w.heap.size < ((w.alloc (.cells #[.bool true, .slice A0 n0 c0, .slice B0 m0 d0] 27)).alloc (.cells #[.bool false, .slice none 0 0] 25)).heap.size := by simp <;> omega
  have g0 : ((w.alloc (.cells #[.bool true, .slice A0 n0 c0, .slice B0 m0 d0] 27)).alloc (.cells #[.bool false, .slice none 0 0] 25)).cell? ⟨w.heap.size + 1, 0, none⟩ = some (.bool false) := by simp [go_sem]
  have g1 : ((w.alloc (.cells #[.bool true, .slice A0 n0 c0, .slice B0 m0 d0] 27)).alloc (.cells #[.bool false, .slice none 0 0] 25)).cell? ⟨w.heap.size + 1, 1, none⟩ = some (.slice none 0 0) := by simp [go_sem]
  have gl : w.heap.size + 1 < ((w.alloc (.cells #[.bool true, .slice A0 n0 c0, .slice B0 m0 d0] 27)).alloc (.cells #[.bool false, .slice none 0 0] 25)).heap.size := by simp <;> omega
  generalize (w.alloc (.cells #[.bool true, .slice A0 n0 c0, .slice B0 m0 d0] 27)).alloc (.cells #[.bool false, .slice none 0 0] 25) = v1 at *
  refine (isgrid_2 _ h0 hj2).mono ?_
  rintro e w2 ⟨rfl, b⟩
  replace f0 := fK b f0 gl
  replace f1 := fK b f1 gl
  replace p0 := p0.on b
  replace q0 := q0.on b
  replace r0 := cK b r0 rl
  replace r1 := cK b r1 rl
  replace r2 := cK b r2 rl
  replace rl := lK b rl
  replace k0 := cK b k0 kl
  replace k1 := cK b k1 kl
  replace k2 := cK b k2 kl
  replace kl := lK b kl
  replace g0 := cK b g0 gl
  replace g1 := cK b g1 gl
  replace gl := lK b gl
  replace cc := bK cc b
  clear b
  go_wp2_with fail
  refine (CU p0).mono ?_
  rintro e w3 ⟨Av, nv, cv, rfl, v, b⟩
  replace f0 := fK b f0 gl
  replace f1 := fK b f1 gl
  replace p0 := p0.on b
  replace q0 := q0.on b
  replace r0 := cK b r0 rl
  replace r1 := cK b r1 rl
  replace r2 := cK b r2 rl
  replace rl := lK b rl
  replace k0 := cK b k0 kl
  replace k1 := cK b k1 kl
  replace k2 := cK b k2 kl
  replace kl := lK b kl
  replace g0 := cK b g0 gl
  replace g1 := cK b g1 gl
  replace gl := lK b gl
  replace cc := bK cc b
  clear b
  go_wp2_with fail
  refine (CD v q0).mono ?_
  rintro e w4 ⟨Aq, nq, cq, Ar, nr_, cr, rfl, dq, dr, b⟩
  replace f0 := fK b f0 gl
  replace f1 := fK b f1 gl
  replace p0 := p0.on b
  replace q0 := q0.on b
  replace v := v.on b
  replace r0 := cK b r0 rl
  replace r1 := cK b r1 rl
  replace r2 := cK b r2 rl
  replace rl := lK b rl
  replace k0 := cK b k0 kl
  replace k1 := cK b k1 kl
  replace k2 := cK b k2 kl
  replace kl := lK b kl
  replace g0 := cK b g0 gl
  replace g1 := cK b g1 gl
  replace gl := lK b gl
  replace cc := bK cc b
  clear b
  go_wp2_with fail
  refine (CK r0 r1 r2 dq dr q0).mono ?_
  rintro e w5 ⟨rfl, b⟩
  replace f0 := fK b f0 gl
  replace f1 := fK b f1 gl
  replace p0 := p0.on b
  replace q0 := q0.on b
  replace v := v.on b
  replace dq := dq.on b
  replace dr := dr.on b
  replace r0 := cK b r0 rl
  replace r1 := cK b r1 rl
  replace r2 := cK b r2 rl
  replace rl := lK b rl
  replace k0 := cK b k0 kl
  replace k1 := cK b k1 kl
  replace k2 := cK b k2 kl
  replace kl := lK b kl
  replace g0 := cK b g0 gl
  replace g1 := cK b g1 gl
  replace gl := lK b gl
  replace cc := bK cc b
  clear b
  go_wp2_with fail
  refine (of_N _ 1 (by decide)).mono ?_
  rintro e w6 ⟨Ao, no, co, rfl, o, b⟩
  replace f0 := fK b f0 gl
  replace f1 := fK b f1 gl
  replace p0 := p0.on b
  replace q0 := q0.on b
  replace v := v.on b
  replace dq := dq.on b
  replace dr := dr.on b
  replace r0 := cK b r0 rl
  replace r1 := cK b r1 rl
  replace r2 := cK b r2 rl
  replace rl := lK b rl
  replace k0 := cK b k0 kl
  replace k1 := cK b k1 kl
  replace k2 := cK b k2 kl
  replace kl := lK b kl
  replace g0 := cK b g0 gl
  replace g1 := cK b g1 gl
  replace gl := lK b gl
  replace cc := bK cc b
  clear b
  go_wp2_with fail
  refine (add_N dq o (by omega) (by omega)).mono ?_
  rintro e w7 ⟨Aa, na, ca, rfl, a, b⟩
  replace f0 := fK b f0 gl
  replace f1 := fK b f1 gl
  replace p0 := p0.on b
  replace q0 := q0.on b
  replace v := v.on b
  replace dq := dq.on b
  replace dr := dr.on b
  replace o := o.on b
  replace r0 := cK b r0 rl
  replace r1 := cK b r1 rl
  replace r2 := cK b r2 rl
  replace rl := lK b rl
  replace k0 := cK b k0 kl
  replace k1 := cK b k1 kl
  replace k2 := cK b k2 kl
  replace kl := lK b kl
  replace g0 := cK b g0 gl
  replace g1 := cK b g1 gl
  replace gl := lK b gl
  replace cc := bK cc b
  clear b
  have hn0 : 0 < na := a.some_len (by omega)
  have hn1 : decide ((0 : Int) < (na : Int)) = true := decide_eq_true (by omega)
  have hn2 : decide (0 < na) = true := decide_eq_true hn0
  have hn : Zn w7 true Aa na ca (flo x0 k) := by rw [HV.out]; exact zn_minus a (by omega)
  have eb : Box w7 (w.heap.size + 1) false none 0 0 := ⟨g0, g1⟩
  have HZ : Hid (Zn ((w7.setCell ⟨w.heap.size + 1, 0, none⟩ (.bool true)).setCell ⟨w.heap.size + 1, 1, none⟩ (.slice Aa na ca)) true Aa na ca (flo x0 k)) := Lib.hid (hn.put eb _ _)
  clear hn
  go_wp2_with fail
  refine bodyPost_ret (v := .tuple #[.agg #[.bool true, .slice Aa na ca], .int .i64 0]) (by simp [results, Try.results35, go_sem, g0, g1]) rfl ⟨_, _, _, _, rfl, HZ.out, below_put cc (by omega) _ _⟩

set_option maxRecDepth 100000 in
set_option maxHeartbeats 8000000 in
theorem rdflo_N {w : World} {b0 : Bool} {A0 B0 : Option Addr} {n0 c0 m0 d0 : Nat} {g : Nat} {x0 : Rat} (hx : Rt w b0 A0 n0 c0 B0 m0 d0 x0) (s0 : Sz x0 20) {j : Int} (h0 : 0 ≤ j) (h1 : j ≤ 500) (hg : BoxR w g b0 A0 n0 c0 B0 m0 d0) :
    Calls Try.prog 35 #[.agg #[.bool b0, .slice A0 n0 c0, .slice B0 m0 d0], .int .i64 j, .func (.func 36) #[] #[.pointer (some ⟨g, 0, none⟩)]] w (GotZp w (flo x0 j.toNat) 0) := by
  by_cases hs : x0.num < 0
  · by_cases ht : x0.num.natAbs * 2 ^ j.toNat % x0.den = 0
    · by_cases hz : x0.num.natAbs * 2 ^ j.toNat / x0.den = 0
      · exact rdflo_tf0 hx s0 h0 h1 hg hs ht hz
      · exact rdflo_tf1 hx s0 h0 h1 hg hs ht hz
    · exact rdflo_tt hx s0 h0 h1 hg hs ht
  · exact rdflo_ff hx s0 h0 h1 hg hs trivial

set_option maxRecDepth 100000 in
set_option maxHeartbeats 8000000 in
theorem rdcei_ff {w : World} {b0 : Bool} {A0 B0 : Option Addr} {n0 c0 m0 d0 : Nat} {g : Nat} {x0 : Rat} (hx : Rt w b0 A0 n0 c0 B0 m0 d0 x0) (s0 : Sz x0 20) {j : Int} (h0 : 0 ≤ j) (h1 : j ≤ 500) (hg : BoxR w g b0 A0 n0 c0 B0 m0 d0) (hs : ¬ x0.num < 0) (ht : x0.num.natAbs * 2 ^ j.toNat % x0.den = 0) :
    Calls Try.prog 35 #[.agg #[.bool b0, .slice A0 n0 c0, .slice B0 m0 d0], .int .i64 j, .func (.func 41) #[] #[.pointer (some ⟨g, 0, none⟩)]] w (GotZp w (cei x0 j.toNat) 0) := by
  have je := to_nat h0
  have jl : j.toNat ≤ 500 := by omega
  have hj2 : j ≤ 2000 := by omega
  obtain ⟨k, hk⟩ : ∃ k, j.toNat = k := ⟨_, rfl⟩
  rw [hk] at je jl ht ⊢
  have lk := len_pow2 jl
  have p0 := hx.1.1
  have q0 := hx.2
  have hb0 : b0 = false := by rw [hx.1.2]; exact decide_eq_false hs
  subst hb0
  have lp := s0.1
  have lq := s0.2
  have hq0 := x0.den_nz
  have lu : (limbs (x0.num.natAbs * 2 ^ k)).length ≤ 28 := limbs_length_mul lp lk
  have ld : (limbs (x0.num.natAbs * 2 ^ k / x0.den)).length ≤ 28 := Nat.le_trans (limbs_length_mono (Nat.div_le_self _ _)) lu
  have hlt := Nat.mod_lt (x0.num.natAbs * 2 ^ k) (Nat.pos_of_ne_zero hq0)
  have lr : (limbs (x0.num.natAbs * 2 ^ k % x0.den)).length ≤ 20 := Nat.le_trans (limbs_length_mono (Nat.le_of_lt hlt)) lq
  clear hlt
  have HF : cei x0 k = (((x0.num.natAbs * 2 ^ k / x0.den : Nat) : Nat) : Int) := by rw [cei_pos x0 k hs, if_pos ht, Nat.add_zero]
  have CK : ∀ {W : World} {A B : Option Addr} {n c m d : Nat}, W.cell? ⟨g, 0, none⟩ = some (.bool false) → W.cell? ⟨g, 1, none⟩ = some (.slice A0 n0 c0) → W.cell? ⟨g, 2, none⟩ = some (.slice B0 m0 d0) → Num W A n c (x0.num.natAbs * 2 ^ k / x0.den) → Num W B m d (x0.num.natAbs * 2 ^ k % x0.den) → Num W B0 m0 d0 x0.den → Calls Try.prog 41 #[.slice A n c, .slice B m d, .pointer (some ⟨g, 0, none⟩)] W (GotV W (.bool false)) := fun r0 r1 r2 ha hb hq => kceil_1f r0 hb ht
  obtain ⟨u, hU⟩ : ∃ u, x0.num.natAbs * 2 ^ k = u := ⟨_, rfl⟩
  obtain ⟨t, hT⟩ : ∃ t, x0.num.natAbs * 2 ^ k / x0.den = t := ⟨_, rfl⟩
  obtain ⟨l, hL⟩ : ∃ l, x0.num.natAbs * 2 ^ k % x0.den = l := ⟨_, rfl⟩
  rw [hT, hL] at CK
  rw [hT] at HF ld
  rw [hL] at lr
  rw [hU] at lu hT hL
  have CU : ∀ {W : World} {A : Option Addr} {m c : Nat}, Num W A m c x0.num.natAbs → Calls Try.prog 48 #[.slice A m c, .int .i64 j] W (GotP W u 0) := fun ha => by rw [← je, ← hU]; exact dshl_N ha (by omega) (by omega)
  have CD : ∀ {W : World} {A B : Option Addr} {n c m d : Nat}, Num W A n c u → Num W B m d x0.den → Calls Try.prog 61 #[.slice A n c, .slice B m d] W (GotD W t l) := fun ha hb => by rw [← hT, ← hL]; exact ddiv_N ha hb (by omega) (by omega) hq0
  have HV := Lib.hid HF
  clear HF hU hT hL hs ht lu
  obtain ⟨r0, r1, r2⟩ := hg
  have rl := cell_lt r0
  simp only at rl
  have cc := Below.refl w.heap.size w
  go_enter Try.func35, Try.ntmps35
  go_wp2_with fail
  have f0 : ((w.alloc (.cells #[.bool false, .slice A0 n0 c0, .slice B0 m0 d0] 27)).alloc (.cells #[.bool false, .slice none 0 0] 25)).frozen? ⟨w.heap.size + 1, 0, none⟩ = false := by simp [go_sem]
  have f1 : ((w.alloc (.cells #[.bool false, .slice A0 n0 c0, .slice B0 m0 d0] 27)).alloc (.cells #[.bool false, .slice none 0 0] 25)).frozen? ⟨w.heap.size + 1, 1, none⟩ = false := by simp [go_sem]
  have bA : Below w.heap.size w ((w.alloc (.cells #[.bool false, .slice A0 n0 c0, .slice B0 m0 d0] 27)).alloc (.cells #[.bool false, .slice none 0 0] 25)) := (((Below.refl _ w).alloc (by simp) _).alloc (by simp) _)
  replace p0 := p0.on bA
  replace q0 := q0.on bA
  replace r0 := cK bA r0 rl
  replace r1 := cK bA r1 rl
  replace r2 := cK bA r2 rl
  replace rl := lK bA rl
  replace cc := bK cc bA
  clear bA
  have k0 : ((w.alloc (.cells #[.bool false, .slice A0 n0 c0, .slice B0 m0 d0] 27)).alloc (.cells #[.bool false, .slice none 0 0] 25)).cell? ⟨w.heap.size, 0, none⟩ = some (.bool false) := by simp [go_sem]
  have k1 : ((w.alloc (.cells #[.bool false, .slice A0 n0 c0, .slice B0 m0 d0] 27)).alloc (.cells #[.bool false, .slice none 0 0] 25)).cell? ⟨w.heap.size, 1, none⟩ = some (.slice A0 n0 c0) := by simp [go_sem]
  have k2 : ((w.alloc (.cells #[.bool false, .slice A0 n0 c0, .slice B0 m0 d0] 27)).alloc (.cells #[.bool false, .slice none 0 0] 25)).cell? ⟨w.heap.size, 2, none⟩ = some (.slice B0 m0 d0) := by simp [go_sem]
  have kl : w.heap.size < ((w.alloc (.cells #[.bool false, .slice A0 n0 c0, .slice B0 m0 d0] 27)).alloc (.cells #[.bool false, .slice none 0 0] 25)).heap.size := by simp <;> omega
  have g0 : ((w.alloc (.cells #[.bool false, .slice A0 n0 c0, .slice B0 m0 d0] 27)).alloc (.cells #[.bool false, .slice none 0 0] 25)).cell? ⟨w.heap.size + 1, 0, none⟩ = some (.bool false) := by simp [go_sem]
  have g1 : ((w.alloc (.cells #[.bool false, .slice A0 n0 c0, .slice B0 m0 d0] 27)).alloc (.cells #[.bool false, .slice none 0 0] 25)).cell? ⟨w.heap.size + 1, 1, none⟩ = some (.slice none 0 0) := by simp [go_sem]
  have gl : w.heap.size + 1 < ((w.alloc (.cells #[.bool false, .slice A0 n0 c0, .slice B0 m0 d0] 27)).alloc (.cells #[.bool false, .slice none 0 0] 25)).heap.size := by simp <;> omega
  generalize (w.alloc (.cells #[.bool false, .slice A0 n0 c0, .slice B0 m0 d0] 27)).alloc (.cells #[.bool false, .slice none 0 0] 25) = v1 at *
  refine (isgrid_2 _ h0 hj2).mono ?_
  rintro e w2 ⟨rfl, b⟩
  replace f0 := fK b f0 gl
  replace f1 := fK b f1 gl
  replace p0 := p0.on b
  replace q0 := q0.on b
  replace r0 := cK b r0 rl
  replace r1 := cK b r1 rl
  replace r2 := cK b r2 rl
  replace rl := lK b rl
  replace k0 := cK b k0 kl
  replace k1 := cK b k1 kl
  replace k2 := cK b k2 kl
  replace kl := lK b kl
  replace g0 := cK b g0 gl
  replace g1 := cK b g1 gl
  replace gl := lK b gl
  replace cc := bK cc b
  clear b
  go_wp2_with fail
  refine (CU p0).mono ?_
  rintro e w3 ⟨Av, nv, cv, rfl, v, b⟩
  replace f0 := fK b f0 gl
  replace f1 := fK b f1 gl
  replace p0 := p0.on b
  replace q0 := q0.on b
  replace r0 := cK b r0 rl
  replace r1 := cK b r1 rl
  replace r2 := cK b r2 rl
  replace rl := lK b rl
  replace k0 := cK b k0 kl
  replace k1 := cK b k1 kl
  replace k2 := cK b k2 kl
  replace kl := lK b kl
  replace g0 := cK b g0 gl
  replace g1 := cK b g1 gl
  replace gl := lK b gl
  replace cc := bK cc b
  clear b
  go_wp2_with fail
  refine (CD v q0).mono ?_
  rintro e w4 ⟨Aq, nq, cq, Ar, nr_, cr, rfl, dq, dr, b⟩
  replace f0 := fK b f0 gl
  replace f1 := fK b f1 gl
  replace p0 := p0.on b
  replace q0 := q0.on b
  replace v := v.on b
  replace r0 := cK b r0 rl
  replace r1 := cK b r1 rl
  replace r2 := cK b r2 rl
  replace rl := lK b rl
  replace k0 := cK b k0 kl
  replace k1 := cK b k1 kl
  replace k2 := cK b k2 kl
  replace kl := lK b kl
  replace g0 := cK b g0 gl
  replace g1 := cK b g1 gl
  replace gl := lK b gl
  replace cc := bK cc b
  clear b
  go_wp2_with fail
  refine (CK r0 r1 r2 dq dr q0).mono ?_
  rintro e w5 ⟨rfl, b⟩
  replace f0 := fK b f0 gl
  replace f1 := fK b f1 gl
  replace p0 := p0.on b
  replace q0 := q0.on b
  replace v := v.on b
  replace dq := dq.on b
  replace dr := dr.on b
  replace r0 := cK b r0 rl
  replace r1 := cK b r1 rl
  replace r2 := cK b r2 rl
  replace rl := lK b rl
  replace k0 := cK b k0 kl
  replace k1 := cK b k1 kl
  replace k2 := cK b k2 kl
  replace kl := lK b kl
  replace g0 := cK b g0 gl
  replace g1 := cK b g1 gl
  replace gl := lK b gl
  replace cc := bK cc b
  clear b
  have hn : Zn w5 false Aq nq cq (cei x0 k) := by rw [HV.out]; exact zn_nat dq
  have eb : Box w5 (w.heap.size + 1) false none 0 0 := ⟨g0, g1⟩
  have HZ : Hid (Zn ((w5.setCell ⟨w.heap.size + 1, 0, none⟩ (.bool false)).setCell ⟨w.heap.size + 1, 1, none⟩ (.slice Aq nq cq)) false Aq nq cq (cei x0 k)) := Lib.hid (hn.put eb _ _)
  clear hn
  go_wp2_with fail
  refine bodyPost_ret (v := .tuple #[.agg #[.bool false, .slice Aq nq cq], .int .i64 0]) (by simp [results, Try.results35, go_sem, g0, g1]) rfl ⟨_, _, _, _, rfl, HZ.out, below_put cc (by omega) _ _⟩

set_option maxRecDepth 100000 in
set_option maxHeartbeats 8000000 in
theorem rdcei_ft {w : World} {b0 : Bool} {A0 B0 : Option Addr} {n0 c0 m0 d0 : Nat} {g : Nat} {x0 : Rat} (hx : Rt w b0 A0 n0 c0 B0 m0 d0 x0) (s0 : Sz x0 20) {j : Int} (h0 : 0 ≤ j) (h1 : j ≤ 500) (hg : BoxR w g b0 A0 n0 c0 B0 m0 d0) (hs : ¬ x0.num < 0) (ht : x0.num.natAbs * 2 ^ j.toNat % x0.den ≠ 0) :
    Calls Try.prog 35 #[.agg #[.bool b0, .slice A0 n0 c0, .slice B0 m0 d0], .int .i64 j, .func (.func 41) #[] #[.pointer (some ⟨g, 0, none⟩)]] w (GotZp w (cei x0 j.toNat) 0) := by
  have je := to_nat h0
  have jl : j.toNat ≤ 500 := by omega
  have hj2 : j ≤ 2000 := by omega
  obtain ⟨k, hk⟩ : ∃ k, j.toNat = k := ⟨_, rfl⟩
  rw [hk] at je jl ht ⊢
  have lk := len_pow2 jl
  have p0 := hx.1.1
  have q0 := hx.2
  have hb0 : b0 = false := by rw [hx.1.2]; exact decide_eq_false hs
  subst hb0
  have lp := s0.1
  have lq := s0.2
  have hq0 := x0.den_nz
  have lu : (limbs (x0.num.natAbs * 2 ^ k)).length ≤ 28 := limbs_length_mul lp lk
  have ld : (limbs (x0.num.natAbs * 2 ^ k / x0.den)).length ≤ 28 := Nat.le_trans (limbs_length_mono (Nat.div_le_self _ _)) lu
  have hlt := Nat.mod_lt (x0.num.natAbs * 2 ^ k) (Nat.pos_of_ne_zero hq0)
  have lr : (limbs (x0.num.natAbs * 2 ^ k % x0.den)).length ≤ 20 := Nat.le_trans (limbs_length_mono (Nat.le_of_lt hlt)) lq
  clear hlt
  have HF : cei x0 k = (((x0.num.natAbs * 2 ^ k / x0.den + 1 : Nat) : Nat) : Int) := by rw [cei_pos x0 k hs, if_neg ht]
  have CK : ∀ {W : World} {A B : Option Addr} {n c m d : Nat}, W.cell? ⟨g, 0, none⟩ = some (.bool false) → W.cell? ⟨g, 1, none⟩ = some (.slice A0 n0 c0) → W.cell? ⟨g, 2, none⟩ = some (.slice B0 m0 d0) → Num W A n c (x0.num.natAbs * 2 ^ k / x0.den) → Num W B m d (x0.num.natAbs * 2 ^ k % x0.den) → Num W B0 m0 d0 x0.den → Calls Try.prog 41 #[.slice A n c, .slice B m d, .pointer (some ⟨g, 0, none⟩)] W (GotV W (.bool true)) := fun r0 r1 r2 ha hb hq => kceil_1t r0 hb ht
  obtain ⟨u, hU⟩ : ∃ u, x0.num.natAbs * 2 ^ k = u := ⟨_, rfl⟩
  obtain ⟨t, hT⟩ : ∃ t, x0.num.natAbs * 2 ^ k / x0.den = t := ⟨_, rfl⟩
  obtain ⟨l, hL⟩ : ∃ l, x0.num.natAbs * 2 ^ k % x0.den = l := ⟨_, rfl⟩
  rw [hT, hL] at CK
  rw [hT] at HF ld
  rw [hL] at lr
  rw [hU] at lu hT hL
  have CU : ∀ {W : World} {A : Option Addr} {m c : Nat}, Num W A m c x0.num.natAbs → Calls Try.prog 48 #[.slice A m c, .int .i64 j] W (GotP W u 0) := fun ha => by rw [← je, ← hU]; exact dshl_N ha (by omega) (by omega)
  have CD : ∀ {W : World} {A B : Option Addr} {n c m d : Nat}, Num W A n c u → Num W B m d x0.den → Calls Try.prog 61 #[.slice A n c, .slice B m d] W (GotD W t l) := fun ha hb => by rw [← hT, ← hL]; exact ddiv_N ha hb (by omega) (by omega) hq0
  have HV := Lib.hid HF
  clear HF hU hT hL hs ht lu
  have la : (limbs (t + 1)).length ≤ 29 := limbs_length_add ld (Nat.le_trans (len_one (by decide)) (by omega))
  have l1 : (limbs 1).length ≤ 1000 := Nat.le_trans (len_one (by decide)) (by omega)
  obtain ⟨r0, r1, r2⟩ := hg
  have rl := cell_lt r0
  simp only at rl
  have cc := Below.refl w.heap.size w
  go_enter Try.func35, Try.ntmps35
  go_wp2_with fail
  have f0 : ((w.alloc (.cells #[.bool false, .slice A0 n0 c0, .slice B0 m0 d0] 27)).alloc (.cells #[.bool false, .slice none 0 0] 25)).frozen? ⟨w.heap.size + 1, 0, none⟩ = false := by simp [go_sem]
  have f1 : ((w.alloc (.cells #[.bool false, .slice A0 n0 c0, .slice B0 m0 d0] 27)).alloc (.cells #[.bool false, .slice none 0 0] 25)).frozen? ⟨w.heap.size + 1, 1, none⟩ = false := by simp [go_sem]
  have bA : Below w.heap.size w ((w.alloc (.cells #[.bool false, .slice A0 n0 c0, .slice B0 m0 d0] 27)).alloc (.cells #[.bool false, .slice none 0 0] 25)) := (((Below.refl _ w).alloc (by simp) _).alloc (by simp) _)
  replace p0 := p0.on bA
  replace q0 := q0.on bA
  replace r0 := cK bA r0 rl
  replace r1 := cK bA r1 rl
  replace r2 := cK bA r2 rl
  replace rl := lK bA rl
  replace cc := bK cc bA
  clear bA
  have k0 : ((w.alloc (.cells #[.bool false, .slice A0 n0 c0, .slice B0 m0 d0] 27)).alloc (.cells #[.bool false, .slice none 0 0] 25)).cell? ⟨w.heap.size, 0, none⟩ = some (.bool false) := by simp [go_sem]
  have k1 : ((w.alloc (.cells #[.bool false, .slice A0 n0 c0, .slice B0 m0 d0] 27)).alloc (.cells #[.bool false, .slice none 0 0] 25)).cell? ⟨w.heap.size, 1, none⟩ = some (.slice A0 n0 c0) := by simp [go_sem]
  have k2 : ((w.alloc (.cells #[.bool false, .slice A0 n0 c0, .slice B0 m0 d0] 27)).alloc (.cells #[.bool false, .slice none 0 0] 25)).cell? ⟨w.heap.size, 2, none⟩ = some (.slice B0 m0 d0) := by simp [go_sem]
  have kl : w.heap.size < ((w.alloc (.cells #[.bool false, .slice A0 n0 c0, .slice B0 m0 d0] 27)).alloc (.cells #[.bool false, .slice none 0 0] 25)).heap.size := by simp <;> omega
  have g0 : ((w.alloc (.cells #[.bool false, .slice A0 n0 c0, .slice B0 m0 d0] 27)).alloc (.cells #[.bool false, .slice none 0 0] 25)).cell? ⟨w.heap.size + 1, 0, none⟩ = some (.bool false) := by simp [go_sem]
  have g1 : ((w.alloc (.cells #[.bool false, .slice A0 n0 c0, .slice B0 m0 d0] 27)).alloc (.cells #[.bool false, .slice none 0 0] 25)).cell? ⟨w.heap.size + 1, 1, none⟩ = some (.slice none 0 0) := by simp [go_sem]
  have gl : w.heap.size + 1 < ((w.alloc (.cells #[.bool false, .slice A0 n0 c0, .slice B0 m0 d0] 27)).alloc (.cells #[.bool false, .slice none 0 0] 25)).heap.size := by simp <;> omega
  generalize (w.alloc (.cells #[.bool false, .slice A0 n0 c0, .slice B0 m0 d0] 27)).alloc (.cells #[.bool false, .slice none 0 0] 25) = v1 at *
  refine (isgrid_2 _ h0 hj2).mono ?_
  rintro e w2 ⟨rfl, b⟩
  replace f0 := fK b f0 gl
  replace f1 := fK b f1 gl
  replace p0 := p0.on b
  replace q0 := q0.on b
  replace r0 := cK b r0 rl
  replace r1 := cK b r1 rl
  replace r2 := cK b r2 rl
  replace rl := lK b rl
  replace k0 := cK b k0 kl
  replace k1 := cK b k1 kl
  replace k2 := cK b k2 kl
  replace kl := lK b kl
  replace g0 := cK b g0 gl
  replace g1 := cK b g1 gl
  replace gl := lK b gl
  replace cc := bK cc b
  clear b
  go_wp2_with fail
  refine (CU p0).mono ?_
  rintro e w3 ⟨Av, nv, cv, rfl, v, b⟩
  replace f0 := fK b f0 gl
  replace f1 := fK b f1 gl
  replace p0 := p0.on b
  replace q0 := q0.on b
  replace r0 := cK b r0 rl
  replace r1 := cK b r1 rl
  replace r2 := cK b r2 rl
  replace rl := lK b rl
  replace k0 := cK b k0 kl
  replace k1 := cK b k1 kl
  replace k2 := cK b k2 kl
  replace kl := lK b kl
  replace g0 := cK b g0 gl
  replace g1 := cK b g1 gl
  replace gl := lK b gl
  replace cc := bK cc b
  clear b
  go_wp2_with fail
  refine (CD v q0).mono ?_
  rintro e w4 ⟨Aq, nq, cq, Ar, nr_, cr, rfl, dq, dr, b⟩
  replace f0 := fK b f0 gl
  replace f1 := fK b f1 gl
  replace p0 := p0.on b
  replace q0 := q0.on b
  replace v := v.on b
  replace r0 := cK b r0 rl
  replace r1 := cK b r1 rl
  replace r2 := cK b r2 rl
  replace rl := lK b rl
  replace k0 := cK b k0 kl
  replace k1 := cK b k1 kl
  replace k2 := cK b k2 kl
  replace kl := lK b kl
  replace g0 := cK b g0 gl
  replace g1 := cK b g1 gl
  replace gl := lK b gl
  replace cc := bK cc b
  clear b
  go_wp2_with fail
  refine (CK r0 r1 r2 dq dr q0).mono ?_
  rintro e w5 ⟨rfl, b⟩
  replace f0 := fK b f0 gl
  replace f1 := fK b f1 gl
  replace p0 := p0.on b
  replace q0 := q0.on b
  replace v := v.on b
  replace dq := dq.on b
  replace dr := dr.on b
  replace r0 := cK b r0 rl
  replace r1 := cK b r1 rl
  replace r2 := cK b r2 rl
  replace rl := lK b rl
  replace k0 := cK b k0 kl
  replace k1 := cK b k1 kl
  replace k2 := cK b k2 kl
  replace kl := lK b kl
  replace g0 := cK b g0 gl
  replace g1 := cK b g1 gl
  replace gl := lK b gl
  replace cc := bK cc b
  clear b
  go_wp2_with fail
  refine (of_N _ 1 (by decide)).mono ?_
  rintro e w6 ⟨Ao, no, co, rfl, o, b⟩
  replace f0 := fK b f0 gl
  replace f1 := fK b f1 gl
  replace p0 := p0.on b
  replace q0 := q0.on b
  replace v := v.on b
  replace dq := dq.on b
  replace dr := dr.on b
  replace r0 := cK b r0 rl
  replace r1 := cK b r1 rl
  replace r2 := cK b r2 rl
  replace rl := lK b rl
  replace k0 := cK b k0 kl
  replace k1 := cK b k1 kl
  replace k2 := cK b k2 kl
  replace kl := lK b kl
  replace g0 := cK b g0 gl
  replace g1 := cK b g1 gl
  replace gl := lK b gl
  replace cc := bK cc b
  clear b
  go_wp2_with fail
  refine (add_N dq o (by omega) (by omega)).mono ?_
  rintro e w7 ⟨Aa, na, ca, rfl, a, b⟩
  replace f0 := fK b f0 gl
  replace f1 := fK b f1 gl
  replace p0 := p0.on b
  replace q0 := q0.on b
  replace v := v.on b
  replace dq := dq.on b
  replace dr := dr.on b
  replace o := o.on b
  replace r0 := cK b r0 rl
  replace r1 := cK b r1 rl
  replace r2 := cK b r2 rl
  replace rl := lK b rl
  replace k0 := cK b k0 kl
  replace k1 := cK b k1 kl
  replace k2 := cK b k2 kl
  replace kl := lK b kl
  replace g0 := cK b g0 gl
  replace g1 := cK b g1 gl
  replace gl := lK b gl
  replace cc := bK cc b
  clear b
  have hn : Zn w7 false Aa na ca (cei x0 k) := by rw [HV.out]; exact zn_nat a
  have eb : Box w7 (w.heap.size + 1) false none 0 0 := ⟨g0, g1⟩
  have HZ : Hid (Zn ((w7.setCell ⟨w.heap.size + 1, 0, none⟩ (.bool false)).setCell ⟨w.heap.size + 1, 1, none⟩ (.slice Aa na ca)) false Aa na ca (cei x0 k)) := Lib.hid (hn.put eb _ _)
  clear hn
  go_wp2_with fail
  refine bodyPost_ret (v := .tuple #[.agg #[.bool false, .slice Aa na ca], .int .i64 0]) (by simp [results, Try.results35, go_sem, g0, g1]) rfl ⟨_, _, _, _, rfl, HZ.out, below_put cc (by omega) _ _⟩

set_option maxRecDepth 100000 in
set_option maxHeartbeats 8000000 in
theorem rdcei_tf0 {w : World} {b0 : Bool} {A0 B0 : Option Addr} {n0 c0 m0 d0 : Nat} {g : Nat} {x0 : Rat} (hx : Rt w b0 A0 n0 c0 B0 m0 d0 x0) (s0 : Sz x0 20) {j : Int} (h0 : 0 ≤ j) (h1 : j ≤ 500) (hg : BoxR w g b0 A0 n0 c0 B0 m0 d0) (hs : x0.num < 0) (ht : True) (hz : x0.num.natAbs * 2 ^ j.toNat / x0.den = 0) :
    Calls Try.prog 35 #[.agg #[.bool b0, .slice A0 n0 c0, .slice B0 m0 d0], .int .i64 j, .func (.func 41) #[] #[.pointer (some ⟨g, 0, none⟩)]] w (GotZp w (cei x0 j.toNat) 0) := by
  have je := to_nat h0
  have jl : j.toNat ≤ 500 := by omega
  have hj2 : j ≤ 2000 := by omega
  obtain ⟨k, hk⟩ : ∃ k, j.toNat = k := ⟨_, rfl⟩
  rw [hk] at je jl hz ⊢
  have lk := len_pow2 jl
  have p0 := hx.1.1
  have q0 := hx.2
  have hb0 : b0 = true := by rw [hx.1.2]; exact decide_eq_true hs
  subst hb0
  have lp := s0.1
  have lq := s0.2
  have hq0 := x0.den_nz
  have lu : (limbs (x0.num.natAbs * 2 ^ k)).length ≤ 28 := limbs_length_mul lp lk
  have ld : (limbs (x0.num.natAbs * 2 ^ k / x0.den)).length ≤ 28 := Nat.le_trans (limbs_length_mono (Nat.div_le_self _ _)) lu
  have hlt := Nat.mod_lt (x0.num.natAbs * 2 ^ k) (Nat.pos_of_ne_zero hq0)
  have lr : (limbs (x0.num.natAbs * 2 ^ k % x0.den)).length ≤ 20 := Nat.le_trans (limbs_length_mono (Nat.le_of_lt hlt)) lq
  clear hlt
  have HF : cei x0 k = -(((x0.num.natAbs * 2 ^ k / x0.den : Nat) : Nat) : Int) := by rw [cei_less x0 k hs]
  have CK : ∀ {W : World} {A B : Option Addr} {n c m d : Nat}, W.cell? ⟨g, 0, none⟩ = some (.bool true) → W.cell? ⟨g, 1, none⟩ = some (.slice A0 n0 c0) → W.cell? ⟨g, 2, none⟩ = some (.slice B0 m0 d0) → Num W A n c (x0.num.natAbs * 2 ^ k / x0.den) → Num W B m d (x0.num.natAbs * 2 ^ k % x0.den) → Num W B0 m0 d0 x0.den → Calls Try.prog 41 #[.slice A n c, .slice B m d, .pointer (some ⟨g, 0, none⟩)] W (GotV W (.bool false)) := fun r0 r1 r2 ha hb hq => kceil_0 r0
  obtain ⟨u, hU⟩ : ∃ u, x0.num.natAbs * 2 ^ k = u := ⟨_, rfl⟩
  obtain ⟨t, hT⟩ : ∃ t, x0.num.natAbs * 2 ^ k / x0.den = t := ⟨_, rfl⟩
  obtain ⟨l, hL⟩ : ∃ l, x0.num.natAbs * 2 ^ k % x0.den = l := ⟨_, rfl⟩
  rw [hT, hL] at CK
  rw [hT] at HF ld hz
  rw [hL] at lr
  rw [hU] at lu hT hL
  have CU : ∀ {W : World} {A : Option Addr} {m c : Nat}, Num W A m c x0.num.natAbs → Calls Try.prog 48 #[.slice A m c, .int .i64 j] W (GotP W u 0) := fun ha => by rw [← je, ← hU]; exact dshl_N ha (by omega) (by omega)
  have CD : ∀ {W : World} {A B : Option Addr} {n c m d : Nat}, Num W A n c u → Num W B m d x0.den → Calls Try.prog 61 #[.slice A n c, .slice B m d] W (GotD W t l) := fun ha hb => by rw [← hT, ← hL]; exact ddiv_N ha hb (by omega) (by omega) hq0
  subst hz
  have HV := Lib.hid HF
  clear HF hU hT hL hs ht lu
  obtain ⟨r0, r1, r2⟩ := hg
  have rl := cell_lt r0
  simp only at rl
  have cc := Below.refl w.heap.size w
  go_enter Try.func35, Try.ntmps35
  go_wp2_with fail
  have f0 : ((w.alloc (.cells #[.bool true, .slice A0 n0 c0, .slice B0 m0 d0] 27)).alloc (.cells #[.bool false, .slice none 0 0] 25)).frozen? ⟨w.heap.size + 1, 0, none⟩ = false := by simp [go_sem]
  have f1 : ((w.alloc (.cells #[.bool true, .slice A0 n0 c0, .slice B0 m0 d0] 27)).alloc (.cells #[.bool false, .slice none 0 0] 25)).frozen? ⟨w.heap.size + 1, 1, none⟩ = false := by simp [go_sem]
  have bA : Below w.heap.size w ((w.alloc (.cells #[.bool true, .slice A0 n0 c0, .slice B0 m0 d0] 27)).alloc (.cells #[.bool false, .slice none 0 0] 25)) := (((Below.refl _ w).alloc (by simp) _).alloc (by simp) _)
  replace p0 := p0.on bA
  replace q0 := q0.on bA
  replace r0 := cK bA r0 rl
  replace r1 := cK bA r1 rl
  replace r2 := cK bA r2 rl
  replace rl := lK bA rl
  replace cc := bK cc bA
  clear bA
  have k0 : ((w.alloc (.cells #[.bool true, .slice A0 n0 c0, .slice B0 m0 d0] 27)).alloc (.cells #[.bool false, .slice none 0 0] 25)).cell? ⟨w.heap.size, 0, none⟩ = some (.bool true) := by simp [go_sem]
  have k1 : ((w.alloc (.cells #[.bool true, .slice A0 n0 c0, .slice B0 m0 d0] 27)).alloc (.cells #[.bool false, .slice none 0 0] 25)).cell? ⟨w.heap.size, 1, none⟩ = some (.slice A0 n0 c0) := by simp [go_sem]
  have k2 : ((w.alloc (.cells #[.bool true, .slice A0 n0 c0, .slice B0 m0 d0] 27)).alloc (.cells #[.bool false, .slice none 0 0] 25)).cell? ⟨w.heap.size, 2, none⟩ = some (.slice B0 m0 d0) := by simp [go_sem]
  have kl : w.heap.size < ((w.alloc (.cells #[.bool true, .slice A0 n0 c0, .slice B0 m0 d0] 27)).alloc (.cells #[.bool false, .slice none 0 0] 25)).heap.size := by simp <;> omega
  have g0 : ((w.alloc (.cells #[.bool true, .slice A0 n0 c0, .slice B0 m0 d0] 27)).alloc (.cells #[.bool false, .slice none 0 0] 25)).cell? ⟨w.heap.size + 1, 0, none⟩ = some (.bool false) := by simp [go_sem]
  have g1 : ((w.alloc (.cells #[.bool true, .slice A0 n0 c0, .slice B0 m0 d0] 27)).alloc (.cells #[.bool false, .slice none 0 0] 25)).cell? ⟨w.heap.size + 1, 1, none⟩ = some (.slice none 0 0) := by simp [go_sem]
  have gl : w.heap.size + 1 < ((w.alloc (.cells #[.bool true, .slice A0 n0 c0, .slice B0 m0 d0] 27)).alloc (.cells #[.bool false, .slice none 0 0] 25)).heap.size := by simp <;> omega
  generalize (w.alloc (.cells #[.bool true, .slice A0 n0 c0, .slice B0 m0 d0] 27)).alloc (.cells #[.bool false, .slice none 0 0] 25) = v1 at *
  refine (isgrid_2 _ h0 hj2).mono ?_
  rintro e w2 ⟨rfl, b⟩
  replace f0 := fK b f0 gl
  replace f1 := fK b f1 gl
  replace p0 := p0.on b
  replace q0 := q0.on b
  replace r0 := cK b r0 rl
  replace r1 := cK b r1 rl
  replace r2 := cK b r2 rl
  replace rl := lK b rl
  replace k0 := cK b k0 kl
  replace k1 := cK b k1 kl
  replace k2 := cK b k2 kl
  replace kl := lK b kl
  replace g0 := cK b g0 gl
  replace g1 := cK b g1 gl
  replace gl := lK b gl
  replace cc := bK cc b
  clear b
  go_wp2_with fail
  refine (CU p0).mono ?_
  rintro e w3 ⟨Av, nv, cv, rfl, v, b⟩
  replace f0 := fK b f0 gl
  replace f1 := fK b f1 gl
  replace p0 := p0.on b
  replace q0 := q0.on b
  replace r0 := cK b r0 rl
  replace r1 := cK b r1 rl
  replace r2 := cK b r2 rl
  replace rl := lK b rl
  replace k0 := cK b k0 kl
  replace k1 := cK b k1 kl
  replace k2 := cK b k2 kl
  replace kl := lK b kl
  replace g0 := cK b g0 gl
  replace g1 := cK b g1 gl
  replace gl := lK b gl
  replace cc := bK cc b
  clear b
  go_wp2_with fail
  refine (CD v q0).mono ?_
  rintro e w4 ⟨Aq, nq, cq, Ar, nr_, cr, rfl, dq, dr, b⟩
  replace f0 := fK b f0 gl
  replace f1 := fK b f1 gl
  replace p0 := p0.on b
  replace q0 := q0.on b
  replace v := v.on b
  replace r0 := cK b r0 rl
  replace r1 := cK b r1 rl
  replace r2 := cK b r2 rl
  replace rl := lK b rl
  replace k0 := cK b k0 kl
  replace k1 := cK b k1 kl
  replace k2 := cK b k2 kl
  replace kl := lK b kl
  replace g0 := cK b g0 gl
  replace g1 := cK b g1 gl
  replace gl := lK b gl
  replace cc := bK cc b
  clear b
  go_wp2_with fail
  refine (CK r0 r1 r2 dq dr q0).mono ?_
  rintro e w5 ⟨rfl, b⟩
  replace f0 := fK b f0 gl
  replace f1 := fK b f1 gl
  replace p0 := p0.on b
  replace q0 := q0.on b
  replace v := v.on b
  replace dq := dq.on b
  replace dr := dr.on b
  replace r0 := cK b r0 rl
  replace r1 := cK b r1 rl
  replace r2 := cK b r2 rl
  replace rl := lK b rl
  replace k0 := cK b k0 kl
  replace k1 := cK b k1 kl
  replace k2 := cK b k2 kl
  replace kl := lK b kl
  replace g0 := cK b g0 gl
  replace g1 := cK b g1 gl
  replace gl := lK b gl
  replace cc := bK cc b
  clear b
  have hn0 := num_void dq rfl
  subst hn0
  have hn : Zn w5 false Aq 0 cq (cei x0 k) := by rw [HV.out]; exact zn_nat dq
  have eb : Box w5 (w.heap.size + 1) false none 0 0 := ⟨g0, g1⟩
  have HZ : Hid (Zn ((w5.setCell ⟨w.heap.size + 1, 0, none⟩ (.bool false)).setCell ⟨w.heap.size + 1, 1, none⟩ (.slice Aq 0 cq)) false Aq 0 cq (cei x0 k)) := Lib.hid (hn.put eb _ _)
  clear hn
  go_wp2_with fail
  refine bodyPost_ret (v := .tuple #[.agg #[.bool false, .slice Aq 0 cq], .int .i64 0]) (by simp [results, Try.results35, go_sem, g0, g1]) rfl ⟨_, _, _, _, rfl, HZ.out, below_put cc (by omega) _ _⟩

set_option maxRecDepth 100000 in
set_option maxHeartbeats 8000000 in
theorem rdcei_tf1 {w : World} {b0 : Bool} {A0 B0 : Option Addr} {n0 c0 m0 d0 : Nat} {g : Nat} {x0 : Rat} (hx : Rt w b0 A0 n0 c0 B0 m0 d0 x0) (s0 : Sz x0 20) {j : Int} (h0 : 0 ≤ j) (h1 : j ≤ 500) (hg : BoxR w g b0 A0 n0 c0 B0 m0 d0) (hs : x0.num < 0) (ht : True) (hz : x0.num.natAbs * 2 ^ j.toNat / x0.den ≠ 0) :
    Calls Try.prog 35 #[.agg #[.bool b0, .slice A0 n0 c0, .slice B0 m0 d0], .int .i64 j, .func (.func 41) #[] #[.pointer (some ⟨g, 0, none⟩)]] w (GotZp w (cei x0 j.toNat) 0) := by
  have je := to_nat h0
  have jl : j.toNat ≤ 500 := by omega
  have hj2 : j ≤ 2000 := by omega
  obtain ⟨k, hk⟩ : ∃ k, j.toNat = k := ⟨_, rfl⟩
  rw [hk] at je jl hz ⊢
  have lk := len_pow2 jl
  have p0 := hx.1.1
  have q0 := hx.2
  have hb0 : b0 = true := by rw [hx.1.2]; exact decide_eq_true hs
  subst hb0
  have lp := s0.1
  have lq := s0.2
  have hq0 := x0.den_nz
  have lu : (limbs (x0.num.natAbs * 2 ^ k)).length ≤ 28 := limbs_length_mul lp lk
  have ld : (limbs (x0.num.natAbs * 2 ^ k / x0.den)).length ≤ 28 := Nat.le_trans (limbs_length_mono (Nat.div_le_self _ _)) lu
  have hlt := Nat.mod_lt (x0.num.natAbs * 2 ^ k) (Nat.pos_of_ne_zero hq0)
  have lr : (limbs (x0.num.natAbs * 2 ^ k % x0.den)).length ≤ 20 := Nat.le_trans (limbs_length_mono (Nat.le_of_lt hlt)) lq
  clear hlt
  have HF : cei x0 k = -(((x0.num.natAbs * 2 ^ k / x0.den : Nat) : Nat) : Int) := by rw [cei_less x0 k hs]
  have CK : ∀ {W : World} {A B : Option Addr} {n c m d : Nat}, W.cell? ⟨g, 0, none⟩ = some (.bool true) → W.cell? ⟨g, 1, none⟩ = some (.slice A0 n0 c0) → W.cell? ⟨g, 2, none⟩ = some (.slice B0 m0 d0) → Num W A n c (x0.num.natAbs * 2 ^ k / x0.den) → Num W B m d (x0.num.natAbs * 2 ^ k % x0.den) → Num W B0 m0 d0 x0.den → Calls Try.prog 41 #[.slice A n c, .slice B m d, .pointer (some ⟨g, 0, none⟩)] W (GotV W (.bool false)) := fun r0 r1 r2 ha hb hq => kceil_0 r0
  obtain ⟨u, hU⟩ : ∃ u, x0.num.natAbs * 2 ^ k = u := ⟨_, rfl⟩
  obtain ⟨t, hT⟩ : ∃ t, x0.num.natAbs * 2 ^ k / x0.den = t := ⟨_, rfl⟩
  obtain ⟨l, hL⟩ : ∃ l, x0.num.natAbs * 2 ^ k % x0.den = l := ⟨_, rfl⟩
  rw [hT, hL] at CK
  rw [hT] at HF ld hz
  rw [hL] at lr
  rw [hU] at lu hT hL
  have CU : ∀ {W : World} {A : Option Addr} {m c : Nat}, Num W A m c x0.num.natAbs → Calls Try.prog 48 #[.slice A m c, .int .i64 j] W (GotP W u 0) := fun ha => by rw [← je, ← hU]; exact dshl_N ha (by omega) (by omega)
  have CD : ∀ {W : World} {A B : Option Addr} {n c m d : Nat}, Num W A n c u → Num W B m d x0.den → Calls Try.prog 61 #[.slice A n c, .slice B m d] W (GotD W t l) := fun ha hb => by rw [← hT, ← hL]; exact ddiv_N ha hb (by omega) (by omega) hq0
  have HV := Lib.hid HF
  clear HF hU hT hL hs ht lu
  have HT0 := Lib.hid hz
  clear hz
  obtain ⟨r0, r1, r2⟩ := hg
  have rl := cell_lt r0
  simp only at rl
  have cc := Below.refl w.heap.size w
  go_enter Try.func35, Try.ntmps35
  go_wp2_with fail
  have f0 : ((w.alloc (.cells #[.bool true, .slice A0 n0 c0, .slice B0 m0 d0] 27)).alloc (.cells #[.bool false, .slice none 0 0] 25)).frozen? ⟨w.heap.size + 1, 0, none⟩ = false := by simp [go_sem]
  have f1 : ((w.alloc (.cells #[.bool true, .slice A0 n0 c0, .slice B0 m0 d0] 27)).alloc (.cells #[.bool false, .slice none 0 0] 25)).frozen? ⟨w.heap.size + 1, 1, none⟩ = false := by simp [go_sem]
  have bA : Below w.heap.size w ((w.alloc (.cells #[.bool true, .slice A0 n0 c0, .slice B0 m0 d0] 27)).alloc (.cells #[.bool false, .slice none 0 0] 25)) := (((Below.refl _ w).alloc (by simp) _).alloc (by simp) _)
  replace p0 := p0.on bA
  replace q0 := q0.on bA
  replace r0 := cK bA r0 rl
  replace r1 := cK bA r1 rl
  replace r2 := cK bA r2 rl
  replace rl := lK bA rl
  replace cc := bK cc bA
  clear bA
  have k0 : ((w.alloc (.cells #[.bool true, .slice A0 n0 c0, .slice B0 m0 d0] 27)).alloc (.cells #[.bool false, .slice none 0 0] 25)).cell? ⟨w.heap.size, 0, none⟩ = some (.bool true) := by simp [go_sem]
  have k1 : ((w.alloc (.cells #[.bool true, .slice A0 n0 c0, .slice B0 m0 d0] 27)).alloc (.cells #[.bool false, .slice none 0 0] 25)).cell? ⟨w.heap.size, 1, none⟩ = some (.slice A0 n0 c0) := by simp [go_sem]
  have k2 : ((w.alloc (.cells #[.bool true, .slice A0 n0 c0, .slice B0 m0 d0] 27)).alloc (.cells #[.bool false, .slice none 0 0] 25)).cell? ⟨w.heap.size, 2, none⟩ = some (.slice B0 m0 d0) := by simp [go_sem]
  have kl : w.heap.size < ((w.alloc (.cells #[.bool true, .slice A0 n0 c0, .slice B0 m0 d0] 27)).alloc (.cells #[.bool false, .slice none 0 0] 25)).heap.size := by simp <;> omega
  have g0 : ((w.alloc (.cells #[.bool true, .slice A0 n0 c0, .slice B0 m0 d0] 27)).alloc (.cells #[.bool false, .slice none 0 0] 25)).cell? ⟨w.heap.size + 1, 0, none⟩ = some (.bool false) := by simp [go_sem]
  have g1 : ((w.alloc (.cells #[.bool true, .slice A0 n0 c0, .slice B0 m0 d0] 27)).alloc (.cells #[.bool false, .slice none 0 0] 25)).cell? ⟨w.heap.size + 1, 1, none⟩ = some (.slice none 0 0) := by simp [go_sem]
  have gl : w.heap.size + 1 < ((w.alloc (.cells #[.bool true, .slice A0 n0 c0, .slice B0 m0 d0] 27)).alloc (.cells #[.bool false, .slice none 0 0] 25)).heap.size := by simp <;> omega
  generalize (w.alloc (.cells #[.bool true, .slice A0 n0 c0, .slice B0 m0 d0] 27)).alloc (.cells #[.bool false, .slice none 0 0] 25) = v1 at *
  refine (isgrid_2 _ h0 hj2).mono ?_
  rintro e w2 ⟨rfl, b⟩
  replace f0 := fK b f0 gl
  replace f1 := fK b f1 gl
  replace p0 := p0.on b
  replace q0 := q0.on b
  replace r0 := cK b r0 rl
  replace r1 := cK b r1 rl
  replace r2 := cK b r2 rl
  replace rl := lK b rl
  replace k0 := cK b k0 kl
  replace k1 := cK b k1 kl
  replace k2 := cK b k2 kl
  replace kl := lK b kl
  replace g0 := cK b g0 gl
  replace g1 := cK b g1 gl
  replace gl := lK b gl
  replace cc := bK cc b
  clear b
  go_wp2_with fail
  refine (CU p0).mono ?_
  rintro e w3 ⟨Av, nv, cv, rfl, v, b⟩
  replace f0 := fK b f0 gl
  replace f1 := fK b f1 gl
  replace p0 := p0.on b
  replace q0 := q0.on b
  replace r0 := cK b r0 rl
  replace r1 := cK b r1 rl
  replace r2 := cK b r2 rl
  replace rl := lK b rl
  replace k0 := cK b k0 kl
  replace k1 := cK b k1 kl
  replace k2 := cK b k2 kl
  replace kl := lK b kl
  replace g0 := cK b g0 gl
  replace g1 := cK b g1 gl
  replace gl := lK b gl
  replace cc := bK cc b
  clear b
  go_wp2_with fail
  refine (CD v q0).mono ?_
  rintro e w4 ⟨Aq, nq, cq, Ar, nr_, cr, rfl, dq, dr, b⟩
  replace f0 := fK b f0 gl
  replace f1 := fK b f1 gl
  replace p0 := p0.on b
  replace q0 := q0.on b
  replace v := v.on b
  replace r0 := cK b r0 rl
  replace r1 := cK b r1 rl
  replace r2 := cK b r2 rl
  replace rl := lK b rl
  replace k0 := cK b k0 kl
  replace k1 := cK b k1 kl
  replace k2 := cK b k2 kl
  replace kl := lK b kl
  replace g0 := cK b g0 gl
  replace g1 := cK b g1 gl
  replace gl := lK b gl
  replace cc := bK cc b
  clear b
  go_wp2_with fail
  refine (CK r0 r1 r2 dq dr q0).mono ?_
  rintro e w5 ⟨rfl, b⟩
  replace f0 := fK b f0 gl
  replace f1 := fK b f1 gl
  replace p0 := p0.on b
  replace q0 := q0.on b
  replace v := v.on b
  replace dq := dq.on b
  replace dr := dr.on b
  replace r0 := cK b r0 rl
  replace r1 := cK b r1 rl
  replace r2 := cK b r2 rl
  replace rl := lK b rl
  replace k0 := cK b k0 kl
  replace k1 := cK b k1 kl
  replace k2 := cK b k2 kl
  replace kl := lK b kl
  replace g0 := cK b g0 gl
  replace g1 := cK b g1 gl
  replace gl := lK b gl
  replace cc := bK cc b
  clear b
  have hn0 : 0 < nq := dq.some_len HT0.out
  have hn1 : decide ((0 : Int) < (nq : Int)) = true := decide_eq_true (by omega)
  have hn2 : decide (0 < nq) = true := decide_eq_true hn0
  have hn : Zn w5 true Aq nq cq (cei x0 k) := by rw [HV.out]; exact zn_minus dq (HT0.out)
  have eb : Box w5 (w.heap.size + 1) false none 0 0 := ⟨g0, g1⟩
  have HZ : Hid (Zn ((w5.setCell ⟨w.heap.size + 1, 0, none⟩ (.bool true)).setCell ⟨w.heap.size + 1, 1, none⟩ (.slice Aq nq cq)) true Aq nq cq (cei x0 k)) := Lib.hid (hn.put eb _ _)
  clear hn
  go_wp2_with fail
  refine bodyPost_ret (v := .tuple #[.agg #[.bool true, .slice Aq nq cq], .int .i64 0]) (by simp [results, Try.results35, go_sem, g0, g1]) rfl ⟨_, _, _, _, rfl, HZ.out, below_put cc (by omega) _ _⟩

set_option maxRecDepth 100000 in
set_option maxHeartbeats 8000000 in
theorem rdcei_N {w : World} {b0 : Bool} {A0 B0 : Option Addr} {n0 c0 m0 d0 : Nat} {g : Nat} {x0 : Rat} (hx : Rt w b0 A0 n0 c0 B0 m0 d0 x0) (s0 : Sz x0 20) {j : Int} (h0 : 0 ≤ j) (h1 : j ≤ 500) (hg : BoxR w g b0 A0 n0 c0 B0 m0 d0) :
    Calls Try.prog 35 #[.agg #[.bool b0, .slice A0 n0 c0, .slice B0 m0 d0], .int .i64 j, .func (.func 41) #[] #[.pointer (some ⟨g, 0, none⟩)]] w (GotZp w (cei x0 j.toNat) 0) := by
  by_cases hs : x0.num < 0
  · by_cases hz : x0.num.natAbs * 2 ^ j.toNat / x0.den = 0
    · exact rdcei_tf0 hx s0 h0 h1 hg hs trivial hz
    · exact rdcei_tf1 hx s0 h0 h1 hg hs trivial hz
  · by_cases ht : x0.num.natAbs * 2 ^ j.toNat % x0.den = 0
    · exact rdcei_ff hx s0 h0 h1 hg hs ht
    · exact rdcei_ft hx s0 h0 h1 hg hs ht

set_option maxRecDepth 100000 in
set_option maxHeartbeats 8000000 in
theorem rdnea_ff {w : World} {b0 : Bool} {A0 B0 : Option Addr} {n0 c0 m0 d0 : Nat} {g : Nat} {x0 : Rat} (hx : Rt w b0 A0 n0 c0 B0 m0 d0 x0) (s0 : Sz x0 20) {j : Int} (h0 : 0 ≤ j) (h1 : j ≤ 500) (hg : BoxR w g b0 A0 n0 c0 B0 m0 d0) (hs : ¬ x0.num < 0) (ht : fars (x0.num.natAbs * 2 ^ j.toNat) x0.den = false) :
    Calls Try.prog 35 #[.agg #[.bool b0, .slice A0 n0 c0, .slice B0 m0 d0], .int .i64 j, .func (.func 42) #[] #[.pointer (some ⟨g, 0, none⟩)]] w (GotZp w (nea x0 j.toNat) 0) := by
  have je := to_nat h0
  have jl : j.toNat ≤ 500 := by omega
  have hj2 : j ≤ 2000 := by omega
  obtain ⟨k, hk⟩ : ∃ k, j.toNat = k := ⟨_, rfl⟩
  rw [hk] at je jl ht ⊢
  have lk := len_pow2 jl
  have p0 := hx.1.1
  have q0 := hx.2
  have hb0 : b0 = false := by rw [hx.1.2]; exact decide_eq_false hs
  subst hb0
  have lp := s0.1
  have lq := s0.2
  have hq0 := x0.den_nz
  have lu : (limbs (x0.num.natAbs * 2 ^ k)).length ≤ 28 := limbs_length_mul lp lk
  have ld : (limbs (x0.num.natAbs * 2 ^ k / x0.den)).length ≤ 28 := Nat.le_trans (limbs_length_mono (Nat.div_le_self _ _)) lu
  have hlt := Nat.mod_lt (x0.num.natAbs * 2 ^ k) (Nat.pos_of_ne_zero hq0)
  have lr : (limbs (x0.num.natAbs * 2 ^ k % x0.den)).length ≤ 20 := Nat.le_trans (limbs_length_mono (Nat.le_of_lt hlt)) lq
  clear hlt
  have HF : nea x0 k = (((x0.num.natAbs * 2 ^ k / x0.den : Nat) : Nat) : Int) := by rw [nea_pos x0 k hs, if_neg (by rw [ht]; decide), Nat.add_zero]
  have CK : ∀ {W : World} {A B : Option Addr} {n c m d : Nat}, W.cell? ⟨g, 0, none⟩ = some (.bool false) → W.cell? ⟨g, 1, none⟩ = some (.slice A0 n0 c0) → W.cell? ⟨g, 2, none⟩ = some (.slice B0 m0 d0) → Num W A n c (x0.num.natAbs * 2 ^ k / x0.den) → Num W B m d (x0.num.natAbs * 2 ^ k % x0.den) → Num W B0 m0 d0 x0.den → Calls Try.prog 42 #[.slice A n c, .slice B m d, .pointer (some ⟨g, 0, none⟩)] W (GotV W (.bool false)) := fun r0 r1 r2 ha hb hq => by rw [← ht]; exact knear_N r0 r1 r2 ha hb hq (by omega) (by omega)
  obtain ⟨u, hU⟩ : ∃ u, x0.num.natAbs * 2 ^ k = u := ⟨_, rfl⟩
  obtain ⟨t, hT⟩ : ∃ t, x0.num.natAbs * 2 ^ k / x0.den = t := ⟨_, rfl⟩
  obtain ⟨l, hL⟩ : ∃ l, x0.num.natAbs * 2 ^ k % x0.den = l := ⟨_, rfl⟩
  rw [hT, hL] at CK
  rw [hT] at HF ld
  rw [hL] at lr
  rw [hU] at lu hT hL
  have CU : ∀ {W : World} {A : Option Addr} {m c : Nat}, Num W A m c x0.num.natAbs → Calls Try.prog 48 #[.slice A m c, .int .i64 j] W (GotP W u 0) := fun ha => by rw [← je, ← hU]; exact dshl_N ha (by omega) (by omega)
  have CD : ∀ {W : World} {A B : Option Addr} {n c m d : Nat}, Num W A n c u → Num W B m d x0.den → Calls Try.prog 61 #[.slice A n c, .slice B m d] W (GotD W t l) := fun ha hb => by rw [← hT, ← hL]; exact ddiv_N ha hb (by omega) (by omega) hq0
  have HV := Lib.hid HF
  clear HF hU hT hL hs ht lu
  obtain ⟨r0, r1, r2⟩ := hg
  have rl := cell_lt r0
  simp only at rl
  have cc := Below.refl w.heap.size w
  go_enter Try.func35, Try.ntmps35
  go_wp2_with fail
  have f0 : ((w.alloc (.cells #[.bool false, .slice A0 n0 c0, .slice B0 m0 d0] 27)).alloc (.cells #[.bool false, .slice none 0 0] 25)).frozen? ⟨w.heap.size + 1, 0, none⟩ = false := by simp [go_sem]
  have f1 : ((w.alloc (.cells #[.bool false, .slice A0 n0 c0, .slice B0 m0 d0] 27)).alloc (.cells #[.bool false, .slice none 0 0] 25)).frozen? ⟨w.heap.size + 1, 1, none⟩ = false := by simp [go_sem]
  have bA : Below w.heap.size w ((w.alloc (.cells #[.bool false, .slice A0 n0 c0, .slice B0 m0 d0] 27)).alloc (.cells #[.bool false, .slice none 0 0] 25)) := (((Below.refl _ w).alloc (by simp) _).alloc (by simp) _)
  replace p0 := p0.on bA
  replace q0 := q0.on bA
  replace r0 := cK bA r0 rl
  replace r1 := cK bA r1 rl
  replace r2 := cK bA r2 rl
  replace rl := lK bA rl
  replace cc := bK cc bA
  clear bA
  have k0 : ((w.alloc (.cells #[.bool false, .slice A0 n0 c0, .slice B0 m0 d0] 27)).alloc (.cells #[.bool false, .slice none 0 0] 25)).cell? ⟨w.heap.size, 0, none⟩ = some (.bool false) := by simp [go_sem]
  have k1 : ((w.alloc (.cells #[.bool false, .slice A0 n0 c0, .slice B0 m0 d0] 27)).alloc (.cells #[.bool false, .slice none 0 0] 25)).cell? ⟨w.heap.size, 1, none⟩ = some (.slice A0 n0 c0) := by simp [go_sem]
  have k2 : ((w.alloc (.cells #[.bool false, .slice A0 n0 c0, .slice B0 m0 d0] 27)).alloc (.cells #[.bool false, .slice none 0 0] 25)).cell? ⟨w.heap.size, 2, none⟩ = some (.slice B0 m0 d0) := by simp [go_sem]
  have kl : w.heap.size < ((w.alloc (.cells #[.bool false, .slice A0 n0 c0, .slice B0 m0 d0] 27)).alloc (.cells #[.bool false, .slice none 0 0] 25)).heap.size := by simp <;> omega
  have g0 : ((w.alloc (.cells #[.bool false, .slice A0 n0 c0, .slice B0 m0 d0] 27)).alloc (.cells #[.bool false, .slice none 0 0] 25)).cell? ⟨w.heap.size + 1, 0, none⟩ = some (.bool false) := by simp [go_sem]
  have g1 : ((w.alloc (.cells #[.bool false, .slice A0 n0 c0, .slice B0 m0 d0] 27)).alloc (.cells #[.bool false, .slice none 0 0] 25)).cell? ⟨w.heap.size + 1, 1, none⟩ = some (.slice none 0 0) := by simp [go_sem]
  have gl : w.heap.size + 1 < ((w.alloc (.cells #[.bool false, .slice A0 n0 c0, .slice B0 m0 d0] 27)).alloc (.cells #[.bool false, .slice none 0 0] 25)).heap.size := by simp <;> omega
  generalize (w.alloc (.cells #[.bool false, .slice A0 n0 c0, .slice B0 m0 d0] 27)).alloc (.cells #[.bool false, .slice none 0 0] 25) = v1 at *
  refine (isgrid_2 _ h0 hj2).mono ?_
  rintro e w2 ⟨rfl, b⟩
  replace f0 := fK b f0 gl
  replace f1 := fK b f1 gl
  replace p0 := p0.on b
  replace q0 := q0.on b
  replace r0 := cK b r0 rl
  replace r1 := cK b r1 rl
  replace r2 := cK b r2 rl
  replace rl := lK b rl
  replace k0 := cK b k0 kl
  replace k1 := cK b k1 kl
  replace k2 := cK b k2 kl
  replace kl := lK b kl
  replace g0 := cK b g0 gl
  replace g1 := cK b g1 gl
  replace gl := lK b gl
  replace cc := bK cc b
  clear b
  go_wp2_with fail
  refine (CU p0).mono ?_
  rintro e w3 ⟨Av, nv, cv, rfl, v, b⟩
  replace f0 := fK b f0 gl
  replace f1 := fK b f1 gl
  replace p0 := p0.on b
  replace q0 := q0.on b
  replace r0 := cK b r0 rl
  replace r1 := cK b r1 rl
  replace r2 := cK b r2 rl
  replace rl := lK b rl
  replace k0 := cK b k0 kl
  replace k1 := cK b k1 kl
  replace k2 := cK b k2 kl
  replace kl := lK b kl
  replace g0 := cK b g0 gl
  replace g1 := cK b g1 gl
  replace gl := lK b gl
  replace cc := bK cc b
  clear b
  go_wp2_with fail
  refine (CD v q0).mono ?_
  rintro e w4 ⟨Aq, nq, cq, Ar, nr_, cr, rfl, dq, dr, b⟩
  replace f0 := fK b f0 gl
  replace f1 := fK b f1 gl
  replace p0 := p0.on b
  replace q0 := q0.on b
  replace v := v.on b
  replace r0 := cK b r0 rl
  replace r1 := cK b r1 rl
  replace r2 := cK b r2 rl
  replace rl := lK b rl
  replace k0 := cK b k0 kl
  replace k1 := cK b k1 kl
  replace k2 := cK b k2 kl
  replace kl := lK b kl
  replace g0 := cK b g0 gl
  replace g1 := cK b g1 gl
  replace gl := lK b gl
  replace cc := bK cc b
  clear b
  go_wp2_with fail
  refine (CK r0 r1 r2 dq dr q0).mono ?_
  rintro e w5 ⟨rfl, b⟩
  replace f0 := fK b f0 gl
  replace f1 := fK b f1 gl
  replace p0 := p0.on b
  replace q0 := q0.on b
  replace v := v.on b
  replace dq := dq.on b
  replace dr := dr.on b
  replace r0 := cK b r0 rl
  replace r1 := cK b r1 rl
  replace r2 := cK b r2 rl
  replace rl := lK b rl
  replace k0 := cK b k0 kl
  replace k1 := cK b k1 kl
  replace k2 := cK b k2 kl
  replace kl := lK b kl
  replace g0 := cK b g0 gl
  replace g1 := cK b g1 gl
  replace gl := lK b gl
  replace cc := bK cc b
  clear b
  have hn : Zn w5 false Aq nq cq (nea x0 k) := by rw [HV.out]; exact zn_nat dq
  have eb : Box w5 (w.heap.size + 1) false none 0 0 := ⟨g0, g1⟩
  have HZ : Hid (Zn ((w5.setCell ⟨w.heap.size + 1, 0, none⟩ (.bool false)).setCell ⟨w.heap.size + 1, 1, none⟩ (.slice Aq nq cq)) false Aq nq cq (nea x0 k)) := Lib.hid (hn.put eb _ _)
  clear hn
  go_wp2_with fail
  refine bodyPost_ret (v := .tuple #[.agg #[.bool false, .slice Aq nq cq], .int .i64 0]) (by simp [results, Try.results35, go_sem, g0, g1]) rfl ⟨_, _, _, _, rfl, HZ.out, below_put cc (by omega) _ _⟩

set_option maxRecDepth 100000 in
set_option maxHeartbeats 8000000 in
theorem rdnea_ft {w : World} {b0 : Bool} {A0 B0 : Option Addr} {n0 c0 m0 d0 : Nat} {g : Nat} {x0 : Rat} (hx : Rt w b0 A0 n0 c0 B0 m0 d0 x0) (s0 : Sz x0 20) {j : Int} (h0 : 0 ≤ j) (h1 : j ≤ 500) (hg : BoxR w g b0 A0 n0 c0 B0 m0 d0) (hs : ¬ x0.num < 0) (ht : fars (x0.num.natAbs * 2 ^ j.toNat) x0.den = true) :
    Calls Try.prog 35 #[.agg #[.bool b0, .slice A0 n0 c0, .slice B0 m0 d0], .int .i64 j, .func (.func 42) #[] #[.pointer (some ⟨g, 0, none⟩)]] w (GotZp w (nea x0 j.toNat) 0) := by
  have je := to_nat h0
  have jl : j.toNat ≤ 500 := by omega
  have hj2 : j ≤ 2000 := by omega
  obtain ⟨k, hk⟩ : ∃ k, j.toNat = k := ⟨_, rfl⟩
  rw [hk] at je jl ht ⊢
  have lk := len_pow2 jl
  have p0 := hx.1.1
  have q0 := hx.2
  have hb0 : b0 = false := by rw [hx.1.2]; exact decide_eq_false hs
  subst hb0
  have lp := s0.1
  have lq := s0.2
  have hq0 := x0.den_nz
  have lu : (limbs (x0.num.natAbs * 2 ^ k)).length ≤ 28 := limbs_length_mul lp lk
  have ld : (limbs (x0.num.natAbs * 2 ^ k / x0.den)).length ≤ 28 := Nat.le_trans (limbs_length_mono (Nat.div_le_self _ _)) lu
  have hlt := Nat.mod_lt (x0.num.natAbs * 2 ^ k) (Nat.pos_of_ne_zero hq0)
  have lr : (limbs (x0.num.natAbs * 2 ^ k % x0.den)).length ≤ 20 := Nat.le_trans (limbs_length_mono (Nat.le_of_lt hlt)) lq
  clear hlt
  have HF : nea x0 k = (((x0.num.natAbs * 2 ^ k / x0.den + 1 : Nat) : Nat) : Int) := by rw [nea_pos x0 k hs, if_pos ht]
  have CK : ∀ {W : World} {A B : Option Addr} {n c m d : Nat}, W.cell? ⟨g, 0, none⟩ = some (.bool false) → W.cell? ⟨g, 1, none⟩ = some (.slice A0 n0 c0) → W.cell? ⟨g, 2, none⟩ = some (.slice B0 m0 d0) → Num W A n c (x0.num.natAbs * 2 ^ k / x0.den) → Num W B m d (x0.num.natAbs * 2 ^ k % x0.den) → Num W B0 m0 d0 x0.den → Calls Try.prog 42 #[.slice A n c, .slice B m d, .pointer (some ⟨g, 0, none⟩)] W (GotV W (.bool true)) := fun r0 r1 r2 ha hb hq => by rw [← ht]; exact knear_N r0 r1 r2 ha hb hq (by omega) (by omega)
  obtain ⟨u, hU⟩ : ∃ u, x0.num.natAbs * 2 ^ k = u := ⟨_, rfl⟩
  obtain ⟨t, hT⟩ : ∃ t, x0.num.natAbs * 2 ^ k / x0.den = t := ⟨_, rfl⟩
  obtain ⟨l, hL⟩ : ∃ l, x0.num.natAbs * 2 ^ k % x0.den = l := ⟨_, rfl⟩
  rw [hT, hL] at CK
  rw [hT] at HF ld
  rw [hL] at lr
  rw [hU] at lu hT hL
  have CU : ∀ {W : World} {A : Option Addr} {m c : Nat}, Num W A m c x0.num.natAbs → Calls Try.prog 48 #[.slice A m c, .int .i64 j] W (GotP W u 0) := fun ha => by rw [← je, ← hU]; exact dshl_N ha (by omega) (by omega)
  have CD : ∀ {W : World} {A B : Option Addr} {n c m d : Nat}, Num W A n c u → Num W B m d x0.den → Calls Try.prog 61 #[.slice A n c, .slice B m d] W (GotD W t l) := fun ha hb => by rw [← hT, ← hL]; exact ddiv_N ha hb (by omega) (by omega) hq0
  have HV := Lib.hid HF
  clear HF hU hT hL hs ht lu
  have la : (limbs (t + 1)).length ≤ 29 := limbs_length_add ld (Nat.le_trans (len_one (by decide)) (by omega))
  have l1 : (limbs 1).length ≤ 1000 := Nat.le_trans (len_one (by decide)) (by omega)
  obtain ⟨r0, r1, r2⟩ := hg
  have rl := cell_lt r0
  simp only at rl
  have cc := Below.refl w.heap.size w
  go_enter Try.func35, Try.ntmps35
  go_wp2_with fail
  have f0 : ((w.alloc (.cells #[.bool false, .slice A0 n0 c0, .slice B0 m0 d0] 27)).alloc (.cells #[.bool false, .slice none 0 0] 25)).frozen? ⟨w.heap.size + 1, 0, none⟩ = false := by simp [go_sem]
  have f1 : ((w.alloc (.cells #[.bool false, .slice A0 n0 c0, .slice B0 m0 d0] 27)).alloc (.cells #[.bool false, .slice none 0 0] 25)).frozen? ⟨w.heap.size + 1, 1, none⟩ = false := by simp [go_sem]
  have bA : Below w.heap.size w ((w.alloc (.cells #[.bool false, .slice A0 n0 c0, .slice B0 m0 d0] 27)).alloc (.cells #[.bool false, .slice none 0 0] 25)) := (((Below.refl _ w).alloc (by simp) _).alloc (by simp) _)
  replace p0 := p0.on bA
  replace q0 := q0.on bA
  replace r0 := cK bA r0 rl
  replace r1 := cK bA r1 rl
  replace r2 := cK bA r2 rl
  replace rl := lK bA rl
  replace cc := bK cc bA
  clear bA
  have k0 : ((w.alloc (.cells #[.bool false, .slice A0 n0 c0, .slice B0 m0 d0] 27)).alloc (.cells #[.bool false, .slice none 0 0] 25)).cell? ⟨w.heap.size, 0, none⟩ = some (.bool false) := by simp [go_sem]
  have k1 : ((w.alloc (.cells #[.bool false, .slice A0 n0 c0, .slice B0 m0 d0] 27)).alloc (.cells #[.bool false, .slice none 0 0] 25)).cell? ⟨w.heap.size, 1, none⟩ = some (.slice A0 n0 c0) := by simp [go_sem]
  have k2 : ((w.alloc (.cells #[.bool false, .slice A0 n0 c0, .slice B0 m0 d0] 27)).alloc (.cells #[.bool false, .slice none 0 0] 25)).cell? ⟨w.heap.size, 2, none⟩ = some (.slice B0 m0 d0) := by simp [go_sem]
  have kl : w.heap.size < ((w.alloc (.cells #[.bool false, .slice A0 n0 c0, .slice B0 m0 d0] 27)).alloc (.cells #[.bool false, .slice none 0 0] 25)).heap.size := by simp <;> omega
  have g0 : ((w.alloc (.cells #[.bool false, .slice A0 n0 c0, .slice B0 m0 d0] 27)).alloc (.cells #[.bool false, .slice none 0 0] 25)).cell? ⟨w.heap.size + 1, 0, none⟩ = some (.bool false) := by simp [go_sem]
  have g1 : ((w.alloc (.cells #[.bool false, .slice A0 n0 c0, .slice B0 m0 d0] 27)).alloc (.cells #[.bool false, .slice none 0 0] 25)).cell? ⟨w.heap.size + 1, 1, none⟩ = some (.slice none 0 0) := by simp [go_sem]
  have gl : w.heap.size + 1 < ((w.alloc (.cells #[.bool false, .slice A0 n0 c0, .slice B0 m0 d0] 27)).alloc (.cells #[.bool false, .slice none 0 0] 25)).heap.size := by simp <;> omega
  generalize (w.alloc (.cells #[.bool false, .slice A0 n0 c0, .slice B0 m0 d0] 27)).alloc (.cells #[.bool false, .slice none 0 0] 25) = v1 at *
  refine (isgrid_2 _ h0 hj2).mono ?_
  rintro e w2 ⟨rfl, b⟩
  replace f0 := fK b f0 gl
  replace f1 := fK b f1 gl
  replace p0 := p0.on b
  replace q0 := q0.on b
  replace r0 := cK b r0 rl
  replace r1 := cK b r1 rl
  replace r2 := cK b r2 rl
  replace rl := lK b rl
  replace k0 := cK b k0 kl
  replace k1 := cK b k1 kl
  replace k2 := cK b k2 kl
  replace kl := lK b kl
  replace g0 := cK b g0 gl
  replace g1 := cK b g1 gl
  replace gl := lK b gl
  replace cc := bK cc b
  clear b
  go_wp2_with fail
  refine (CU p0).mono ?_
  rintro e w3 ⟨Av, nv, cv, rfl, v, b⟩
  replace f0 := fK b f0 gl
  replace f1 := fK b f1 gl
  replace p0 := p0.on b
  replace q0 := q0.on b
  replace r0 := cK b r0 rl
  replace r1 := cK b r1 rl
  replace r2 := cK b r2 rl
  replace rl := lK b rl
  replace k0 := cK b k0 kl
  replace k1 := cK b k1 kl
  replace k2 := cK b k2 kl
  replace kl := lK b kl
  replace g0 := cK b g0 gl
  replace g1 := cK b g1 gl
  replace gl := lK b gl
  replace cc := bK cc b
  clear b
  go_wp2_with fail
  refine (CD v q0).mono ?_
  rintro e w4 ⟨Aq, nq, cq, Ar, nr_, cr, rfl, dq, dr, b⟩
  replace f0 := fK b f0 gl
  replace f1 := fK b f1 gl
  replace p0 := p0.on b
  replace q0 := q0.on b
  replace v := v.on b
  replace r0 := cK b r0 rl
  replace r1 := cK b r1 rl
  replace r2 := cK b r2 rl
  replace rl := lK b rl
  replace k0 := cK b k0 kl
  replace k1 := cK b k1 kl
  replace k2 := cK b k2 kl
  replace kl := lK b kl
  replace g0 := cK b g0 gl
  replace g1 := cK b g1 gl
  replace gl := lK b gl
  replace cc := bK cc b
  clear b
  go_wp2_with fail
  refine (CK r0 r1 r2 dq dr q0).mono ?_
  rintro e w5 ⟨rfl, b⟩
  replace f0 := fK b f0 gl
  replace f1 := fK b f1 gl
  replace p0 := p0.on b
  replace q0 := q0.on b
  replace v := v.on b
  replace dq := dq.on b
  replace dr := dr.on b
  replace r0 := cK b r0 rl
  replace r1 := cK b r1 rl
  replace r2 := cK b r2 rl
  replace rl := lK b rl
  replace k0 := cK b k0 kl
  replace k1 := cK b k1 kl
  replace k2 := cK b k2 kl
  replace kl := lK b kl
  replace g0 := cK b g0 gl
  replace g1 := cK b g1 gl
  replace gl := lK b gl
  replace cc := bK cc b
  clear b
  go_wp2_with fail
  refine (of_N _ 1 (by decide)).mono ?_
  rintro e w6 ⟨Ao, no, co, rfl, o, b⟩
  replace f0 := fK b f0 gl
  replace f1 := fK b f1 gl
  replace p0 := p0.on b
  replace q0 := q0.on b
  replace v := v.on b
  replace dq := dq.on b
  replace dr := dr.on b
  replace r0 := cK b r0 rl
  replace r1 := cK b r1 rl
  replace r2 := cK b r2 rl
  replace rl := lK b rl
  replace k0 := cK b k0 kl
  replace k1 := cK b k1 kl
  replace k2 := cK b k2 kl
  replace kl := lK b kl
  replace g0 := cK b g0 gl
  replace g1 := cK b g1 gl
  replace gl := lK b gl
  replace cc := bK cc b
  clear b
  go_wp2_with fail
  refine (add_N dq o (by omega) (by omega)).mono ?_
  rintro e w7 ⟨Aa, na, ca, rfl, a, b⟩
  replace f0 := fK b f0 gl
  replace f1 := fK b f1 gl
  replace p0 := p0.on b
  replace q0 := q0.on b
  replace v := v.on b
  replace dq := dq.on b
  replace dr := dr.on b
  replace o := o.on b
  replace r0 := cK b r0 rl
  replace r1 := cK b r1 rl
  replace r2 := cK b r2 rl
  replace rl := lK b rl
  replace k0 := cK b k0 kl
  replace k1 := cK b k1 kl
  replace k2 := cK b k2 kl
  replace kl := lK b kl
  replace g0 := cK b g0 gl
  replace g1 := cK b g1 gl
  replace gl := lK b gl
  replace cc := bK cc b
  clear b
  have hn : Zn w7 false Aa na ca (nea x0 k) := by rw [HV.out]; exact zn_nat a
  have eb : Box w7 (w.heap.size + 1) false none 0 0 := ⟨g0, g1⟩
  have HZ : Hid (Zn ((w7.setCell ⟨w.heap.size + 1, 0, none⟩ (.bool false)).setCell ⟨w.heap.size + 1, 1, none⟩ (.slice Aa na ca)) false Aa na ca (nea x0 k)) := Lib.hid (hn.put eb _ _)
  clear hn
  go_wp2_with fail
  refine bodyPost_ret (v := .tuple #[.agg #[.bool false, .slice Aa na ca], .int .i64 0]) (by simp [results, Try.results35, go_sem, g0, g1]) rfl ⟨_, _, _, _, rfl, HZ.out, below_put cc (by omega) _ _⟩

set_option maxRecDepth 100000 in
set_option maxHeartbeats 8000000 in
theorem rdnea_tf0 {w : World} {b0 : Bool} {A0 B0 : Option Addr} {n0 c0 m0 d0 : Nat} {g : Nat} {x0 : Rat} (hx : Rt w b0 A0 n0 c0 B0 m0 d0 x0) (s0 : Sz x0 20) {j : Int} (h0 : 0 ≤ j) (h1 : j ≤ 500) (hg : BoxR w g b0 A0 n0 c0 B0 m0 d0) (hs : x0.num < 0) (ht : fars (x0.num.natAbs * 2 ^ j.toNat) x0.den = false) (hz : x0.num.natAbs * 2 ^ j.toNat / x0.den = 0) :
    Calls Try.prog 35 #[.agg #[.bool b0, .slice A0 n0 c0, .slice B0 m0 d0], .int .i64 j, .func (.func 42) #[] #[.pointer (some ⟨g, 0, none⟩)]] w (GotZp w (nea x0 j.toNat) 0) := by
  have je := to_nat h0
  have jl : j.toNat ≤ 500 := by omega
  have hj2 : j ≤ 2000 := by omega
  obtain ⟨k, hk⟩ : ∃ k, j.toNat = k := ⟨_, rfl⟩
  rw [hk] at je jl ht hz ⊢
  have lk := len_pow2 jl
  have p0 := hx.1.1
  have q0 := hx.2
  have hb0 : b0 = true := by rw [hx.1.2]; exact decide_eq_true hs
  subst hb0
  have lp := s0.1
  have lq := s0.2
  have hq0 := x0.den_nz
  have lu : (limbs (x0.num.natAbs * 2 ^ k)).length ≤ 28 := limbs_length_mul lp lk
  have ld : (limbs (x0.num.natAbs * 2 ^ k / x0.den)).length ≤ 28 := Nat.le_trans (limbs_length_mono (Nat.div_le_self _ _)) lu
  have hlt := Nat.mod_lt (x0.num.natAbs * 2 ^ k) (Nat.pos_of_ne_zero hq0)
  have lr : (limbs (x0.num.natAbs * 2 ^ k % x0.den)).length ≤ 20 := Nat.le_trans (limbs_length_mono (Nat.le_of_lt hlt)) lq
  clear hlt
  have HF : nea x0 k = -(((x0.num.natAbs * 2 ^ k / x0.den : Nat) : Nat) : Int) := by rw [nea_less x0 k hs, if_neg (by rw [ht]; decide), Nat.add_zero]
  have CK : ∀ {W : World} {A B : Option Addr} {n c m d : Nat}, W.cell? ⟨g, 0, none⟩ = some (.bool true) → W.cell? ⟨g, 1, none⟩ = some (.slice A0 n0 c0) → W.cell? ⟨g, 2, none⟩ = some (.slice B0 m0 d0) → Num W A n c (x0.num.natAbs * 2 ^ k / x0.den) → Num W B m d (x0.num.natAbs * 2 ^ k % x0.den) → Num W B0 m0 d0 x0.den → Calls Try.prog 42 #[.slice A n c, .slice B m d, .pointer (some ⟨g, 0, none⟩)] W (GotV W (.bool false)) := fun r0 r1 r2 ha hb hq => by rw [← ht]; exact knear_N r0 r1 r2 ha hb hq (by omega) (by omega)
  obtain ⟨u, hU⟩ : ∃ u, x0.num.natAbs * 2 ^ k = u := ⟨_, rfl⟩
  obtain ⟨t, hT⟩ : ∃ t, x0.num.natAbs * 2 ^ k / x0.den = t := ⟨_, rfl⟩
  obtain ⟨l, hL⟩ : ∃ l, x0.num.natAbs * 2 ^ k % x0.den = l := ⟨_, rfl⟩
  rw [hT, hL] at CK
  rw [hT] at HF ld hz
  rw [hL] at lr
  rw [hU] at lu hT hL
  have CU : ∀ {W : World} {A : Option Addr} {m c : Nat}, Num W A m c x0.num.natAbs → Calls Try.prog 48 #[.slice A m c, .int .i64 j] W (GotP W u 0) := fun ha => by rw [← je, ← hU]; exact dshl_N ha (by omega) (by omega)
  have CD : ∀ {W : World} {A B : Option Addr} {n c m d : Nat}, Num W A n c u → Num W B m d x0.den → Calls Try.prog 61 #[.slice A n c, .slice B m d] W (GotD W t l) := fun ha hb => by rw [← hT, ← hL]; exact ddiv_N ha hb (by omega) (by omega) hq0
  subst hz
  have HV := Lib.hid HF
  clear HF hU hT hL hs ht lu
  obtain ⟨r0, r1, r2⟩ := hg
  have rl := cell_lt r0
  simp only at rl
  have cc := Below.refl w.heap.size w
  go_enter Try.func35, Try.ntmps35
  go_wp2_with fail
  have f0 : ((w.alloc (.cells #[.bool true, .slice A0 n0 c0, .slice B0 m0 d0] 27)).alloc (.cells #[.bool false, .slice none 0 0] 25)).frozen? ⟨w.heap.size + 1, 0, none⟩ = false := by simp [go_sem]
  have f1 : ((w.alloc (.cells #[.bool true, .slice A0 n0 c0, .slice B0 m0 d0] 27)).alloc (.cells #[.bool false, .slice none 0 0] 25)).frozen? ⟨w.heap.size + 1, 1, none⟩ = false := by simp [go_sem]
  have bA : Below w.heap.size w ((w.alloc (.cells #[.bool true, .slice A0 n0 c0, .slice B0 m0 d0] 27)).alloc (.cells #[.bool false, .slice none 0 0] 25)) := (((Below.refl _ w).alloc (by simp) _).alloc (by simp) _)
  replace p0 := p0.on bA
  replace q0 := q0.on bA
  replace r0 := cK bA r0 rl
  replace r1 := cK bA r1 rl
  replace r2 := cK bA r2 rl
  replace rl := lK bA rl
  replace cc := bK cc bA
  clear bA
  have k0 : ((w.alloc (.cells #[.bool true, .slice A0 n0 c0, .slice B0 m0 d0] 27)).alloc (.cells #[.bool false, .slice none 0 0] 25)).cell? ⟨w.heap.size, 0, none⟩ = some (.bool true) := by simp [go_sem]
  have k1 : ((w.alloc (.cells #[.bool true, .slice A0 n0 c0, .slice B0 m0 d0] 27)).alloc (.cells #[.bool false, .slice none 0 0] 25)).cell? ⟨w.heap.size, 1, none⟩ = some (.slice A0 n0 c0) := by simp [go_sem]
  have k2 : ((w.alloc (.cells #[.bool true, .slice A0 n0 c0, .slice B0 m0 d0] 27)).alloc (.cells #[.bool false, .slice none 0 0] 25)).cell? ⟨w.heap.size, 2, none⟩ = some (.slice B0 m0 d0) := by simp [go_sem]
  have kl : w.heap.size < ((w.alloc (.cells #[.bool true, .slice A0 n0 c0, .slice B0 m0 d0] 27)).alloc (.cells #[.bool false, .slice none 0 0] 25)).heap.size := by simp <;> omega
  have g0 : ((w.alloc (.cells #[.bool true, .slice A0 n0 c0, .slice B0 m0 d0] 27)).alloc (.cells #[.bool false, .slice none 0 0] 25)).cell? ⟨w.heap.size + 1, 0, none⟩ = some (.bool false) := by simp [go_sem]
  have g1 : ((w.alloc (.cells #[.bool true, .slice A0 n0 c0, .slice B0 m0 d0] 27)).alloc (.cells #[.bool false, .slice none 0 0] 25)).cell? ⟨w.heap.size + 1, 1, none⟩ = some (.slice none 0 0) := by simp [go_sem]
  have gl : w.heap.size + 1 < ((w.alloc (.cells #[.bool true, .slice A0 n0 c0, .slice B0 m0 d0] 27)).alloc (.cells #[.bool false, .slice none 0 0] 25)).heap.size := by simp <;> omega
  generalize (w.alloc (.cells #[.bool true, .slice A0 n0 c0, .slice B0 m0 d0] 27)).alloc (.cells #[.bool false, .slice none 0 0] 25) = v1 at *
  refine (isgrid_2 _ h0 hj2).mono ?_
  rintro e w2 ⟨rfl, b⟩
  replace f0 := fK b f0 gl
  replace f1 := fK b f1 gl
  replace p0 := p0.on b
  replace q0 := q0.on b
  replace r0 := cK b r0 rl
  replace r1 := cK b r1 rl
  replace r2 := cK b r2 rl
  replace rl := lK b rl
  replace k0 := cK b k0 kl
  replace k1 := cK b k1 kl
  replace k2 := cK b k2 kl
  replace kl := lK b kl
  replace g0 := cK b g0 gl
  replace g1 := cK b g1 gl
  replace gl := lK b gl
  replace cc := bK cc b
  clear b
  go_wp2_with fail
  refine (CU p0).mono ?_
  rintro e w3 ⟨Av, nv, cv, rfl, v, b⟩
  replace f0 := fK b f0 gl
  replace f1 := fK b f1 gl
  replace p0 := p0.on b
  replace q0 := q0.on b
  replace r0 := cK b r0 rl
  replace r1 := cK b r1 rl
  replace r2 := cK b r2 rl
  replace rl := lK b rl
  replace k0 := cK b k0 kl
  replace k1 := cK b k1 kl
  replace k2 := cK b k2 kl
  replace kl := lK b kl
  replace g0 := cK b g0 gl
  replace g1 := cK b g1 gl
  replace gl := lK b gl
  replace cc := bK cc b
  clear b
  go_wp2_with fail
  refine (CD v q0).mono ?_
  rintro e w4 ⟨Aq, nq, cq, Ar, nr_, cr, rfl, dq, dr, b⟩
  replace f0 := fK b f0 gl
  replace f1 := fK b f1 gl
  replace p0 := p0.on b
  replace q0 := q0.on b
  replace v := v.on b
  replace r0 := cK b r0 rl
  replace r1 := cK b r1 rl
  replace r2 := cK b r2 rl
  replace rl := lK b rl
  replace k0 := cK b k0 kl
  replace k1 := cK b k1 kl
  replace k2 := cK b k2 kl
  replace kl := lK b kl
  replace g0 := cK b g0 gl
  replace g1 := cK b g1 gl
  replace gl := lK b gl
  replace cc := bK cc b
  clear b
  go_wp2_with fail
  refine (CK r0 r1 r2 dq dr q0).mono ?_
  rintro e w5 ⟨rfl, b⟩
  replace f0 := fK b f0 gl
  replace f1 := fK b f1 gl
  replace p0 := p0.on b
  replace q0 := q0.on b
  replace v := v.on b
  replace dq := dq.on b
  replace dr := dr.on b
  replace r0 := cK b r0 rl
  replace r1 := cK b r1 rl
  replace r2 := cK b r2 rl
  replace rl := lK b rl
  replace k0 := cK b k0 kl
  replace k1 := cK b k1 kl
  replace k2 := cK b k2 kl
  replace kl := lK b kl
  replace g0 := cK b g0 gl
  replace g1 := cK b g1 gl
  replace gl := lK b gl
  replace cc := bK cc b
  clear b
  have hn0 := num_void dq rfl
  subst hn0
  have hn : Zn w5 false Aq 0 cq (nea x0 k) := by rw [HV.out]; exact zn_nat dq
  have eb : Box w5 (w.heap.size + 1) false none 0 0 := ⟨g0, g1⟩
  have HZ : Hid (Zn ((w5.setCell ⟨w.heap.size + 1, 0, none⟩ (.bool false)).setCell ⟨w.heap.size + 1, 1, none⟩ (.slice Aq 0 cq)) false Aq 0 cq (nea x0 k)) := Lib.hid (hn.put eb _ _)
  clear hn
  go_wp2_with fail
  refine bodyPost_ret (v := .tuple #[.agg #[.bool false, .slice Aq 0 cq], .int .i64 0]) (by simp [results, Try.results35, go_sem, g0, g1]) rfl ⟨_, _, _, _, rfl, HZ.out, below_put cc (by omega) _ _⟩

set_option maxRecDepth 100000 in
set_option maxHeartbeats 8000000 in
theorem rdnea_tf1 {w : World} {b0 : Bool} {A0 B0 : Option Addr} {n0 c0 m0 d0 : Nat} {g : Nat} {x0 : Rat} (hx : Rt w b0 A0 n0 c0 B0 m0 d0 x0) (s0 : Sz x0 20) {j : Int} (h0 : 0 ≤ j) (h1 : j ≤ 500) (hg : BoxR w g b0 A0 n0 c0 B0 m0 d0) (hs : x0.num < 0) (ht : fars (x0.num.natAbs * 2 ^ j.toNat) x0.den = false) (hz : x0.num.natAbs * 2 ^ j.toNat / x0.den ≠ 0) :
    Calls Try.prog 35 #[.agg #[.bool b0, .slice A0 n0 c0, .slice B0 m0 d0], .int .i64 j, .func (.func 42) #[] #[.pointer (some ⟨g, 0, none⟩)]] w (GotZp w (nea x0 j.toNat) 0) := by
  have je := to_nat h0
  have jl : j.toNat ≤ 500 := by omega
  have hj2 : j ≤ 2000 := by omega
  obtain ⟨k, hk⟩ : ∃ k, j.toNat = k := ⟨_, rfl⟩
  rw [hk] at je jl ht hz ⊢
  have lk := len_pow2 jl
  have p0 := hx.1.1
  have q0 := hx.2
  have hb0 : b0 = true := by rw [hx.1.2]; exact decide_eq_true hs
  subst hb0
  have lp := s0.1
  have lq := s0.2
  have hq0 := x0.den_nz
  have lu : (limbs (x0.num.natAbs * 2 ^ k)).length ≤ 28 := limbs_length_mul lp lk
  have ld : (limbs (x0.num.natAbs * 2 ^ k / x0.den)).length ≤ 28 := Nat.le_trans (limbs_length_mono (Nat.div_le_self _ _)) lu
  have hlt := Nat.mod_lt (x0.num.natAbs * 2 ^ k) (Nat.pos_of_ne_zero hq0)
  have lr : (limbs (x0.num.natAbs * 2 ^ k % x0.den)).length ≤ 20 := Nat.le_trans (limbs_length_mono (Nat.le_of_lt hlt)) lq
  clear hlt
  have HF : nea x0 k = -(((x0.num.natAbs * 2 ^ k / x0.den : Nat) : Nat) : Int) := by rw [nea_less x0 k hs, if_neg (by rw [ht]; decide), Nat.add_zero]
  have CK : ∀ {W : World} {A B : Option Addr} {n c m d : Nat}, W.cell? ⟨g, 0, none⟩ = some (.bool true) → W.cell? ⟨g, 1, none⟩ = some (.slice A0 n0 c0) → W.cell? ⟨g, 2, none⟩ = some (.slice B0 m0 d0) → Num W A n c (x0.num.natAbs * 2 ^ k / x0.den) → Num W B m d (x0.num.natAbs * 2 ^ k % x0.den) → Num W B0 m0 d0 x0.den → Calls Try.prog 42 #[.slice A n c, .slice B m d, .pointer (some ⟨g, 0, none⟩)] W (GotV W (.bool false)) := fun r0 r1 r2 ha hb hq => by rw [← ht]; exact knear_N r0 r1 r2 ha hb hq (by omega) (by omega)
  obtain ⟨u, hU⟩ : ∃ u, x0.num.natAbs * 2 ^ k = u := ⟨_, rfl⟩
  obtain ⟨t, hT⟩ : ∃ t, x0.num.natAbs * 2 ^ k / x0.den = t := ⟨_, rfl⟩
  obtain ⟨l, hL⟩ : ∃ l, x0.num.natAbs * 2 ^ k % x0.den = l := ⟨_, rfl⟩
  rw [hT, hL] at CK
  rw [hT] at HF ld hz
  rw [hL] at lr
  rw [hU] at lu hT hL
  have CU : ∀ {W : World} {A : Option Addr} {m c : Nat}, Num W A m c x0.num.natAbs → Calls Try.prog 48 #[.slice A m c, .int .i64 j] W (GotP W u 0) := fun ha => by rw [← je, ← hU]; exact dshl_N ha (by omega) (by omega)
  have CD : ∀ {W : World} {A B : Option Addr} {n c m d : Nat}, Num W A n c u → Num W B m d x0.den → Calls Try.prog 61 #[.slice A n c, .slice B m d] W (GotD W t l) := fun ha hb => by rw [← hT, ← hL]; exact ddiv_N ha hb (by omega) (by omega) hq0
  have HV := Lib.hid HF
  clear HF hU hT hL hs ht lu
  have HT0 := Lib.hid hz
  clear hz
  obtain ⟨r0, r1, r2⟩ := hg
  have rl := cell_lt r0
  simp only at rl
  have cc := Below.refl w.heap.size w
  go_enter Try.func35, Try.ntmps35
  go_wp2_with fail
  have f0 : ((w.alloc (.cells #[.bool true, .slice A0 n0 c0, .slice B0 m0 d0] 27)).alloc (.cells #[.bool false, .slice none 0 0] 25)).frozen? ⟨w.heap.size + 1, 0, none⟩ = false := by simp [go_sem]
  have f1 : ((w.alloc (.cells #[.bool true, .slice A0 n0 c0, .slice B0 m0 d0] 27)).alloc (.cells #[.bool false, .slice none 0 0] 25)).frozen? ⟨w.heap.size + 1, 1, none⟩ = false := by simp [go_sem]
  have bA : Below w.heap.size w ((w.alloc (.cells #[.bool true, .slice A0 n0 c0, .slice B0 m0 d0] 27)).alloc (.cells #[.bool false, .slice none 0 0] 25)) := (((Below.refl _ w).alloc (by simp) _).alloc (by simp) _)
  replace p0 := p0.on bA
  replace q0 := q0.on bA
  replace r0 := cK bA r0 rl
  replace r1 := cK bA r1 rl
  replace r2 := cK bA r2 rl
  replace rl := lK bA rl
  replace cc := bK cc bA
  clear bA
  have k0 : ((w.alloc (.cells #[.bool true, .slice A0 n0 c0, .slice B0 m0 d0] 27)).alloc (.cells #[.bool false, .slice none 0 0] 25)).cell? ⟨w.heap.size, 0, none⟩ = some (.bool true) := by simp [go_sem]
  have k1 : ((w.alloc (.cells #[.bool true, .slice A0 n0 c0, .slice B0 m0 d0] 27)).alloc (.cells #[.bool false, .slice none 0 0] 25)).cell? ⟨w.heap.size, 1, none⟩ = some (.slice A0 n0 c0) := by simp [go_sem]
  have k2 : ((w.alloc (.cells #[.bool true, .slice A0 n0 c0, .slice B0 m0 d0] 27)).alloc (.cells #[.bool false, .slice none 0 0] 25)).cell? ⟨w.heap.size, 2, none⟩ = some (.slice B0 m0 d0) := by simp [go_sem]
  have kl : w.heap.size < ((w.alloc (.cells #[.bool true, .slice A0 n0 c0, .slice B0 m0 d0] 27)).alloc (.cells #[.bool false, .slice none 0 0] 25)).heap.size := by simp <;> omega
  have g0 : ((w.alloc (.cells #[.bool true, .slice A0 n0 c0, .slice B0 m0 d0] 27)).alloc (.cells #[.bool false, .slice none 0 0] 25)).cell? ⟨w.heap.size + 1, 0, none⟩ = some (.bool false) := by simp [go_sem]
  have g1 : ((w.alloc (.cells #[.bool true, .slice A0 n0 c0, .slice B0 m0 d0] 27)).alloc (.cells #[.bool false, .slice none 0 0] 25)).cell? ⟨w.heap.size + 1, 1, none⟩ = some (.slice none 0 0) := by simp [go_sem]
  have gl : w.heap.size + 1 < ((w.alloc (.cells #[.bool true, .slice A0 n0 c0, .slice B0 m0 d0] 27)).alloc (.cells #[.bool false, .slice none 0 0] 25)).heap.size := by simp <;> omega
  generalize (w.alloc (.cells #[.bool true, .slice A0 n0 c0, .slice B0 m0 d0] 27)).alloc (.cells #[.bool false, .slice none 0 0] 25) = v1 at *
  refine (isgrid_2 _ h0 hj2).mono ?_
  rintro e w2 ⟨rfl, b⟩
  replace f0 := fK b f0 gl
  replace f1 := fK b f1 gl
  replace p0 := p0.on b
  replace q0 := q0.on b
  replace r0 := cK b r0 rl
  replace r1 := cK b r1 rl
  replace r2 := cK b r2 rl
  replace rl := lK b rl
  replace k0 := cK b k0 kl
  replace k1 := cK b k1 kl
  replace k2 := cK b k2 kl
  replace kl := lK b kl
  replace g0 := cK b g0 gl
  replace g1 := cK b g1 gl
  replace gl := lK b gl
  replace cc := bK cc b
  clear b
  go_wp2_with fail
  refine (CU p0).mono ?_
  rintro e w3 ⟨Av, nv, cv, rfl, v, b⟩
  replace f0 := fK b f0 gl
  replace f1 := fK b f1 gl
  replace p0 := p0.on b
  replace q0 := q0.on b
  replace r0 := cK b r0 rl
  replace r1 := cK b r1 rl
  replace r2 := cK b r2 rl
  replace rl := lK b rl
  replace k0 := cK b k0 kl
  replace k1 := cK b k1 kl
  replace k2 := cK b k2 kl
  replace kl := lK b kl
  replace g0 := cK b g0 gl
  replace g1 := cK b g1 gl
  replace gl := lK b gl
  replace cc := bK cc b
  clear b
  go_wp2_with fail
  refine (CD v q0).mono ?_
  rintro e w4 ⟨Aq, nq, cq, Ar, nr_, cr, rfl, dq, dr, b⟩
  replace f0 := fK b f0 gl
  replace f1 := fK b f1 gl
  replace p0 := p0.on b
  replace q0 := q0.on b
  replace v := v.on b
  replace r0 := cK b r0 rl
  replace r1 := cK b r1 rl
  replace r2 := cK b r2 rl
  replace rl := lK b rl
  replace k0 := cK b k0 kl
  replace k1 := cK b k1 kl
  replace k2 := cK b k2 kl
  replace kl := lK b kl
  replace g0 := cK b g0 gl
  replace g1 := cK b g1 gl
  replace gl := lK b gl
  replace cc := bK cc b
  clear b
  go_wp2_with fail
  refine (CK r0 r1 r2 dq dr q0).mono ?_
  rintro e w5 ⟨rfl, b⟩
  replace f0 := fK b f0 gl
  replace f1 := fK b f1 gl
  replace p0 := p0.on b
  replace q0 := q0.on b
  replace v := v.on b
  replace dq := dq.on b
  replace dr := dr.on b
  replace r0 := cK b r0 rl
  replace r1 := cK b r1 rl
  replace r2 := cK b r2 rl
  replace rl := lK b rl
  replace k0 := cK b k0 kl
  replace k1 := cK b k1 kl
  replace k2 := cK b k2 kl
  replace kl := lK b kl
  replace g0 := cK b g0 gl
  replace g1 := cK b g1 gl
  replace gl := lK b gl
  replace cc := bK cc b
  clear b
  have hn0 : 0 < nq := dq.some_len HT0.out
  have hn1 : decide ((0 : Int) < (nq : Int)) = true := decide_eq_true (by omega)
  have hn2 : decide (0 < nq) = true := decide_eq_true hn0
  have hn : Zn w5 true Aq nq cq (nea x0 k) := by rw [HV.out]; exact zn_minus dq (HT0.out)
  have eb : Box w5 (w.heap.size + 1) false none 0 0 := ⟨g0, g1⟩
  have HZ : Hid (Zn ((w5.setCell ⟨w.heap.size + 1, 0, none⟩ (.bool true)).setCell ⟨w.heap.size + 1, 1, none⟩ (.slice Aq nq cq)) true Aq nq cq (nea x0 k)) := Lib.hid (hn.put eb _ _)
  clear hn
  go_wp2_with fail
  refine bodyPost_ret (v := .tuple #[.agg #[.bool true, .slice Aq nq cq], .int .i64 0]) (by simp [results, Try.results35, go_sem, g0, g1]) rfl ⟨_, _, _, _, rfl, HZ.out, below_put cc (by omega) _ _⟩

set_option maxRecDepth 100000 in
set_option maxHeartbeats 8000000 in
theorem rdnea_tt {w : World} {b0 : Bool} {A0 B0 : Option Addr} {n0 c0 m0 d0 : Nat} {g : Nat} {x0 : Rat} (hx : Rt w b0 A0 n0 c0 B0 m0 d0 x0) (s0 : Sz x0 20) {j : Int} (h0 : 0 ≤ j) (h1 : j ≤ 500) (hg : BoxR w g b0 A0 n0 c0 B0 m0 d0) (hs : x0.num < 0) (ht : fars (x0.num.natAbs * 2 ^ j.toNat) x0.den = true) :
    Calls Try.prog 35 #[.agg #[.bool b0, .slice A0 n0 c0, .slice B0 m0 d0], .int .i64 j, .func (.func 42) #[] #[.pointer (some ⟨g, 0, none⟩)]] w (GotZp w (nea x0 j.toNat) 0) := by
  have je := to_nat h0
  have jl : j.toNat ≤ 500 := by omega
  have hj2 : j ≤ 2000 := by omega
  obtain ⟨k, hk⟩ : ∃ k, j.toNat = k := ⟨_, rfl⟩
  rw [hk] at je jl ht ⊢
  have lk := len_pow2 jl
  have p0 := hx.1.1
  have q0 := hx.2
  have hb0 : b0 = true := by rw [hx.1.2]; exact decide_eq_true hs
  subst hb0
  have lp := s0.1
  have lq := s0.2
  have hq0 := x0.den_nz
  have lu : (limbs (x0.num.natAbs * 2 ^ k)).length ≤ 28 := limbs_length_mul lp lk
  have ld : (limbs (x0.num.natAbs * 2 ^ k / x0.den)).length ≤ 28 := Nat.le_trans (limbs_length_mono (Nat.div_le_self _ _)) lu
  have hlt := Nat.mod_lt (x0.num.natAbs * 2 ^ k) (Nat.pos_of_ne_zero hq0)
  have lr : (limbs (x0.num.natAbs * 2 ^ k % x0.den)).length ≤ 20 := Nat.le_trans (limbs_length_mono (Nat.le_of_lt hlt)) lq
  clear hlt
  have HF : nea x0 k = -(((x0.num.natAbs * 2 ^ k / x0.den + 1 : Nat) : Nat) : Int) := by rw [nea_less x0 k hs, if_pos ht]
  have CK : ∀ {W : World} {A B : Option Addr} {n c m d : Nat}, W.cell? ⟨g, 0, none⟩ = some (.bool true) → W.cell? ⟨g, 1, none⟩ = some (.slice A0 n0 c0) → W.cell? ⟨g, 2, none⟩ = some (.slice B0 m0 d0) → Num W A n c (x0.num.natAbs * 2 ^ k / x0.den) → Num W B m d (x0.num.natAbs * 2 ^ k % x0.den) → Num W B0 m0 d0 x0.den → Calls Try.prog 42 #[.slice A n c, .slice B m d, .pointer (some ⟨g, 0, none⟩)] W (GotV W (.bool true)) := fun r0 r1 r2 ha hb hq => by rw [← ht]; exact knear_N r0 r1 r2 ha hb hq (by omega) (by omega)
  obtain ⟨u, hU⟩ : ∃ u, x0.num.natAbs * 2 ^ k = u := ⟨_, rfl⟩
  obtain ⟨t, hT⟩ : ∃ t, x0.num.natAbs * 2 ^ k / x0.den = t := ⟨_, rfl⟩
  obtain ⟨l, hL⟩ : ∃ l, x0.num.natAbs * 2 ^ k % x0.den = l := ⟨_, rfl⟩
  rw [hT, hL] at CK
  rw [hT] at HF ld
  rw [hL] at lr
  rw [hU] at lu hT hL
  have CU : ∀ {W : World} {A : Option Addr} {m c : Nat}, Num W A m c x0.num.natAbs → Calls Try.prog 48 #[.slice A m c, .int .i64 j] W (GotP W u 0) := fun ha => by rw [← je, ← hU]; exact dshl_N ha (by omega) (by omega)
  have CD : ∀ {W : World} {A B : Option Addr} {n c m d : Nat}, Num W A n c u → Num W B m d x0.den → Calls Try.prog 61 #[.slice A n c, .slice B m d] W (GotD W t l) := fun ha hb => by rw [← hT, ← hL]; exact ddiv_N ha hb (by omega) (by omega) hq0
  have HV := Lib.hid HF
  clear HF hU hT hL hs ht lu
  have la : (limbs (t + 1)).length ≤ 29 := limbs_length_add ld (Nat.le_trans (len_one (by decide)) (by omega))
  have l1 : (limbs 1).length ≤ 1000 := Nat.le_trans (len_one (by decide)) (by omega)
  obtain ⟨r0, r1, r2⟩ := hg
  have rl := cell_lt r0
  simp only at rl
  have cc := Below.refl w.heap.size w
  go_enter Try.func35, Try.ntmps35
  go_wp2_with fail
  have f0 : ((w.alloc (.cells #[.bool true, .slice A0 n0 c0, .slice B0 m0 d0] 27)).alloc (.cells #[.bool false, .slice none 0 0] 25)).frozen? ⟨w.heap.size + 1, 0, none⟩ = false := by simp [go_sem]
  have f1 : ((w.alloc (.cells #[.bool true, .slice A0 n0 c0, .slice B0 m0 d0] 27)).alloc (.cells #[.bool false, .slice none 0 0] 25)).frozen? ⟨w.heap.size + 1, 1, none⟩ = false := by simp [go_sem]
  have bA : Below w.heap.size w ((w.alloc (.cells #[.bool true, .slice A0 n0 c0, .slice B0 m0 d0] 27)).alloc (.cells #[.bool false, .slice none 0 0] 25)) := (((Below.refl _ w).alloc (by simp) _).alloc (by simp) _)
  replace p0 := p0.on bA
  replace q0 := q0.on bA
  replace r0 := cK bA r0 rl
  replace r1 := cK bA r1 rl
  replace r2 := cK bA r2 rl
  replace rl := lK bA rl
  replace cc := bK cc bA
  clear bA
  have k0 : ((w.alloc (.cells #[.bool true, .slice A0 n0 c0, .slice B0 m0 d0] 27)).alloc (.cells #[.bool false, .slice none 0 0] 25)).cell? ⟨w.heap.size, 0, none⟩ = some (.bool true) := by simp [go_sem]
  have k1 : ((w.alloc (.cells #[.bool true, .slice A0 n0 c0, .slice B0 m0 d0] 27)).alloc (.cells #[.bool false, .slice none 0 0] 25)).cell? ⟨w.heap.size, 1, none⟩ = some (.slice A0 n0 c0) := by simp [go_sem]
  have k2 : ((w.alloc (.cells #[.bool true, .slice A0 n0 c0, .slice B0 m0 d0] 27)).alloc (.cells #[.bool false, .slice none 0 0] 25)).cell? ⟨w.heap.size, 2, none⟩ = some (.slice B0 m0 d0) := by simp [go_sem]
  have kl : w.heap.size < ((w.alloc (.cells #[.bool true, .slice A0 n0 c0, .slice B0 m0 d0] 27)).alloc (.cells #[.bool false, .slice none 0 0] 25)).heap.size := by simp <;> omega
  have g0 : ((w.alloc (.cells #[.bool true, .slice A0 n0 c0, .slice B0 m0 d0] 27)).alloc (.cells #[.bool false, .slice none 0 0] 25)).cell? ⟨w.heap.size + 1, 0, none⟩ = some (.bool false) := by simp [go_sem]
  have g1 : ((w.alloc (.cells #[.bool true, .slice A0 n0 c0, .slice B0 m0 d0] 27)).alloc (.cells #[.bool false, .slice none 0 0] 25)).cell? ⟨w.heap.size + 1, 1, none⟩ = some (.slice none 0 0) := by simp [go_sem]
  have gl : w.heap.size + 1 < ((w.alloc (.cells #[.bool true, .slice A0 n0 c0, .slice B0 m0 d0] 27)).alloc (.cells #[.bool false, .slice none 0 0] 25)).heap.size := by simp <;> omega
  generalize (w.alloc (.cells #[.bool true, .slice A0 n0 c0, .slice B0 m0 d0] 27)).alloc (.cells #[.bool false, .slice none 0 0] 25) = v1 at *
  refine (isgrid_2 _ h0 hj2).mono ?_
  rintro e w2 ⟨rfl, b⟩
  replace f0 := fK b f0 gl
  replace f1 := fK b f1 gl
  replace p0 := p0.on b
  replace q0 := q0.on b
  replace r0 := cK b r0 rl
  replace r1 := cK b r1 rl
  replace r2 := cK b r2 rl
  replace rl := lK b rl
  replace k0 := cK b k0 kl
  replace k1 := cK b k1 kl
  replace k2 := cK b k2 kl
  replace kl := lK b kl
  replace g0 := cK b g0 gl
  replace g1 := cK b g1 gl
  replace gl := lK b gl
  replace cc := bK cc b
  clear b
  go_wp2_with fail
  refine (CU p0).mono ?_
  rintro e w3 ⟨Av, nv, cv, rfl, v, b⟩
  replace f0 := fK b f0 gl
  replace f1 := fK b f1 gl
  replace p0 := p0.on b
  replace q0 := q0.on b
  replace r0 := cK b r0 rl
  replace r1 := cK b r1 rl
  replace r2 := cK b r2 rl
  replace rl := lK b rl
  replace k0 := cK b k0 kl
  replace k1 := cK b k1 kl
  replace k2 := cK b k2 kl
  replace kl := lK b kl
  replace g0 := cK b g0 gl
  replace g1 := cK b g1 gl
  replace gl := lK b gl
  replace cc := bK cc b
  clear b
  go_wp2_with fail
  refine (CD v q0).mono ?_
  rintro e w4 ⟨Aq, nq, cq, Ar, nr_, cr, rfl, dq, dr, b⟩
  replace f0 := fK b f0 gl
  replace f1 := fK b f1 gl
  replace p0 := p0.on b
  replace q0 := q0.on b
  replace v := v.on b
  replace r0 := cK b r0 rl
  replace r1 := cK b r1 rl
  replace r2 := cK b r2 rl
  replace rl := lK b rl
  replace k0 := cK b k0 kl
  replace k1 := cK b k1 kl
  replace k2 := cK b k2 kl
  replace kl := lK b kl
  replace g0 := cK b g0 gl
  replace g1 := cK b g1 gl
  replace gl := lK b gl
  replace cc := bK cc b
  clear b
  go_wp2_with fail
  refine (CK r0 r1 r2 dq dr q0).mono ?_
  rintro e w5 ⟨rfl, b⟩
  replace f0 := fK b f0 gl
  replace f1 := fK b f1 gl
  replace p0 := p0.on b
  replace q0 := q0.on b
  replace v := v.on b
  replace dq := dq.on b
  replace dr := dr.on b
  replace r0 := cK b r0 rl
  replace r1 := cK b r1 rl
  replace r2 := cK b r2 rl
  replace rl := lK b rl
  replace k0 := cK b k0 kl
  replace k1 := cK b k1 kl
  replace k2 := cK b k2 kl
  replace kl := lK b kl
  replace g0 := cK b g0 gl
  replace g1 := cK b g1 gl
  replace gl := lK b gl
  replace cc := bK cc b
  clear b
  go_wp2_with fail
  refine (of_N _ 1 (by decide)).mono ?_
  rintro e w6 ⟨Ao, no, co, rfl, o, b⟩
  replace f0 := fK b f0 gl
  replace f1 := fK b f1 gl
  replace p0 := p0.on b
  replace q0 := q0.on b
  replace v := v.on b
  replace dq := dq.on b
  replace dr := dr.on b
  replace r0 := cK b r0 rl
  replace r1 := cK b r1 rl
  replace r2 := cK b r2 rl
  replace rl := lK b rl
  replace k0 := cK b k0 kl
  replace k1 := cK b k1 kl
  replace k2 := cK b k2 kl
  replace kl := lK b kl
  replace g0 := cK b g0 gl
  replace g1 := cK b g1 gl
  replace gl := lK b gl
  replace cc := bK cc b
  clear b
  go_wp2_with fail
  refine (add_N dq o (by omega) (by omega)).mono ?_
  rintro e w7 ⟨Aa, na, ca, rfl, a, b⟩
  replace f0 := fK b f0 gl
  replace f1 := fK b f1 gl
  replace p0 := p0.on b
  replace q0 := q0.on b
  replace v := v.on b
  replace dq := dq.on b
  replace dr := dr.on b
  replace o := o.on b
  replace r0 := cK b r0 rl
  replace r1 := cK b r1 rl
  replace r2 := cK b r2 rl
  replace rl := lK b rl
  replace k0 := cK b k0 kl
  replace k1 := cK b k1 kl
  replace k2 := cK b k2 kl
  replace kl := lK b kl
  replace g0 := cK b g0 gl
  replace g1 := cK b g1 gl
  replace gl := lK b gl
  replace cc := bK cc b
  clear b
  have hn0 : 0 < na := a.some_len (by omega)
  have hn1 : decide ((0 : Int) < (na : Int)) = true := decide_eq_true (by omega)
  have hn2 : decide (0 < na) = true := decide_eq_true hn0
  have hn : Zn w7 true Aa na ca (nea x0 k) := by rw [HV.out]; exact zn_minus a (by omega)
  have eb : Box w7 (w.heap.size + 1) false none 0 0 := ⟨g0, g1⟩
  have HZ : Hid (Zn ((w7.setCell ⟨w.heap.size + 1, 0, none⟩ (.bool true)).setCell ⟨w.heap.size + 1, 1, none⟩ (.slice Aa na ca)) true Aa na ca (nea x0 k)) := Lib.hid (hn.put eb _ _)
  clear hn
  go_wp2_with fail
  refine bodyPost_ret (v := .tuple #[.agg #[.bool true, .slice Aa na ca], .int .i64 0]) (by simp [results, Try.results35, go_sem, g0, g1]) rfl ⟨_, _, _, _, rfl, HZ.out, below_put cc (by omega) _ _⟩

set_option maxRecDepth 100000 in
set_option maxHeartbeats 8000000 in
theorem rdnea_N {w : World} {b0 : Bool} {A0 B0 : Option Addr} {n0 c0 m0 d0 : Nat} {g : Nat} {x0 : Rat} (hx : Rt w b0 A0 n0 c0 B0 m0 d0 x0) (s0 : Sz x0 20) {j : Int} (h0 : 0 ≤ j) (h1 : j ≤ 500) (hg : BoxR w g b0 A0 n0 c0 B0 m0 d0) :
    Calls Try.prog 35 #[.agg #[.bool b0, .slice A0 n0 c0, .slice B0 m0 d0], .int .i64 j, .func (.func 42) #[] #[.pointer (some ⟨g, 0, none⟩)]] w (GotZp w (nea x0 j.toNat) 0) := by
  by_cases hs : x0.num < 0
  · cases ht : fars (x0.num.natAbs * 2 ^ j.toNat) x0.den
    · by_cases hz : x0.num.natAbs * 2 ^ j.toNat / x0.den = 0
      · exact rdnea_tf0 hx s0 h0 h1 hg hs ht hz
      · exact rdnea_tf1 hx s0 h0 h1 hg hs ht hz
    · exact rdnea_tt hx s0 h0 h1 hg hs ht
  · cases ht : fars (x0.num.natAbs * 2 ^ j.toNat) x0.den
    · exact rdnea_ff hx s0 h0 h1 hg hs ht
    · exact rdnea_ft hx s0 h0 h1 hg hs ht

set_option maxRecDepth 100000 in
set_option maxHeartbeats 8000000 in
theorem rd_no {w : World} {b0 : Bool} {A0 B0 : Option Addr} {n0 c0 m0 d0 : Nat} {fv : Value} {j : Int} (h : j < 0 ∨ 2000 < j) :
    Calls Try.prog 35 #[.agg #[.bool b0, .slice A0 n0 c0, .slice B0 m0 d0], .int .i64 j, fv] w (GotZp w 0 1) := by
  have cc := Below.refl w.heap.size w
  go_enter Try.func35, Try.ntmps35
  go_wp2_with fail
  have f0 : ((w.alloc (.cells #[.bool b0, .slice A0 n0 c0, .slice B0 m0 d0] 27)).alloc (.cells #[.bool false, .slice none 0 0] 25)).frozen? ⟨w.heap.size + 1, 0, none⟩ = false := by simp [go_sem]
  have f1 : ((w.alloc (.cells #[.bool b0, .slice A0 n0 c0, .slice B0 m0 d0] 27)).alloc (.cells #[.bool false, .slice none 0 0] 25)).frozen? ⟨w.heap.size + 1, 1, none⟩ = false := by simp [go_sem]
  have bA : Below w.heap.size w ((w.alloc (.cells #[.bool b0, .slice A0 n0 c0, .slice B0 m0 d0] 27)).alloc (.cells #[.bool false, .slice none 0 0] 25)) := (((Below.refl _ w).alloc (by simp) _).alloc (by simp) _)
  replace cc := bK cc bA
  clear bA
  have k0 : ((w.alloc (.cells #[.bool b0, .slice A0 n0 c0, .slice B0 m0 d0] 27)).alloc (.cells #[.bool false, .slice none 0 0] 25)).cell? ⟨w.heap.size, 0, none⟩ = some (.bool b0) := by simp [go_sem]
  have k1 : ((w.alloc (.cells #[.bool b0, .slice A0 n0 c0, .slice B0 m0 d0] 27)).alloc (.cells #[.bool false, .slice none 0 0] 25)).cell? ⟨w.heap.size, 1, none⟩ = some (.slice A0 n0 c0) := by simp [go_sem]
  have k2 : ((w.alloc (.cells #[.bool b0, .slice A0 n0 c0, .slice B0 m0 d0] 27)).alloc (.cells #[.bool false, .slice none 0 0] 25)).cell? ⟨w.heap.size, 2, none⟩ = some (.slice B0 m0 d0) := by simp [go_sem]
  have kl : w.heap.size < ((w.alloc (.cells #[.bool b0, .slice A0 n0 c0, .slice B0 m0 d0] 27)).alloc (.cells #[.bool false, .slice none 0 0] 25)).heap.size := by simp <;> omega
  have g0 : ((w.alloc (.cells #[.bool b0, .slice A0 n0 c0, .slice B0 m0 d0] 27)).alloc (.cells #[.bool false, .slice none 0 0] 25)).cell? ⟨w.heap.size + 1, 0, none⟩ = some (.bool false) := by simp [go_sem]
  have g1 : ((w.alloc (.cells #[.bool b0, .slice A0 n0 c0, .slice B0 m0 d0] 27)).alloc (.cells #[.bool false, .slice none 0 0] 25)).cell? ⟨w.heap.size + 1, 1, none⟩ = some (.slice none 0 0) := by simp [go_sem]
  have gl : w.heap.size + 1 < ((w.alloc (.cells #[.bool b0, .slice A0 n0 c0, .slice B0 m0 d0] 27)).alloc (.cells #[.bool false, .slice none 0 0] 25)).heap.size := by simp <;> omega
  generalize (w.alloc (.cells #[.bool b0, .slice A0 n0 c0, .slice B0 m0 d0] 27)).alloc (.cells #[.bool false, .slice none 0 0] 25) = v1 at *
  refine (isgrid_no _ h).mono ?_
  rintro e w2 ⟨rfl, b⟩
  replace f0 := fK b f0 gl
  replace f1 := fK b f1 gl
  replace k0 := cK b k0 kl
  replace k1 := cK b k1 kl
  replace k2 := cK b k2 kl
  replace kl := lK b kl
  replace g0 := cK b g0 gl
  replace g1 := cK b g1 gl
  replace gl := lK b gl
  replace cc := bK cc b
  clear b
  have eb : Box w2 (w.heap.size + 1) false none 0 0 := ⟨g0, g1⟩
  have HZ := Lib.hid (Zn.put (zn_none w2) eb (.bool false) (.slice none 0 0))
  go_wp2_with fail
  exact bodyPost_ret (v := .tuple #[.agg #[.bool false, .slice none 0 0], .int .i64 1]) (by simp [results, Try.results35, go_sem, g0, g1]) rfl ⟨_, _, _, _, rfl, HZ.out, below_put cc (by omega) _ _⟩

end Go.Proofs.Ytchbhmcaalkfdaa

/-
  The contracts of dyad: Floor, Ceil, Near, Back.
-/
namespace Go.Proofs.Ytchbhmcaalkfdaa
open Go.RowKit
set_option linter.unusedVariables false
set_option linter.unusedSimpArgs false

set_option maxRecDepth 100000 in
set_option maxHeartbeats 8000000 in
theorem dfloor_N {w : World} {b0 : Bool} {A0 B0 : Option Addr} {n0 c0 m0 d0 : Nat} {x0 : Rat} (hx : Rt w b0 A0 n0 c0 B0 m0 d0 x0) (s0 : Sz x0 20) {j : Int} (h0 : 0 ≤ j) (h1 : j ≤ 500) :
    Calls Try.prog 12 #[.agg #[.bool b0, .slice A0 n0 c0, .slice B0 m0 d0], .int .i64 j] w (GotZp w (flo x0 j.toNat) 0) := by
  have cc := Below.refl w.heap.size w
  go_enter Try.func12, Try.ntmps12
  go_wp2_with fail
  have f0 : ((w.alloc (.cells #[.bool b0, .slice A0 n0 c0, .slice B0 m0 d0] 27)).alloc (.cells #[.bool false, .slice none 0 0] 25)).frozen? ⟨w.heap.size + 1, 0, none⟩ = false := by simp [go_sem]
  have f1 : ((w.alloc (.cells #[.bool b0, .slice A0 n0 c0, .slice B0 m0 d0] 27)).alloc (.cells #[.bool false, .slice none 0 0] 25)).frozen? ⟨w.heap.size + 1, 1, none⟩ = false := by simp [go_sem]
  have bA : Below w.heap.size w ((w.alloc (.cells #[.bool b0, .slice A0 n0 c0, .slice B0 m0 d0] 27)).alloc (.cells #[.bool false, .slice none 0 0] 25)) := (((Below.refl _ w).alloc (by simp) _).alloc (by simp) _)
  replace hx := hx.on bA
  replace cc := bK cc bA
  clear bA
  have k0 : ((w.alloc (.cells #[.bool b0, .slice A0 n0 c0, .slice B0 m0 d0] 27)).alloc (.cells #[.bool false, .slice none 0 0] 25)).cell? ⟨w.heap.size, 0, none⟩ = some (.bool b0) := by simp [go_sem]
  have k1 : ((w.alloc (.cells #[.bool b0, .slice A0 n0 c0, .slice B0 m0 d0] 27)).alloc (.cells #[.bool false, .slice none 0 0] 25)).cell? ⟨w.heap.size, 1, none⟩ = some (.slice A0 n0 c0) := by simp [go_sem]
  have k2 : ((w.alloc (.cells #[.bool b0, .slice A0 n0 c0, .slice B0 m0 d0] 27)).alloc (.cells #[.bool false, .slice none 0 0] 25)).cell? ⟨w.heap.size, 2, none⟩ = some (.slice B0 m0 d0) := by simp [go_sem]
  have kl : w.heap.size < ((w.alloc (.cells #[.bool b0, .slice A0 n0 c0, .slice B0 m0 d0] 27)).alloc (.cells #[.bool false, .slice none 0 0] 25)).heap.size := by simp <;> omega
  have g0 : ((w.alloc (.cells #[.bool b0, .slice A0 n0 c0, .slice B0 m0 d0] 27)).alloc (.cells #[.bool false, .slice none 0 0] 25)).cell? ⟨w.heap.size + 1, 0, none⟩ = some (.bool false) := by simp [go_sem]
  have g1 : ((w.alloc (.cells #[.bool b0, .slice A0 n0 c0, .slice B0 m0 d0] 27)).alloc (.cells #[.bool false, .slice none 0 0] 25)).cell? ⟨w.heap.size + 1, 1, none⟩ = some (.slice none 0 0) := by simp [go_sem]
  have gl : w.heap.size + 1 < ((w.alloc (.cells #[.bool b0, .slice A0 n0 c0, .slice B0 m0 d0] 27)).alloc (.cells #[.bool false, .slice none 0 0] 25)).heap.size := by simp <;> omega
  generalize (w.alloc (.cells #[.bool b0, .slice A0 n0 c0, .slice B0 m0 d0] 27)).alloc (.cells #[.bool false, .slice none 0 0] 25) = v1 at *
  refine (rdflo_N hx (s0.le (by omega)) h0 h1 ⟨k0, k1, k2⟩).mono ?_
  rintro e w2 ⟨bm, Am, nm, cm, rfl, hm, b⟩
  replace f0 := fK b f0 gl
  replace f1 := fK b f1 gl
  replace hx := hx.on b
  replace k0 := cK b k0 kl
  replace k1 := cK b k1 kl
  replace k2 := cK b k2 kl
  replace kl := lK b kl
  replace g0 := cK b g0 gl
  replace g1 := cK b g1 gl
  replace gl := lK b gl
  replace cc := bK cc b
  clear b
  have hn : Zn w2 bm Am nm cm (flo x0 j.toNat) := hm
  have eb : Box w2 (w.heap.size + 1) false none 0 0 := ⟨g0, g1⟩
  have HZ : Hid (Zn ((w2.setCell ⟨w.heap.size + 1, 0, none⟩ (.bool bm)).setCell ⟨w.heap.size + 1, 1, none⟩ (.slice Am nm cm)) bm Am nm cm (flo x0 j.toNat)) := Lib.hid (hn.put eb _ _)
  clear hn
  go_wp2_with fail
  refine bodyPost_ret (v := .tuple #[.agg #[.bool bm, .slice Am nm cm], .int .i64 0]) (by simp [results, Try.results12, go_sem, g0, g1]) rfl ⟨_, _, _, _, rfl, HZ.out, below_put cc (by omega) _ _⟩

set_option maxRecDepth 100000 in
set_option maxHeartbeats 8000000 in
theorem dfloor_no {w : World} {b0 : Bool} {A0 B0 : Option Addr} {n0 c0 m0 d0 : Nat} {x0 : Rat} (hx : Rt w b0 A0 n0 c0 B0 m0 d0 x0) (s0 : Sz x0 20) {j : Int} (h : j < 0 ∨ 2000 < j) :
    Calls Try.prog 12 #[.agg #[.bool b0, .slice A0 n0 c0, .slice B0 m0 d0], .int .i64 j] w (GotZp w 0 1) := by
  have cc := Below.refl w.heap.size w
  go_enter Try.func12, Try.ntmps12
  go_wp2_with fail
  have f0 : ((w.alloc (.cells #[.bool b0, .slice A0 n0 c0, .slice B0 m0 d0] 27)).alloc (.cells #[.bool false, .slice none 0 0] 25)).frozen? ⟨w.heap.size + 1, 0, none⟩ = false := by simp [go_sem]
  have f1 : ((w.alloc (.cells #[.bool b0, .slice A0 n0 c0, .slice B0 m0 d0] 27)).alloc (.cells #[.bool false, .slice none 0 0] 25)).frozen? ⟨w.heap.size + 1, 1, none⟩ = false := by simp [go_sem]
  have bA : Below w.heap.size w ((w.alloc (.cells #[.bool b0, .slice A0 n0 c0, .slice B0 m0 d0] 27)).alloc (.cells #[.bool false, .slice none 0 0] 25)) := (((Below.refl _ w).alloc (by simp) _).alloc (by simp) _)
  replace hx := hx.on bA
  replace cc := bK cc bA
  clear bA
  have k0 : ((w.alloc (.cells #[.bool b0, .slice A0 n0 c0, .slice B0 m0 d0] 27)).alloc (.cells #[.bool false, .slice none 0 0] 25)).cell? ⟨w.heap.size, 0, none⟩ = some (.bool b0) := by simp [go_sem]
  have k1 : ((w.alloc (.cells #[.bool b0, .slice A0 n0 c0, .slice B0 m0 d0] 27)).alloc (.cells #[.bool false, .slice none 0 0] 25)).cell? ⟨w.heap.size, 1, none⟩ = some (.slice A0 n0 c0) := by simp [go_sem]
  have k2 : ((w.alloc (.cells #[.bool b0, .slice A0 n0 c0, .slice B0 m0 d0] 27)).alloc (.cells #[.bool false, .slice none 0 0] 25)).cell? ⟨w.heap.size, 2, none⟩ = some (.slice B0 m0 d0) := by simp [go_sem]
  have kl : w.heap.size < ((w.alloc (.cells #[.bool b0, .slice A0 n0 c0, .slice B0 m0 d0] 27)).alloc (.cells #[.bool false, .slice none 0 0] 25)).heap.size := by simp <;> omega
  have g0 : ((w.alloc (.cells #[.bool b0, .slice A0 n0 c0, .slice B0 m0 d0] 27)).alloc (.cells #[.bool false, .slice none 0 0] 25)).cell? ⟨w.heap.size + 1, 0, none⟩ = some (.bool false) := by simp [go_sem]
  have g1 : ((w.alloc (.cells #[.bool b0, .slice A0 n0 c0, .slice B0 m0 d0] 27)).alloc (.cells #[.bool false, .slice none 0 0] 25)).cell? ⟨w.heap.size + 1, 1, none⟩ = some (.slice none 0 0) := by simp [go_sem]
  have gl : w.heap.size + 1 < ((w.alloc (.cells #[.bool b0, .slice A0 n0 c0, .slice B0 m0 d0] 27)).alloc (.cells #[.bool false, .slice none 0 0] 25)).heap.size := by simp <;> omega
  generalize (w.alloc (.cells #[.bool b0, .slice A0 n0 c0, .slice B0 m0 d0] 27)).alloc (.cells #[.bool false, .slice none 0 0] 25) = v1 at *
  refine (rd_no h).mono ?_
  rintro e w2 ⟨bm, Am, nm, cm, rfl, hm, b⟩
  replace f0 := fK b f0 gl
  replace f1 := fK b f1 gl
  replace hx := hx.on b
  replace k0 := cK b k0 kl
  replace k1 := cK b k1 kl
  replace k2 := cK b k2 kl
  replace kl := lK b kl
  replace g0 := cK b g0 gl
  replace g1 := cK b g1 gl
  replace gl := lK b gl
  replace cc := bK cc b
  clear b
  have hn : Zn w2 bm Am nm cm (0) := hm
  have eb : Box w2 (w.heap.size + 1) false none 0 0 := ⟨g0, g1⟩
  have HZ : Hid (Zn ((w2.setCell ⟨w.heap.size + 1, 0, none⟩ (.bool bm)).setCell ⟨w.heap.size + 1, 1, none⟩ (.slice Am nm cm)) bm Am nm cm (0)) := Lib.hid (hn.put eb _ _)
  clear hn
  go_wp2_with fail
  refine bodyPost_ret (v := .tuple #[.agg #[.bool bm, .slice Am nm cm], .int .i64 1]) (by simp [results, Try.results12, go_sem, g0, g1]) rfl ⟨_, _, _, _, rfl, HZ.out, below_put cc (by omega) _ _⟩

set_option maxRecDepth 100000 in
set_option maxHeartbeats 8000000 in
theorem dceil_N {w : World} {b0 : Bool} {A0 B0 : Option Addr} {n0 c0 m0 d0 : Nat} {x0 : Rat} (hx : Rt w b0 A0 n0 c0 B0 m0 d0 x0) (s0 : Sz x0 20) {j : Int} (h0 : 0 ≤ j) (h1 : j ≤ 500) :
    Calls Try.prog 14 #[.agg #[.bool b0, .slice A0 n0 c0, .slice B0 m0 d0], .int .i64 j] w (GotZp w (cei x0 j.toNat) 0) := by
  have cc := Below.refl w.heap.size w
  go_enter Try.func14, Try.ntmps14
  go_wp2_with fail
  have f0 : ((w.alloc (.cells #[.bool b0, .slice A0 n0 c0, .slice B0 m0 d0] 27)).alloc (.cells #[.bool false, .slice none 0 0] 25)).frozen? ⟨w.heap.size + 1, 0, none⟩ = false := by simp [go_sem]
  have f1 : ((w.alloc (.cells #[.bool b0, .slice A0 n0 c0, .slice B0 m0 d0] 27)).alloc (.cells #[.bool false, .slice none 0 0] 25)).frozen? ⟨w.heap.size + 1, 1, none⟩ = false := by simp [go_sem]
  have bA : Below w.heap.size w ((w.alloc (.cells #[.bool b0, .slice A0 n0 c0, .slice B0 m0 d0] 27)).alloc (.cells #[.bool false, .slice none 0 0] 25)) := (((Below.refl _ w).alloc (by simp) _).alloc (by simp) _)
  replace hx := hx.on bA
  replace cc := bK cc bA
  clear bA
  have k0 : ((w.alloc (.cells #[.bool b0, .slice A0 n0 c0, .slice B0 m0 d0] 27)).alloc (.cells #[.bool false, .slice none 0 0] 25)).cell? ⟨w.heap.size, 0, none⟩ = some (.bool b0) := by simp [go_sem]
  have k1 : ((w.alloc (.cells #[.bool b0, .slice A0 n0 c0, .slice B0 m0 d0] 27)).alloc (.cells #[.bool false, .slice none 0 0] 25)).cell? ⟨w.heap.size, 1, none⟩ = some (.slice A0 n0 c0) := by simp [go_sem]
  have k2 : ((w.alloc (.cells #[.bool b0, .slice A0 n0 c0, .slice B0 m0 d0] 27)).alloc (.cells #[.bool false, .slice none 0 0] 25)).cell? ⟨w.heap.size, 2, none⟩ = some (.slice B0 m0 d0) := by simp [go_sem]
  have kl : w.heap.size < ((w.alloc (.cells #[.bool b0, .slice A0 n0 c0, .slice B0 m0 d0] 27)).alloc (.cells #[.bool false, .slice none 0 0] 25)).heap.size := by simp <;> omega
  have g0 : ((w.alloc (.cells #[.bool b0, .slice A0 n0 c0, .slice B0 m0 d0] 27)).alloc (.cells #[.bool false, .slice none 0 0] 25)).cell? ⟨w.heap.size + 1, 0, none⟩ = some (.bool false) := by simp [go_sem]
  have g1 : ((w.alloc (.cells #[.bool b0, .slice A0 n0 c0, .slice B0 m0 d0] 27)).alloc (.cells #[.bool false, .slice none 0 0] 25)).cell? ⟨w.heap.size + 1, 1, none⟩ = some (.slice none 0 0) := by simp [go_sem]
  have gl : w.heap.size + 1 < ((w.alloc (.cells #[.bool b0, .slice A0 n0 c0, .slice B0 m0 d0] 27)).alloc (.cells #[.bool false, .slice none 0 0] 25)).heap.size := by simp <;> omega
  generalize (w.alloc (.cells #[.bool b0, .slice A0 n0 c0, .slice B0 m0 d0] 27)).alloc (.cells #[.bool false, .slice none 0 0] 25) = v1 at *
  refine (rdcei_N hx (s0.le (by omega)) h0 h1 ⟨k0, k1, k2⟩).mono ?_
  rintro e w2 ⟨bm, Am, nm, cm, rfl, hm, b⟩
  replace f0 := fK b f0 gl
  replace f1 := fK b f1 gl
  replace hx := hx.on b
  replace k0 := cK b k0 kl
  replace k1 := cK b k1 kl
  replace k2 := cK b k2 kl
  replace kl := lK b kl
  replace g0 := cK b g0 gl
  replace g1 := cK b g1 gl
  replace gl := lK b gl
  replace cc := bK cc b
  clear b
  have hn : Zn w2 bm Am nm cm (cei x0 j.toNat) := hm
  have eb : Box w2 (w.heap.size + 1) false none 0 0 := ⟨g0, g1⟩
  have HZ : Hid (Zn ((w2.setCell ⟨w.heap.size + 1, 0, none⟩ (.bool bm)).setCell ⟨w.heap.size + 1, 1, none⟩ (.slice Am nm cm)) bm Am nm cm (cei x0 j.toNat)) := Lib.hid (hn.put eb _ _)
  clear hn
  go_wp2_with fail
  refine bodyPost_ret (v := .tuple #[.agg #[.bool bm, .slice Am nm cm], .int .i64 0]) (by simp [results, Try.results14, go_sem, g0, g1]) rfl ⟨_, _, _, _, rfl, HZ.out, below_put cc (by omega) _ _⟩

set_option maxRecDepth 100000 in
set_option maxHeartbeats 8000000 in
theorem dceil_no {w : World} {b0 : Bool} {A0 B0 : Option Addr} {n0 c0 m0 d0 : Nat} {x0 : Rat} (hx : Rt w b0 A0 n0 c0 B0 m0 d0 x0) (s0 : Sz x0 20) {j : Int} (h : j < 0 ∨ 2000 < j) :
    Calls Try.prog 14 #[.agg #[.bool b0, .slice A0 n0 c0, .slice B0 m0 d0], .int .i64 j] w (GotZp w 0 1) := by
  have cc := Below.refl w.heap.size w
  go_enter Try.func14, Try.ntmps14
  go_wp2_with fail
  have f0 : ((w.alloc (.cells #[.bool b0, .slice A0 n0 c0, .slice B0 m0 d0] 27)).alloc (.cells #[.bool false, .slice none 0 0] 25)).frozen? ⟨w.heap.size + 1, 0, none⟩ = false := by simp [go_sem]
  have f1 : ((w.alloc (.cells #[.bool b0, .slice A0 n0 c0, .slice B0 m0 d0] 27)).alloc (.cells #[.bool false, .slice none 0 0] 25)).frozen? ⟨w.heap.size + 1, 1, none⟩ = false := by simp [go_sem]
  have bA : Below w.heap.size w ((w.alloc (.cells #[.bool b0, .slice A0 n0 c0, .slice B0 m0 d0] 27)).alloc (.cells #[.bool false, .slice none 0 0] 25)) := (((Below.refl _ w).alloc (by simp) _).alloc (by simp) _)
  replace hx := hx.on bA
  replace cc := bK cc bA
  clear bA
  have k0 : ((w.alloc (.cells #[.bool b0, .slice A0 n0 c0, .slice B0 m0 d0] 27)).alloc (.cells #[.bool false, .slice none 0 0] 25)).cell? ⟨w.heap.size, 0, none⟩ = some (.bool b0) := by simp [go_sem]
  have k1 : ((w.alloc (.cells #[.bool b0, .slice A0 n0 c0, .slice B0 m0 d0] 27)).alloc (.cells #[.bool false, .slice none 0 0] 25)).cell? ⟨w.heap.size, 1, none⟩ = some (.slice A0 n0 c0) := by simp [go_sem]
  have k2 : ((w.alloc (.cells #[.bool b0, .slice A0 n0 c0, .slice B0 m0 d0] 27)).alloc (.cells #[.bool false, .slice none 0 0] 25)).cell? ⟨w.heap.size, 2, none⟩ = some (.slice B0 m0 d0) := by simp [go_sem]
  have kl : w.heap.size < ((w.alloc (.cells #[.bool b0, .slice A0 n0 c0, .slice B0 m0 d0] 27)).alloc (.cells #[.bool false, .slice none 0 0] 25)).heap.size := by simp <;> omega
  have g0 : ((w.alloc (.cells #[.bool b0, .slice A0 n0 c0, .slice B0 m0 d0] 27)).alloc (.cells #[.bool false, .slice none 0 0] 25)).cell? ⟨w.heap.size + 1, 0, none⟩ = some (.bool false) := by simp [go_sem]
  have g1 : ((w.alloc (.cells #[.bool b0, .slice A0 n0 c0, .slice B0 m0 d0] 27)).alloc (.cells #[.bool false, .slice none 0 0] 25)).cell? ⟨w.heap.size + 1, 1, none⟩ = some (.slice none 0 0) := by simp [go_sem]
  have gl : w.heap.size + 1 < ((w.alloc (.cells #[.bool b0, .slice A0 n0 c0, .slice B0 m0 d0] 27)).alloc (.cells #[.bool false, .slice none 0 0] 25)).heap.size := by simp <;> omega
  generalize (w.alloc (.cells #[.bool b0, .slice A0 n0 c0, .slice B0 m0 d0] 27)).alloc (.cells #[.bool false, .slice none 0 0] 25) = v1 at *
  refine (rd_no h).mono ?_
  rintro e w2 ⟨bm, Am, nm, cm, rfl, hm, b⟩
  replace f0 := fK b f0 gl
  replace f1 := fK b f1 gl
  replace hx := hx.on b
  replace k0 := cK b k0 kl
  replace k1 := cK b k1 kl
  replace k2 := cK b k2 kl
  replace kl := lK b kl
  replace g0 := cK b g0 gl
  replace g1 := cK b g1 gl
  replace gl := lK b gl
  replace cc := bK cc b
  clear b
  have hn : Zn w2 bm Am nm cm (0) := hm
  have eb : Box w2 (w.heap.size + 1) false none 0 0 := ⟨g0, g1⟩
  have HZ : Hid (Zn ((w2.setCell ⟨w.heap.size + 1, 0, none⟩ (.bool bm)).setCell ⟨w.heap.size + 1, 1, none⟩ (.slice Am nm cm)) bm Am nm cm (0)) := Lib.hid (hn.put eb _ _)
  clear hn
  go_wp2_with fail
  refine bodyPost_ret (v := .tuple #[.agg #[.bool bm, .slice Am nm cm], .int .i64 1]) (by simp [results, Try.results14, go_sem, g0, g1]) rfl ⟨_, _, _, _, rfl, HZ.out, below_put cc (by omega) _ _⟩

set_option maxRecDepth 100000 in
set_option maxHeartbeats 8000000 in
theorem dnear_N {w : World} {b0 : Bool} {A0 B0 : Option Addr} {n0 c0 m0 d0 : Nat} {x0 : Rat} (hx : Rt w b0 A0 n0 c0 B0 m0 d0 x0) (s0 : Sz x0 15) {j : Int} (h0 : 0 ≤ j) (h1 : j ≤ 500) :
    Calls Try.prog 16 #[.agg #[.bool b0, .slice A0 n0 c0, .slice B0 m0 d0], .int .i64 j] w (GotZp w (nea x0 j.toNat) 0) := by
  have cc := Below.refl w.heap.size w
  go_enter Try.func16, Try.ntmps16
  go_wp2_with fail
  have f0 : ((w.alloc (.cells #[.bool b0, .slice A0 n0 c0, .slice B0 m0 d0] 27)).alloc (.cells #[.bool false, .slice none 0 0] 25)).frozen? ⟨w.heap.size + 1, 0, none⟩ = false := by simp [go_sem]
  have f1 : ((w.alloc (.cells #[.bool b0, .slice A0 n0 c0, .slice B0 m0 d0] 27)).alloc (.cells #[.bool false, .slice none 0 0] 25)).frozen? ⟨w.heap.size + 1, 1, none⟩ = false := by simp [go_sem]
  have bA : Below w.heap.size w ((w.alloc (.cells #[.bool b0, .slice A0 n0 c0, .slice B0 m0 d0] 27)).alloc (.cells #[.bool false, .slice none 0 0] 25)) := (((Below.refl _ w).alloc (by simp) _).alloc (by simp) _)
  replace hx := hx.on bA
  replace cc := bK cc bA
  clear bA
  have k0 : ((w.alloc (.cells #[.bool b0, .slice A0 n0 c0, .slice B0 m0 d0] 27)).alloc (.cells #[.bool false, .slice none 0 0] 25)).cell? ⟨w.heap.size, 0, none⟩ = some (.bool b0) := by simp [go_sem]
  have k1 : ((w.alloc (.cells #[.bool b0, .slice A0 n0 c0, .slice B0 m0 d0] 27)).alloc (.cells #[.bool false, .slice none 0 0] 25)).cell? ⟨w.heap.size, 1, none⟩ = some (.slice A0 n0 c0) := by simp [go_sem]
  have k2 : ((w.alloc (.cells #[.bool b0, .slice A0 n0 c0, .slice B0 m0 d0] 27)).alloc (.cells #[.bool false, .slice none 0 0] 25)).cell? ⟨w.heap.size, 2, none⟩ = some (.slice B0 m0 d0) := by simp [go_sem]
  have kl : w.heap.size < ((w.alloc (.cells #[.bool b0, .slice A0 n0 c0, .slice B0 m0 d0] 27)).alloc (.cells #[.bool false, .slice none 0 0] 25)).heap.size := by simp <;> omega
  have g0 : ((w.alloc (.cells #[.bool b0, .slice A0 n0 c0, .slice B0 m0 d0] 27)).alloc (.cells #[.bool false, .slice none 0 0] 25)).cell? ⟨w.heap.size + 1, 0, none⟩ = some (.bool false) := by simp [go_sem]
  have g1 : ((w.alloc (.cells #[.bool b0, .slice A0 n0 c0, .slice B0 m0 d0] 27)).alloc (.cells #[.bool false, .slice none 0 0] 25)).cell? ⟨w.heap.size + 1, 1, none⟩ = some (.slice none 0 0) := by simp [go_sem]
  have gl : w.heap.size + 1 < ((w.alloc (.cells #[.bool b0, .slice A0 n0 c0, .slice B0 m0 d0] 27)).alloc (.cells #[.bool false, .slice none 0 0] 25)).heap.size := by simp <;> omega
  generalize (w.alloc (.cells #[.bool b0, .slice A0 n0 c0, .slice B0 m0 d0] 27)).alloc (.cells #[.bool false, .slice none 0 0] 25) = v1 at *
  refine (rdnea_N hx (s0.le (by omega)) h0 h1 ⟨k0, k1, k2⟩).mono ?_
  rintro e w2 ⟨bm, Am, nm, cm, rfl, hm, b⟩
  replace f0 := fK b f0 gl
  replace f1 := fK b f1 gl
  replace hx := hx.on b
  replace k0 := cK b k0 kl
  replace k1 := cK b k1 kl
  replace k2 := cK b k2 kl
  replace kl := lK b kl
  replace g0 := cK b g0 gl
  replace g1 := cK b g1 gl
  replace gl := lK b gl
  replace cc := bK cc b
  clear b
  have hn : Zn w2 bm Am nm cm (nea x0 j.toNat) := hm
  have eb : Box w2 (w.heap.size + 1) false none 0 0 := ⟨g0, g1⟩
  have HZ : Hid (Zn ((w2.setCell ⟨w.heap.size + 1, 0, none⟩ (.bool bm)).setCell ⟨w.heap.size + 1, 1, none⟩ (.slice Am nm cm)) bm Am nm cm (nea x0 j.toNat)) := Lib.hid (hn.put eb _ _)
  clear hn
  go_wp2_with fail
  refine bodyPost_ret (v := .tuple #[.agg #[.bool bm, .slice Am nm cm], .int .i64 0]) (by simp [results, Try.results16, go_sem, g0, g1]) rfl ⟨_, _, _, _, rfl, HZ.out, below_put cc (by omega) _ _⟩

set_option maxRecDepth 100000 in
set_option maxHeartbeats 8000000 in
theorem dnear_no {w : World} {b0 : Bool} {A0 B0 : Option Addr} {n0 c0 m0 d0 : Nat} {x0 : Rat} (hx : Rt w b0 A0 n0 c0 B0 m0 d0 x0) (s0 : Sz x0 15) {j : Int} (h : j < 0 ∨ 2000 < j) :
    Calls Try.prog 16 #[.agg #[.bool b0, .slice A0 n0 c0, .slice B0 m0 d0], .int .i64 j] w (GotZp w 0 1) := by
  have cc := Below.refl w.heap.size w
  go_enter Try.func16, Try.ntmps16
  go_wp2_with fail
  have f0 : ((w.alloc (.cells #[.bool b0, .slice A0 n0 c0, .slice B0 m0 d0] 27)).alloc (.cells #[.bool false, .slice none 0 0] 25)).frozen? ⟨w.heap.size + 1, 0, none⟩ = false := by simp [go_sem]
  have f1 : ((w.alloc (.cells #[.bool b0, .slice A0 n0 c0, .slice B0 m0 d0] 27)).alloc (.cells #[.bool false, .slice none 0 0] 25)).frozen? ⟨w.heap.size + 1, 1, none⟩ = false := by simp [go_sem]
  have bA : Below w.heap.size w ((w.alloc (.cells #[.bool b0, .slice A0 n0 c0, .slice B0 m0 d0] 27)).alloc (.cells #[.bool false, .slice none 0 0] 25)) := (((Below.refl _ w).alloc (by simp) _).alloc (by simp) _)
  replace hx := hx.on bA
  replace cc := bK cc bA
  clear bA
  have k0 : ((w.alloc (.cells #[.bool b0, .slice A0 n0 c0, .slice B0 m0 d0] 27)).alloc (.cells #[.bool false, .slice none 0 0] 25)).cell? ⟨w.heap.size, 0, none⟩ = some (.bool b0) := by simp [go_sem]
  have k1 : ((w.alloc (.cells #[.bool b0, .slice A0 n0 c0, .slice B0 m0 d0] 27)).alloc (.cells #[.bool false, .slice none 0 0] 25)).cell? ⟨w.heap.size, 1, none⟩ = some (.slice A0 n0 c0) := by simp [go_sem]
  have k2 : ((w.alloc (.cells #[.bool b0, .slice A0 n0 c0, .slice B0 m0 d0] 27)).alloc (.cells #[.bool false, .slice none 0 0] 25)).cell? ⟨w.heap.size, 2, none⟩ = some (.slice B0 m0 d0) := by simp [go_sem]
  have kl : w.heap.size < ((w.alloc (.cells #[.bool b0, .slice A0 n0 c0, .slice B0 m0 d0] 27)).alloc (.cells #[.bool false, .slice none 0 0] 25)).heap.size := by simp <;> omega
  have g0 : ((w.alloc (.cells #[.bool b0, .slice A0 n0 c0, .slice B0 m0 d0] 27)).alloc (.cells #[.bool false, .slice none 0 0] 25)).cell? ⟨w.heap.size + 1, 0, none⟩ = some (.bool false) := by simp [go_sem]
  have g1 : ((w.alloc (.cells #[.bool b0, .slice A0 n0 c0, .slice B0 m0 d0] 27)).alloc (.cells #[.bool false, .slice none 0 0] 25)).cell? ⟨w.heap.size + 1, 1, none⟩ = some (.slice none 0 0) := by simp [go_sem]
  have gl : w.heap.size + 1 < ((w.alloc (.cells #[.bool b0, .slice A0 n0 c0, .slice B0 m0 d0] 27)).alloc (.cells #[.bool false, .slice none 0 0] 25)).heap.size := by simp <;> omega
  generalize (w.alloc (.cells #[.bool b0, .slice A0 n0 c0, .slice B0 m0 d0] 27)).alloc (.cells #[.bool false, .slice none 0 0] 25) = v1 at *
  refine (rd_no h).mono ?_
  rintro e w2 ⟨bm, Am, nm, cm, rfl, hm, b⟩
  replace f0 := fK b f0 gl
  replace f1 := fK b f1 gl
  replace hx := hx.on b
  replace k0 := cK b k0 kl
  replace k1 := cK b k1 kl
  replace k2 := cK b k2 kl
  replace kl := lK b kl
  replace g0 := cK b g0 gl
  replace g1 := cK b g1 gl
  replace gl := lK b gl
  replace cc := bK cc b
  clear b
  have hn : Zn w2 bm Am nm cm (0) := hm
  have eb : Box w2 (w.heap.size + 1) false none 0 0 := ⟨g0, g1⟩
  have HZ : Hid (Zn ((w2.setCell ⟨w.heap.size + 1, 0, none⟩ (.bool bm)).setCell ⟨w.heap.size + 1, 1, none⟩ (.slice Am nm cm)) bm Am nm cm (0)) := Lib.hid (hn.put eb _ _)
  clear hn
  go_wp2_with fail
  refine bodyPost_ret (v := .tuple #[.agg #[.bool bm, .slice Am nm cm], .int .i64 1]) (by simp [results, Try.results16, go_sem, g0, g1]) rfl ⟨_, _, _, _, rfl, HZ.out, below_put cc (by omega) _ _⟩

set_option maxRecDepth 100000 in
set_option maxHeartbeats 8000000 in
theorem dback_N {w : World} {b : Bool} {A : Option Addr} {n c : Nat} {z : Int} (ha : Zn w b A n c z) (hz : (limbs z.natAbs).length ≤ 40) {j : Int} (h0 : 0 ≤ j) (h1 : j ≤ 500) :
    Calls Try.prog 18 #[.agg #[.bool b, .slice A n c], .int .i64 j] w (GotRp w (bak z j.toNat) 0) := by
  have je := to_nat h0
  have jl : j.toNat ≤ 500 := by omega
  have hj2 : j ≤ 2000 := by omega
  obtain ⟨k, hk⟩ : ∃ k, j.toNat = k := ⟨_, rfl⟩
  rw [hk] at je jl ⊢
  have lk := len_pow2 jl
  have hp : 2 ^ k ≠ 0 := Nat.ne_of_gt (Nat.pow_pos (by omega))
  have l1 : (limbs 1).length ≤ 300 := Nat.le_trans (len_one (by decide)) (by omega)
  have CS : ∀ {W : World} {A : Option Addr} {m c x : Nat}, Num W A m c x → (limbs x).length ≤ 300 → Calls Try.prog 48 #[.slice A m c, .int .i64 j] W (GotP W (x * 2 ^ k) 0) := fun ha hx => by rw [← je]; exact dshl_N ha hx (by omega)
  clear hk je
  have cc := Below.refl w.heap.size w
  go_enter Try.func18, Try.ntmps18
  go_wp2_with fail
  have f0 : ((w.alloc (.cells #[.bool b, .slice A n c] 25)).alloc (.cells #[.bool false, .slice none 0 0, .slice none 0 0] 27)).frozen? ⟨w.heap.size + 1, 0, none⟩ = false := by simp [go_sem]
  have f1 : ((w.alloc (.cells #[.bool b, .slice A n c] 25)).alloc (.cells #[.bool false, .slice none 0 0, .slice none 0 0] 27)).frozen? ⟨w.heap.size + 1, 1, none⟩ = false := by simp [go_sem]
  have f2 : ((w.alloc (.cells #[.bool b, .slice A n c] 25)).alloc (.cells #[.bool false, .slice none 0 0, .slice none 0 0] 27)).frozen? ⟨w.heap.size + 1, 2, none⟩ = false := by simp [go_sem]
  have bA : Below w.heap.size w ((w.alloc (.cells #[.bool b, .slice A n c] 25)).alloc (.cells #[.bool false, .slice none 0 0, .slice none 0 0] 27)) := (((Below.refl _ w).alloc (by simp) _).alloc (by simp) _)
  replace ha := ha.on bA
  replace cc := bK cc bA
  clear bA
  have k0 : ((w.alloc (.cells #[.bool b, .slice A n c] 25)).alloc (.cells #[.bool false, .slice none 0 0, .slice none 0 0] 27)).cell? ⟨w.heap.size, 0, none⟩ = some (.bool b) := by simp [go_sem]
  have k1 : ((w.alloc (.cells #[.bool b, .slice A n c] 25)).alloc (.cells #[.bool false, .slice none 0 0, .slice none 0 0] 27)).cell? ⟨w.heap.size, 1, none⟩ = some (.slice A n c) := by simp [go_sem]
  have kl : w.heap.size < ((w.alloc (.cells #[.bool b, .slice A n c] 25)).alloc (.cells #[.bool false, .slice none 0 0, .slice none 0 0] 27)).heap.size := by simp <;> omega
  have g0 : ((w.alloc (.cells #[.bool b, .slice A n c] 25)).alloc (.cells #[.bool false, .slice none 0 0, .slice none 0 0] 27)).cell? ⟨w.heap.size + 1, 0, none⟩ = some (.bool false) := by simp [go_sem]
  have g1 : ((w.alloc (.cells #[.bool b, .slice A n c] 25)).alloc (.cells #[.bool false, .slice none 0 0, .slice none 0 0] 27)).cell? ⟨w.heap.size + 1, 1, none⟩ = some (.slice none 0 0) := by simp [go_sem]
  have g2 : ((w.alloc (.cells #[.bool b, .slice A n c] 25)).alloc (.cells #[.bool false, .slice none 0 0, .slice none 0 0] 27)).cell? ⟨w.heap.size + 1, 2, none⟩ = some (.slice none 0 0) := by simp [go_sem]
  have gl : w.heap.size + 1 < ((w.alloc (.cells #[.bool b, .slice A n c] 25)).alloc (.cells #[.bool false, .slice none 0 0, .slice none 0 0] 27)).heap.size := by simp <;> omega
  generalize (w.alloc (.cells #[.bool b, .slice A n c] 25)).alloc (.cells #[.bool false, .slice none 0 0, .slice none 0 0] 27) = v1 at *
  refine (isgrid_2 _ h0 hj2).mono ?_
  rintro e w2 ⟨rfl, b⟩
  replace f0 := fK b f0 gl
  replace f1 := fK b f1 gl
  replace f2 := fK b f2 gl
  replace ha := ha.on b
  replace k0 := cK b k0 kl
  replace k1 := cK b k1 kl
  replace kl := lK b kl
  replace g0 := cK b g0 gl
  replace g1 := cK b g1 gl
  replace g2 := cK b g2 gl
  replace gl := lK b gl
  replace cc := bK cc b
  clear b
  go_wp2_with fail
  refine (of_N _ 1 (by decide)).mono ?_
  rintro e w3 ⟨Ao, no, co, rfl, o, b⟩
  replace f0 := fK b f0 gl
  replace f1 := fK b f1 gl
  replace f2 := fK b f2 gl
  replace ha := ha.on b
  replace k0 := cK b k0 kl
  replace k1 := cK b k1 kl
  replace kl := lK b kl
  replace g0 := cK b g0 gl
  replace g1 := cK b g1 gl
  replace g2 := cK b g2 gl
  replace gl := lK b gl
  replace cc := bK cc b
  clear b
  go_wp2_with fail
  refine (CS o l1).mono ?_
  rintro e w4 ⟨Aq, nq, cq, rfl, q, b⟩
  rw [Nat.one_mul] at q
  replace f0 := fK b f0 gl
  replace f1 := fK b f1 gl
  replace f2 := fK b f2 gl
  replace ha := ha.on b
  replace o := o.on b
  replace k0 := cK b k0 kl
  replace k1 := cK b k1 kl
  replace kl := lK b kl
  replace g0 := cK b g0 gl
  replace g1 := cK b g1 gl
  replace g2 := cK b g2 gl
  replace gl := lK b gl
  replace cc := bK cc b
  clear b
  go_wp2_with fail
  refine (qmake_N ha q hp (by omega) (by omega)).mono ?_
  rintro e w5 ⟨bm, Am, nm, cm, Bm, mm, dm, rfl, hm, b⟩
  replace f0 := fK b f0 gl
  replace f1 := fK b f1 gl
  replace f2 := fK b f2 gl
  replace ha := ha.on b
  replace o := o.on b
  replace q := q.on b
  replace k0 := cK b k0 kl
  replace k1 := cK b k1 kl
  replace kl := lK b kl
  replace g0 := cK b g0 gl
  replace g1 := cK b g1 gl
  replace g2 := cK b g2 gl
  replace gl := lK b gl
  replace cc := bK cc b
  clear b
  have hn : Rt w5 bm Am nm cm Bm mm dm (bak z k) := hm
  have eb : BoxR w5 (w.heap.size + 1) false none 0 0 none 0 0 := ⟨g0, g1, g2⟩
  have HZ : Hid (Rt (putR w5 (w.heap.size + 1) (.bool bm) (.slice Am nm cm) (.slice Bm mm dm)) bm Am nm cm Bm mm dm (bak z k)) := Lib.hid (Rt.putR hn eb _ _ _)
  clear hn
  go_wp2_with fail
  refine bodyPost_ret (v := .tuple #[.agg #[.bool bm, .slice Am nm cm, .slice Bm mm dm], .int .i64 0]) (by simp [results, Try.results18, go_sem, g0, g1, g2]) rfl ⟨_, _, _, _, _, _, _, rfl, HZ.out, below_putR cc (by omega) _ _ _⟩

set_option maxRecDepth 100000 in
set_option maxHeartbeats 8000000 in
theorem dback_no {w : World} {b : Bool} {A : Option Addr} {n c : Nat} {j : Int} (h : j < 0 ∨ 2000 < j) :
    Calls Try.prog 18 #[.agg #[.bool b, .slice A n c], .int .i64 j] w (GotV w (.tuple #[.agg #[.bool false, .slice none 0 0, .slice none 0 0], .int .i64 1])) := by
  have cc := Below.refl w.heap.size w
  go_enter Try.func18, Try.ntmps18
  go_wp2_with fail
  have f0 : ((w.alloc (.cells #[.bool b, .slice A n c] 25)).alloc (.cells #[.bool false, .slice none 0 0, .slice none 0 0] 27)).frozen? ⟨w.heap.size + 1, 0, none⟩ = false := by simp [go_sem]
  have f1 : ((w.alloc (.cells #[.bool b, .slice A n c] 25)).alloc (.cells #[.bool false, .slice none 0 0, .slice none 0 0] 27)).frozen? ⟨w.heap.size + 1, 1, none⟩ = false := by simp [go_sem]
  have f2 : ((w.alloc (.cells #[.bool b, .slice A n c] 25)).alloc (.cells #[.bool false, .slice none 0 0, .slice none 0 0] 27)).frozen? ⟨w.heap.size + 1, 2, none⟩ = false := by simp [go_sem]
  have bA : Below w.heap.size w ((w.alloc (.cells #[.bool b, .slice A n c] 25)).alloc (.cells #[.bool false, .slice none 0 0, .slice none 0 0] 27)) := (((Below.refl _ w).alloc (by simp) _).alloc (by simp) _)
  replace cc := bK cc bA
  clear bA
  have k0 : ((w.alloc (.cells #[.bool b, .slice A n c] 25)).alloc (.cells #[.bool false, .slice none 0 0, .slice none 0 0] 27)).cell? ⟨w.heap.size, 0, none⟩ = some (.bool b) := by simp [go_sem]
  have k1 : ((w.alloc (.cells #[.bool b, .slice A n c] 25)).alloc (.cells #[.bool false, .slice none 0 0, .slice none 0 0] 27)).cell? ⟨w.heap.size, 1, none⟩ = some (.slice A n c) := by simp [go_sem]
  have kl : w.heap.size < ((w.alloc (.cells #[.bool b, .slice A n c] 25)).alloc (.cells #[.bool false, .slice none 0 0, .slice none 0 0] 27)).heap.size := by simp <;> omega
  have g0 : ((w.alloc (.cells #[.bool b, .slice A n c] 25)).alloc (.cells #[.bool false, .slice none 0 0, .slice none 0 0] 27)).cell? ⟨w.heap.size + 1, 0, none⟩ = some (.bool false) := by simp [go_sem]
  have g1 : ((w.alloc (.cells #[.bool b, .slice A n c] 25)).alloc (.cells #[.bool false, .slice none 0 0, .slice none 0 0] 27)).cell? ⟨w.heap.size + 1, 1, none⟩ = some (.slice none 0 0) := by simp [go_sem]
  have g2 : ((w.alloc (.cells #[.bool b, .slice A n c] 25)).alloc (.cells #[.bool false, .slice none 0 0, .slice none 0 0] 27)).cell? ⟨w.heap.size + 1, 2, none⟩ = some (.slice none 0 0) := by simp [go_sem]
  have gl : w.heap.size + 1 < ((w.alloc (.cells #[.bool b, .slice A n c] 25)).alloc (.cells #[.bool false, .slice none 0 0, .slice none 0 0] 27)).heap.size := by simp <;> omega
  generalize (w.alloc (.cells #[.bool b, .slice A n c] 25)).alloc (.cells #[.bool false, .slice none 0 0, .slice none 0 0] 27) = v1 at *
  refine (isgrid_no _ h).mono ?_
  rintro e w2 ⟨rfl, b⟩
  replace f0 := fK b f0 gl
  replace f1 := fK b f1 gl
  replace f2 := fK b f2 gl
  replace k0 := cK b k0 kl
  replace k1 := cK b k1 kl
  replace kl := lK b kl
  replace g0 := cK b g0 gl
  replace g1 := cK b g1 gl
  replace g2 := cK b g2 gl
  replace gl := lK b gl
  replace cc := bK cc b
  clear b
  go_wp2_with fail
  exact bodyPost_ret (v := .tuple #[.agg #[.bool false, .slice none 0 0, .slice none 0 0], .int .i64 1]) (by simp [results, Try.results18, go_sem, g0, g1, g2]) rfl ⟨rfl, below_putR cc (by omega) _ _ _⟩

end Go.Proofs.Ytchbhmcaalkfdaa
