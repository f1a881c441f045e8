/-
  Several texts in one: DX, M8, F8, K8, Fr, FrR, FrA, FrI, FrV, MathR, M15, B1.
-/
import Derived.Test.YtmaolhajeoigpaaA4
import Derived.Test.YtmaolhajeoigpaaA3
import Derived.Test.YtmaolhajeoigpaaA2
import Derived.WalkKit
import Derived.ProofKit
import Derived.OpenShut
import Derived.ShutString
import Derived.ChangeOld
import Derived.Below
import Derived.Lib.SmallJoins
import Derived.Deep.Slices
import Derived.Deep.Strs
import Derived.Test.YtmaolhajeoigpaaA1
import Derived.WalkSpells
import Derived.WalkLawsBesides
import Derived.Lib.Hide
import Derived.Lib.SliceRun
import Derived.Deep.RegionHeld3
import Derived.Deep.AppendLies
import Derived.Deep.QuietTactic
import Derived.Deep.DeepCutAuto
import Derived.Deep.CutBlock
import Derived.Deep.Draws
import Derived.Laws.OwnMore
import Derived.Test.YtmaolhajeoigpaaRows

/-
  Numbers on a grid by what is left; the contracts of dyad: isGrid, isOdd, the closures.
-/
namespace Go.Proofs.Ytmaolhajeoigpaa
set_option maxRecDepth 100000
set_option maxHeartbeats 8000000
open Go.RowKit
set_option linter.unusedVariables false
set_option linter.unusedSimpArgs false

theorem zn_minus {w : World} {A : Option Addr} {n c t : Nat} (h : Num w A n c t) (h0 : t ≠ 0) : Zn w true A n c (-(t : Int)) := ⟨by rw [Int.natAbs_neg, Int.natAbs_natCast]; exact h, (decide_eq_true (by omega)).symm⟩
theorem num_void {w : World} {A : Option Addr} {n c t : Nat} (h : Num w A n c t) (h0 : t = 0) : n = 0 := by
  have e := h.len
  rw [h0, limbs_zero] at e; simpa using e
theorem cei_pos (a : Rat) (k : Nat) (h : ¬ a.num < 0) : cei a k = ((a.num.natAbs * 2 ^ k / a.den + (if a.num.natAbs * 2 ^ k % a.den = 0 then 0 else 1) : Nat) : Int) := by
  unfold cei
  by_cases h0 : a.num = 0
  · have e : a.num.natAbs * 2 ^ k = 0 := by rw [h0]; simp
    have h1 : ¬ (-a).num < 0 := by rw [Rat.neg_num]; omega
    rw [flo_pos _ _ h1, Rat.neg_num, Int.natAbs_neg, Rat.neg_den, e]
    simp
  · have h1 : (-a).num < 0 := by rw [Rat.neg_num]; omega
    rw [flo_neg _ _ h1, Rat.neg_num, Int.natAbs_neg, Rat.neg_den, Int.neg_neg]
theorem cei_less (a : Rat) (k : Nat) (h : a.num < 0) : cei a k = -((a.num.natAbs * 2 ^ k / a.den : Nat) : Int) := by
  unfold cei
  have h1 : ¬ (-a).num < 0 := by rw [Rat.neg_num]; omega
  rw [flo_pos _ _ h1, Rat.neg_num, Int.natAbs_neg, Rat.neg_den]
/-- Whether the nearest is one step farther from nought. -/
def fars (u q : Nat) : Bool := decide (q < u % q + u % q) || (decide (u % q + u % q = q) && decide (u / q % 2 = 1))
theorem half_nat (u q : Nat) (hq : 0 < q) (A : Rat) (hA : A * (q : Rat) = (u : Rat)) : nr A = ((u / q + (if fars u q = true then 1 else 0) : Nat) : Int) := by
  have h1 := Nat.div_add_mod u q
  have h2 := Nat.mod_lt u hq
  unfold fars
  generalize u / q = T at h1 ⊢
  generalize u % q = r at h1 h2 ⊢
  have hqp : (0 : Rat) < (q : Rat) := Rat.natCast_pos.2 hq
  have hq0 : (q : Rat) ≠ 0 := by grind
  have e : A = (T : Rat) + (r : Rat) / (q : Rat) := by
    have : (u : Rat) = (q : Rat) * (T : Rat) + (r : Rat) := by rw [← h1, Rat.natCast_add, Rat.natCast_mul]
    grind
  have hr0 : (0 : Rat) ≤ (r : Rat) := Rat.natCast_nonneg
  have eT : ((T : Int) : Rat) = (T : Rat) := rfl
  have o : ((1 : Int) : Rat) = 1 := rfl
  obtain ⟨s, hs⟩ : ∃ s : Rat, (r : Rat) / (q : Rat) = s := ⟨_, rfl⟩
  have hsq : s * (q : Rat) = (r : Rat) := by rw [← hs]; grind
  have twice : ∀ {a b : Nat}, (a : Rat) ≤ (b : Rat) ↔ a ≤ b := fun {a b} => Rat.natCast_le_natCast
  have dbl : s + s = ((r + r : Nat) : Rat) / (q : Rat) := by rw [Rat.natCast_add]; grind
  have hle : s + s ≤ 1 ↔ r + r ≤ q := by
    rw [dbl]
    constructor
    · intro h
      have h3 : ((r + r : Nat) : Rat) ≤ (q : Rat) := by
        have := Rat.mul_le_mul_of_nonneg_right h (Rat.le_of_lt hqp)
        have e2 : ((r + r : Nat) : Rat) / (q : Rat) * (q : Rat) = ((r + r : Nat) : Rat) := by grind
        rw [e2, Rat.one_mul] at this; exact this
      exact twice.1 h3
    · intro h
      have h3 := twice.2 h
      have e2 : ((r + r : Nat) : Rat) / (q : Rat) * (q : Rat) = ((r + r : Nat) : Rat) := by grind
      apply Rat.le_of_mul_le_mul_right _ hqp
      rw [e2, Rat.one_mul]; exact h3
  have hge : 1 ≤ s + s ↔ q ≤ r + r := by
    rw [dbl]
    have e2 : ((r + r : Nat) : Rat) / (q : Rat) * (q : Rat) = ((r + r : Nat) : Rat) := by grind
    constructor
    · intro h
      have := Rat.mul_le_mul_of_nonneg_right h (Rat.le_of_lt hqp)
      rw [e2, Rat.one_mul] at this; exact twice.1 this
    · intro h
      apply Rat.le_of_mul_le_mul_right _ hqp
      rw [e2, Rat.one_mul]; exact twice.2 h
  have hs0 : 0 ≤ s := by
    apply Rat.le_of_mul_le_mul_right _ hqp
    rw [hsq, Rat.zero_mul]; exact hr0
  have hs1 : s < 1 := by
    have : (r : Rat) < (q : Rat) := Rat.natCast_lt_natCast.2 h2
    apply Rat.lt_of_mul_lt_mul_right _ (Rat.le_of_lt hqp)
    rw [hsq, Rat.one_mul]; exact this
  rw [hs] at e
  clear hsq dbl hr0 hqp hq0 hs h1 twice hA
  apply nr_unique
  unfold NrHalf
  subst e
  by_cases c1 : q < r + r
  · have c2 : 1 ≤ s + s := hge.2 (by omega)
    have c3 : ¬ s + s ≤ 1 := fun h => by have := hle.1 h; omega
    simp only [c1, decide_true, Bool.true_or, if_true]
    rw [Int.natCast_add, Rat.intCast_add, eT]
    have o2 : (((1 : Nat) : Int) : Rat) = 1 := rfl
    rw [o2]
    refine ⟨by grind, by grind, ?_⟩
    intro h; exfalso; grind
  · have c3 : s + s ≤ 1 := hle.2 (by omega)
    by_cases c2 : r + r = q
    · have c4 : 1 ≤ s + s := hge.2 (by omega)
      by_cases c5 : T % 2 = 1
      · simp only [c1, c2, c5, decide_true, decide_false, Bool.false_or, Bool.and_self, if_true, Nat.lt_irrefl]
        rw [Int.natCast_add, Rat.intCast_add, eT]
        have o2 : (((1 : Nat) : Int) : Rat) = 1 := rfl
        rw [o2]
        refine ⟨by grind, by grind, ?_⟩
        intro _; omega
      · simp only [c1, c2, c5, decide_true, decide_false, Bool.false_or, Bool.and_false, Nat.lt_irrefl]
        simp only [Bool.false_eq_true, if_false, Nat.add_zero]
        rw [eT]
        refine ⟨by grind, by grind, ?_⟩
        intro _; omega
    · have c4 : ¬ 1 ≤ s + s := fun h => by have := hge.1 h; omega
      simp only [c1, c2, decide_false, Bool.false_or, Bool.false_and]
      simp only [Bool.false_eq_true, if_false, Nat.add_zero]
      rw [eT]
      refine ⟨by grind, by grind, ?_⟩
      intro h; exfalso; grind
theorem sides_dw (a : Rat) (k : Nat) (h : ¬ a.num < 0) : a * dw k * (a.den : Rat) = ((a.num.natAbs * 2 ^ k : Nat) : Rat) := by
  unfold dw
  have h1 : a * (a.den : Rat) = ((a.num : Int) : Rat) := by
    conv => lhs; rw [← Rat.mkRat_self a]
    have h2 : ((a.den : Nat) : Rat) = mkRat ((a.den : Nat) : Int) 1 := by rw [Rat.mkRat_one]; rfl
    have h3 : ((a.num : Int) : Rat) = mkRat a.num 1 := by rw [Rat.mkRat_one]
    have hd := a.den_nz
    rw [Rat.mkRat_self, h3]
    conv => lhs; rw [← Rat.mkRat_self a]
    rw [Rat.mkRat_self]
    conv => lhs; arg 1; rw [← Rat.mkRat_self a]
    rw [h2, Rat.mkRat_mul_mkRat, Rat.mkRat_eq_iff (by omega) (by omega)]
    simp
  have h4 : ((a.num : Int) : Rat) = ((a.num.natAbs : Nat) : Rat) := by
    have : a.num = (a.num.natAbs : Int) := by omega
    conv => lhs; rw [this]
    rfl
  rw [Rat.natCast_mul, ← h4, ← h1]
  generalize ((2 ^ k : Nat) : Rat) = p
  grind
theorem nea_pos (a : Rat) (k : Nat) (h : ¬ a.num < 0) : nea a k = ((a.num.natAbs * 2 ^ k / a.den + (if fars (a.num.natAbs * 2 ^ k) a.den = true then 1 else 0) : Nat) : Int) := by
  unfold nea
  exact half_nat _ _ (Nat.pos_of_ne_zero a.den_nz) _ (sides_dw a k h)
theorem nea_less (a : Rat) (k : Nat) (h : a.num < 0) : nea a k = -((a.num.natAbs * 2 ^ k / a.den + (if fars (a.num.natAbs * 2 ^ k) a.den = true then 1 else 0) : Nat) : Int) := by
  have h1 : ¬ (-a).num < 0 := by rw [Rat.neg_num]; omega
  have e := nea_pos (-a) k h1
  rw [nea_neg, Rat.neg_num, Int.natAbs_neg, Rat.neg_den] at e
  omega

theorem isgrid_0 (w : World) {j : Int} (h : j < 0) :
    Calls Try.prog 91 #[.int .i64 j] w (GotV w (.bool false)) := by
  have t1 : decide (0 ≤ j) = false := decide_eq_false (by omega)
  go_enter Try.func91, Try.ntmps91
  go_wp2_with fail
  go_ret
  exact ⟨rfl, Below.refl _ _⟩

theorem isgrid_1 (w : World) {j : Int} (h0 : 0 ≤ j) (h1 : 2000 < j) :
    Calls Try.prog 91 #[.int .i64 j] w (GotV w (.bool false)) := by
  have t1 : decide (0 ≤ j) = true := decide_eq_true h0
  have t2 : decide (j ≤ 2000) = false := decide_eq_false (by omega)
  go_enter Try.func91, Try.ntmps91
  go_wp2_with fail
  go_ret
  exact ⟨rfl, Below.refl _ _⟩

theorem isgrid_2 (w : World) {j : Int} (h0 : 0 ≤ j) (h1 : j ≤ 2000) :
    Calls Try.prog 91 #[.int .i64 j] w (GotV w (.bool true)) := by
  have t1 : decide (0 ≤ j) = true := decide_eq_true h0
  have t2 : decide (j ≤ 2000) = true := decide_eq_true (by omega)
  go_enter Try.func91, Try.ntmps91
  go_wp2_with fail
  go_ret
  exact ⟨rfl, Below.refl _ _⟩

theorem isgrid_no (w : World) {j : Int} (h : j < 0 ∨ 2000 < j) :
    Calls Try.prog 91 #[.int .i64 j] w (GotV w (.bool false)) := by
  by_cases h0 : 0 ≤ j
  · exact isgrid_1 w h0 (by omega)
  · exact isgrid_0 w (by omega)

theorem disodd_0 {w : World} {A : Option Addr} {n c : Nat} (hn : n = 0) :
    Calls Try.prog 85 #[.slice A n c] w (GotV w (.bool false)) := by
  have t1 : decide ((0 : Int) < (n : Int)) = false := decide_eq_false (by omega)
  have t2 : decide (0 < n) = false := decide_eq_false (by omega)
  clear hn
  have cc := Below.refl w.heap.size w
  go_enter Try.func85, Try.ntmps85
  go_wp2_with fail
  go_ret
  exact ⟨rfl, cc⟩

theorem disodd_1 {w : World} {A : Option Addr} {n c x : Nat} (ha : Num w A n c x) (hn : 0 < n) (r : Bool) (hr : decide (x % 2 = 1) = r) :
    Calls Try.prog 85 #[.slice A n c] w (GotV w (.bool r)) := by
  obtain ⟨bk, off, rfl, hb, hc⟩ := ha.2.2.2 hn
  have h0 := hc 0 hn
  rw [Nat.add_zero] at h0
  have hz : x ≠ 0 := num_ne ha hn
  obtain ⟨v, hv⟩ : ∃ v, ((limbs x)[0]?.getD 0) = v := ⟨_, rfl⟩
  have hm := low_mod x hz
  rw [hv] at h0 hm
  clear hv hc
  have e1 : ((v : Int) % 2 == 1) = r := by rw [← hr, Bool.eq_iff_iff, beq_iff_eq, decide_eq_true_iff]; omega
  have hn2 : 1 ≤ n := hn
  have t1 : decide ((0 : Int) < (n : Int)) = true := decide_eq_true (by omega)
  have t2 : decide (0 < n) = true := decide_eq_true (by omega)
  have cc := Below.refl w.heap.size w
  go_enter Try.func85, Try.ntmps85
  go_wp2_with fail
  go_ret
  exact ⟨rfl, cc⟩

theorem disodd_N {w : World} {A : Option Addr} {n c x : Nat} (r : Bool) (ha : Num w A n c x) (hr : decide (x % 2 = 1) = r) :
    Calls Try.prog 85 #[.slice A n c] w (GotV w (.bool r)) := by
  rcases Nat.eq_zero_or_pos n with hn | hn
  · have : x = 0 := by
      have e := ha.len
      rw [hn] at e
      have e2 := List.length_eq_zero_iff.1 e.symm
      rw [← val_limbs x, e2, val_nil]
    subst this
    simp at hr
    subst hr
    exact disodd_0 hn
  · exact disodd_1 ha hn r hr







theorem knear_gt {w : World} {g n c m d x y : Nat} {A B : Option Addr} {b0 : Bool} {A0 B0 : Option Addr} {n0 c0 m0 d0 q : Nat} (r0 : w.cell? ⟨g, 0, none⟩ = some (.bool b0)) (r1 : w.cell? ⟨g, 1, none⟩ = some (.slice A0 n0 c0)) (r2 : w.cell? ⟨g, 2, none⟩ = some (.slice B0 m0 d0)) (ha : Num w A n c x) (hb : Num w B m d y) (hq : Num w B0 m0 d0 q) (ly : (limbs y).length ≤ 299) (lq : (limbs q).length ≤ 300) (hy : q < y + y) :
    Calls Try.prog 84 #[.slice A n c, .slice B m d, .pointer (some ⟨g, 0, none⟩)] w (GotV w (.bool true)) := by
  have ll : (limbs (y + y)).length ≤ 300 := limbs_length_add ly ly
  have hc : cmpN (y + y) q = 1 := cmpN_gt hy
  have hrl := cell_lt r2
  simp only at hrl
  have CC : ∀ {W : World} {A B : Option Addr} {n c m d : Nat}, Num W A n c (y + y) → Num W B m d q → Calls Try.prog 53 #[.slice A n c, .slice B m d] W (GotV W (.int .i64 (1))) := fun hu hv => by rw [← hc]; exact cmp_N hu hv (by omega) (by omega)
  clear hc hy
  have rl := hrl
  clear hrl
  have cc := Below.refl w.heap.size w
  go_enter Try.func84, Try.ntmps84
  go_wp2_with fail
  have qq : Below w.heap.size w w.drew := below_drewN (Below.refl _ w) 1
  have ha' := ha.on qq
  have hb' := hb.on qq
  have hq' := hq.on qq
  go_region_held3 (fun w' => w'.cell? ⟨g, 0, none⟩ = some (.bool b0) ∧ w'.cell? ⟨g, 1, none⟩ = some (.slice A0 n0 c0) ∧ w'.cell? ⟨g, 2, none⟩ = some (.slice B0 m0 d0))
    (first | with_reducible exact ⟨cK qq r0 rl, cK qq r1 rl, cK qq r2 rl⟩ | go_keep)
    (first
      | (go_at_call 77; (with_reducible refine (add_N hb' hb' (by omega) (by omega)).mono ?_); rintro e wz ⟨As, ns, cs, rfl, s, q⟩; replace qq := bK qq q; (try replace ha' := ha'.on q); (try replace hb' := hb'.on q); (try replace hq' := hq'.on q); clear q)
      | (go_at_call 53; (with_reducible refine (CC s hq').mono ?_); rintro e wz ⟨rfl, q⟩; replace qq := bK qq q; (try replace ha' := ha'.on q); (try replace hb' := hb'.on q); (try replace hq' := hq'.on q); (try replace s := s.on q); clear q))
  clear ha
  have ha := ha'
  clear ha'
  clear hb
  have hb := hb'
  clear hb'
  clear hq
  have hq := hq'
  clear hq'
  rewrite [cR qq rl] at r0 r1 r2
  replace rl := lK qq rl
  replace cc := bK cc qq
  clear qq
  go_wp2_with fail
  go_ret
  exact ⟨rfl, cc⟩

theorem knear_eq {w : World} {g n c m d x y : Nat} {A B : Option Addr} {b0 : Bool} {A0 B0 : Option Addr} {n0 c0 m0 d0 q : Nat} (r0 : w.cell? ⟨g, 0, none⟩ = some (.bool b0)) (r1 : w.cell? ⟨g, 1, none⟩ = some (.slice A0 n0 c0)) (r2 : w.cell? ⟨g, 2, none⟩ = some (.slice B0 m0 d0)) (ha : Num w A n c x) (hb : Num w B m d y) (hq : Num w B0 m0 d0 q) (ly : (limbs y).length ≤ 299) (lq : (limbs q).length ≤ 300) (hy : y + y = q) (r : Bool) (hr : decide (x % 2 = 1) = r) :
    Calls Try.prog 84 #[.slice A n c, .slice B m d, .pointer (some ⟨g, 0, none⟩)] w (GotV w (.bool r)) := by
  have ll : (limbs (y + y)).length ≤ 300 := limbs_length_add ly ly
  have hc : cmpN (y + y) q = 0 := cmpN_zero.2 hy
  have hrl := cell_lt r2
  simp only at hrl
  have CC : ∀ {W : World} {A B : Option Addr} {n c m d : Nat}, Num W A n c (y + y) → Num W B m d q → Calls Try.prog 53 #[.slice A n c, .slice B m d] W (GotV W (.int .i64 (0))) := fun hu hv => by rw [← hc]; exact cmp_N hu hv (by omega) (by omega)
  clear hc hy
  have rl := hrl
  clear hrl
  have cc := Below.refl w.heap.size w
  go_enter Try.func84, Try.ntmps84
  go_wp2_with fail
  have qq : Below w.heap.size w w.drew := below_drewN (Below.refl _ w) 1
  have ha' := ha.on qq
  have hb' := hb.on qq
  have hq' := hq.on qq
  go_region_held3 (fun w' => w'.cell? ⟨g, 0, none⟩ = some (.bool b0) ∧ w'.cell? ⟨g, 1, none⟩ = some (.slice A0 n0 c0) ∧ w'.cell? ⟨g, 2, none⟩ = some (.slice B0 m0 d0))
    (first | with_reducible exact ⟨cK qq r0 rl, cK qq r1 rl, cK qq r2 rl⟩ | go_keep)
    (first
      | (go_at_call 77; (with_reducible refine (add_N hb' hb' (by omega) (by omega)).mono ?_); rintro e wz ⟨As, ns, cs, rfl, s, q⟩; replace qq := bK qq q; (try replace ha' := ha'.on q); (try replace hb' := hb'.on q); (try replace hq' := hq'.on q); clear q)
      | (go_at_call 53; (with_reducible refine (CC s hq').mono ?_); rintro e wz ⟨rfl, q⟩; replace qq := bK qq q; (try replace ha' := ha'.on q); (try replace hb' := hb'.on q); (try replace hq' := hq'.on q); (try replace s := s.on q); clear q))
  clear ha
  have ha := ha'
  clear ha'
  clear hb
  have hb := hb'
  clear hb'
  clear hq
  have hq := hq'
  clear hq'
  rewrite [cR qq rl] at r0 r1 r2
  replace rl := lK qq rl
  replace cc := bK cc qq
  clear qq
  go_wp2_with fail
  refine (disodd_N r ha hr).mono ?_
  rintro e w9 ⟨rfl, b⟩
  replace ha := ha.on b
  replace hb := hb.on b
  replace hq := hq.on b
  rewrite [cR b rl] at r0 r1 r2
  replace rl := lK b rl
  replace cc := bK cc b
  clear b
  go_wp2_with fail
  go_ret
  exact ⟨rfl, cc⟩

theorem knear_lt {w : World} {g n c m d x y : Nat} {A B : Option Addr} {b0 : Bool} {A0 B0 : Option Addr} {n0 c0 m0 d0 q : Nat} (r0 : w.cell? ⟨g, 0, none⟩ = some (.bool b0)) (r1 : w.cell? ⟨g, 1, none⟩ = some (.slice A0 n0 c0)) (r2 : w.cell? ⟨g, 2, none⟩ = some (.slice B0 m0 d0)) (ha : Num w A n c x) (hb : Num w B m d y) (hq : Num w B0 m0 d0 q) (ly : (limbs y).length ≤ 299) (lq : (limbs q).length ≤ 300) (hy : y + y < q) :
    Calls Try.prog 84 #[.slice A n c, .slice B m d, .pointer (some ⟨g, 0, none⟩)] w (GotV w (.bool false)) := by
  have ll : (limbs (y + y)).length ≤ 300 := limbs_length_add ly ly
  have hc : cmpN (y + y) q = -1 := cmpN_lt hy
  have hrl := cell_lt r2
  simp only at hrl
  have CC : ∀ {W : World} {A B : Option Addr} {n c m d : Nat}, Num W A n c (y + y) → Num W B m d q → Calls Try.prog 53 #[.slice A n c, .slice B m d] W (GotV W (.int .i64 (-1))) := fun hu hv => by rw [← hc]; exact cmp_N hu hv (by omega) (by omega)
  clear hc hy
  have rl := hrl
  clear hrl
  have cc := Below.refl w.heap.size w
  go_enter Try.func84, Try.ntmps84
  go_wp2_with fail
  have qq : Below w.heap.size w w.drew := below_drewN (Below.refl _ w) 1
  have ha' := ha.on qq
  have hb' := hb.on qq
  have hq' := hq.on qq
  go_region_held3 (fun w' => w'.cell? ⟨g, 0, none⟩ = some (.bool b0) ∧ w'.cell? ⟨g, 1, none⟩ = some (.slice A0 n0 c0) ∧ w'.cell? ⟨g, 2, none⟩ = some (.slice B0 m0 d0))
    (first | with_reducible exact ⟨cK qq r0 rl, cK qq r1 rl, cK qq r2 rl⟩ | go_keep)
    (first
      | (go_at_call 77; (with_reducible refine (add_N hb' hb' (by omega) (by omega)).mono ?_); rintro e wz ⟨As, ns, cs, rfl, s, q⟩; replace qq := bK qq q; (try replace ha' := ha'.on q); (try replace hb' := hb'.on q); (try replace hq' := hq'.on q); clear q)
      | (go_at_call 53; (with_reducible refine (CC s hq').mono ?_); rintro e wz ⟨rfl, q⟩; replace qq := bK qq q; (try replace ha' := ha'.on q); (try replace hb' := hb'.on q); (try replace hq' := hq'.on q); (try replace s := s.on q); clear q))
  clear ha
  have ha := ha'
  clear ha'
  clear hb
  have hb := hb'
  clear hb'
  clear hq
  have hq := hq'
  clear hq'
  rewrite [cR qq rl] at r0 r1 r2
  replace rl := lK qq rl
  replace cc := bK cc qq
  clear qq
  go_wp2_with fail
  go_ret
  exact ⟨rfl, cc⟩

theorem knear_N {w : World} {g n c m d : Nat} {A B : Option Addr} {b0 : Bool} {A0 B0 : Option Addr} {n0 c0 m0 d0 q u : Nat} (r0 : w.cell? ⟨g, 0, none⟩ = some (.bool b0)) (r1 : w.cell? ⟨g, 1, none⟩ = some (.slice A0 n0 c0)) (r2 : w.cell? ⟨g, 2, none⟩ = some (.slice B0 m0 d0)) (ha : Num w A n c (u / q)) (hb : Num w B m d (u % q)) (hq : Num w B0 m0 d0 q) (ly : (limbs (u % q)).length ≤ 299) (lq : (limbs q).length ≤ 300) :
    Calls Try.prog 84 #[.slice A n c, .slice B m d, .pointer (some ⟨g, 0, none⟩)] w (GotV w (.bool (fars u q))) := by
  unfold fars
  rcases Nat.lt_trichotomy q (u % q + u % q) with h | h | h
  · have e : (decide (q < u % q + u % q) || (decide (u % q + u % q = q) && decide (u / q % 2 = 1))) = true := by rw [decide_eq_true h]; rfl
    rw [e]; exact knear_gt r0 r1 r2 ha hb hq ly lq h
  · have e : (decide (q < u % q + u % q) || (decide (u % q + u % q = q) && decide (u / q % 2 = 1))) = decide (u / q % 2 = 1) := by rw [decide_eq_false (show ¬ q < u % q + u % q by omega), decide_eq_true h.symm]; simp
    rw [e]; exact knear_eq r0 r1 r2 ha hb hq ly lq h.symm _ rfl
  · have e : (decide (q < u % q + u % q) || (decide (u % q + u % q = q) && decide (u / q % 2 = 1))) = false := by rw [decide_eq_false (show ¬ q < u % q + u % q by omega), decide_eq_false (show ¬ u % q + u % q = q by omega)]; rfl
    rw [e]; exact knear_lt r0 r1 r2 ha hb hq ly lq h

end Go.Proofs.Ytmaolhajeoigpaa

/-
  Numbers rounded to the nearest, ties to even: what fix tells.
-/
namespace Go.Proofs.Ytmaolhajeoigpaa
set_option linter.unusedSimpArgs false
set_option linter.unusedVariables false

theorem mk_times (n : Int) (d : Nat) (hd : d ≠ 0) : mkRat n d * ((d : Nat) : Rat) = (n : Rat) := by
  have h2 : ((d : Nat) : Rat) = mkRat ((d : Nat) : Int) 1 := by rw [Rat.mkRat_one]; rfl
  have h3 : (n : Rat) = mkRat n 1 := by rw [Rat.mkRat_one]
  rw [h2, h3, Rat.mkRat_mul_mkRat, Rat.mkRat_eq_iff (by omega) (by decide)]
  simp
theorem nat_pos_rat {d : Nat} (hd : d ≠ 0) : (0 : Rat) < ((d : Nat) : Rat) := Rat.natCast_pos.2 (by omega)
theorem mk_of {A : Rat} {n : Int} {d : Nat} (hd : d ≠ 0) (h : A * ((d : Nat) : Rat) = (n : Rat)) : A = mkRat n d := by
  have h1 := mk_times n d hd
  have h2 := nat_pos_rat hd
  have e := h.trans h1.symm
  exact Rat.le_antisymm (Rat.le_of_mul_le_mul_right (by rw [e]; exact Rat.le_refl) h2) (Rat.le_of_mul_le_mul_right (by rw [e]; exact Rat.le_refl) h2)
/-- A whole number by another one, to the nearest, ties to even. -/
def rn (n : Int) (d : Nat) : Int := nr (mkRat n d)
theorem rn_of {A : Rat} {n : Int} {d : Nat} (hd : d ≠ 0) (h : A * ((d : Nat) : Rat) = (n : Rat)) : nr A = rn n d := by rw [mk_of hd h]; rfl
theorem rn_neg (n : Int) {d : Nat} (hd : d ≠ 0) : rn (-n) d = -rn n d := by
  have h : -mkRat n d = mkRat (-n) d := mk_of hd (by rw [Rat.neg_mul, mk_times n d hd, Rat.intCast_neg])
  unfold rn
  rw [← h, nr_neg]
theorem rn_mono {n m : Int} {d : Nat} (hd : d ≠ 0) (h : n ≤ m) : rn n d ≤ rn m d := by
  refine nr_mono ?_
  apply Rat.le_of_mul_le_mul_right (c := ((d : Nat) : Rat)) _ (nat_pos_rat hd)
  rw [mk_times n d hd, mk_times m d hd]
  exact Rat.intCast_le_intCast.2 h
theorem rn_self (a : Int) {d : Nat} (hd : d ≠ 0) : rn (a * (d : Int)) d = a := by
  have h : (a : Rat) = mkRat (a * (d : Int)) d := mk_of hd (by rw [Rat.intCast_mul]; rfl)
  unfold rn
  rw [← h, nr_int]
theorem rn_nat (u d : Nat) (hd : d ≠ 0) : rn (u : Int) d = ((u / d + (if fars u d = true then 1 else 0) : Nat) : Int) := half_nat u d (by omega) _ (by rw [mk_times _ d hd]; rfl)
theorem rn_one (n : Int) : rn n 1 = n := by have := rn_self n (d := 1) (by omega); simpa using this
/-- What fix's calls tell. -/
theorem nea_sum (a b : Int) : nea ((a : Rat) + (b : Rat)) 0 = a + b := by
  unfold nea dw
  have : ((a : Rat) + (b : Rat)) * ((2 ^ 0 : Nat) : Rat) = ((a + b : Int) : Rat) := by rw [Rat.intCast_add]; simp
  rw [this, nr_int]
theorem nea_diff (a b : Int) : nea ((a : Rat) - (b : Rat)) 0 = a - b := by
  unfold nea dw
  have : ((a : Rat) - (b : Rat)) * ((2 ^ 0 : Nat) : Rat) = ((a - b : Int) : Rat) := by rw [Rat.intCast_sub]; simp
  rw [this, nr_int]
theorem pow_ne (k : Nat) : 2 ^ k ≠ 0 := Nat.ne_of_gt (Nat.pow_pos (by omega))
theorem nea_prod (a b : Int) (k : Nat) : nea (bak a k * bak b k) k = rn (a * b) (2 ^ k) := by
  unfold nea
  refine rn_of (pow_ne k) ?_
  have h1 := bak_mul a k
  have h2 := bak_mul b k
  rw [Rat.intCast_mul, ← h1, ← h2]
  show bak a k * bak b k * dw k * dw k = _
  grind
theorem nea_quot (a b : Int) (k : Nat) (hb : b ≠ 0) : nea ((a : Rat) / (b : Rat)) k = rn (b.sign * (a * ((2 ^ k : Nat) : Int))) b.natAbs := by
  unfold nea
  refine rn_of (by omega) ?_
  have h0 : (b : Rat) ≠ 0 := fun h => hb (Rat.intCast_eq_zero_iff.1 h)
  have h1 : ((b.natAbs : Nat) : Rat) = ((b.sign * b : Int) : Rat) := by
    have : ((b.natAbs : Nat) : Int) = b.sign * b := by
      rcases Int.lt_trichotomy b 0 with h | h | h
      · rw [Int.sign_eq_neg_one_of_neg h]; omega
      · omega
      · rw [Int.sign_eq_one_of_pos h]; omega
    rw [← this]; rfl
  have h2 : dw k = (((2 ^ k : Nat) : Int) : Rat) := rfl
  rw [h1, Rat.intCast_mul, Rat.intCast_mul, Rat.intCast_mul, ← h2]
  generalize (b.sign : Rat) = s
  grind
theorem nea_scale (a n : Int) (d : Nat) (hd : d ≠ 0) : nea ((a : Rat) * (n : Rat) / ((d : Int) : Rat)) 0 = rn (a * n) d := by
  unfold nea
  refine rn_of hd ?_
  have h0 := nat_pos_rat hd
  have h1 : ((d : Int) : Rat) = ((d : Nat) : Rat) := rfl
  have h2 : dw 0 = 1 := rfl
  rw [h1, h2, Rat.intCast_mul]
  grind
end Go.Proofs.Ytmaolhajeoigpaa

/-
  The contracts of the sixth reference: Near.
-/
namespace Go.Proofs.Ytmaolhajeoigpaa
open Go.RowKit
set_option linter.unusedVariables false
set_option linter.unusedSimpArgs false







end Go.Proofs.Ytmaolhajeoigpaa

/-
  The contracts of the eighth reference: near, frac, Of, Rat.
-/
namespace Go.Proofs.Ytmaolhajeoigpaa
open Go.RowKit
set_option linter.unusedVariables false
set_option linter.unusedSimpArgs false

/-- What is told of a whole number: itself, where 64 bits hold it; else 0 and ErrRange. -/
def nI (z : Int) : Int := if -9223372036854775808 ≤ z ∧ z ≤ 9223372036854775807 then z else 0
def nE (z : Int) : Int := if -9223372036854775808 ≤ z ∧ z ≤ 9223372036854775807 then 0 else 2
theorem nI_yes {z : Int} (h : I64 z) : nI z = z ∧ nE z = 0 := ⟨if_pos h, if_pos h⟩
theorem nI_no {z : Int} (h : ¬ I64 z) : nI z = 0 ∧ nE z = 2 := ⟨if_neg h, if_neg h⟩












end Go.Proofs.Ytmaolhajeoigpaa

/-
  An integer that came in: its side, and its digits.
-/
namespace Go.Proofs.Ytmaolhajeoigpaa
set_option maxRecDepth 100000
open Go.ChangeShapes Go.WideShapes Go.ChangeAt Go.RowKit Go.Joins

theorem open_zed {H : Type} {enc : TypeId × Value → H} {W : World} {base b0 : Nat} {held : Bool} {r : Reach} {v : Value} {d : DataW H} {p : List MemPlace} (hv : Value.okWide Try.prog W r b0 63 v) (h : DataW.Trod enc Try.prog W base (fun _ => true) held 63 v d p) :
    ∃ (b : Bool) (a : Option Addr) (len cap : Nat) (l : List Nat), v = .agg #[.bool b, .slice a len cap] ∧ Lim W.heap.size W a len cap l ∧ len ≤ 9223372036854775807 := by
  obtain ⟨v0, v1, y0, y1, n, rfl, _, _, h0, h1⟩ := open_agg2 Try.underlying63 (by kernel_rfl) (by kernel_rfl) hv h
  obtain ⟨b, hb, _⟩ := DataW.trod_bool Try.underlying4 h0
  injection hb with hb _
  subst hb
  rcases open_ints Try.underlying31 Try.underlying33 (by kernel_rfl) h1 with ⟨hcs, _⟩ | ⟨x, l, c, zs, hcs, _, hl, hm, hz, _, hcell, hwz⟩
  · injection hcs with hcs _
    subst hcs
    obtain ⟨l, hl, hs⟩ := arg_of_row (w := W) (a := none) (len := 0) (cap := 0) (zs := []) (.inl ⟨rfl, rfl, rfl, rfl⟩)
    exact ⟨b, none, 0, 0, l, rfl, hl, hs⟩
  · injection hcs with hcs _
    subst hcs
    obtain ⟨l', hl', hs⟩ := arg_of_row (w := W) (a := some x) (len := l) (cap := c) (zs := zs) (.inr ⟨x, rfl, hl, hm, by simpa using hz, hcell, hwz⟩)
    exact ⟨b, some x, l, c, l', rfl, hl', hs⟩

end Go.Proofs.Ytmaolhajeoigpaa

/-
  A rational that came in: its side, and the digits of both its numbers.
-/
namespace Go.Proofs.Ytmaolhajeoigpaa
set_option maxRecDepth 100000
open Go.ChangeShapes Go.WideShapes Go.ChangeAt Go.RowKit Go.Joins

theorem open_nat {H : Type} {enc : TypeId × Value → H} {W : World} {base : Nat} {held : Bool} {v : Value} {y : DataW H × List MemPlace} {n : Nat} (h : DataW.trod enc Try.prog W base (fun _ => true) held n 31 [v] = some y) :
    ∃ (a : Option Addr) (len cap : Nat) (l : List Nat), v = .slice a len cap ∧ Lim W.heap.size W a len cap l ∧ len ≤ 9223372036854775807 := by
  rcases open_ints Try.underlying31 Try.underlying33 (by kernel_rfl) h with ⟨hcs, _⟩ | ⟨x, l, c, zs, hcs, _, hl, hm, hz, _, hcell, hwz⟩
  · injection hcs with hcs _
    subst hcs
    obtain ⟨l, hl, hs⟩ := arg_of_row (w := W) (a := none) (len := 0) (cap := 0) (zs := []) (.inl ⟨rfl, rfl, rfl, rfl⟩)
    exact ⟨none, 0, 0, l, rfl, hl, hs⟩
  · injection hcs with hcs _
    subst hcs
    obtain ⟨l', hl', hs⟩ := arg_of_row (w := W) (a := some x) (len := l) (cap := c) (zs := zs) (.inr ⟨x, rfl, hl, hm, by simpa using hz, hcell, hwz⟩)
    exact ⟨some x, l, c, l', rfl, hl', hs⟩

theorem open_rat {H : Type} {enc : TypeId × Value → H} {W : World} {base b0 : Nat} {held : Bool} {r : Reach} {v : Value} {d : DataW H} {p : List MemPlace} (hv : Value.okWide Try.prog W r b0 72 v) (h : DataW.Trod enc Try.prog W base (fun _ => true) held 72 v d p) :
    ∃ (b : Bool) (a : Option Addr) (len cap : Nat) (l : List Nat) (a2 : Option Addr) (len2 cap2 : Nat) (l2 : List Nat), v = .agg #[.bool b, .slice a len cap, .slice a2 len2 cap2] ∧ Lim W.heap.size W a len cap l ∧ len ≤ 9223372036854775807 ∧ Lim W.heap.size W a2 len2 cap2 l2 ∧ len2 ≤ 9223372036854775807 := by
  obtain ⟨cs, rfl, hsz⟩ := okWide_struct Try.underlying72 hv
  obtain ⟨c0, c1, c2, rfl⟩ := array3 (hsz.trans (by kernel_rfl))
  obtain ⟨fuel, hf⟩ := h
  obtain ⟨y0, y1, n, _, _, h0, h1⟩ := trod_struct2 Try.underlying72 hf
  have k0 : Try.prog.cellsOf 63 = 2 := by kernel_rfl
  have k1 : Try.prog.cellsOf 31 = 1 := by kernel_rfl
  have k2 : Try.prog.cellsOf 4 = 1 := by kernel_rfl
  simp only [Value.cells, k0, k1] at h0 h1
  obtain ⟨z0, z1, m, _, _, g0, g1⟩ := trod_struct2 Try.underlying63 h0
  simp only [k1, k2] at g0 g1
  obtain ⟨b, hb, _⟩ := DataW.trod_bool Try.underlying4 g0
  obtain ⟨a, len, cap, l, e1, hl, hs⟩ := open_nat (v := c1) g1
  obtain ⟨a2, len2, cap2, l2, e2, hl2, hs2⟩ := open_nat (v := c2) h1
  injection hb with hb _
  subst hb e1 e2
  exact ⟨b, a, len, cap, l, a2, len2, cap2, l2, rfl, hl, hs, hl2, hs2⟩

end Go.Proofs.Ytmaolhajeoigpaa

/-
  A number, two integers, two numbers that came in.
-/
namespace Go.Proofs.Ytmaolhajeoigpaa
set_option maxRecDepth 100000
open Go.ChangeShapes Go.WideShapes Go.ChangeAt Go.RowKit Go.Joins

theorem open_natT {H : Type} {enc : TypeId × Value → H} {W : World} {base b0 : Nat} {held : Bool} {r : Reach} {v : Value} {d : DataW H} {p : List MemPlace} (hv : Value.okWide Try.prog W r b0 31 v) (h : DataW.Trod enc Try.prog W base (fun _ => true) held 31 v d p) :
    ∃ (a : Option Addr) (len cap : Nat) (l : List Nat), v = .slice a len cap ∧ Lim W.heap.size W a len cap l ∧ len ≤ 9223372036854775807 := by
  obtain ⟨a, len, cap, rfl⟩ := okWide_slice Try.underlying31 hv
  obtain ⟨fuel, hf⟩ := h
  exact open_nat hf



end Go.Proofs.Ytmaolhajeoigpaa

/-
  What a [2]int64 that is handed over is.
-/
namespace Go.Proofs.Ytmaolhajeoigpaa
open Go.ChangeShapes Go.WideShapes Go.ChangeAt Go.RowKit Go.Joins

theorem array_two {α : Type} {cs : Array α} (h : cs.size = 2) : ∃ a b, cs = #[a, b] := by
  obtain ⟨l⟩ := cs
  have h2 : l.length = 2 := h
  match l, h2 with
  | [a, b], _ => exact ⟨a, b, rfl⟩

end Go.Proofs.Ytmaolhajeoigpaa

/-
  Schedules that came in.
-/
namespace Go.Proofs.Ytmaolhajeoigpaa
set_option maxRecDepth 100000
open Go.ChangeShapes Go.WideShapes Go.ChangeAt Go.RowKit Go.Joins Go.Deep
set_option linter.unusedVariables false

theorem trod_struct8 {H : Type} {enc : TypeId × Value → H} {P : Program} {w : World} {base : Nat} {spare : Nat → Bool} {held : Bool} {t : TypeId} {f0 f1 f2 f3 f4 f5 f6 f7 : Field} {fuel : Nat} {cs : List Value} {x : DataW H × List MemPlace} (ht : P.underlying t = some (.struct #[f0, f1, f2, f3, f4, f5, f6, f7])) (h : DataW.trod enc P w base spare held fuel t cs = some x) :
    ∃ y0 y1 y2 y3 y4 y5 y6 y7 n, cs.length = P.cellsOf t ∧ DataW.trod enc P w base spare held n f0.type ((cs.drop f0.offset).take (P.cellsOf f0.type)) = some y0 ∧ DataW.trod enc P w base spare held n f1.type ((cs.drop f1.offset).take (P.cellsOf f1.type)) = some y1 ∧ DataW.trod enc P w base spare held n f2.type ((cs.drop f2.offset).take (P.cellsOf f2.type)) = some y2 ∧ DataW.trod enc P w base spare held n f3.type ((cs.drop f3.offset).take (P.cellsOf f3.type)) = some y3 ∧ DataW.trod enc P w base spare held n f4.type ((cs.drop f4.offset).take (P.cellsOf f4.type)) = some y4 ∧ DataW.trod enc P w base spare held n f5.type ((cs.drop f5.offset).take (P.cellsOf f5.type)) = some y5 ∧ DataW.trod enc P w base spare held n f6.type ((cs.drop f6.offset).take (P.cellsOf f6.type)) = some y6 ∧ DataW.trod enc P w base spare held n f7.type ((cs.drop f7.offset).take (P.cellsOf f7.type)) = some y7 := by
  obtain ⟨xs, n, _, rfl, hl, hlen, hf⟩ := DataW.trod_struct ht h
  match xs, hlen with
  | [y0, y1, y2, y3, y4, y5, y6, y7], _ => exact ⟨y0, y1, y2, y3, y4, y5, y6, y7, n, hl, by simpa using hf 0 f0 rfl, by simpa using hf 1 f1 rfl, by simpa using hf 2 f2 rfl, by simpa using hf 3 f3 rfl, by simpa using hf 4 f4 rfl, by simpa using hf 5 f5 rfl, by simpa using hf 6 f6 rfl, by simpa using hf 7 f7 rfl⟩
theorem open_sched {H : Type} {enc : TypeId × Value → H} {W : World} {base b0 : Nat} {held : Bool} {r : Reach} {v : Value} {d : DataW H} {p : List MemPlace} (hv : Value.okWide Try.prog W r b0 23 v) (h : DataW.Trod enc Try.prog W base (fun _ => true) held 23 v d p) :
    ∃ kd ba ra en wa ev la po : Int, v = .agg #[.int .i64 kd, .int .i64 ba, .int .i64 ra, .int .i64 en, .int .i64 wa, .int .i64 ev, .int .i64 la, .int .i64 po] ∧ I64 kd ∧ I64 ba ∧ I64 ra ∧ I64 en ∧ I64 wa ∧ I64 ev ∧ I64 la ∧ I64 po := by
  obtain ⟨cs, rfl, hsz⟩ := okWide_struct Try.underlying23 hv
  obtain ⟨fuel, hf⟩ := h
  have k8 : Try.prog.cellsOf 23 = 8 := by kernel_rfl
  have ki : Try.prog.cellsOf 3 = 1 := by kernel_rfl
  have kj : Try.prog.cellsOf 2 = 1 := by kernel_rfl
  obtain ⟨y0, y1, y2, y3, y4, y5, y6, y7, n, _, h0, h1, h2, h3, h4, h5, h6, h7⟩ := trod_struct8 Try.underlying23 hf
  obtain ⟨l⟩ := cs
  have hl8 : l.length = 8 := hsz.trans k8
  match l, hl8 with
  | [v0, v1, v2, v3, v4, v5, v6, v7], _ =>
    simp only [Value.cells, ki, kj] at h0 h1 h2 h3 h4 h5 h6 h7
    obtain ⟨kd, q0, _, w0⟩ := DataW.trod_int Try.underlying3 h0
    obtain ⟨ba, q1, _, w1⟩ := DataW.trod_int Try.underlying2 h1
    obtain ⟨ra, q2, _, w2⟩ := DataW.trod_int Try.underlying2 h2
    obtain ⟨en, q3, _, w3⟩ := DataW.trod_int Try.underlying2 h3
    obtain ⟨wa, q4, _, w4⟩ := DataW.trod_int Try.underlying3 h4
    obtain ⟨ev, q5, _, w5⟩ := DataW.trod_int Try.underlying3 h5
    obtain ⟨la, q6, _, w6⟩ := DataW.trod_int Try.underlying3 h6
    obtain ⟨po, q7, _, w7⟩ := DataW.trod_int Try.underlying3 h7
    have e0 : v0 = .int .i64 kd := by injection q0
    have e1 : v1 = .int .i64 ba := by injection q1
    have e2 : v2 = .int .i64 ra := by injection q2
    have e3 : v3 = .int .i64 en := by injection q3
    have e4 : v4 = .int .i64 wa := by injection q4
    have e5 : v5 = .int .i64 ev := by injection q5
    have e6 : v6 = .int .i64 la := by injection q6
    have e7 : v7 = .int .i64 po := by injection q7
    subst e0 e1 e2 e3 e4 e5 e6 e7
    exact ⟨kd, ba, ra, en, wa, ev, la, po, rfl, bounds_i64 w0, bounds_i64 w1, bounds_i64 w2, bounds_i64 w3, bounds_i64 w4, bounds_i64 w5, bounds_i64 w6, bounds_i64 w7⟩
theorem open_intx2v {H : Type} {enc : TypeId × Value → H} {W : World} {base b0 : Nat} {held : Bool} {r : Reach} {v : Value} {d : DataW H} {p : List MemPlace} (hv : Value.okWide Try.prog W r b0 24 v) (h : DataW.Trod enc Try.prog W base (fun _ => true) held 24 v d p) :
    ∃ a b : Int, v = .agg #[.int .i64 a, .int .i64 b] ∧ (Lit.int .i64 a).wf = true ∧ (Lit.int .i64 b).wf = true := by
  have hu : Try.prog.underlying 24 = some (.array 2 3) := Try.underlying24
  have e1 : Try.prog.cellsOf 3 = 1 := by kernel_rfl
  have e2 : Try.prog.cellsOf 24 = 2 := by kernel_rfl
  simp only [Value.okWide, hu] at hv
  obtain ⟨cs, rfl, hsz, _⟩ := hv
  obtain ⟨c0, c1, rfl⟩ := array_two (hsz.trans e2)
  obtain ⟨fuel, hf⟩ := h
  obtain ⟨xs, m, rfl, _, _, hxl, hel⟩ := DataW.trod_array hu hf
  obtain ⟨x0, x1, rfl⟩ : ∃ x0 x1, xs = [x0, x1] := by
    match xs, hxl with
    | [a, b], _ => exact ⟨a, b, rfl⟩
  have h0 := hel 0 (by omega)
  have h1 := hel 1 (by omega)
  rw [e1] at h0 h1
  obtain ⟨a, ha, _, wa⟩ := DataW.trod_int Try.underlying3 h0
  obtain ⟨b, hb, _, wb⟩ := DataW.trod_int Try.underlying3 h1
  injection ha with ha _
  injection hb with hb _
  subst ha hb
  exact ⟨a, b, rfl, wa, wb⟩
end Go.Proofs.Ytmaolhajeoigpaa

/-
  Plain arithmetic of powers and roots.
-/
namespace Go.Proofs.Ytmaolhajeoigpaa

/-- The greatest number up to n whose power of k is at most x. -/
def irootTo (k x : Nat) : Nat → Nat
  | 0 => 0
  | n + 1 => if (n + 1) ^ k ≤ x then n + 1 else irootTo k x n
/-- A root, down. -/
def iroot (k x : Nat) : Nat := irootTo k x x
/-- A root, up. -/
def uroot (k x : Nat) : Nat := if iroot k x ^ k = x then iroot k x else iroot k x + 1

theorem irootTo_pow {k x : Nat} (hk : k ≠ 0) (n : Nat) : irootTo k x n ^ k ≤ x := by
  induction n with
  | zero => unfold irootTo; rw [Nat.zero_pow (by omega)]; omega
  | succ n ih =>
    unfold irootTo
    split
    · assumption
    · exact ih
theorem le_irootTo {k x r : Nat} (n : Nat) (hr : r ≤ n) (h : r ^ k ≤ x) : r ≤ irootTo k x n := by
  induction n with
  | zero => omega
  | succ n ih =>
    unfold irootTo
    split
    · exact hr
    · rename_i hn
      rcases Nat.lt_or_ge n r with h1 | h1
      · have : r = n + 1 := by omega
        subst this; exact absurd h hn
      · exact ih h1
theorem self_le_pow {k : Nat} (r : Nat) (hk : k ≠ 0) : r ≤ r ^ k := Nat.le_self_pow hk r
theorem pow_le {a b : Nat} (k : Nat) (h : a ≤ b) : a ^ k ≤ b ^ k := Nat.pow_le_pow_left h k
theorem pow_lt {a b k : Nat} (hk : k ≠ 0) (h : a < b) : a ^ k < b ^ k := Nat.pow_lt_pow_left h hk
/-- A number is at most the root just if its power is at most the number. -/
theorem le_iroot {k x r : Nat} (hk : k ≠ 0) : r ≤ iroot k x ↔ r ^ k ≤ x := by
  constructor
  · intro h
    exact Nat.le_trans (pow_le k h) (irootTo_pow hk x)
  · intro h
    exact le_irootTo x (Nat.le_trans (self_le_pow r hk) h) h
theorem iroot_pow {k : Nat} (x : Nat) (hk : k ≠ 0) : iroot k x ^ k ≤ x := irootTo_pow hk x
theorem lt_iroot {k : Nat} (x : Nat) (hk : k ≠ 0) : x < (iroot k x + 1) ^ k := by
  rcases Nat.lt_or_ge x ((iroot k x + 1) ^ k) with h | h
  · exact h
  · have := (le_iroot hk).2 h; omega
theorem iroot_eq {k x r : Nat} (hk : k ≠ 0) (h1 : r ^ k ≤ x) (h2 : x < (r + 1) ^ k) : iroot k x = r := by
  have a := (le_iroot hk).2 h1
  rcases Nat.lt_or_ge r (iroot k x) with h | h
  · have := (le_iroot (x := x) (r := r + 1) hk).1 h; omega
  · omega
theorem uroot_le {k x r : Nat} (hk : k ≠ 0) : uroot k x ≤ r ↔ x ≤ r ^ k := by
  unfold uroot
  have h1 := iroot_pow x hk
  have h2 := lt_iroot x hk
  split
  · rename_i e
    constructor
    · intro h
      rw [← e]; exact pow_le k h
    · intro h
      rcases Nat.lt_or_ge r (iroot k x) with h3 | h3
      · have := pow_lt hk h3; omega
      · exact h3
  · rename_i e
    constructor
    · intro h
      have := pow_le k h; omega
    · intro h
      rcases Nat.lt_or_ge (iroot k x) r with h3 | h3
      · exact h3
      · have := pow_le k h3; omega
theorem iroot_le {k : Nat} (x : Nat) (hk : k ≠ 0) : iroot k x ≤ x := Nat.le_trans (self_le_pow _ hk) (iroot_pow x hk)
theorem uroot_le_self {k : Nat} (x : Nat) (hk : k ≠ 0) : uroot k x ≤ x := (uroot_le hk).2 (self_le_pow x hk)

/-- P3.3: the root of a power. -/
theorem iroot_of_pow {k : Nat} (a : Nat) (hk : k ≠ 0) : iroot k (a ^ k) = a := iroot_eq hk (Nat.le_refl _) (pow_lt hk (Nat.lt_succ_self a))
theorem uroot_of_pow {k : Nat} (a : Nat) (hk : k ≠ 0) : uroot k (a ^ k) = a := by unfold uroot; rw [iroot_of_pow a hk, if_pos rfl]
theorem iroot_pred {k a : Nat} (hk : k ≠ 0) (ha : a ≠ 0) : iroot k (a ^ k - 1) = a - 1 := by
  have h1 := pow_lt hk (show a - 1 < a by omega)
  refine iroot_eq hk (by omega) ?_
  rw [Nat.sub_add_cancel (by omega)]
  omega
theorem uroot_pred {k a : Nat} (hk : 2 ≤ k) (ha : 2 ≤ a) : uroot k (a ^ k - 1) = a := by
  unfold uroot
  rw [iroot_pred (by omega) (by omega), if_neg, Nat.sub_add_cancel (by omega)]
  obtain ⟨b, rfl⟩ : ∃ b, a = b + 1 := ⟨a - 1, by omega⟩
  rw [Nat.add_sub_cancel]
  obtain ⟨j, rfl⟩ : ∃ j, k = j + 1 := ⟨k - 1, by omega⟩
  have h1 : b ^ j * 1 ≤ (b + 1) ^ j * 1 := Nat.mul_le_mul_right _ (pow_le j (by omega))
  have h2 : (b + 1) ^ (j + 1) = (b + 1) ^ j * b + (b + 1) ^ j := by rw [Nat.pow_succ, Nat.mul_add, Nat.mul_one]
  have h3 : b ^ (j + 1) ≤ (b + 1) ^ j * b := by rw [Nat.pow_succ]; exact Nat.mul_le_mul_right _ (pow_le j (by omega))
  have h4 : 1 < (b + 1) ^ j := Nat.one_lt_pow (by omega) (by omega)
  omega
theorem uroot_zero {k : Nat} (hk : k ≠ 0) : uroot k 0 = 0 := by
  have := uroot_le_self 0 hk; omega
theorem iroot_mono {k a b : Nat} (hk : k ≠ 0) (h : a ≤ b) : iroot k a ≤ iroot k b := (le_iroot hk).2 (Nat.le_trans (iroot_pow a hk) h)
theorem iroot_higher {k : Nat} (a : Nat) (hk : k ≠ 0) : iroot (k + 1) a ≤ iroot k a := by
  refine (le_iroot hk).2 ?_
  have h := iroot_pow a (k := k + 1) (by omega)
  rcases Nat.eq_zero_or_pos (iroot (k + 1) a) with h0 | h0
  · rw [h0, Nat.zero_pow (by omega)]; omega
  · exact Nat.le_trans (Nat.pow_le_pow_right h0 (by omega)) h
theorem iroot_one (a : Nat) : iroot 1 a = a := iroot_eq (by omega) (by rw [Nat.pow_one]; omega) (by rw [Nat.pow_one]; omega)
theorem iroot_iroot {k n : Nat} (a : Nat) (hk : k ≠ 0) (hn : n ≠ 0) : iroot n (iroot k a) = iroot (k * n) a := by
  have hkn : k * n ≠ 0 := Nat.mul_ne_zero hk hn
  have key : ∀ r, r ≤ iroot n (iroot k a) ↔ r ≤ iroot (k * n) a := fun r => by
    rw [le_iroot hn, le_iroot hk, le_iroot hkn, ← Nat.pow_mul, Nat.mul_comm n k]
  exact Nat.le_antisymm ((key _).1 (Nat.le_refl _)) ((key _).2 (Nat.le_refl _))
theorem iroot_mul {k : Nat} (a b : Nat) (hk : k ≠ 0) : iroot k a * iroot k b ≤ iroot k (a * b) := by
  rw [le_iroot hk, Nat.mul_pow]
  exact Nat.mul_le_mul (iroot_pow a hk) (iroot_pow b hk)
theorem le_uroot_pow {k : Nat} (x : Nat) (hk : k ≠ 0) : x ≤ uroot k x ^ k := (uroot_le hk).1 (Nat.le_refl _)
theorem uroot_mul {k : Nat} (a b : Nat) (hk : k ≠ 0) : uroot k (a * b) ≤ uroot k a * uroot k b := by
  rw [uroot_le hk, Nat.mul_pow]
  exact Nat.mul_le_mul (le_uroot_pow a hk) (le_uroot_pow b hk)

theorem limbs_length_pow {a m : Nat} (h : (limbs a).length ≤ m) (k : Nat) : (limbs (a ^ k)).length ≤ m * k + 1 := by
  refine Nat.le_trans (limbs_length_le (n := a ^ k) (k := m * k + 1) ?_) (Nat.le_refl _)
  have h1 : a ^ k ≤ (B64 ^ m) ^ k := pow_le k (Nat.le_of_lt (lt_of_limbs_length h))
  rw [← Nat.pow_mul] at h1
  have h2 : B64 ^ (m * k) < B64 ^ (m * k + 1) := Nat.pow_lt_pow_right B64_gt (Nat.lt_succ_self _)
  omega

/-- The reference's loop: its start, a step, its end. -/
theorem root_start {a b k : Nat} (hk : k ≠ 0) (ha : a < 2 ^ b) : a < (0 + 2 ^ (b / k + 1)) ^ k := by
  rw [Nat.zero_add, ← Nat.pow_mul]
  refine Nat.lt_of_lt_of_le ha (Nat.pow_le_pow_right (by omega) ?_)
  have := Nat.div_add_mod b k
  have := Nat.mod_lt b (show k > 0 by omega)
  rw [Nat.add_mul, Nat.one_mul, Nat.mul_comm (b / k)]
  omega
theorem root_step {out i : Nat} : out + 2 ^ (i + 1) = out + 2 ^ i + 2 ^ i := by rw [Nat.pow_succ]; omega

end Go.Proofs.Ytmaolhajeoigpaa

/-
  Rates by schedules: what is right, what the rate of a step is; numbers alone.
-/
namespace Go.Proofs.Ytmaolhajeoigpaa
set_option linter.unusedVariables false
set_option linter.unusedSimpArgs false

/-- A schedule is right, with f. -/
def OkR (f kd ba ra en wa ev la po : Int) : Prop :=
  (0 ≤ f ∧ f ≤ 40) ∧ (0 ≤ kd ∧ kd ≤ 3) ∧ 0 ≤ ba ∧ (0 ≤ wa ∧ wa ≤ 1000000) ∧ (kd = 2 → (1 ≤ ev ∧ ev ≤ 1000000) ∧ 0 ≤ ra ∧ ra ≤ ((2 ^ f.toNat : Nat) : Int)) ∧ (kd = 3 → (1 ≤ la ∧ la ≤ 1000000) ∧ (1 ≤ po ∧ po ≤ 8) ∧ 0 ≤ en ∧ en ≤ ba)
instance (f kd ba ra en wa ev la po : Int) : Decidable (OkR f kd ba ra en wa ev la po) := by unfold OkR; infer_instance
/-- By steps: so often times the rate. -/
def dropR (ba ra : Int) (d : Nat) : Nat → Int
  | 0 => ba
  | i + 1 => rn (dropR ba ra d i * ra) d
/-- By the root of the step. -/
def fellR (ba wa t : Int) : Int := ((iroot 2 (ba.toNat * ba.toNat * (max wa 1).toNat / t.toNat) : Nat) : Int)
/-- By a power. -/
def polyR (ba en t la po : Int) : Int := if la ≤ t then en else en + rn ((ba - en) * (la - t) ^ po.toNat) (la.toNat ^ po.toNat)
/-- The rate of a step. -/
def rt15 (f kd ba ra en wa ev la po t : Int) : Int :=
  if t ≤ wa then rn (ba * t) wa.toNat else if kd = 1 then fellR ba wa t else if kd = 3 then polyR ba en t la po else if kd = 2 then dropR ba ra (2 ^ f.toNat) (min ((t - wa) / ev) 200).toNat else ba
def rI (f kd ba ra en wa ev la po t : Int) : Prop := OkR f kd ba ra en wa ev la po ∧ 1 ≤ t ∧ t ≤ 1000000

instance (f kd ba ra en wa ev la po t : Int) : Decidable (rI f kd ba ra en wa ev la po t) := by unfold rI; infer_instance
/-- What Rate tells. -/
def rV (f kd ba ra en wa ev la po t : Int) : Int := if rI f kd ba ra en wa ev la po t then rt15 f kd ba ra en wa ev la po t else 0
def rE (f kd ba ra en wa ev la po t : Int) : Int := if rI f kd ba ra en wa ev la po t then 0 else 1
theorem rn_le {x ra : Int} {d : Nat} (hd : d ≠ 0) (hx : 0 ≤ x) (h : ra ≤ (d : Int)) : rn (x * ra) d ≤ x := by
  have h1 := rn_mono (n := x * ra) (m := x * (d : Int)) hd (Int.mul_le_mul_of_nonneg_left h hx)
  rwa [rn_self x hd] at h1
theorem rn_nonneg {x : Int} {d : Nat} (hd : d ≠ 0) (hx : 0 ≤ x) : 0 ≤ rn x d := by
  have h1 := rn_mono (n := 0 * (d : Int)) (m := x) hd (by omega)
  rwa [rn_self 0 hd] at h1
theorem drop_in {ba ra : Int} {d : Nat} (hd : d ≠ 0) (hb : 0 ≤ ba) (h0 : 0 ≤ ra) (h1 : ra ≤ (d : Int)) : ∀ i, 0 ≤ dropR ba ra d i ∧ dropR ba ra d i ≤ ba
  | 0 => ⟨hb, Int.le_refl _⟩
  | i + 1 => by
    obtain ⟨h2, h3⟩ := drop_in hd hb h0 h1 i
    exact ⟨rn_nonneg hd (Int.mul_nonneg h2 h0), Int.le_trans (rn_le hd h2 h1) h3⟩
theorem drop_mono {ba ra : Int} {d : Nat} (hd : d ≠ 0) (hb : 0 ≤ ba) (h0 : 0 ≤ ra) (h1 : ra ≤ (d : Int)) (i k : Nat) : dropR ba ra d (i + k) ≤ dropR ba ra d i := by
  induction k with
  | zero => exact Int.le_refl _
  | succ k ih => exact Int.le_trans (rn_le hd (drop_in hd hb h0 h1 (i + k)).1 h1) ih
theorem drop_one {ba : Int} {d : Nat} (hd : d ≠ 0) : ∀ i, dropR ba (d : Int) d i = ba
  | 0 => rfl
  | i + 1 => by show rn (dropR ba (d : Int) d i * (d : Int)) d = ba; rw [drop_one hd i, rn_self ba hd]
theorem fell_le {ba wa t : Int} (hb : 0 ≤ ba) (ht : wa < t) (h1 : 1 ≤ t) : 0 ≤ fellR ba wa t ∧ fellR ba wa t ≤ ba := by
  refine ⟨Int.natCast_nonneg _, ?_⟩
  unfold fellR
  have h2 : iroot 2 (ba.toNat * ba.toNat * (max wa 1).toNat / t.toNat) ≤ iroot 2 (ba.toNat ^ 2) := by
    refine iroot_mono (by omega) (Nat.le_trans (Nat.div_le_div_left (show (max wa 1).toNat ≤ t.toNat by omega) (show 0 < (max wa 1).toNat by omega)) ?_)
    rw [Nat.mul_div_cancel _ (by omega), Nat.pow_two]
    exact Nat.le_refl _
  rw [iroot_of_pow _ (by omega)] at h2
  omega
theorem fell_mono {ba wa t u : Int} (h1 : 1 ≤ t) (h : t ≤ u) : fellR ba wa u ≤ fellR ba wa t := by
  unfold fellR
  exact Int.ofNat_le.2 (iroot_mono (by omega) (Nat.div_le_div_left (by omega) (by omega)))
theorem fell_base {b c wa t : Int} (hb : 0 ≤ b) (h : b ≤ c) : fellR b wa t ≤ fellR c wa t := by
  unfold fellR
  refine Int.ofNat_le.2 (iroot_mono (by omega) (Nat.div_le_div_right (Nat.mul_le_mul_right _ (Nat.mul_le_mul ?_ ?_)))) <;> omega
/-- The root's square, times the step; that of one more. -/
theorem fell_root {ba wa t : Int} (hb : 0 ≤ ba) (h1 : 1 ≤ t) : (fellR ba wa t).toNat * (fellR ba wa t).toNat * t.toNat ≤ ba.toNat * ba.toNat * (max wa 1).toNat ∧ ba.toNat * ba.toNat * (max wa 1).toNat < ((fellR ba wa t).toNat + 1) * ((fellR ba wa t).toNat + 1) * t.toNat := by
  unfold fellR
  rw [Int.toNat_natCast]
  generalize ba.toNat * ba.toNat * (max wa 1).toNat = x
  have h2 := iroot_pow (k := 2) (x / t.toNat) (by omega)
  have h3 := lt_iroot (k := 2) (x / t.toNat) (by omega)
  rw [Nat.pow_two] at h2 h3
  have ht : 0 < t.toNat := by omega
  exact ⟨(Nat.le_div_iff_mul_le ht).1 h2, (Nat.div_lt_iff_lt_mul ht).1 h3⟩
theorem ipow_le {a b : Int} (h0 : 0 ≤ a) (h : a ≤ b) : ∀ k : Nat, a ^ k ≤ b ^ k
  | 0 => by rw [Int.pow_zero, Int.pow_zero]; exact Int.le_refl _
  | k + 1 => by rw [Int.pow_succ, Int.pow_succ]; exact Int.mul_le_mul (ipow_le h0 h k) h h0 (Int.pow_nonneg (by omega))
theorem poly_in {ba en t la po : Int} (h0 : 0 ≤ en) (h1 : en ≤ ba) (hl : 1 ≤ la) (ht : 0 ≤ t) : en ≤ polyR ba en t la po ∧ polyR ba en t la po ≤ ba := by
  unfold polyR
  split
  · exact ⟨Int.le_refl _, h1⟩
  · have hd : la.toNat ^ po.toNat ≠ 0 := Nat.ne_of_gt (Nat.pow_pos (by omega))
    have e : ((la.toNat ^ po.toNat : Nat) : Int) = la ^ po.toNat := by rw [Int.natCast_pow, Int.toNat_of_nonneg (by omega)]
    have p0 : 0 ≤ (la - t) ^ po.toNat := Int.pow_nonneg (by omega)
    have p1 : (la - t) ^ po.toNat ≤ la ^ po.toNat := ipow_le (by omega) (by omega) _
    have h2 := rn_le (x := ba - en) (ra := (la - t) ^ po.toNat) hd (by omega) (by rw [e]; exact p1)
    have h3 := rn_nonneg (x := (ba - en) * (la - t) ^ po.toNat) hd (Int.mul_nonneg (by omega) p0)
    omega
theorem poly_mono {ba en t u la po : Int} (h0 : 0 ≤ en) (h1 : en ≤ ba) (hl : 1 ≤ la) (ht : 0 ≤ t) (h : t ≤ u) : polyR ba en u la po ≤ polyR ba en t la po := by
  by_cases hu : la ≤ u
  · have h2 := (poly_in (po := po) h0 h1 hl ht).1
    have e : polyR ba en u la po = en := by unfold polyR; rw [if_pos hu]
    omega
  · have hd : la.toNat ^ po.toNat ≠ 0 := Nat.ne_of_gt (Nat.pow_pos (by omega))
    unfold polyR
    rw [if_neg hu, if_neg (by omega)]
    have p1 : (la - u) ^ po.toNat ≤ (la - t) ^ po.toNat := ipow_le (by omega) (by omega) _
    have := rn_mono (n := (ba - en) * (la - u) ^ po.toNat) (m := (ba - en) * (la - t) ^ po.toNat) hd (Int.mul_le_mul_of_nonneg_left p1 (by omega))
    omega
end Go.Proofs.Ytmaolhajeoigpaa

/-
  Rows of integers: what a slice value reads as, what keeps it, what is answered; a row of the call's own.
-/
namespace Go.Proofs.Ytmaolhajeoigpaa
set_option maxRecDepth 100000
open Go.RowKit
set_option linter.unusedVariables false

/-- An integer as a value. -/
def encI (z : Int) : Value := .int .i64 z
/-- What 64 bits hold. -/
def Fits (z : Int) : Prop := -9223372036854775808 ≤ z ∧ z ≤ 9223372036854775807
theorem Fits.wrap {z : Int} (h : Fits z) : IntKind.i64.wrap z = z := IntWalk.i64_in z h
theorem infoI : (Try.prog.info? 2).map (fun i => (i.zero, i.size, i.bytes)) = some (some (.int .i64 0), 1, 8) := by kernel_rfl

/-- The slice value '.slice A n c' holds the integers l. -/
def IR (w : World) (A : Option Addr) (n c : Nat) (l : List Int) : Prop :=
  n = l.length ∧ n ≤ c ∧ (0 < n → ∃ b off, A = some ⟨b, off, none⟩ ∧ b < w.heap.size ∧ ∀ j, j < n → w.cell? ⟨b, off + j, none⟩ = some (.int .i64 (l[j]?.getD 0)))
theorem IR.on {w w' : World} {A : Option Addr} {n c : Nat} {l : List Int} (h : IR w A n c l) (hb : Below w.heap.size w w') : IR w' A n c l :=
  ⟨h.1, h.2.1, fun hn => by
    obtain ⟨b, off, e, hlt, hc⟩ := h.2.2 hn
    exact ⟨b, off, e, Nat.lt_of_lt_of_le hlt hb.size, fun j hj => (hb.cell (p := ⟨b, off + j, none⟩) hlt).trans (hc j hj)⟩⟩
theorem IR.nil (w : World) (A : Option Addr) (c : Nat) : IR w A 0 c [] := ⟨rfl, Nat.zero_le _, fun h => absurd h (by omega)⟩
theorem IR.of_own {w : World} {base : Nat} {e : TypeId} {A : Option Addr} {n c : Nat} {l : List Int} (h : w.ownsRow base e 1 (.slice A n c) n (l.map encI)) : IR w A n c l := by
  have hl : n = l.length := by have := h.1; simp at this; omega
  refine ⟨hl, ?_, fun hn => ?_⟩
  · rcases h.2 with ⟨e1, h0⟩ | ⟨g, cap, cur, e1, _, _, hnc, _⟩
    · omega
    · injection e1 with _ _ e2; omega
  · have hlt := h.lt
    rcases h.2 with ⟨e1, h0⟩ | ⟨g, cap, cur, e1, _, _, hnc, _⟩
    · omega
    · injection e1 with e2 _ e3
      subst e2; subst e3
      refine ⟨g, 0, rfl, (hlt g rfl).2, fun j hj => ?_⟩
      have := h.cellAt j (by omega)
      rw [Nat.zero_add, this, List.getElem?_map, List.getElem?_eq_getElem (by omega)]
      simp [encI]

/-- A row of integers. -/
def GotI (w : World) (l : List Int) (e : Ending) (w' : World) : Prop := ∃ A n c, e = .returned (.slice A n c) ∧ IR w' A n c l ∧ Below w.heap.size w w'
/-- A row of integers, and a code. -/
def GotIp (w : World) (l : List Int) (r : Int) (e : Ending) (w' : World) : Prop := ∃ A n c, e = .returned (.tuple #[.slice A n c, .int .i64 r]) ∧ IR w' A n c l ∧ Below w.heap.size w w'
end Go.Proofs.Ytmaolhajeoigpaa
