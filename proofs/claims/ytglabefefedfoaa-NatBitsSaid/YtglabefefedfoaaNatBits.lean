/-
  Proved: whatever slices and numbers it is handed, ratchetlaw01.NatBits, over the code of the commit named in the claim, returns true, and leaves all that was there as it was. Conditions: none.
-/
import Derived.Test.YtglabefefedfoaaRows
import Derived.WalkKit
import Derived.ProofKit
import Derived.OpenShut
import Derived.ShutString
import Derived.ChangeOld
import Derived.Below
import Derived.Test.YtglabefefedfoaaRow
namespace Go.Proofs.Ytglabefefedfoaa.natBits
open Go.ChangeShapes Go.WideShapes Go.ChangeAt Go.RowKit
open Go.ChangeMaps (open_string shut_string)
set_option linter.unusedVariables false

theorem own : ownKnob Try.prog.godebug = none := by kernel_rfl
theorem laidOut : laidOutB Try.prog = true := by kernel_rfl

/-- WHAT THE WALK IS TOLD OF A SLICE OF INTEGERS THAT CAME IN: it is nil; or it leads to a row of 'cap' cells, the numbers 'zs' (the first 'len' are its elements, the rest its spare room), each fitting its kind. -/
def IsRow (k : IntKind) (w : World) (a : Option Addr) (len cap : Nat) (zs : List Int) : Prop :=
  (a = none ∧ len = 0 ∧ cap = 0 ∧ zs = []) ∨
  ∃ x, a = some x ∧ len ≤ cap ∧ cap ≤ maxLen ∧ zs.length = cap ∧ (∀ i, i < zs.length → w.cell? (x.add i) = some (.int k (zs.getD i 0))) ∧ ∀ n ∈ zs, (Lit.int k n).wf = true

attribute [local go_sem ↓] mx_run

theorem blen_mono {a b : Nat} (h : a ≤ b) : blen a ≤ blen b := blen_le (Nat.lt_of_le_of_lt h (lt_blen b))
theorem blen_sum_ge (x y : Nat) : mx (blen x) (blen y) ≤ blen (x + y) := by
  have h1 := blen_mono (Nat.le_add_right x y)
  have h2 := blen_mono (Nat.le_add_left y x)
  unfold mx
  omega
theorem blen_sum_le (x y : Nat) : blen (x + y) ≤ mx (blen x) (blen y) + 1 := by
  refine blen_le ?_
  have h1 := Nat.lt_of_lt_of_le (lt_blen x) (Nat.pow_le_pow_right (n := 2) (by omega) (Nat.le_max_left (blen x) (blen y)))
  have h2 := Nat.lt_of_lt_of_le (lt_blen y) (Nat.pow_le_pow_right (n := 2) (by omega) (Nat.le_max_right (blen x) (blen y)))
  unfold mx
  rw [Nat.pow_succ]
  omega
theorem blen_mul {x y : Nat} (hx : x ≠ 0) (hy : y ≠ 0) : blen (x * y) = blen x + blen y ∨ blen (x * y) + 1 = blen x + blen y := by
  obtain ⟨a, ha⟩ : ∃ a, blen x = a + 1 := ⟨blen x - 1, by have := blen_pos hx; omega⟩
  obtain ⟨b, hb⟩ : ∃ b, blen y = b + 1 := ⟨blen y - 1, by have := blen_pos hy; omega⟩
  have h1 := blen_ge hx
  have h2 := lt_blen x
  have h3 := blen_ge hy
  have h4 := lt_blen y
  rw [ha] at h1 h2 ⊢
  rw [hb] at h3 h4 ⊢
  rw [Nat.add_sub_cancel] at h1 h3
  have h5 : 2 ^ (a + b) ≤ x * y := by rw [Nat.pow_add]; exact Nat.mul_le_mul h1 h3
  have h6 : x * y < 2 ^ (a + b + 1 + 1) := by
    have e : 2 ^ (a + b + 1 + 1) = 2 ^ (a + 1) * 2 ^ (b + 1) := by rw [← Nat.pow_add]; congr 1; omega
    rw [e]
    exact Nat.mul_lt_mul_of_lt_of_le h2 (Nat.le_of_lt h4) (Nat.pow_pos (by omega))
  have h7 := blen_le h6
  have h8 : a + b < blen (x * y) := by
    have := Nat.lt_of_le_of_lt h5 (lt_blen (x * y))
    exact (Nat.pow_lt_pow_iff_right (a := 2) (by omega)).1 this
  omega
theorem blen_len {x k : Nat} (h : (limbs x).length ≤ k) : blen x ≤ 64 * k := blen_le (by rw [← B64_pow]; exact lt_of_limbs_length h)
theorem bits_eq_N {w : World} {A : Option Addr} {n c x p : Nat} (ha : Num w A n c x) (hx : (limbs x).length ≤ 2147483648) (hp : blen x = p) : Calls Try.prog 21 #[.slice A n c] w (GotV w (.int .i64 (p : Int))) := by
  have := bits_N ha hx
  rwa [hp] at this
/-- Shifted down by k places. -/
def shr (g k : Nat) : Nat := g / 2 ^ k
theorem shr_zero (g : Nat) : shr g 0 = g := Nat.div_one g
theorem shr_lt {g : Nat} (h : g < B64) (k : Nat) : shr g k < B64 := Nat.lt_of_le_of_lt (Nat.div_le_self _ _) h
theorem shr_step {g k : Nat} (h : shr g k < B64) : IntKind.u64.wrap ((shr g k : Int) / 2) = (shr g (k + 1) : Int) := by
  rw [wrap_half h]
  unfold shr
  rw [Nat.div_div_eq_div_mul, Nat.pow_succ]
theorem shr_last {g : Nat} (h : g ≠ 0) : shr g (blen g - 1) = 1 := by
  have h1 := blen_ge h
  have h2 := lt_blen g
  have h3 := blen_pos h
  unfold shr
  have h4 : 2 ^ blen g = 2 ^ (blen g - 1) * 2 := by rw [← Nat.pow_succ]; congr 1; omega
  rw [h4] at h2
  have hp : 0 < 2 ^ (blen g - 1) := Nat.pow_pos (by omega)
  have h5 : g / 2 ^ (blen g - 1) < 2 := by rw [Nat.div_lt_iff_lt_mul hp, Nat.mul_comm]; exact h2
  have h6 := Nat.div_pos h1 hp
  omega

set_option maxRecDepth 100000 in
set_option maxHeartbeats 4000000 in
theorem case_x {a0 a1 : Option Addr} {len0 cap0 len1 cap1 x y : Nat} {w : World} (h0 : Num w a0 len0 cap0 x) (h1 : Num w a1 len1 cap1 y) (lx : (limbs x).length ≤ 20) (ly : (limbs y).length ≤ 20)
    (G : Hid (Calls Try.prog 16 #[.slice (some ⟨w.heap.size, 0, none⟩) 2 2] (w.alloc (.cells #[.slice a0 len0 cap0, .slice a1 len1 cap1] 23)) (GotV (w.alloc (.cells #[.slice a0 len0 cap0, .slice a1 len1 cap1] 23)) (.bool true)))) (hx : x = 0) :
    Calls Try.prog 8 #[.slice a0 len0 cap0, .slice a1 len1 cap1] w fun e w' => e = .returned (.bool true) ∧ Below w.heap.size w w' := by
  have q0 : (limbs (x + y)).length ≤ 21 := Nat.le_trans (limbs_length_add (k := 20) (by omega) (by omega)) (by omega)
  have q1 : (limbs (x * y)).length ≤ 40 := Nat.le_trans (limbs_length_mul (k := 20) (m := 20) (by omega) (by omega)) (by omega)
  have m1 := blen_sum_ge x y
  have m2 := blen_sum_le x y
  have u1 := blen_len lx
  have u2 := blen_len ly
  have u3 := blen_len q0
  have u4 := blen_len q1
  have v1 : blen x ≤ 64 * len0 := by have := h0.len; have := blen_len (Nat.le_refl (limbs x).length); omega
  have v2 : len0 ≤ 20 := by have := h0.len; omega
  have e1 : ∃ p, blen x = p := ⟨_, rfl⟩
  have e3 : ∃ s, blen (x + y) = s := ⟨_, rfl⟩
  have e2 : ∃ q, blen y = q := ⟨_, rfl⟩
  obtain ⟨p, hp⟩ := e1
  obtain ⟨q, hq⟩ := e2
  obtain ⟨s, hs⟩ := e3
  rw [hp] at m1 m2 u1 v1
  rw [hq] at m1 m2 u2
  rw [hs] at m1 m2 u3
  have f1 : ((p : Int) == 0) = true := by rw [← hp, hx]; rfl
  have f2 : ((len0 : Int) == 0) = true := by have := h0.len; rw [hx, limbs_zero] at this; simp at this; simp [this]
  have HP := Lib.hid hp
  have HQ := Lib.hid hq
  have HS := Lib.hid hs
  clear hp hq hs u4 hx
  go_enter Try.func8, Try.ntmps8
  go_wp2_with fail
  refine G.out.mono ?_
  rintro e w1 ⟨rfl, b1⟩
  have cc : Below w.heap.size w w1 := ((Below.refl _ w).alloc (Nat.le_refl _) _).trans (b1.mono (by simp))
  clear b1 G
  replace h0 := h0.on cc
  replace h1 := h1.on cc
  go_wp2_with fail
  refine (bits_eq_N h0 (by omega) HP.out).mono ?_
  rintro e w3 ⟨rfl, b⟩
  replace h0 := h0.on b
  replace h1 := h1.on b
  replace cc := cc.trans (b.mono cc.size)
  clear b
  go_wp2_with fail
  refine (bits_eq_N h1 (by omega) HQ.out).mono ?_
  rintro e w4 ⟨rfl, b⟩
  replace h0 := h0.on b
  replace h1 := h1.on b
  replace cc := cc.trans (b.mono cc.size)
  clear b
  go_wp2_with fail
  refine (add_N h0 h1 (by omega) (by omega)).mono ?_
  rintro e w5 ⟨A3, n3, c3, rfl, t, b⟩
  replace h0 := h0.on b
  replace h1 := h1.on b
  replace cc := cc.trans (b.mono cc.size)
  clear b
  go_wp2_with fail
  refine (bits_eq_N t (by omega) HS.out).mono ?_
  rintro e w6 ⟨rfl, b⟩
  replace h0 := h0.on b
  replace h1 := h1.on b
  replace t := t.on b
  replace cc := cc.trans (b.mono cc.size)
  clear b
  clear t
  go_wp2_with fail
  refine (alive_any _).mono ?_
  rintro e w7 ⟨rfl, b⟩
  replace h0 := h0.on b
  replace h1 := h1.on b
  replace cc := cc.trans (b.mono cc.size)
  clear b
  go_wp2_with fail
  go_ret
  exact ⟨rfl, cc⟩

set_option maxRecDepth 100000 in
set_option maxHeartbeats 4000000 in
theorem case_y {a0 a1 : Option Addr} {len0 cap0 len1 cap1 x y : Nat} {w : World} (h0 : Num w a0 len0 cap0 x) (h1 : Num w a1 len1 cap1 y) (lx : (limbs x).length ≤ 20) (ly : (limbs y).length ≤ 20)
    (G : Hid (Calls Try.prog 16 #[.slice (some ⟨w.heap.size, 0, none⟩) 2 2] (w.alloc (.cells #[.slice a0 len0 cap0, .slice a1 len1 cap1] 23)) (GotV (w.alloc (.cells #[.slice a0 len0 cap0, .slice a1 len1 cap1] 23)) (.bool true)))) (hx : x ≠ 0) (hy : y = 0) :
    Calls Try.prog 8 #[.slice a0 len0 cap0, .slice a1 len1 cap1] w fun e w' => e = .returned (.bool true) ∧ Below w.heap.size w w' := by
  have q0 : (limbs (x + y)).length ≤ 21 := Nat.le_trans (limbs_length_add (k := 20) (by omega) (by omega)) (by omega)
  have q1 : (limbs (x * y)).length ≤ 40 := Nat.le_trans (limbs_length_mul (k := 20) (m := 20) (by omega) (by omega)) (by omega)
  have m1 := blen_sum_ge x y
  have m2 := blen_sum_le x y
  have u1 := blen_len lx
  have u2 := blen_len ly
  have u3 := blen_len q0
  have u4 := blen_len q1
  have v1 : blen x ≤ 64 * len0 := by have := h0.len; have := blen_len (Nat.le_refl (limbs x).length); omega
  have v2 : len0 ≤ 20 := by have := h0.len; omega
  have e1 : ∃ p, blen x = p := ⟨_, rfl⟩
  have e3 : ∃ s, blen (x + y) = s := ⟨_, rfl⟩
  have e2 : ∃ q, blen y = q := ⟨_, rfl⟩
  obtain ⟨p, hp⟩ := e1
  obtain ⟨q, hq⟩ := e2
  obtain ⟨s, hs⟩ := e3
  rw [hp] at m1 m2 u1 v1
  rw [hq] at m1 m2 u2
  rw [hs] at m1 m2 u3
  have f1 : ((p : Int) == 0) = false := by have := blen_pos hx; simp; omega
  have f2 : ((len0 : Int) == 0) = false := by have := h0.len; have := limbs_ne_nil hx; simp; omega
  have f3 : ((q : Int) == 0) = true := by rw [← hq, hy]; rfl
  have HP := Lib.hid hp
  have HQ := Lib.hid hq
  have HS := Lib.hid hs
  clear hp hq hs u4 hx hy
  go_enter Try.func8, Try.ntmps8
  go_wp2_with fail
  refine G.out.mono ?_
  rintro e w1 ⟨rfl, b1⟩
  have cc : Below w.heap.size w w1 := ((Below.refl _ w).alloc (Nat.le_refl _) _).trans (b1.mono (by simp))
  clear b1 G
  replace h0 := h0.on cc
  replace h1 := h1.on cc
  go_wp2_with fail
  refine (bits_eq_N h0 (by omega) HP.out).mono ?_
  rintro e w3 ⟨rfl, b⟩
  replace h0 := h0.on b
  replace h1 := h1.on b
  replace cc := cc.trans (b.mono cc.size)
  clear b
  go_wp2_with fail
  refine (bits_eq_N h1 (by omega) HQ.out).mono ?_
  rintro e w4 ⟨rfl, b⟩
  replace h0 := h0.on b
  replace h1 := h1.on b
  replace cc := cc.trans (b.mono cc.size)
  clear b
  go_wp2_with fail
  refine (add_N h0 h1 (by omega) (by omega)).mono ?_
  rintro e w5 ⟨A3, n3, c3, rfl, t, b⟩
  replace h0 := h0.on b
  replace h1 := h1.on b
  replace cc := cc.trans (b.mono cc.size)
  clear b
  go_wp2_with fail
  refine (bits_eq_N t (by omega) HS.out).mono ?_
  rintro e w6 ⟨rfl, b⟩
  replace h0 := h0.on b
  replace h1 := h1.on b
  replace t := t.on b
  replace cc := cc.trans (b.mono cc.size)
  clear b
  clear t
  go_wp2_with fail
  refine (alive_any _).mono ?_
  rintro e w7 ⟨rfl, b⟩
  replace h0 := h0.on b
  replace h1 := h1.on b
  replace cc := cc.trans (b.mono cc.size)
  clear b
  go_wp2_with fail
  go_ret
  exact ⟨rfl, cc⟩

set_option maxRecDepth 100000 in
set_option maxHeartbeats 8000000 in
theorem case_full {a0 a1 : Option Addr} {len0 cap0 len1 cap1 x y : Nat} {w : World} (h0 : Num w a0 len0 cap0 x) (h1 : Num w a1 len1 cap1 y) (lx : (limbs x).length ≤ 20) (ly : (limbs y).length ≤ 20)
    (G : Hid (Calls Try.prog 16 #[.slice (some ⟨w.heap.size, 0, none⟩) 2 2] (w.alloc (.cells #[.slice a0 len0 cap0, .slice a1 len1 cap1] 23)) (GotV (w.alloc (.cells #[.slice a0 len0 cap0, .slice a1 len1 cap1] 23)) (.bool true)))) (hx : x ≠ 0) (hy : y ≠ 0) (hrr : blen (x * y) = blen x + blen y) :
    Calls Try.prog 8 #[.slice a0 len0 cap0, .slice a1 len1 cap1] w fun e w' => e = .returned (.bool true) ∧ Below w.heap.size w w' := by
  have q0 : (limbs (x + y)).length ≤ 21 := Nat.le_trans (limbs_length_add (k := 20) (by omega) (by omega)) (by omega)
  have q1 : (limbs (x * y)).length ≤ 40 := Nat.le_trans (limbs_length_mul (k := 20) (m := 20) (by omega) (by omega)) (by omega)
  have m1 := blen_sum_ge x y
  have m2 := blen_sum_le x y
  have u1 := blen_len lx
  have u2 := blen_len ly
  have u3 := blen_len q0
  have u4 := blen_len q1
  have v1 : blen x ≤ 64 * len0 := by have := h0.len; have := blen_len (Nat.le_refl (limbs x).length); omega
  have v2 : len0 ≤ 20 := by have := h0.len; omega
  have e1 : ∃ p, blen x = p := ⟨_, rfl⟩
  have e3 : ∃ s, blen (x + y) = s := ⟨_, rfl⟩
  have e2 : ∃ q, blen y = q := ⟨_, rfl⟩
  obtain ⟨p, hp⟩ := e1
  obtain ⟨q, hq⟩ := e2
  obtain ⟨s, hs⟩ := e3
  obtain ⟨r, hr⟩ : ∃ r, blen (x * y) = r := ⟨_, rfl⟩
  obtain ⟨j, hj⟩ : ∃ j, len0 = j + 1 := ⟨len0 - 1, by have := h0.len; have := limbs_ne_nil hx; omega⟩
  subst hj
  have hl := h0.len
  have hbl := blen_limbs hl.symm
  have hdB : (limbs x)[j]?.getD 0 < B64 := (limbs_dig x).get j
  have hd0 := top_ne hl.symm
  have hcell : ∀ w', Num w' a0 (j + 1) cap0 x → ∃ b off, a0 = some ⟨b, off, none⟩ ∧ w'.cell? ⟨b, off + j, none⟩ = some (.int .u64 (((limbs x)[j]?.getD 0 : Nat) : Int)) := fun w' h => by
    obtain ⟨b, off, e, _, hc⟩ := h.2.2.2 (by omega)
    exact ⟨b, off, e, hc j (by omega)⟩
  generalize (limbs x)[j]?.getD 0 = g at hbl hdB hd0 hcell
  rw [hp] at m1 m2 u1 v1 hbl
  rw [hq] at m1 m2 u2
  rw [hs] at m1 m2 u3
  rw [hr] at u4
  have f1 : ((p : Int) == 0) = false := by have := blen_pos hx; simp; omega
  have f2 : (((j + 1 : Nat) : Int) == 0) = false := by simp; omega
  have f2' : ((j : Int) + 1 == 0) = false := by simp; omega
  have f3 : ((q : Int) == 0) = false := by have := blen_pos hy; simp; omega
  have g1 : p ≤ 64 * j + blen g := by omega
  have g2 : 64 * j + blen g ≤ p := by omega
  have g3 := blen_digit hdB
  have g4 := blen_pos hd0
  have g5 := shr_last hd0
  have hp1 : 1 ≤ p := by omega
  have hq1 : 1 ≤ q := by have := blen_pos hy; omega
  have f4 : ((r : Int) == (p : Int) + (q : Int)) = true := by simp; omega
  have HP := Lib.hid hp
  have HQ := Lib.hid hq
  have HS := Lib.hid hs
  have HR := Lib.hid hr
  have HG := Lib.hid g5
  have HC := Lib.hid hcell
  clear hp hq hs hr hx hy hbl g5 hl hcell hrr hd0
  go_enter Try.func8, Try.ntmps8
  go_wp2_with fail
  refine G.out.mono ?_
  rintro e w1 ⟨rfl, b1⟩
  have cc : Below w.heap.size w w1 := ((Below.refl _ w).alloc (Nat.le_refl _) _).trans (b1.mono (by simp))
  clear b1 G
  replace h0 := h0.on cc
  replace h1 := h1.on cc
  go_wp2_with fail
  refine (bits_eq_N h0 (by omega) HP.out).mono ?_
  rintro e w3 ⟨rfl, b⟩
  replace h0 := h0.on b
  replace h1 := h1.on b
  replace cc := cc.trans (b.mono cc.size)
  clear b
  go_wp2_with fail
  refine (bits_eq_N h1 (by omega) HQ.out).mono ?_
  rintro e w4 ⟨rfl, b⟩
  replace h0 := h0.on b
  replace h1 := h1.on b
  replace cc := cc.trans (b.mono cc.size)
  clear b
  go_wp2_with fail
  refine (add_N h0 h1 (by omega) (by omega)).mono ?_
  rintro e w5 ⟨A3, n3, c3, rfl, t, b⟩
  replace h0 := h0.on b
  replace h1 := h1.on b
  replace cc := cc.trans (b.mono cc.size)
  clear b
  go_wp2_with fail
  refine (bits_eq_N t (by omega) HS.out).mono ?_
  rintro e w6 ⟨rfl, b⟩
  replace h0 := h0.on b
  replace h1 := h1.on b
  replace t := t.on b
  replace cc := cc.trans (b.mono cc.size)
  clear b
  clear t
  go_wp2_with fail
  refine (mul_N h0 h1 (by omega) (by omega)).mono ?_
  rintro e w7 ⟨A5, n5, c5, rfl, t, b⟩
  replace h0 := h0.on b
  replace h1 := h1.on b
  replace cc := cc.trans (b.mono cc.size)
  clear b
  go_wp2_with fail
  refine (bits_eq_N t (by omega) HR.out).mono ?_
  rintro e w8 ⟨rfl, b⟩
  replace h0 := h0.on b
  replace h1 := h1.on b
  replace t := t.on b
  replace cc := cc.trans (b.mono cc.size)
  clear b
  clear t
  obtain ⟨b, off, rfl, hc⟩ := HC.out _ h0
  clear HC
  go_wp2_with fail
  go_loop [9, 10] (fun tv iv => ∃ k : Nat, k + 1 ≤ blen g ∧ iv = .int .i64 ((64 * j + k : Nat) : Int) ∧ tv = .int .u64 (shr g k : Int)) (fun _ iv => p - (intOf iv).toNat)
  case atStart => exact ⟨0, by omega, by go_num, by rw [shr_zero]⟩
  case round =>
    obtain ⟨k, hk, rfl, rfl⟩ := hrel
    have hsb := shr_lt hdB k
    by_cases hlt : k + 1 < blen g
    · go_wp2_with fail
      go_round
      case rel => exact ⟨k + 1, by omega, by go_num, congrArg (Value.int .u64) (shr_step hsb)⟩
      case measure => simp [intOf]; omega
    · have hk1 : k = blen g - 1 := by omega
      have ht1 : ((shr g k : Int) == 1) = true := by rw [hk1, HG.out]; rfl
      clear hk1 HG
      go_wp2_with fail
      refine (alive_any _).mono ?_
      rintro e w9 ⟨rfl, b⟩
      replace h0 := h0.on b
      replace h1 := h1.on b
      replace cc := cc.trans (b.mono cc.size)
      clear b
      go_wp2_with fail
      go_ret
      exact ⟨rfl, cc⟩

set_option maxRecDepth 100000 in
set_option maxHeartbeats 8000000 in
theorem case_less {a0 a1 : Option Addr} {len0 cap0 len1 cap1 x y : Nat} {w : World} (h0 : Num w a0 len0 cap0 x) (h1 : Num w a1 len1 cap1 y) (lx : (limbs x).length ≤ 20) (ly : (limbs y).length ≤ 20)
    (G : Hid (Calls Try.prog 16 #[.slice (some ⟨w.heap.size, 0, none⟩) 2 2] (w.alloc (.cells #[.slice a0 len0 cap0, .slice a1 len1 cap1] 23)) (GotV (w.alloc (.cells #[.slice a0 len0 cap0, .slice a1 len1 cap1] 23)) (.bool true)))) (hx : x ≠ 0) (hy : y ≠ 0) (hrr : blen (x * y) + 1 = blen x + blen y) :
    Calls Try.prog 8 #[.slice a0 len0 cap0, .slice a1 len1 cap1] w fun e w' => e = .returned (.bool true) ∧ Below w.heap.size w w' := by
  have q0 : (limbs (x + y)).length ≤ 21 := Nat.le_trans (limbs_length_add (k := 20) (by omega) (by omega)) (by omega)
  have q1 : (limbs (x * y)).length ≤ 40 := Nat.le_trans (limbs_length_mul (k := 20) (m := 20) (by omega) (by omega)) (by omega)
  have m1 := blen_sum_ge x y
  have m2 := blen_sum_le x y
  have u1 := blen_len lx
  have u2 := blen_len ly
  have u3 := blen_len q0
  have u4 := blen_len q1
  have v1 : blen x ≤ 64 * len0 := by have := h0.len; have := blen_len (Nat.le_refl (limbs x).length); omega
  have v2 : len0 ≤ 20 := by have := h0.len; omega
  have e1 : ∃ p, blen x = p := ⟨_, rfl⟩
  have e3 : ∃ s, blen (x + y) = s := ⟨_, rfl⟩
  have e2 : ∃ q, blen y = q := ⟨_, rfl⟩
  obtain ⟨p, hp⟩ := e1
  obtain ⟨q, hq⟩ := e2
  obtain ⟨s, hs⟩ := e3
  obtain ⟨r, hr⟩ : ∃ r, blen (x * y) = r := ⟨_, rfl⟩
  obtain ⟨j, hj⟩ : ∃ j, len0 = j + 1 := ⟨len0 - 1, by have := h0.len; have := limbs_ne_nil hx; omega⟩
  subst hj
  have hl := h0.len
  have hbl := blen_limbs hl.symm
  have hdB : (limbs x)[j]?.getD 0 < B64 := (limbs_dig x).get j
  have hd0 := top_ne hl.symm
  have hcell : ∀ w', Num w' a0 (j + 1) cap0 x → ∃ b off, a0 = some ⟨b, off, none⟩ ∧ w'.cell? ⟨b, off + j, none⟩ = some (.int .u64 (((limbs x)[j]?.getD 0 : Nat) : Int)) := fun w' h => by
    obtain ⟨b, off, e, _, hc⟩ := h.2.2.2 (by omega)
    exact ⟨b, off, e, hc j (by omega)⟩
  generalize (limbs x)[j]?.getD 0 = g at hbl hdB hd0 hcell
  rw [hp] at m1 m2 u1 v1 hbl
  rw [hq] at m1 m2 u2
  rw [hs] at m1 m2 u3
  rw [hr] at u4
  have f1 : ((p : Int) == 0) = false := by have := blen_pos hx; simp; omega
  have f2 : (((j + 1 : Nat) : Int) == 0) = false := by simp; omega
  have f2' : ((j : Int) + 1 == 0) = false := by simp; omega
  have f3 : ((q : Int) == 0) = false := by have := blen_pos hy; simp; omega
  have g1 : p ≤ 64 * j + blen g := by omega
  have g2 : 64 * j + blen g ≤ p := by omega
  have g3 := blen_digit hdB
  have g4 := blen_pos hd0
  have g5 := shr_last hd0
  have hp1 : 1 ≤ p := by omega
  have hq1 : 1 ≤ q := by have := blen_pos hy; omega
  have f4 : ((r : Int) == (p : Int) + (q : Int)) = false := by simp; omega
  have f5 : ((r : Int) == (p : Int) + (q : Int) - 1) = true := by simp; omega
  have HP := Lib.hid hp
  have HQ := Lib.hid hq
  have HS := Lib.hid hs
  have HR := Lib.hid hr
  have HG := Lib.hid g5
  have HC := Lib.hid hcell
  clear hp hq hs hr hx hy hbl g5 hl hcell hrr hd0
  go_enter Try.func8, Try.ntmps8
  go_wp2_with fail
  refine G.out.mono ?_
  rintro e w1 ⟨rfl, b1⟩
  have cc : Below w.heap.size w w1 := ((Below.refl _ w).alloc (Nat.le_refl _) _).trans (b1.mono (by simp))
  clear b1 G
  replace h0 := h0.on cc
  replace h1 := h1.on cc
  go_wp2_with fail
  refine (bits_eq_N h0 (by omega) HP.out).mono ?_
  rintro e w3 ⟨rfl, b⟩
  replace h0 := h0.on b
  replace h1 := h1.on b
  replace cc := cc.trans (b.mono cc.size)
  clear b
  go_wp2_with fail
  refine (bits_eq_N h1 (by omega) HQ.out).mono ?_
  rintro e w4 ⟨rfl, b⟩
  replace h0 := h0.on b
  replace h1 := h1.on b
  replace cc := cc.trans (b.mono cc.size)
  clear b
  go_wp2_with fail
  refine (add_N h0 h1 (by omega) (by omega)).mono ?_
  rintro e w5 ⟨A3, n3, c3, rfl, t, b⟩
  replace h0 := h0.on b
  replace h1 := h1.on b
  replace cc := cc.trans (b.mono cc.size)
  clear b
  go_wp2_with fail
  refine (bits_eq_N t (by omega) HS.out).mono ?_
  rintro e w6 ⟨rfl, b⟩
  replace h0 := h0.on b
  replace h1 := h1.on b
  replace t := t.on b
  replace cc := cc.trans (b.mono cc.size)
  clear b
  clear t
  go_wp2_with fail
  refine (mul_N h0 h1 (by omega) (by omega)).mono ?_
  rintro e w7 ⟨A5, n5, c5, rfl, t, b⟩
  replace h0 := h0.on b
  replace h1 := h1.on b
  replace cc := cc.trans (b.mono cc.size)
  clear b
  go_wp2_with fail
  refine (bits_eq_N t (by omega) HR.out).mono ?_
  rintro e w8 ⟨rfl, b⟩
  replace h0 := h0.on b
  replace h1 := h1.on b
  replace t := t.on b
  replace cc := cc.trans (b.mono cc.size)
  clear b
  clear t
  obtain ⟨b, off, rfl, hc⟩ := HC.out _ h0
  clear HC
  go_wp2_with fail
  go_loop [9, 10] (fun tv iv => ∃ k : Nat, k + 1 ≤ blen g ∧ iv = .int .i64 ((64 * j + k : Nat) : Int) ∧ tv = .int .u64 (shr g k : Int)) (fun _ iv => p - (intOf iv).toNat)
  case atStart => exact ⟨0, by omega, by go_num, by rw [shr_zero]⟩
  case round =>
    obtain ⟨k, hk, rfl, rfl⟩ := hrel
    have hsb := shr_lt hdB k
    by_cases hlt : k + 1 < blen g
    · go_wp2_with fail
      go_round
      case rel => exact ⟨k + 1, by omega, by go_num, congrArg (Value.int .u64) (shr_step hsb)⟩
      case measure => simp [intOf]; omega
    · have hk1 : k = blen g - 1 := by omega
      have ht1 : ((shr g k : Int) == 1) = true := by rw [hk1, HG.out]; rfl
      clear hk1 HG
      go_wp2_with fail
      refine (alive_any _).mono ?_
      rintro e w9 ⟨rfl, b⟩
      replace h0 := h0.on b
      replace h1 := h1.on b
      replace cc := cc.trans (b.mono cc.size)
      clear b
      go_wp2_with fail
      go_ret
      exact ⟨rfl, cc⟩

/-! ### STEP 1: THE WALK: the Go text returns true, AND WRITES NOTHING THAT WAS THERE: 'Below w.heap.size w w'' (Derived/Below.lean: '.refl', '.alloc', '.drew', '.setCell' at a new block, '.trans'). Open each 'IsRow' by 'rcases' AHEAD of 'go_enter'; part every test ahead of the walk. -/
theorem walk (a0 : Option Addr) (len0 cap0 : Nat) (z0 : List Int) (a1 : Option Addr) (len1 cap1 : Nat) (z1 : List Int) (w : World) (w0 : IsRow .u64 w a0 len0 cap0 z0) (w1 : IsRow .u64 w a1 len1 cap1 z1) :
    Calls Try.prog 8 #[.slice a0 len0 cap0, .slice a1 len1 cap1] w fun e w' => e = .returned (.bool true) ∧ Below w.heap.size w w' := by
  obtain ⟨l0, hl0, hs0⟩ := arg_of_row w0
  obtain ⟨l1, hl1, hs1⟩ := arg_of_row w1
  clear w0 w1
  have hi0 : Arg.isIn ⟨a0, len0, cap0, l0⟩ w := ⟨hl0, hs0⟩
  have hi1 : Arg.isIn ⟨a1, len1, cap1, l1⟩ w := ⟨hl1, hs1⟩
  cases hr : (Arg.ok ⟨a0, len0, cap0, l0⟩ && Arg.ok ⟨a1, len1, cap1, l1⟩) with
  | false =>
    have G := Lib.hid (given_two ⟨a0, len0, cap0, l0⟩ ⟨a1, len1, cap1, l1⟩ false w hi0 hi1 hr)
    clear hr hi0 hi1 hl0 hl1
    go_enter Try.func8, Try.ntmps8
    go_wp2_with fail
    refine G.out.mono ?_
    rintro e w1 ⟨rfl, b1⟩
    go_wp2_with fail
    refine (alive_any _).mono ?_
    rintro e w2 ⟨rfl, b2⟩
    go_wp2_with fail
    go_ret
    exact ⟨rfl, ((Below.refl _ w).alloc (Nat.le_refl _) _).trans ((b1.trans (b2.mono b1.size)).mono (by simp))⟩
  | true =>
    have G := Lib.hid (given_two ⟨a0, len0, cap0, l0⟩ ⟨a1, len1, cap1, l1⟩ true w hi0 hi1 hr)
    rw [Bool.and_eq_true] at hr
    obtain ⟨k0, k1⟩ := hr
    have h0 := hl0.num (ok_parts k0).2
    have lx : (limbs (val l0)).length ≤ 20 := by rw [← h0.len]; exact (ok_parts k0).1
    have h1 := hl1.num (ok_parts k1).2
    have ly : (limbs (val l1)).length ≤ 20 := by rw [← h1.len]; exact (ok_parts k1).1
    clear hi0 hi1 hl0 hl1 k0 k1
    generalize val l0 = x at h0 lx
    generalize val l1 = y at h1 ly
    by_cases hx : x = 0
    · exact case_x h0 h1 lx ly G hx
    · by_cases hy : y = 0
      · exact case_y h0 h1 lx ly G hx hy
      · rcases blen_mul hx hy with hm | hm
        · exact case_full h0 h1 lx ly G hx hy hm
        · exact case_less h0 h1 lx ly G hx hy hm


/-! ### THE ROW's STEP: WRITTEN OUT: LEAVE IT -/
set_option maxRecDepth 100000 in
theorem lifted (os : Os) (started : os.Started) (H : Type) (enc : TypeId × Value → H) :
    ReturnsInHanded {} Try.checked os 8 .any (Rows.natBitsSpec.pre6 enc Try.prog Try.f8 Rows.natBitsRow.domain false) (Rows.natBitsSpec.post enc Try.prog Try.f8 false true false false) := by
  refine returnsInHanded_of_change (C := Try.checked) own started (by kernel_rfl) Try.func8
    (ChangeSpec.witness6 (enc := enc) (C := Try.checked) false ⟨#[], #[.slice none 0 0, .slice none 0 0], []⟩ 8 (by kernel_rfl) (by kernel_rfl) (by kernel_rfl) (by kernel_rfl)) ?_
  intro W base args ds gs before hval0 hW hcnd _
  have hval : ∀ (j : Nat) t v, Try.f8.params[j]? = some t → args[j]? = some v → Value.okWide Try.prog W .any base t v := hval0
  have hW' := hW
  obtain ⟨p, q, hA0, hV, rfl, hfz, hnd⟩ := hW
  have hA : DataW.TrodAll enc Try.prog W 0 (fun _ => true) true Try.f8.params.toList args.toList ds p := hA0
  rw [Try.params8] at hA hval
  obtain ⟨v0, vs0, d0, ds0, p0, q0, hargs, rfl, rfl, h0, r0⟩ := trodAll_cons hA
  obtain ⟨v1, vs1, d1, ds1, p1, q1, rfl, rfl, rfl, h1, r1⟩ := trodAll_cons r0
  obtain ⟨rfl, rfl, rfl⟩ := trodAll_nil r1
  obtain rfl : args = #[v0, v1] := by cases args; simp_all
  obtain ⟨rfl, rfl⟩ := trodVars_none hV
  obtain ⟨a0, len0, cap0, rfl⟩ := okWide_slice Try.underlying23 (hval 0 23 v0 rfl rfl)
  have k0 := h0
  have lt0 : ∀ x ∈ p0, x.block < W.heap.size := by obtain ⟨m, hm⟩ := k0; exact DataW.trod_lt m _ _ _ hm
  obtain ⟨z0, w0⟩ : ∃ zs, IsRow .u64 W a0 len0 cap0 zs := by
    obtain ⟨fuel, hf⟩ := h0
    rcases open_ints Try.underlying23 Try.underlying24 (by kernel_rfl) hf with ⟨hcs, _⟩ | ⟨x, l, c, zs, hcs, _, hl, hm, hz, _, hcell, hwz⟩
    · simp [Value.cells] at hcs
      obtain ⟨rfl, rfl, rfl⟩ := hcs
      exact ⟨[], .inl ⟨rfl, rfl, rfl, rfl⟩⟩
    · simp [Value.cells] at hcs
      obtain ⟨rfl, rfl, rfl⟩ := hcs
      exact ⟨zs, .inr ⟨_, rfl, hl, hm, by simpa using hz, hcell, hwz⟩⟩
  obtain ⟨a1, len1, cap1, rfl⟩ := okWide_slice Try.underlying23 (hval 1 23 v1 rfl rfl)
  have k1 := h1
  have lt1 : ∀ x ∈ p1, x.block < W.heap.size := by obtain ⟨m, hm⟩ := k1; exact DataW.trod_lt m _ _ _ hm
  obtain ⟨z1, w1⟩ : ∃ zs, IsRow .u64 W a1 len1 cap1 zs := by
    obtain ⟨fuel, hf⟩ := h1
    rcases open_ints Try.underlying23 Try.underlying24 (by kernel_rfl) hf with ⟨hcs, _⟩ | ⟨x, l, c, zs, hcs, _, hl, hm, hz, _, hcell, hwz⟩
    · simp [Value.cells] at hcs
      obtain ⟨rfl, rfl, rfl⟩ := hcs
      exact ⟨[], .inl ⟨rfl, rfl, rfl, rfl⟩⟩
    · simp [Value.cells] at hcs
      obtain ⟨rfl, rfl, rfl⟩ := hcs
      exact ⟨zs, .inr ⟨_, rfl, hl, hm, by simpa using hz, hcell, hwz⟩⟩
  clear hA0 hval0
  refine (walk a0 len0 cap0 z0 a1 len1 cap1 z1 W w0 w1).mono fun e W' ⟨he, bel⟩ => ?_
  subst he
  exact ⟨_, rfl, _, _, _, [], _, [], hW', trodAll_mk1 (shut_bool Try.underlying4 _), (trodAll_cons_mk (Below.trod laidOut (by kernel_rfl) (of_decide_eq_true (by kernel_rfl)) k0 bel lt0) (trodAll_cons_mk (Below.trod laidOut (by kernel_rfl) (of_decide_eq_true (by kernel_rfl)) k1 bel lt1) trodAll_mk0)), rfl, bel.frame _, fun h => by cases h⟩

theorem over : Rows.natBitsRow.holds Try.pinned (OpenSpec.ofChange Rows.natBitsSpec) :=
  OpenClaim.holds_of_wide 8 Try.f8 rfl rfl rfl rfl rfl rfl rfl ⟨rfl, rfl, rfl, rfl, rfl⟩ rfl rfl rfl rfl rfl (by kernel_rfl) Try.func8 (by kernel_rfl)
    (of_decide_eq_true (by kernel_rfl)) (by unfold Func.isWrapper; first | (rw [if_pos (by decide +kernel)]; kernel_rfl) | (rw [if_neg (by decide +kernel)]; exact ⟨rfl, rfl⟩))
    (fun os started H enc _ => lifted os started H enc)

/-- ████ THE STATEMENT ████ -/
theorem proved : Rows.NatBitsSaid := over
#print axioms proved
end Go.Proofs.Ytglabefefedfoaa.natBits
