/-
  Proved: whatever slices and numbers it is handed, ratchetlaw01.NatOrder, over the code of the commit named in the claim, returns true, and leaves all that was there as it was. Conditions: none.
-/
import Derived.Test.YtglabefefedfoaaRows
import Derived.WalkKit
import Derived.ProofKit
import Derived.OpenShut
import Derived.ShutString
import Derived.ChangeOld
import Derived.Below
import Derived.Test.YtglabefefedfoaaRow
namespace Go.Proofs.Ytglabefefedfoaa.natOrder
open Go.ChangeShapes Go.WideShapes Go.ChangeAt Go.RowKit
open Go.ChangeMaps (open_string shut_string)
set_option linter.unusedVariables false

theorem own : ownKnob Try.prog.godebug = none := by kernel_rfl
theorem laidOut : laidOutB Try.prog = true := by kernel_rfl

/-- WHAT THE WALK IS TOLD OF A SLICE OF INTEGERS THAT CAME IN: it is nil; or it leads to a row of 'cap' cells, the numbers 'zs' (the first 'len' are its elements, the rest its spare room), each fitting its kind. -/
def IsRow (k : IntKind) (w : World) (a : Option Addr) (len cap : Nat) (zs : List Int) : Prop :=
  (a = none ∧ len = 0 ∧ cap = 0 ∧ zs = []) ∨
  ∃ x, a = some x ∧ len ≤ cap ∧ cap ≤ maxLen ∧ zs.length = cap ∧ (∀ i, i < zs.length → w.cell? (x.add i) = some (.int k (zs.getD i 0))) ∧ ∀ n ∈ zs, (Lit.int k n).wf = true

theorem mul_less {a b c : Nat} (h : a < b) (hc : 0 < c) : a * c < b * c := Nat.mul_lt_mul_of_lt_of_le h (Nat.le_refl c) hc
theorem cmpN_le {a b : Nat} (h : a ≤ b) : cmpN a b ≤ 0 := by
  rcases Nat.lt_or_ge a b with h1 | h1
  · rw [cmpN_lt h1]; omega
  · rw [cmpN_zero.2 (by omega)]; omega

set_option maxRecDepth 100000 in
set_option maxHeartbeats 4000000 in
theorem case_lt_le_more {a0 a1 a2 : Option Addr} {len0 cap0 len1 cap1 len2 cap2 x y z : Nat} {w : World} (h0 : Num w a0 len0 cap0 x) (h1 : Num w a1 len1 cap1 y) (h2 : Num w a2 len2 cap2 z) (lx : (limbs x).length ≤ 20) (ly : (limbs y).length ≤ 20) (lz : (limbs z).length ≤ 20)
    (G : Hid (Calls Try.prog 16 #[.slice (some ⟨w.heap.size, 0, none⟩) 3 3] (w.alloc (.cells #[.slice a0 len0 cap0, .slice a1 len1 cap1, .slice a2 len2 cap2] 23)) (GotV (w.alloc (.cells #[.slice a0 len0 cap0, .slice a1 len1 cap1, .slice a2 len2 cap2] 23)) (.bool true)))) (hxy : x < y) (hyz : y ≤ z) (hz : 0 < z) :
    Calls Try.prog 7 #[.slice a0 len0 cap0, .slice a1 len1 cap1, .slice a2 len2 cap2] w fun e w' => e = .returned (.bool true) ∧ Below w.heap.size w w' := by
  have q0 : (limbs (x + z)).length ≤ 21 := Nat.le_trans (limbs_length_add (k := 20) (by omega) (by omega)) (by omega)
  have q1 : (limbs (y + z)).length ≤ 21 := Nat.le_trans (limbs_length_add (k := 20) (by omega) (by omega)) (by omega)
  have q2 : (limbs (x * z)).length ≤ 40 := Nat.le_trans (limbs_length_mul (k := 20) (m := 20) (by omega) (by omega)) (by omega)
  have q3 : (limbs (y * z)).length ≤ 40 := Nat.le_trans (limbs_length_mul (k := 20) (m := 20) (by omega) (by omega)) (by omega)
  have hxz : x ≤ z := by omega
  have c1 : cmpN y z ≤ 0 := cmpN_le hyz
  have c2 : ¬ 0 < cmpN x z := by have := cmpN_le hxz; omega
  clear hyz hxz
  have e2 : ((len2 : Int) == 0) = false := by
    have := h2.len
    have := limbs_ne_nil (n := z) (by omega)
    simp; omega
  go_enter Try.func7, Try.ntmps7
  go_wp2_with fail
  refine G.out.mono ?_
  rintro e w1 ⟨rfl, b1⟩
  have cc : Below w.heap.size w w1 := ((Below.refl _ w).alloc (Nat.le_refl _) _).trans (b1.mono (by simp))
  clear b1 G
  replace h0 := h0.on cc
  replace h1 := h1.on cc
  replace h2 := h2.on cc
  go_wp2_with fail
  refine (cmp_lt_N h0 h1 (by omega) (by omega) hxy).mono ?_
  rintro e w3 ⟨rfl, b⟩
  replace h0 := h0.on b
  replace h1 := h1.on b
  replace h2 := h2.on b
  replace cc := cc.trans (b.mono cc.size)
  clear b
  go_wp2_with fail
  refine (cmp_gt_N h1 h0 (by omega) (by omega) hxy).mono ?_
  rintro e w4 ⟨rfl, b⟩
  replace h0 := h0.on b
  replace h1 := h1.on b
  replace h2 := h2.on b
  replace cc := cc.trans (b.mono cc.size)
  clear b
  go_wp2_with fail
  refine (same_not_N h0 h1 (by omega) (by omega) (by omega)).mono ?_
  rintro e w5 ⟨rfl, b⟩
  replace h0 := h0.on b
  replace h1 := h1.on b
  replace h2 := h2.on b
  replace cc := cc.trans (b.mono cc.size)
  clear b
  go_wp2_with fail
  refine (cmp_N h1 h2 (by omega) (by omega)).mono ?_
  rintro e w6 ⟨rfl, b⟩
  replace h0 := h0.on b
  replace h1 := h1.on b
  replace h2 := h2.on b
  replace cc := cc.trans (b.mono cc.size)
  clear b
  go_wp2_with fail
  refine (cmp_N h0 h2 (by omega) (by omega)).mono ?_
  rintro e w7 ⟨rfl, b⟩
  replace h0 := h0.on b
  replace h1 := h1.on b
  replace h2 := h2.on b
  replace cc := cc.trans (b.mono cc.size)
  clear b
  go_wp2_with fail
  refine (alive_any _).mono ?_
  rintro e w8 ⟨rfl, b⟩
  replace h0 := h0.on b
  replace h1 := h1.on b
  replace h2 := h2.on b
  replace cc := cc.trans (b.mono cc.size)
  clear b
  go_wp2_with fail
  refine (add_N h0 h2 (by omega) (by omega)).mono ?_
  rintro e w9 ⟨A7, n7, c7, rfl, s, b⟩
  replace h0 := h0.on b
  replace h1 := h1.on b
  replace h2 := h2.on b
  replace cc := cc.trans (b.mono cc.size)
  clear b
  go_wp2_with fail
  refine (add_N h1 h2 (by omega) (by omega)).mono ?_
  rintro e w10 ⟨A8, n8, c8, rfl, t, b⟩
  replace h0 := h0.on b
  replace h1 := h1.on b
  replace h2 := h2.on b
  replace s := s.on b
  replace cc := cc.trans (b.mono cc.size)
  clear b
  go_wp2_with fail
  refine (cmp_lt_N s t (by omega) (by omega) (by omega)).mono ?_
  rintro e w11 ⟨rfl, b⟩
  replace h0 := h0.on b
  replace h1 := h1.on b
  replace h2 := h2.on b
  replace s := s.on b
  replace t := t.on b
  replace cc := cc.trans (b.mono cc.size)
  clear b
  clear s t
  go_wp2_with fail
  refine (mul_N h0 h2 (by omega) (by omega)).mono ?_
  rintro e w12 ⟨A10, n10, c10, rfl, s, b⟩
  replace h0 := h0.on b
  replace h1 := h1.on b
  replace h2 := h2.on b
  replace cc := cc.trans (b.mono cc.size)
  clear b
  go_wp2_with fail
  refine (mul_N h1 h2 (by omega) (by omega)).mono ?_
  rintro e w13 ⟨A11, n11, c11, rfl, t, b⟩
  replace h0 := h0.on b
  replace h1 := h1.on b
  replace h2 := h2.on b
  replace s := s.on b
  replace cc := cc.trans (b.mono cc.size)
  clear b
  go_wp2_with fail
  refine (cmp_lt_N s t (by omega) (by omega) (mul_less hxy hz)).mono ?_
  rintro e w14 ⟨rfl, b⟩
  replace h0 := h0.on b
  replace h1 := h1.on b
  replace h2 := h2.on b
  replace s := s.on b
  replace t := t.on b
  replace cc := cc.trans (b.mono cc.size)
  clear b
  clear s t
  go_wp2_with fail
  go_ret
  exact ⟨rfl, cc⟩

set_option maxRecDepth 100000 in
set_option maxHeartbeats 4000000 in
theorem case_lt_gt_nought {a0 a1 a2 : Option Addr} {len0 cap0 len1 cap1 len2 cap2 x y z : Nat} {w : World} (h0 : Num w a0 len0 cap0 x) (h1 : Num w a1 len1 cap1 y) (h2 : Num w a2 len2 cap2 z) (lx : (limbs x).length ≤ 20) (ly : (limbs y).length ≤ 20) (lz : (limbs z).length ≤ 20)
    (G : Hid (Calls Try.prog 16 #[.slice (some ⟨w.heap.size, 0, none⟩) 3 3] (w.alloc (.cells #[.slice a0 len0 cap0, .slice a1 len1 cap1, .slice a2 len2 cap2] 23)) (GotV (w.alloc (.cells #[.slice a0 len0 cap0, .slice a1 len1 cap1, .slice a2 len2 cap2] 23)) (.bool true)))) (hxy : x < y) (hyz : z < y) (hz0 : z = 0) :
    Calls Try.prog 7 #[.slice a0 len0 cap0, .slice a1 len1 cap1, .slice a2 len2 cap2] w fun e w' => e = .returned (.bool true) ∧ Below w.heap.size w w' := by
  have q0 : (limbs (x + z)).length ≤ 21 := Nat.le_trans (limbs_length_add (k := 20) (by omega) (by omega)) (by omega)
  have q1 : (limbs (y + z)).length ≤ 21 := Nat.le_trans (limbs_length_add (k := 20) (by omega) (by omega)) (by omega)
  have q2 : (limbs (x * z)).length ≤ 40 := Nat.le_trans (limbs_length_mul (k := 20) (m := 20) (by omega) (by omega)) (by omega)
  have q3 : (limbs (y * z)).length ≤ 40 := Nat.le_trans (limbs_length_mul (k := 20) (m := 20) (by omega) (by omega)) (by omega)
  have c1 : ¬ cmpN y z ≤ 0 := by rw [cmpN_gt hyz]; omega
  have c2 : decide (cmpN y z ≤ 0) = false := by simpa using c1
  clear hyz
  subst hz0
  have e2 := h2.len
  rw [limbs_zero] at e2
  simp at e2
  subst e2
  go_enter Try.func7, Try.ntmps7
  go_wp2_with fail
  refine G.out.mono ?_
  rintro e w1 ⟨rfl, b1⟩
  have cc : Below w.heap.size w w1 := ((Below.refl _ w).alloc (Nat.le_refl _) _).trans (b1.mono (by simp))
  clear b1 G
  replace h0 := h0.on cc
  replace h1 := h1.on cc
  replace h2 := h2.on cc
  go_wp2_with fail
  refine (cmp_lt_N h0 h1 (by omega) (by omega) hxy).mono ?_
  rintro e w3 ⟨rfl, b⟩
  replace h0 := h0.on b
  replace h1 := h1.on b
  replace h2 := h2.on b
  replace cc := cc.trans (b.mono cc.size)
  clear b
  go_wp2_with fail
  refine (cmp_gt_N h1 h0 (by omega) (by omega) hxy).mono ?_
  rintro e w4 ⟨rfl, b⟩
  replace h0 := h0.on b
  replace h1 := h1.on b
  replace h2 := h2.on b
  replace cc := cc.trans (b.mono cc.size)
  clear b
  go_wp2_with fail
  refine (same_not_N h0 h1 (by omega) (by omega) (by omega)).mono ?_
  rintro e w5 ⟨rfl, b⟩
  replace h0 := h0.on b
  replace h1 := h1.on b
  replace h2 := h2.on b
  replace cc := cc.trans (b.mono cc.size)
  clear b
  go_wp2_with fail
  refine (cmp_N h1 h2 (by omega) (by omega)).mono ?_
  rintro e w6 ⟨rfl, b⟩
  replace h0 := h0.on b
  replace h1 := h1.on b
  replace h2 := h2.on b
  replace cc := cc.trans (b.mono cc.size)
  clear b
  go_wp2_with fail
  refine (alive_any _).mono ?_
  rintro e w7 ⟨rfl, b⟩
  replace h0 := h0.on b
  replace h1 := h1.on b
  replace h2 := h2.on b
  replace cc := cc.trans (b.mono cc.size)
  clear b
  go_wp2_with fail
  refine (add_N h0 h2 (by omega) (by omega)).mono ?_
  rintro e w8 ⟨A6, n6, c6, rfl, s, b⟩
  replace h0 := h0.on b
  replace h1 := h1.on b
  replace h2 := h2.on b
  replace cc := cc.trans (b.mono cc.size)
  clear b
  go_wp2_with fail
  refine (add_N h1 h2 (by omega) (by omega)).mono ?_
  rintro e w9 ⟨A7, n7, c7, rfl, t, b⟩
  replace h0 := h0.on b
  replace h1 := h1.on b
  replace h2 := h2.on b
  replace s := s.on b
  replace cc := cc.trans (b.mono cc.size)
  clear b
  go_wp2_with fail
  refine (cmp_lt_N s t (by omega) (by omega) (by omega)).mono ?_
  rintro e w10 ⟨rfl, b⟩
  replace h0 := h0.on b
  replace h1 := h1.on b
  replace h2 := h2.on b
  replace s := s.on b
  replace t := t.on b
  replace cc := cc.trans (b.mono cc.size)
  clear b
  clear s t
  go_wp2_with fail
  go_ret
  exact ⟨rfl, cc⟩

set_option maxRecDepth 100000 in
set_option maxHeartbeats 4000000 in
theorem case_lt_gt_more {a0 a1 a2 : Option Addr} {len0 cap0 len1 cap1 len2 cap2 x y z : Nat} {w : World} (h0 : Num w a0 len0 cap0 x) (h1 : Num w a1 len1 cap1 y) (h2 : Num w a2 len2 cap2 z) (lx : (limbs x).length ≤ 20) (ly : (limbs y).length ≤ 20) (lz : (limbs z).length ≤ 20)
    (G : Hid (Calls Try.prog 16 #[.slice (some ⟨w.heap.size, 0, none⟩) 3 3] (w.alloc (.cells #[.slice a0 len0 cap0, .slice a1 len1 cap1, .slice a2 len2 cap2] 23)) (GotV (w.alloc (.cells #[.slice a0 len0 cap0, .slice a1 len1 cap1, .slice a2 len2 cap2] 23)) (.bool true)))) (hxy : x < y) (hyz : z < y) (hz : 0 < z) :
    Calls Try.prog 7 #[.slice a0 len0 cap0, .slice a1 len1 cap1, .slice a2 len2 cap2] w fun e w' => e = .returned (.bool true) ∧ Below w.heap.size w w' := by
  have q0 : (limbs (x + z)).length ≤ 21 := Nat.le_trans (limbs_length_add (k := 20) (by omega) (by omega)) (by omega)
  have q1 : (limbs (y + z)).length ≤ 21 := Nat.le_trans (limbs_length_add (k := 20) (by omega) (by omega)) (by omega)
  have q2 : (limbs (x * z)).length ≤ 40 := Nat.le_trans (limbs_length_mul (k := 20) (m := 20) (by omega) (by omega)) (by omega)
  have q3 : (limbs (y * z)).length ≤ 40 := Nat.le_trans (limbs_length_mul (k := 20) (m := 20) (by omega) (by omega)) (by omega)
  have c1 : ¬ cmpN y z ≤ 0 := by rw [cmpN_gt hyz]; omega
  have c2 : decide (cmpN y z ≤ 0) = false := by simpa using c1
  clear hyz
  have e2 : ((len2 : Int) == 0) = false := by
    have := h2.len
    have := limbs_ne_nil (n := z) (by omega)
    simp; omega
  go_enter Try.func7, Try.ntmps7
  go_wp2_with fail
  refine G.out.mono ?_
  rintro e w1 ⟨rfl, b1⟩
  have cc : Below w.heap.size w w1 := ((Below.refl _ w).alloc (Nat.le_refl _) _).trans (b1.mono (by simp))
  clear b1 G
  replace h0 := h0.on cc
  replace h1 := h1.on cc
  replace h2 := h2.on cc
  go_wp2_with fail
  refine (cmp_lt_N h0 h1 (by omega) (by omega) hxy).mono ?_
  rintro e w3 ⟨rfl, b⟩
  replace h0 := h0.on b
  replace h1 := h1.on b
  replace h2 := h2.on b
  replace cc := cc.trans (b.mono cc.size)
  clear b
  go_wp2_with fail
  refine (cmp_gt_N h1 h0 (by omega) (by omega) hxy).mono ?_
  rintro e w4 ⟨rfl, b⟩
  replace h0 := h0.on b
  replace h1 := h1.on b
  replace h2 := h2.on b
  replace cc := cc.trans (b.mono cc.size)
  clear b
  go_wp2_with fail
  refine (same_not_N h0 h1 (by omega) (by omega) (by omega)).mono ?_
  rintro e w5 ⟨rfl, b⟩
  replace h0 := h0.on b
  replace h1 := h1.on b
  replace h2 := h2.on b
  replace cc := cc.trans (b.mono cc.size)
  clear b
  go_wp2_with fail
  refine (cmp_N h1 h2 (by omega) (by omega)).mono ?_
  rintro e w6 ⟨rfl, b⟩
  replace h0 := h0.on b
  replace h1 := h1.on b
  replace h2 := h2.on b
  replace cc := cc.trans (b.mono cc.size)
  clear b
  go_wp2_with fail
  refine (alive_any _).mono ?_
  rintro e w7 ⟨rfl, b⟩
  replace h0 := h0.on b
  replace h1 := h1.on b
  replace h2 := h2.on b
  replace cc := cc.trans (b.mono cc.size)
  clear b
  go_wp2_with fail
  refine (add_N h0 h2 (by omega) (by omega)).mono ?_
  rintro e w8 ⟨A6, n6, c6, rfl, s, b⟩
  replace h0 := h0.on b
  replace h1 := h1.on b
  replace h2 := h2.on b
  replace cc := cc.trans (b.mono cc.size)
  clear b
  go_wp2_with fail
  refine (add_N h1 h2 (by omega) (by omega)).mono ?_
  rintro e w9 ⟨A7, n7, c7, rfl, t, b⟩
  replace h0 := h0.on b
  replace h1 := h1.on b
  replace h2 := h2.on b
  replace s := s.on b
  replace cc := cc.trans (b.mono cc.size)
  clear b
  go_wp2_with fail
  refine (cmp_lt_N s t (by omega) (by omega) (by omega)).mono ?_
  rintro e w10 ⟨rfl, b⟩
  replace h0 := h0.on b
  replace h1 := h1.on b
  replace h2 := h2.on b
  replace s := s.on b
  replace t := t.on b
  replace cc := cc.trans (b.mono cc.size)
  clear b
  clear s t
  go_wp2_with fail
  refine (mul_N h0 h2 (by omega) (by omega)).mono ?_
  rintro e w11 ⟨A9, n9, c9, rfl, s, b⟩
  replace h0 := h0.on b
  replace h1 := h1.on b
  replace h2 := h2.on b
  replace cc := cc.trans (b.mono cc.size)
  clear b
  go_wp2_with fail
  refine (mul_N h1 h2 (by omega) (by omega)).mono ?_
  rintro e w12 ⟨A10, n10, c10, rfl, t, b⟩
  replace h0 := h0.on b
  replace h1 := h1.on b
  replace h2 := h2.on b
  replace s := s.on b
  replace cc := cc.trans (b.mono cc.size)
  clear b
  go_wp2_with fail
  refine (cmp_lt_N s t (by omega) (by omega) (mul_less hxy hz)).mono ?_
  rintro e w13 ⟨rfl, b⟩
  replace h0 := h0.on b
  replace h1 := h1.on b
  replace h2 := h2.on b
  replace s := s.on b
  replace t := t.on b
  replace cc := cc.trans (b.mono cc.size)
  clear b
  clear s t
  go_wp2_with fail
  go_ret
  exact ⟨rfl, cc⟩

set_option maxRecDepth 100000 in
set_option maxHeartbeats 4000000 in
theorem case_eq_le_nought {a0 a1 a2 : Option Addr} {len0 cap0 len1 cap1 len2 cap2 x y z : Nat} {w : World} (h0 : Num w a0 len0 cap0 x) (h1 : Num w a1 len1 cap1 y) (h2 : Num w a2 len2 cap2 z) (lx : (limbs x).length ≤ 20) (ly : (limbs y).length ≤ 20) (lz : (limbs z).length ≤ 20)
    (G : Hid (Calls Try.prog 16 #[.slice (some ⟨w.heap.size, 0, none⟩) 3 3] (w.alloc (.cells #[.slice a0 len0 cap0, .slice a1 len1 cap1, .slice a2 len2 cap2] 23)) (GotV (w.alloc (.cells #[.slice a0 len0 cap0, .slice a1 len1 cap1, .slice a2 len2 cap2] 23)) (.bool true)))) (hxy : x = y) (hyz : y ≤ z) (hz0 : z = 0) :
    Calls Try.prog 7 #[.slice a0 len0 cap0, .slice a1 len1 cap1, .slice a2 len2 cap2] w fun e w' => e = .returned (.bool true) ∧ Below w.heap.size w w' := by
  have q0 : (limbs (x + z)).length ≤ 21 := Nat.le_trans (limbs_length_add (k := 20) (by omega) (by omega)) (by omega)
  have q1 : (limbs (y + z)).length ≤ 21 := Nat.le_trans (limbs_length_add (k := 20) (by omega) (by omega)) (by omega)
  have q2 : (limbs (x * z)).length ≤ 40 := Nat.le_trans (limbs_length_mul (k := 20) (m := 20) (by omega) (by omega)) (by omega)
  have q3 : (limbs (y * z)).length ≤ 40 := Nat.le_trans (limbs_length_mul (k := 20) (m := 20) (by omega) (by omega)) (by omega)
  have HXY := Lib.hid hxy
  clear hxy
  have hxz : x ≤ z := by have := HXY.out; omega
  have c1 : cmpN y z ≤ 0 := cmpN_le hyz
  have c2 : ¬ 0 < cmpN x z := by have := cmpN_le hxz; omega
  clear hyz hxz
  subst hz0
  have e2 := h2.len
  rw [limbs_zero] at e2
  simp at e2
  subst e2
  go_enter Try.func7, Try.ntmps7
  go_wp2_with fail
  refine G.out.mono ?_
  rintro e w1 ⟨rfl, b1⟩
  have cc : Below w.heap.size w w1 := ((Below.refl _ w).alloc (Nat.le_refl _) _).trans (b1.mono (by simp))
  clear b1 G
  replace h0 := h0.on cc
  replace h1 := h1.on cc
  replace h2 := h2.on cc
  go_wp2_with fail
  refine (cmp_eq_N h0 h1 (by omega) (by omega) HXY.out).mono ?_
  rintro e w3 ⟨rfl, b⟩
  replace h0 := h0.on b
  replace h1 := h1.on b
  replace h2 := h2.on b
  replace cc := cc.trans (b.mono cc.size)
  clear b
  go_wp2_with fail
  refine (cmp_eq_N h1 h0 (by omega) (by omega) HXY.out.symm).mono ?_
  rintro e w4 ⟨rfl, b⟩
  replace h0 := h0.on b
  replace h1 := h1.on b
  replace h2 := h2.on b
  replace cc := cc.trans (b.mono cc.size)
  clear b
  go_wp2_with fail
  refine (same_N h0 h1 (by omega) (by omega) HXY.out).mono ?_
  rintro e w5 ⟨rfl, b⟩
  replace h0 := h0.on b
  replace h1 := h1.on b
  replace h2 := h2.on b
  replace cc := cc.trans (b.mono cc.size)
  clear b
  go_wp2_with fail
  refine (cmp_N h1 h2 (by omega) (by omega)).mono ?_
  rintro e w6 ⟨rfl, b⟩
  replace h0 := h0.on b
  replace h1 := h1.on b
  replace h2 := h2.on b
  replace cc := cc.trans (b.mono cc.size)
  clear b
  go_wp2_with fail
  refine (cmp_N h0 h2 (by omega) (by omega)).mono ?_
  rintro e w7 ⟨rfl, b⟩
  replace h0 := h0.on b
  replace h1 := h1.on b
  replace h2 := h2.on b
  replace cc := cc.trans (b.mono cc.size)
  clear b
  go_wp2_with fail
  refine (alive_any _).mono ?_
  rintro e w8 ⟨rfl, b⟩
  replace h0 := h0.on b
  replace h1 := h1.on b
  replace h2 := h2.on b
  replace cc := cc.trans (b.mono cc.size)
  clear b
  go_wp2_with fail
  refine (add_N h0 h2 (by omega) (by omega)).mono ?_
  rintro e w9 ⟨A7, n7, c7, rfl, s, b⟩
  replace h0 := h0.on b
  replace h1 := h1.on b
  replace h2 := h2.on b
  replace cc := cc.trans (b.mono cc.size)
  clear b
  go_wp2_with fail
  refine (add_N h1 h2 (by omega) (by omega)).mono ?_
  rintro e w10 ⟨A8, n8, c8, rfl, t, b⟩
  replace h0 := h0.on b
  replace h1 := h1.on b
  replace h2 := h2.on b
  replace s := s.on b
  replace cc := cc.trans (b.mono cc.size)
  clear b
  go_wp2_with fail
  refine (cmp_eq_N s t (by omega) (by omega) (by rw [HXY.out])).mono ?_
  rintro e w11 ⟨rfl, b⟩
  replace h0 := h0.on b
  replace h1 := h1.on b
  replace h2 := h2.on b
  replace s := s.on b
  replace t := t.on b
  replace cc := cc.trans (b.mono cc.size)
  clear b
  clear s t
  go_wp2_with fail
  go_ret
  exact ⟨rfl, cc⟩

set_option maxRecDepth 100000 in
set_option maxHeartbeats 4000000 in
theorem case_eq_le_more {a0 a1 a2 : Option Addr} {len0 cap0 len1 cap1 len2 cap2 x y z : Nat} {w : World} (h0 : Num w a0 len0 cap0 x) (h1 : Num w a1 len1 cap1 y) (h2 : Num w a2 len2 cap2 z) (lx : (limbs x).length ≤ 20) (ly : (limbs y).length ≤ 20) (lz : (limbs z).length ≤ 20)
    (G : Hid (Calls Try.prog 16 #[.slice (some ⟨w.heap.size, 0, none⟩) 3 3] (w.alloc (.cells #[.slice a0 len0 cap0, .slice a1 len1 cap1, .slice a2 len2 cap2] 23)) (GotV (w.alloc (.cells #[.slice a0 len0 cap0, .slice a1 len1 cap1, .slice a2 len2 cap2] 23)) (.bool true)))) (hxy : x = y) (hyz : y ≤ z) (hz : 0 < z) :
    Calls Try.prog 7 #[.slice a0 len0 cap0, .slice a1 len1 cap1, .slice a2 len2 cap2] w fun e w' => e = .returned (.bool true) ∧ Below w.heap.size w w' := by
  have q0 : (limbs (x + z)).length ≤ 21 := Nat.le_trans (limbs_length_add (k := 20) (by omega) (by omega)) (by omega)
  have q1 : (limbs (y + z)).length ≤ 21 := Nat.le_trans (limbs_length_add (k := 20) (by omega) (by omega)) (by omega)
  have q2 : (limbs (x * z)).length ≤ 40 := Nat.le_trans (limbs_length_mul (k := 20) (m := 20) (by omega) (by omega)) (by omega)
  have q3 : (limbs (y * z)).length ≤ 40 := Nat.le_trans (limbs_length_mul (k := 20) (m := 20) (by omega) (by omega)) (by omega)
  have HXY := Lib.hid hxy
  clear hxy
  have hxz : x ≤ z := by have := HXY.out; omega
  have c1 : cmpN y z ≤ 0 := cmpN_le hyz
  have c2 : ¬ 0 < cmpN x z := by have := cmpN_le hxz; omega
  clear hyz hxz
  have e2 : ((len2 : Int) == 0) = false := by
    have := h2.len
    have := limbs_ne_nil (n := z) (by omega)
    simp; omega
  go_enter Try.func7, Try.ntmps7
  go_wp2_with fail
  refine G.out.mono ?_
  rintro e w1 ⟨rfl, b1⟩
  have cc : Below w.heap.size w w1 := ((Below.refl _ w).alloc (Nat.le_refl _) _).trans (b1.mono (by simp))
  clear b1 G
  replace h0 := h0.on cc
  replace h1 := h1.on cc
  replace h2 := h2.on cc
  go_wp2_with fail
  refine (cmp_eq_N h0 h1 (by omega) (by omega) HXY.out).mono ?_
  rintro e w3 ⟨rfl, b⟩
  replace h0 := h0.on b
  replace h1 := h1.on b
  replace h2 := h2.on b
  replace cc := cc.trans (b.mono cc.size)
  clear b
  go_wp2_with fail
  refine (cmp_eq_N h1 h0 (by omega) (by omega) HXY.out.symm).mono ?_
  rintro e w4 ⟨rfl, b⟩
  replace h0 := h0.on b
  replace h1 := h1.on b
  replace h2 := h2.on b
  replace cc := cc.trans (b.mono cc.size)
  clear b
  go_wp2_with fail
  refine (same_N h0 h1 (by omega) (by omega) HXY.out).mono ?_
  rintro e w5 ⟨rfl, b⟩
  replace h0 := h0.on b
  replace h1 := h1.on b
  replace h2 := h2.on b
  replace cc := cc.trans (b.mono cc.size)
  clear b
  go_wp2_with fail
  refine (cmp_N h1 h2 (by omega) (by omega)).mono ?_
  rintro e w6 ⟨rfl, b⟩
  replace h0 := h0.on b
  replace h1 := h1.on b
  replace h2 := h2.on b
  replace cc := cc.trans (b.mono cc.size)
  clear b
  go_wp2_with fail
  refine (cmp_N h0 h2 (by omega) (by omega)).mono ?_
  rintro e w7 ⟨rfl, b⟩
  replace h0 := h0.on b
  replace h1 := h1.on b
  replace h2 := h2.on b
  replace cc := cc.trans (b.mono cc.size)
  clear b
  go_wp2_with fail
  refine (alive_any _).mono ?_
  rintro e w8 ⟨rfl, b⟩
  replace h0 := h0.on b
  replace h1 := h1.on b
  replace h2 := h2.on b
  replace cc := cc.trans (b.mono cc.size)
  clear b
  go_wp2_with fail
  refine (add_N h0 h2 (by omega) (by omega)).mono ?_
  rintro e w9 ⟨A7, n7, c7, rfl, s, b⟩
  replace h0 := h0.on b
  replace h1 := h1.on b
  replace h2 := h2.on b
  replace cc := cc.trans (b.mono cc.size)
  clear b
  go_wp2_with fail
  refine (add_N h1 h2 (by omega) (by omega)).mono ?_
  rintro e w10 ⟨A8, n8, c8, rfl, t, b⟩
  replace h0 := h0.on b
  replace h1 := h1.on b
  replace h2 := h2.on b
  replace s := s.on b
  replace cc := cc.trans (b.mono cc.size)
  clear b
  go_wp2_with fail
  refine (cmp_eq_N s t (by omega) (by omega) (by rw [HXY.out])).mono ?_
  rintro e w11 ⟨rfl, b⟩
  replace h0 := h0.on b
  replace h1 := h1.on b
  replace h2 := h2.on b
  replace s := s.on b
  replace t := t.on b
  replace cc := cc.trans (b.mono cc.size)
  clear b
  clear s t
  go_wp2_with fail
  refine (mul_N h0 h2 (by omega) (by omega)).mono ?_
  rintro e w12 ⟨A10, n10, c10, rfl, s, b⟩
  replace h0 := h0.on b
  replace h1 := h1.on b
  replace h2 := h2.on b
  replace cc := cc.trans (b.mono cc.size)
  clear b
  go_wp2_with fail
  refine (mul_N h1 h2 (by omega) (by omega)).mono ?_
  rintro e w13 ⟨A11, n11, c11, rfl, t, b⟩
  replace h0 := h0.on b
  replace h1 := h1.on b
  replace h2 := h2.on b
  replace s := s.on b
  replace cc := cc.trans (b.mono cc.size)
  clear b
  go_wp2_with fail
  refine (cmp_eq_N s t (by omega) (by omega) (by rw [HXY.out])).mono ?_
  rintro e w14 ⟨rfl, b⟩
  replace h0 := h0.on b
  replace h1 := h1.on b
  replace h2 := h2.on b
  replace s := s.on b
  replace t := t.on b
  replace cc := cc.trans (b.mono cc.size)
  clear b
  clear s t
  go_wp2_with fail
  go_ret
  exact ⟨rfl, cc⟩

set_option maxRecDepth 100000 in
set_option maxHeartbeats 4000000 in
theorem case_eq_gt_nought {a0 a1 a2 : Option Addr} {len0 cap0 len1 cap1 len2 cap2 x y z : Nat} {w : World} (h0 : Num w a0 len0 cap0 x) (h1 : Num w a1 len1 cap1 y) (h2 : Num w a2 len2 cap2 z) (lx : (limbs x).length ≤ 20) (ly : (limbs y).length ≤ 20) (lz : (limbs z).length ≤ 20)
    (G : Hid (Calls Try.prog 16 #[.slice (some ⟨w.heap.size, 0, none⟩) 3 3] (w.alloc (.cells #[.slice a0 len0 cap0, .slice a1 len1 cap1, .slice a2 len2 cap2] 23)) (GotV (w.alloc (.cells #[.slice a0 len0 cap0, .slice a1 len1 cap1, .slice a2 len2 cap2] 23)) (.bool true)))) (hxy : x = y) (hyz : z < y) (hz0 : z = 0) :
    Calls Try.prog 7 #[.slice a0 len0 cap0, .slice a1 len1 cap1, .slice a2 len2 cap2] w fun e w' => e = .returned (.bool true) ∧ Below w.heap.size w w' := by
  have q0 : (limbs (x + z)).length ≤ 21 := Nat.le_trans (limbs_length_add (k := 20) (by omega) (by omega)) (by omega)
  have q1 : (limbs (y + z)).length ≤ 21 := Nat.le_trans (limbs_length_add (k := 20) (by omega) (by omega)) (by omega)
  have q2 : (limbs (x * z)).length ≤ 40 := Nat.le_trans (limbs_length_mul (k := 20) (m := 20) (by omega) (by omega)) (by omega)
  have q3 : (limbs (y * z)).length ≤ 40 := Nat.le_trans (limbs_length_mul (k := 20) (m := 20) (by omega) (by omega)) (by omega)
  have HXY := Lib.hid hxy
  clear hxy
  have c1 : ¬ cmpN y z ≤ 0 := by rw [cmpN_gt hyz]; omega
  have c2 : decide (cmpN y z ≤ 0) = false := by simpa using c1
  clear hyz
  subst hz0
  have e2 := h2.len
  rw [limbs_zero] at e2
  simp at e2
  subst e2
  go_enter Try.func7, Try.ntmps7
  go_wp2_with fail
  refine G.out.mono ?_
  rintro e w1 ⟨rfl, b1⟩
  have cc : Below w.heap.size w w1 := ((Below.refl _ w).alloc (Nat.le_refl _) _).trans (b1.mono (by simp))
  clear b1 G
  replace h0 := h0.on cc
  replace h1 := h1.on cc
  replace h2 := h2.on cc
  go_wp2_with fail
  refine (cmp_eq_N h0 h1 (by omega) (by omega) HXY.out).mono ?_
  rintro e w3 ⟨rfl, b⟩
  replace h0 := h0.on b
  replace h1 := h1.on b
  replace h2 := h2.on b
  replace cc := cc.trans (b.mono cc.size)
  clear b
  go_wp2_with fail
  refine (cmp_eq_N h1 h0 (by omega) (by omega) HXY.out.symm).mono ?_
  rintro e w4 ⟨rfl, b⟩
  replace h0 := h0.on b
  replace h1 := h1.on b
  replace h2 := h2.on b
  replace cc := cc.trans (b.mono cc.size)
  clear b
  go_wp2_with fail
  refine (same_N h0 h1 (by omega) (by omega) HXY.out).mono ?_
  rintro e w5 ⟨rfl, b⟩
  replace h0 := h0.on b
  replace h1 := h1.on b
  replace h2 := h2.on b
  replace cc := cc.trans (b.mono cc.size)
  clear b
  go_wp2_with fail
  refine (cmp_N h1 h2 (by omega) (by omega)).mono ?_
  rintro e w6 ⟨rfl, b⟩
  replace h0 := h0.on b
  replace h1 := h1.on b
  replace h2 := h2.on b
  replace cc := cc.trans (b.mono cc.size)
  clear b
  go_wp2_with fail
  refine (alive_any _).mono ?_
  rintro e w7 ⟨rfl, b⟩
  replace h0 := h0.on b
  replace h1 := h1.on b
  replace h2 := h2.on b
  replace cc := cc.trans (b.mono cc.size)
  clear b
  go_wp2_with fail
  refine (add_N h0 h2 (by omega) (by omega)).mono ?_
  rintro e w8 ⟨A6, n6, c6, rfl, s, b⟩
  replace h0 := h0.on b
  replace h1 := h1.on b
  replace h2 := h2.on b
  replace cc := cc.trans (b.mono cc.size)
  clear b
  go_wp2_with fail
  refine (add_N h1 h2 (by omega) (by omega)).mono ?_
  rintro e w9 ⟨A7, n7, c7, rfl, t, b⟩
  replace h0 := h0.on b
  replace h1 := h1.on b
  replace h2 := h2.on b
  replace s := s.on b
  replace cc := cc.trans (b.mono cc.size)
  clear b
  go_wp2_with fail
  refine (cmp_eq_N s t (by omega) (by omega) (by rw [HXY.out])).mono ?_
  rintro e w10 ⟨rfl, b⟩
  replace h0 := h0.on b
  replace h1 := h1.on b
  replace h2 := h2.on b
  replace s := s.on b
  replace t := t.on b
  replace cc := cc.trans (b.mono cc.size)
  clear b
  clear s t
  go_wp2_with fail
  go_ret
  exact ⟨rfl, cc⟩

set_option maxRecDepth 100000 in
set_option maxHeartbeats 4000000 in
theorem case_eq_gt_more {a0 a1 a2 : Option Addr} {len0 cap0 len1 cap1 len2 cap2 x y z : Nat} {w : World} (h0 : Num w a0 len0 cap0 x) (h1 : Num w a1 len1 cap1 y) (h2 : Num w a2 len2 cap2 z) (lx : (limbs x).length ≤ 20) (ly : (limbs y).length ≤ 20) (lz : (limbs z).length ≤ 20)
    (G : Hid (Calls Try.prog 16 #[.slice (some ⟨w.heap.size, 0, none⟩) 3 3] (w.alloc (.cells #[.slice a0 len0 cap0, .slice a1 len1 cap1, .slice a2 len2 cap2] 23)) (GotV (w.alloc (.cells #[.slice a0 len0 cap0, .slice a1 len1 cap1, .slice a2 len2 cap2] 23)) (.bool true)))) (hxy : x = y) (hyz : z < y) (hz : 0 < z) :
    Calls Try.prog 7 #[.slice a0 len0 cap0, .slice a1 len1 cap1, .slice a2 len2 cap2] w fun e w' => e = .returned (.bool true) ∧ Below w.heap.size w w' := by
  have q0 : (limbs (x + z)).length ≤ 21 := Nat.le_trans (limbs_length_add (k := 20) (by omega) (by omega)) (by omega)
  have q1 : (limbs (y + z)).length ≤ 21 := Nat.le_trans (limbs_length_add (k := 20) (by omega) (by omega)) (by omega)
  have q2 : (limbs (x * z)).length ≤ 40 := Nat.le_trans (limbs_length_mul (k := 20) (m := 20) (by omega) (by omega)) (by omega)
  have q3 : (limbs (y * z)).length ≤ 40 := Nat.le_trans (limbs_length_mul (k := 20) (m := 20) (by omega) (by omega)) (by omega)
  have HXY := Lib.hid hxy
  clear hxy
  have c1 : ¬ cmpN y z ≤ 0 := by rw [cmpN_gt hyz]; omega
  have c2 : decide (cmpN y z ≤ 0) = false := by simpa using c1
  clear hyz
  have e2 : ((len2 : Int) == 0) = false := by
    have := h2.len
    have := limbs_ne_nil (n := z) (by omega)
    simp; omega
  go_enter Try.func7, Try.ntmps7
  go_wp2_with fail
  refine G.out.mono ?_
  rintro e w1 ⟨rfl, b1⟩
  have cc : Below w.heap.size w w1 := ((Below.refl _ w).alloc (Nat.le_refl _) _).trans (b1.mono (by simp))
  clear b1 G
  replace h0 := h0.on cc
  replace h1 := h1.on cc
  replace h2 := h2.on cc
  go_wp2_with fail
  refine (cmp_eq_N h0 h1 (by omega) (by omega) HXY.out).mono ?_
  rintro e w3 ⟨rfl, b⟩
  replace h0 := h0.on b
  replace h1 := h1.on b
  replace h2 := h2.on b
  replace cc := cc.trans (b.mono cc.size)
  clear b
  go_wp2_with fail
  refine (cmp_eq_N h1 h0 (by omega) (by omega) HXY.out.symm).mono ?_
  rintro e w4 ⟨rfl, b⟩
  replace h0 := h0.on b
  replace h1 := h1.on b
  replace h2 := h2.on b
  replace cc := cc.trans (b.mono cc.size)
  clear b
  go_wp2_with fail
  refine (same_N h0 h1 (by omega) (by omega) HXY.out).mono ?_
  rintro e w5 ⟨rfl, b⟩
  replace h0 := h0.on b
  replace h1 := h1.on b
  replace h2 := h2.on b
  replace cc := cc.trans (b.mono cc.size)
  clear b
  go_wp2_with fail
  refine (cmp_N h1 h2 (by omega) (by omega)).mono ?_
  rintro e w6 ⟨rfl, b⟩
  replace h0 := h0.on b
  replace h1 := h1.on b
  replace h2 := h2.on b
  replace cc := cc.trans (b.mono cc.size)
  clear b
  go_wp2_with fail
  refine (alive_any _).mono ?_
  rintro e w7 ⟨rfl, b⟩
  replace h0 := h0.on b
  replace h1 := h1.on b
  replace h2 := h2.on b
  replace cc := cc.trans (b.mono cc.size)
  clear b
  go_wp2_with fail
  refine (add_N h0 h2 (by omega) (by omega)).mono ?_
  rintro e w8 ⟨A6, n6, c6, rfl, s, b⟩
  replace h0 := h0.on b
  replace h1 := h1.on b
  replace h2 := h2.on b
  replace cc := cc.trans (b.mono cc.size)
  clear b
  go_wp2_with fail
  refine (add_N h1 h2 (by omega) (by omega)).mono ?_
  rintro e w9 ⟨A7, n7, c7, rfl, t, b⟩
  replace h0 := h0.on b
  replace h1 := h1.on b
  replace h2 := h2.on b
  replace s := s.on b
  replace cc := cc.trans (b.mono cc.size)
  clear b
  go_wp2_with fail
  refine (cmp_eq_N s t (by omega) (by omega) (by rw [HXY.out])).mono ?_
  rintro e w10 ⟨rfl, b⟩
  replace h0 := h0.on b
  replace h1 := h1.on b
  replace h2 := h2.on b
  replace s := s.on b
  replace t := t.on b
  replace cc := cc.trans (b.mono cc.size)
  clear b
  clear s t
  go_wp2_with fail
  refine (mul_N h0 h2 (by omega) (by omega)).mono ?_
  rintro e w11 ⟨A9, n9, c9, rfl, s, b⟩
  replace h0 := h0.on b
  replace h1 := h1.on b
  replace h2 := h2.on b
  replace cc := cc.trans (b.mono cc.size)
  clear b
  go_wp2_with fail
  refine (mul_N h1 h2 (by omega) (by omega)).mono ?_
  rintro e w12 ⟨A10, n10, c10, rfl, t, b⟩
  replace h0 := h0.on b
  replace h1 := h1.on b
  replace h2 := h2.on b
  replace s := s.on b
  replace cc := cc.trans (b.mono cc.size)
  clear b
  go_wp2_with fail
  refine (cmp_eq_N s t (by omega) (by omega) (by rw [HXY.out])).mono ?_
  rintro e w13 ⟨rfl, b⟩
  replace h0 := h0.on b
  replace h1 := h1.on b
  replace h2 := h2.on b
  replace s := s.on b
  replace t := t.on b
  replace cc := cc.trans (b.mono cc.size)
  clear b
  clear s t
  go_wp2_with fail
  go_ret
  exact ⟨rfl, cc⟩

set_option maxRecDepth 100000 in
set_option maxHeartbeats 4000000 in
theorem case_gt_any_nought {a0 a1 a2 : Option Addr} {len0 cap0 len1 cap1 len2 cap2 x y z : Nat} {w : World} (h0 : Num w a0 len0 cap0 x) (h1 : Num w a1 len1 cap1 y) (h2 : Num w a2 len2 cap2 z) (lx : (limbs x).length ≤ 20) (ly : (limbs y).length ≤ 20) (lz : (limbs z).length ≤ 20)
    (G : Hid (Calls Try.prog 16 #[.slice (some ⟨w.heap.size, 0, none⟩) 3 3] (w.alloc (.cells #[.slice a0 len0 cap0, .slice a1 len1 cap1, .slice a2 len2 cap2] 23)) (GotV (w.alloc (.cells #[.slice a0 len0 cap0, .slice a1 len1 cap1, .slice a2 len2 cap2] 23)) (.bool true)))) (hxy : y < x) (hz0 : z = 0) :
    Calls Try.prog 7 #[.slice a0 len0 cap0, .slice a1 len1 cap1, .slice a2 len2 cap2] w fun e w' => e = .returned (.bool true) ∧ Below w.heap.size w w' := by
  have q0 : (limbs (x + z)).length ≤ 21 := Nat.le_trans (limbs_length_add (k := 20) (by omega) (by omega)) (by omega)
  have q1 : (limbs (y + z)).length ≤ 21 := Nat.le_trans (limbs_length_add (k := 20) (by omega) (by omega)) (by omega)
  have q2 : (limbs (x * z)).length ≤ 40 := Nat.le_trans (limbs_length_mul (k := 20) (m := 20) (by omega) (by omega)) (by omega)
  have q3 : (limbs (y * z)).length ≤ 40 := Nat.le_trans (limbs_length_mul (k := 20) (m := 20) (by omega) (by omega)) (by omega)
  subst hz0
  have e2 := h2.len
  rw [limbs_zero] at e2
  simp at e2
  subst e2
  go_enter Try.func7, Try.ntmps7
  go_wp2_with fail
  refine G.out.mono ?_
  rintro e w1 ⟨rfl, b1⟩
  have cc : Below w.heap.size w w1 := ((Below.refl _ w).alloc (Nat.le_refl _) _).trans (b1.mono (by simp))
  clear b1 G
  replace h0 := h0.on cc
  replace h1 := h1.on cc
  replace h2 := h2.on cc
  go_wp2_with fail
  refine (cmp_gt_N h0 h1 (by omega) (by omega) hxy).mono ?_
  rintro e w3 ⟨rfl, b⟩
  replace h0 := h0.on b
  replace h1 := h1.on b
  replace h2 := h2.on b
  replace cc := cc.trans (b.mono cc.size)
  clear b
  go_wp2_with fail
  refine (cmp_lt_N h1 h0 (by omega) (by omega) hxy).mono ?_
  rintro e w4 ⟨rfl, b⟩
  replace h0 := h0.on b
  replace h1 := h1.on b
  replace h2 := h2.on b
  replace cc := cc.trans (b.mono cc.size)
  clear b
  go_wp2_with fail
  refine (same_not_N h0 h1 (by omega) (by omega) (by omega)).mono ?_
  rintro e w5 ⟨rfl, b⟩
  replace h0 := h0.on b
  replace h1 := h1.on b
  replace h2 := h2.on b
  replace cc := cc.trans (b.mono cc.size)
  clear b
  go_wp2_with fail
  refine (alive_any _).mono ?_
  rintro e w6 ⟨rfl, b⟩
  replace h0 := h0.on b
  replace h1 := h1.on b
  replace h2 := h2.on b
  replace cc := cc.trans (b.mono cc.size)
  clear b
  go_wp2_with fail
  refine (add_N h0 h2 (by omega) (by omega)).mono ?_
  rintro e w7 ⟨A5, n5, c5, rfl, s, b⟩
  replace h0 := h0.on b
  replace h1 := h1.on b
  replace h2 := h2.on b
  replace cc := cc.trans (b.mono cc.size)
  clear b
  go_wp2_with fail
  refine (add_N h1 h2 (by omega) (by omega)).mono ?_
  rintro e w8 ⟨A6, n6, c6, rfl, t, b⟩
  replace h0 := h0.on b
  replace h1 := h1.on b
  replace h2 := h2.on b
  replace s := s.on b
  replace cc := cc.trans (b.mono cc.size)
  clear b
  go_wp2_with fail
  refine (cmp_gt_N s t (by omega) (by omega) (by omega)).mono ?_
  rintro e w9 ⟨rfl, b⟩
  replace h0 := h0.on b
  replace h1 := h1.on b
  replace h2 := h2.on b
  replace s := s.on b
  replace t := t.on b
  replace cc := cc.trans (b.mono cc.size)
  clear b
  clear s t
  go_wp2_with fail
  go_ret
  exact ⟨rfl, cc⟩

set_option maxRecDepth 100000 in
set_option maxHeartbeats 4000000 in
theorem case_gt_any_more {a0 a1 a2 : Option Addr} {len0 cap0 len1 cap1 len2 cap2 x y z : Nat} {w : World} (h0 : Num w a0 len0 cap0 x) (h1 : Num w a1 len1 cap1 y) (h2 : Num w a2 len2 cap2 z) (lx : (limbs x).length ≤ 20) (ly : (limbs y).length ≤ 20) (lz : (limbs z).length ≤ 20)
    (G : Hid (Calls Try.prog 16 #[.slice (some ⟨w.heap.size, 0, none⟩) 3 3] (w.alloc (.cells #[.slice a0 len0 cap0, .slice a1 len1 cap1, .slice a2 len2 cap2] 23)) (GotV (w.alloc (.cells #[.slice a0 len0 cap0, .slice a1 len1 cap1, .slice a2 len2 cap2] 23)) (.bool true)))) (hxy : y < x) (hz : 0 < z) :
    Calls Try.prog 7 #[.slice a0 len0 cap0, .slice a1 len1 cap1, .slice a2 len2 cap2] w fun e w' => e = .returned (.bool true) ∧ Below w.heap.size w w' := by
  have q0 : (limbs (x + z)).length ≤ 21 := Nat.le_trans (limbs_length_add (k := 20) (by omega) (by omega)) (by omega)
  have q1 : (limbs (y + z)).length ≤ 21 := Nat.le_trans (limbs_length_add (k := 20) (by omega) (by omega)) (by omega)
  have q2 : (limbs (x * z)).length ≤ 40 := Nat.le_trans (limbs_length_mul (k := 20) (m := 20) (by omega) (by omega)) (by omega)
  have q3 : (limbs (y * z)).length ≤ 40 := Nat.le_trans (limbs_length_mul (k := 20) (m := 20) (by omega) (by omega)) (by omega)
  have e2 : ((len2 : Int) == 0) = false := by
    have := h2.len
    have := limbs_ne_nil (n := z) (by omega)
    simp; omega
  go_enter Try.func7, Try.ntmps7
  go_wp2_with fail
  refine G.out.mono ?_
  rintro e w1 ⟨rfl, b1⟩
  have cc : Below w.heap.size w w1 := ((Below.refl _ w).alloc (Nat.le_refl _) _).trans (b1.mono (by simp))
  clear b1 G
  replace h0 := h0.on cc
  replace h1 := h1.on cc
  replace h2 := h2.on cc
  go_wp2_with fail
  refine (cmp_gt_N h0 h1 (by omega) (by omega) hxy).mono ?_
  rintro e w3 ⟨rfl, b⟩
  replace h0 := h0.on b
  replace h1 := h1.on b
  replace h2 := h2.on b
  replace cc := cc.trans (b.mono cc.size)
  clear b
  go_wp2_with fail
  refine (cmp_lt_N h1 h0 (by omega) (by omega) hxy).mono ?_
  rintro e w4 ⟨rfl, b⟩
  replace h0 := h0.on b
  replace h1 := h1.on b
  replace h2 := h2.on b
  replace cc := cc.trans (b.mono cc.size)
  clear b
  go_wp2_with fail
  refine (same_not_N h0 h1 (by omega) (by omega) (by omega)).mono ?_
  rintro e w5 ⟨rfl, b⟩
  replace h0 := h0.on b
  replace h1 := h1.on b
  replace h2 := h2.on b
  replace cc := cc.trans (b.mono cc.size)
  clear b
  go_wp2_with fail
  refine (alive_any _).mono ?_
  rintro e w6 ⟨rfl, b⟩
  replace h0 := h0.on b
  replace h1 := h1.on b
  replace h2 := h2.on b
  replace cc := cc.trans (b.mono cc.size)
  clear b
  go_wp2_with fail
  refine (add_N h0 h2 (by omega) (by omega)).mono ?_
  rintro e w7 ⟨A5, n5, c5, rfl, s, b⟩
  replace h0 := h0.on b
  replace h1 := h1.on b
  replace h2 := h2.on b
  replace cc := cc.trans (b.mono cc.size)
  clear b
  go_wp2_with fail
  refine (add_N h1 h2 (by omega) (by omega)).mono ?_
  rintro e w8 ⟨A6, n6, c6, rfl, t, b⟩
  replace h0 := h0.on b
  replace h1 := h1.on b
  replace h2 := h2.on b
  replace s := s.on b
  replace cc := cc.trans (b.mono cc.size)
  clear b
  go_wp2_with fail
  refine (cmp_gt_N s t (by omega) (by omega) (by omega)).mono ?_
  rintro e w9 ⟨rfl, b⟩
  replace h0 := h0.on b
  replace h1 := h1.on b
  replace h2 := h2.on b
  replace s := s.on b
  replace t := t.on b
  replace cc := cc.trans (b.mono cc.size)
  clear b
  clear s t
  go_wp2_with fail
  refine (mul_N h0 h2 (by omega) (by omega)).mono ?_
  rintro e w10 ⟨A8, n8, c8, rfl, s, b⟩
  replace h0 := h0.on b
  replace h1 := h1.on b
  replace h2 := h2.on b
  replace cc := cc.trans (b.mono cc.size)
  clear b
  go_wp2_with fail
  refine (mul_N h1 h2 (by omega) (by omega)).mono ?_
  rintro e w11 ⟨A9, n9, c9, rfl, t, b⟩
  replace h0 := h0.on b
  replace h1 := h1.on b
  replace h2 := h2.on b
  replace s := s.on b
  replace cc := cc.trans (b.mono cc.size)
  clear b
  go_wp2_with fail
  refine (cmp_gt_N s t (by omega) (by omega) (mul_less hxy hz)).mono ?_
  rintro e w12 ⟨rfl, b⟩
  replace h0 := h0.on b
  replace h1 := h1.on b
  replace h2 := h2.on b
  replace s := s.on b
  replace t := t.on b
  replace cc := cc.trans (b.mono cc.size)
  clear b
  clear s t
  go_wp2_with fail
  go_ret
  exact ⟨rfl, cc⟩

/-! ### STEP 1: THE WALK: the Go text returns true, AND WRITES NOTHING THAT WAS THERE: 'Below w.heap.size w w'' (Derived/Below.lean: '.refl', '.alloc', '.drew', '.setCell' at a new block, '.trans'). Open each 'IsRow' by 'rcases' AHEAD of 'go_enter'; part every test ahead of the walk. -/
theorem walk (a0 : Option Addr) (len0 cap0 : Nat) (z0 : List Int) (a1 : Option Addr) (len1 cap1 : Nat) (z1 : List Int) (a2 : Option Addr) (len2 cap2 : Nat) (z2 : List Int) (w : World) (w0 : IsRow .u64 w a0 len0 cap0 z0) (w1 : IsRow .u64 w a1 len1 cap1 z1) (w2 : IsRow .u64 w a2 len2 cap2 z2) :
    Calls Try.prog 7 #[.slice a0 len0 cap0, .slice a1 len1 cap1, .slice a2 len2 cap2] w fun e w' => e = .returned (.bool true) ∧ Below w.heap.size w w' := by
  obtain ⟨l0, hl0, hs0⟩ := arg_of_row w0
  obtain ⟨l1, hl1, hs1⟩ := arg_of_row w1
  obtain ⟨l2, hl2, hs2⟩ := arg_of_row w2
  clear w0 w1 w2
  have hi0 : Arg.isIn ⟨a0, len0, cap0, l0⟩ w := ⟨hl0, hs0⟩
  have hi1 : Arg.isIn ⟨a1, len1, cap1, l1⟩ w := ⟨hl1, hs1⟩
  have hi2 : Arg.isIn ⟨a2, len2, cap2, l2⟩ w := ⟨hl2, hs2⟩
  cases hr : (Arg.ok ⟨a0, len0, cap0, l0⟩ && Arg.ok ⟨a1, len1, cap1, l1⟩ && Arg.ok ⟨a2, len2, cap2, l2⟩) with
  | false =>
    have G := Lib.hid (given_three ⟨a0, len0, cap0, l0⟩ ⟨a1, len1, cap1, l1⟩ ⟨a2, len2, cap2, l2⟩ false w hi0 hi1 hi2 hr)
    clear hr hi0 hi1 hi2 hl0 hl1 hl2
    go_enter Try.func7, Try.ntmps7
    go_wp2_with fail
    refine G.out.mono ?_
    rintro e w1 ⟨rfl, b1⟩
    go_wp2_with fail
    refine (alive_any _).mono ?_
    rintro e w2 ⟨rfl, b2⟩
    go_wp2_with fail
    go_ret
    exact ⟨rfl, ((Below.refl _ w).alloc (Nat.le_refl _) _).trans ((b1.trans (b2.mono b1.size)).mono (by simp))⟩
  | true =>
    have G := Lib.hid (given_three ⟨a0, len0, cap0, l0⟩ ⟨a1, len1, cap1, l1⟩ ⟨a2, len2, cap2, l2⟩ true w hi0 hi1 hi2 hr)
    rw [Bool.and_eq_true, Bool.and_eq_true] at hr
    obtain ⟨⟨k0, k1⟩, k2⟩ := hr
    have h0 := hl0.num (ok_parts k0).2
    have lx : (limbs (val l0)).length ≤ 20 := by rw [← h0.len]; exact (ok_parts k0).1
    have h1 := hl1.num (ok_parts k1).2
    have ly : (limbs (val l1)).length ≤ 20 := by rw [← h1.len]; exact (ok_parts k1).1
    have h2 := hl2.num (ok_parts k2).2
    have lz : (limbs (val l2)).length ≤ 20 := by rw [← h2.len]; exact (ok_parts k2).1
    clear hi0 hi1 hi2 hl0 hl1 hl2 k0 k1 k2
    generalize val l0 = x at h0 lx
    generalize val l1 = y at h1 ly
    generalize val l2 = z at h2 lz
    rcases Nat.eq_zero_or_pos z with hz | hz
    · rcases Nat.lt_trichotomy x y with hxy | hxy | hxy
      · rcases Nat.lt_or_ge z y with hyz | hyz
        · exact case_lt_gt_nought h0 h1 h2 lx ly lz G hxy hyz hz
        · omega
      · rcases Nat.lt_or_ge z y with hyz | hyz
        · exact case_eq_gt_nought h0 h1 h2 lx ly lz G hxy hyz hz
        · exact case_eq_le_nought h0 h1 h2 lx ly lz G hxy hyz hz
      · exact case_gt_any_nought h0 h1 h2 lx ly lz G hxy hz
    · rcases Nat.lt_trichotomy x y with hxy | hxy | hxy
      · rcases Nat.lt_or_ge z y with hyz | hyz
        · exact case_lt_gt_more h0 h1 h2 lx ly lz G hxy hyz hz
        · exact case_lt_le_more h0 h1 h2 lx ly lz G hxy hyz hz
      · rcases Nat.lt_or_ge z y with hyz | hyz
        · exact case_eq_gt_more h0 h1 h2 lx ly lz G hxy hyz hz
        · exact case_eq_le_more h0 h1 h2 lx ly lz G hxy hyz hz
      · exact case_gt_any_more h0 h1 h2 lx ly lz G hxy hz


/-! ### THE ROW's STEP: WRITTEN OUT: LEAVE IT -/
set_option maxRecDepth 100000 in
theorem lifted (os : Os) (started : os.Started) (H : Type) (enc : TypeId × Value → H) :
    ReturnsInHanded {} Try.checked os 7 .any (Rows.natOrderSpec.pre6 enc Try.prog Try.f7 Rows.natOrderRow.domain false) (Rows.natOrderSpec.post enc Try.prog Try.f7 false true false false) := by
  refine returnsInHanded_of_change (C := Try.checked) own started (by kernel_rfl) Try.func7
    (ChangeSpec.witness6 (enc := enc) (C := Try.checked) false ⟨#[], #[.slice none 0 0, .slice none 0 0, .slice none 0 0], []⟩ 8 (by kernel_rfl) (by kernel_rfl) (by kernel_rfl) (by kernel_rfl)) ?_
  intro W base args ds gs before hval0 hW hcnd _
  have hval : ∀ (j : Nat) t v, Try.f7.params[j]? = some t → args[j]? = some v → Value.okWide Try.prog W .any base t v := hval0
  have hW' := hW
  obtain ⟨p, q, hA0, hV, rfl, hfz, hnd⟩ := hW
  have hA : DataW.TrodAll enc Try.prog W 0 (fun _ => true) true Try.f7.params.toList args.toList ds p := hA0
  rw [Try.params7] at hA hval
  obtain ⟨v0, vs0, d0, ds0, p0, q0, hargs, rfl, rfl, h0, r0⟩ := trodAll_cons hA
  obtain ⟨v1, vs1, d1, ds1, p1, q1, rfl, rfl, rfl, h1, r1⟩ := trodAll_cons r0
  obtain ⟨v2, vs2, d2, ds2, p2, q2, rfl, rfl, rfl, h2, r2⟩ := trodAll_cons r1
  obtain ⟨rfl, rfl, rfl⟩ := trodAll_nil r2
  obtain rfl : args = #[v0, v1, v2] := by cases args; simp_all
  obtain ⟨rfl, rfl⟩ := trodVars_none hV
  obtain ⟨a0, len0, cap0, rfl⟩ := okWide_slice Try.underlying23 (hval 0 23 v0 rfl rfl)
  have k0 := h0
  have lt0 : ∀ x ∈ p0, x.block < W.heap.size := by obtain ⟨m, hm⟩ := k0; exact DataW.trod_lt m _ _ _ hm
  obtain ⟨z0, w0⟩ : ∃ zs, IsRow .u64 W a0 len0 cap0 zs := by
    obtain ⟨fuel, hf⟩ := h0
    rcases open_ints Try.underlying23 Try.underlying24 (by kernel_rfl) hf with ⟨hcs, _⟩ | ⟨x, l, c, zs, hcs, _, hl, hm, hz, _, hcell, hwz⟩
    · simp [Value.cells] at hcs
      obtain ⟨rfl, rfl, rfl⟩ := hcs
      exact ⟨[], .inl ⟨rfl, rfl, rfl, rfl⟩⟩
    · simp [Value.cells] at hcs
      obtain ⟨rfl, rfl, rfl⟩ := hcs
      exact ⟨zs, .inr ⟨_, rfl, hl, hm, by simpa using hz, hcell, hwz⟩⟩
  obtain ⟨a1, len1, cap1, rfl⟩ := okWide_slice Try.underlying23 (hval 1 23 v1 rfl rfl)
  have k1 := h1
  have lt1 : ∀ x ∈ p1, x.block < W.heap.size := by obtain ⟨m, hm⟩ := k1; exact DataW.trod_lt m _ _ _ hm
  obtain ⟨z1, w1⟩ : ∃ zs, IsRow .u64 W a1 len1 cap1 zs := by
    obtain ⟨fuel, hf⟩ := h1
    rcases open_ints Try.underlying23 Try.underlying24 (by kernel_rfl) hf with ⟨hcs, _⟩ | ⟨x, l, c, zs, hcs, _, hl, hm, hz, _, hcell, hwz⟩
    · simp [Value.cells] at hcs
      obtain ⟨rfl, rfl, rfl⟩ := hcs
      exact ⟨[], .inl ⟨rfl, rfl, rfl, rfl⟩⟩
    · simp [Value.cells] at hcs
      obtain ⟨rfl, rfl, rfl⟩ := hcs
      exact ⟨zs, .inr ⟨_, rfl, hl, hm, by simpa using hz, hcell, hwz⟩⟩
  obtain ⟨a2, len2, cap2, rfl⟩ := okWide_slice Try.underlying23 (hval 2 23 v2 rfl rfl)
  have k2 := h2
  have lt2 : ∀ x ∈ p2, x.block < W.heap.size := by obtain ⟨m, hm⟩ := k2; exact DataW.trod_lt m _ _ _ hm
  obtain ⟨z2, w2⟩ : ∃ zs, IsRow .u64 W a2 len2 cap2 zs := by
    obtain ⟨fuel, hf⟩ := h2
    rcases open_ints Try.underlying23 Try.underlying24 (by kernel_rfl) hf with ⟨hcs, _⟩ | ⟨x, l, c, zs, hcs, _, hl, hm, hz, _, hcell, hwz⟩
    · simp [Value.cells] at hcs
      obtain ⟨rfl, rfl, rfl⟩ := hcs
      exact ⟨[], .inl ⟨rfl, rfl, rfl, rfl⟩⟩
    · simp [Value.cells] at hcs
      obtain ⟨rfl, rfl, rfl⟩ := hcs
      exact ⟨zs, .inr ⟨_, rfl, hl, hm, by simpa using hz, hcell, hwz⟩⟩
  clear hA0 hval0
  refine (walk a0 len0 cap0 z0 a1 len1 cap1 z1 a2 len2 cap2 z2 W w0 w1 w2).mono fun e W' ⟨he, bel⟩ => ?_
  subst he
  exact ⟨_, rfl, _, _, _, [], _, [], hW', trodAll_mk1 (shut_bool Try.underlying4 _), (trodAll_cons_mk (Below.trod laidOut (by kernel_rfl) (of_decide_eq_true (by kernel_rfl)) k0 bel lt0) (trodAll_cons_mk (Below.trod laidOut (by kernel_rfl) (of_decide_eq_true (by kernel_rfl)) k1 bel lt1) (trodAll_cons_mk (Below.trod laidOut (by kernel_rfl) (of_decide_eq_true (by kernel_rfl)) k2 bel lt2) trodAll_mk0))), rfl, bel.frame _, fun h => by cases h⟩

theorem over : Rows.natOrderRow.holds Try.pinned (OpenSpec.ofChange Rows.natOrderSpec) :=
  OpenClaim.holds_of_wide 7 Try.f7 rfl rfl rfl rfl rfl rfl rfl ⟨rfl, rfl, rfl, rfl, rfl⟩ rfl rfl rfl rfl rfl (by kernel_rfl) Try.func7 (by kernel_rfl)
    (of_decide_eq_true (by kernel_rfl)) (by unfold Func.isWrapper; first | (rw [if_pos (by decide +kernel)]; kernel_rfl) | (rw [if_neg (by decide +kernel)]; exact ⟨rfl, rfl⟩))
    (fun os started H enc _ => lifted os started H enc)

/-- ████ THE STATEMENT ████ -/
theorem proved : Rows.NatOrderSaid := over
#print axioms proved
end Go.Proofs.Ytglabefefedfoaa.natOrder
