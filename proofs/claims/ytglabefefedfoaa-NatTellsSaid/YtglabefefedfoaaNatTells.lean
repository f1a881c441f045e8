/-
  Proved: whatever slices and numbers it is handed, ratchetlaw01.NatTells, over the code of the commit named in the claim, returns true, and leaves all that was there as it was. Conditions: none.
-/
import Derived.Test.YtglabefefedfoaaRows
import Derived.WalkKit
import Derived.ProofKit
import Derived.OpenShut
import Derived.ShutString
import Derived.ChangeOld
import Derived.Below
import Derived.Test.YtglabefefedfoaaRow
import Derived.Test.YtglabefefedfoaaBare
namespace Go.Proofs.Ytglabefefedfoaa.natTells
open Go.ChangeShapes Go.WideShapes Go.ChangeAt Go.RowKit
open Go.ChangeMaps (open_string shut_string)
set_option linter.unusedVariables false

theorem own : ownKnob Try.prog.godebug = none := by kernel_rfl
theorem laidOut : laidOutB Try.prog = true := by kernel_rfl

/-- WHAT THE WALK IS TOLD OF A SLICE OF INTEGERS THAT CAME IN: it is nil; or it leads to a row of 'cap' cells, the numbers 'zs' (the first 'len' are its elements, the rest its spare room), each fitting its kind. -/
def IsRow (k : IntKind) (w : World) (a : Option Addr) (len cap : Nat) (zs : List Int) : Prop :=
  (a = none ∧ len = 0 ∧ cap = 0 ∧ zs = []) ∨
  ∃ x, a = some x ∧ len ≤ cap ∧ cap ≤ maxLen ∧ zs.length = cap ∧ (∀ i, i < zs.length → w.cell? (x.add i) = some (.int k (zs.getD i 0))) ∧ ∀ n ∈ zs, (Lit.int k n).wf = true

section
variable {w : World} {A : Option Addr} {n c x : Nat} {l : List Nat} {r : Bool}
theorem few_yes (hn : n ≤ 9223372036854775807) (h : n ≤ 20) : Calls Try.prog 9 #[.slice A n c] w (GotV w (.bool true)) :=
  (few_any A n c w hn).mono fun _ _ ⟨he, hw⟩ => ⟨by rw [he]; simp [h], by rw [← hw]; exact Below.refl _ _⟩
theorem few_no (hn : n ≤ 9223372036854775807) (h : 20 < n) : Calls Try.prog 9 #[.slice A n c] w (GotV w (.bool false)) :=
  (few_any A n c w hn).mono fun _ _ ⟨he, hw⟩ => ⟨by rw [he]; simp; omega, by rw [← hw]; exact Below.refl _ _⟩
theorem right_V (h : Arg.isIn ⟨A, n, c, l⟩ w) (hr : canon l = r) : Calls Try.prog 11 #[.slice A n c] w (GotV w (.bool r)) :=
  (right_any _ A n c l r w h.1 h.2 hr).mono fun _ _ ⟨he, hw⟩ => ⟨he, by rw [← hw]; exact Below.refl _ _⟩
theorem rright_V (h : Arg.isIn ⟨A, n, c, l⟩ w) (hr : canon l = r) : Calls Try.prog 12 #[.slice A n c] w (GotV w (.bool r)) :=
  (rright_any _ A n c l r w h.1 h.2 hr).mono fun _ _ ⟨he, hw⟩ => ⟨he, by rw [← hw]; exact Below.refl _ _⟩
theorem rsmall_N (ha : Num w A n c x) (hx : x < B64) : Calls Try.prog 18 #[.slice A n c] w (GotV w (.tuple #[.int .u64 (x : Int), .bool true])) :=
  (rsmall_any A n c x w ha (by have := (isN_small ha).2 hx; omega) hx).mono fun _ _ ⟨he, hw⟩ => ⟨he, by rw [← hw]; exact Below.refl _ _⟩
theorem small_great_N (ha : Num w A n c x) (lx : (limbs x).length ≤ 2147483648) (hx : B64 ≤ x) : Calls Try.prog 17 #[.slice A n c] w (GotV w (.tuple #[.int .u64 0, .bool false])) :=
  (small_great A n c x w ha (by rw [ha.len]; omega) hx).mono fun _ _ ⟨he, hw⟩ => ⟨he, by rw [← hw]; exact Below.refl _ _⟩
theorem rsmall_great_N (ha : Num w A n c x) (lx : (limbs x).length ≤ 2147483648) (hx : B64 ≤ x) : Calls Try.prog 18 #[.slice A n c] w (GotV w (.tuple #[.int .u64 0, .bool false])) :=
  (rsmall_great A n c x w ha (by rw [ha.len]; omega) hx).mono fun _ _ ⟨he, hw⟩ => ⟨he, by rw [← hw]; exact Below.refl _ _⟩
end

set_option maxRecDepth 100000 in
set_option maxHeartbeats 4000000 in
theorem case_a {a0 a1 : Option Addr} {len0 cap0 len1 cap1 k : Nat} {l0 l1 : List Nat} {w : World} (i0 : Arg.isIn ⟨a0, len0, cap0, l0⟩ w) (i1 : Arg.isIn ⟨a1, len1, cap1, l1⟩ w) (hk : k < B64) (h20 : 20 < len0) :
    Calls Try.prog 3 #[.slice a0 len0 cap0, .slice a1 len1 cap1, .int .u64 (k : Int)] w fun e w' => e = .returned (.bool true) ∧ Below w.heap.size w w' := by
  have cc : Below w.heap.size w w := Below.refl _ _
  go_enter Try.func3, Try.ntmps3
  go_wp2_with fail
  refine (few_no (c := cap0) i0.2 h20).mono ?_
  rintro e w3 ⟨rfl, b⟩
  replace i0 := i0.on b
  replace i1 := i1.on b
  replace cc := cc.trans (b.mono cc.size)
  clear b
  go_wp2_with fail
  refine (alive_any _).mono ?_
  rintro e w4 ⟨rfl, b⟩
  replace i0 := i0.on b
  replace i1 := i1.on b
  replace cc := cc.trans (b.mono cc.size)
  clear b
  go_wp2_with fail
  go_ret
  exact ⟨rfl, cc⟩

set_option maxRecDepth 100000 in
set_option maxHeartbeats 4000000 in
theorem case_b {a0 a1 : Option Addr} {len0 cap0 len1 cap1 k : Nat} {l0 l1 : List Nat} {w : World} (i0 : Arg.isIn ⟨a0, len0, cap0, l0⟩ w) (i1 : Arg.isIn ⟨a1, len1, cap1, l1⟩ w) (hk : k < B64) (h20 : len0 ≤ 20) (h21 : 20 < len1) :
    Calls Try.prog 3 #[.slice a0 len0 cap0, .slice a1 len1 cap1, .int .u64 (k : Int)] w fun e w' => e = .returned (.bool true) ∧ Below w.heap.size w w' := by
  have cc : Below w.heap.size w w := Below.refl _ _
  go_enter Try.func3, Try.ntmps3
  go_wp2_with fail
  refine (few_yes (c := cap0) i0.2 h20).mono ?_
  rintro e w3 ⟨rfl, b⟩
  replace i0 := i0.on b
  replace i1 := i1.on b
  replace cc := cc.trans (b.mono cc.size)
  clear b
  go_wp2_with fail
  refine (few_no (c := cap1) i1.2 h21).mono ?_
  rintro e w4 ⟨rfl, b⟩
  replace i0 := i0.on b
  replace i1 := i1.on b
  replace cc := cc.trans (b.mono cc.size)
  clear b
  go_wp2_with fail
  refine (alive_any _).mono ?_
  rintro e w5 ⟨rfl, b⟩
  replace i0 := i0.on b
  replace i1 := i1.on b
  replace cc := cc.trans (b.mono cc.size)
  clear b
  go_wp2_with fail
  go_ret
  exact ⟨rfl, cc⟩

set_option maxRecDepth 100000 in
set_option maxHeartbeats 4000000 in
theorem case_c0 {a0 a1 : Option Addr} {len0 cap0 len1 cap1 k : Nat} {l0 l1 : List Nat} {w : World} (i0 : Arg.isIn ⟨a0, len0, cap0, l0⟩ w) (i1 : Arg.isIn ⟨a1, len1, cap1, l1⟩ w) (hk : k < B64) (h20 : len0 ≤ 20) (h21 : len1 ≤ 20) (hc : canon l0 = false) (hg : (Arg.ok ⟨a0, len0, cap0, l0⟩ && Arg.ok ⟨a1, len1, cap1, l1⟩) = false) :
    Calls Try.prog 3 #[.slice a0 len0 cap0, .slice a1 len1 cap1, .int .u64 (k : Int)] w fun e w' => e = .returned (.bool true) ∧ Below w.heap.size w w' := by
  have lk : (limbs k).length ≤ 2147483648 := len_small (k := 1) (by rw [Nat.pow_one]; exact hk) (by omega)
  have cc : Below w.heap.size w w := Below.refl _ _
  go_enter Try.func3, Try.ntmps3
  go_wp2_with fail
  refine (few_yes (c := cap0) i0.2 h20).mono ?_
  rintro e w3 ⟨rfl, b⟩
  replace i0 := i0.on b
  replace i1 := i1.on b
  replace cc := cc.trans (b.mono cc.size)
  clear b
  go_wp2_with fail
  refine (few_yes (c := cap1) i1.2 h21).mono ?_
  rintro e w4 ⟨rfl, b⟩
  replace i0 := i0.on b
  replace i1 := i1.on b
  replace cc := cc.trans (b.mono cc.size)
  clear b
  go_wp2_with fail
  refine (right_V i0 hc).mono ?_
  rintro e w5 ⟨rfl, b⟩
  replace i0 := i0.on b
  replace i1 := i1.on b
  replace cc := cc.trans (b.mono cc.size)
  clear b
  go_wp2_with fail
  refine (rright_V i0 hc).mono ?_
  rintro e w6 ⟨rfl, b⟩
  replace i0 := i0.on b
  replace i1 := i1.on b
  replace cc := cc.trans (b.mono cc.size)
  clear b
  go_wp2_with fail
  refine (of_N _ k hk).mono ?_
  rintro e w7 ⟨A5, n5, c5, rfl, t, b⟩
  replace i0 := i0.on b
  replace i1 := i1.on b
  replace cc := cc.trans (b.mono cc.size)
  clear b
  go_wp2_with fail
  refine (rof_N _ k hk).mono ?_
  rintro e w8 ⟨A6, n6, c6, rfl, u, b⟩
  replace i0 := i0.on b
  replace i1 := i1.on b
  replace t := t.on b
  replace cc := cc.trans (b.mono cc.size)
  clear b
  go_wp2_with fail
  refine (same_N t u (by omega) (by omega) rfl).mono ?_
  rintro e w9 ⟨rfl, b⟩
  replace i0 := i0.on b
  replace i1 := i1.on b
  replace t := t.on b
  replace u := u.on b
  replace cc := cc.trans (b.mono cc.size)
  clear b
  clear t u
  go_wp2_with fail
  refine (given_two ⟨a0, len0, cap0, l0⟩ ⟨a1, len1, cap1, l1⟩ false _ i0 i1 (by exact hg)).mono ?_
  rintro e w10 ⟨rfl, b⟩
  replace b := ((Below.refl _ _).alloc (Nat.le_refl _) _).trans (b.mono (by simp))
  replace i0 := i0.on b
  replace i1 := i1.on b
  replace cc := cc.trans (b.mono cc.size)
  clear b
  go_wp2_with fail
  refine (alive_any _).mono ?_
  rintro e w11 ⟨rfl, b⟩
  replace i0 := i0.on b
  replace i1 := i1.on b
  replace cc := cc.trans (b.mono cc.size)
  clear b
  go_wp2_with fail
  go_ret
  exact ⟨rfl, cc⟩

set_option maxRecDepth 100000 in
set_option maxHeartbeats 4000000 in
theorem case_c1 {a0 a1 : Option Addr} {len0 cap0 len1 cap1 k : Nat} {l0 l1 : List Nat} {w : World} (i0 : Arg.isIn ⟨a0, len0, cap0, l0⟩ w) (i1 : Arg.isIn ⟨a1, len1, cap1, l1⟩ w) (hk : k < B64) (h20 : len0 ≤ 20) (h21 : len1 ≤ 20) (hc : canon l0 = true) (hg : (Arg.ok ⟨a0, len0, cap0, l0⟩ && Arg.ok ⟨a1, len1, cap1, l1⟩) = false) :
    Calls Try.prog 3 #[.slice a0 len0 cap0, .slice a1 len1 cap1, .int .u64 (k : Int)] w fun e w' => e = .returned (.bool true) ∧ Below w.heap.size w w' := by
  have lk : (limbs k).length ≤ 2147483648 := len_small (k := 1) (by rw [Nat.pow_one]; exact hk) (by omega)
  have cc : Below w.heap.size w w := Below.refl _ _
  go_enter Try.func3, Try.ntmps3
  go_wp2_with fail
  refine (few_yes (c := cap0) i0.2 h20).mono ?_
  rintro e w3 ⟨rfl, b⟩
  replace i0 := i0.on b
  replace i1 := i1.on b
  replace cc := cc.trans (b.mono cc.size)
  clear b
  go_wp2_with fail
  refine (few_yes (c := cap1) i1.2 h21).mono ?_
  rintro e w4 ⟨rfl, b⟩
  replace i0 := i0.on b
  replace i1 := i1.on b
  replace cc := cc.trans (b.mono cc.size)
  clear b
  go_wp2_with fail
  refine (right_V i0 hc).mono ?_
  rintro e w5 ⟨rfl, b⟩
  replace i0 := i0.on b
  replace i1 := i1.on b
  replace cc := cc.trans (b.mono cc.size)
  clear b
  go_wp2_with fail
  refine (rright_V i0 hc).mono ?_
  rintro e w6 ⟨rfl, b⟩
  replace i0 := i0.on b
  replace i1 := i1.on b
  replace cc := cc.trans (b.mono cc.size)
  clear b
  go_wp2_with fail
  refine (of_N _ k hk).mono ?_
  rintro e w7 ⟨A5, n5, c5, rfl, t, b⟩
  replace i0 := i0.on b
  replace i1 := i1.on b
  replace cc := cc.trans (b.mono cc.size)
  clear b
  go_wp2_with fail
  refine (rof_N _ k hk).mono ?_
  rintro e w8 ⟨A6, n6, c6, rfl, u, b⟩
  replace i0 := i0.on b
  replace i1 := i1.on b
  replace t := t.on b
  replace cc := cc.trans (b.mono cc.size)
  clear b
  go_wp2_with fail
  refine (same_N t u (by omega) (by omega) rfl).mono ?_
  rintro e w9 ⟨rfl, b⟩
  replace i0 := i0.on b
  replace i1 := i1.on b
  replace t := t.on b
  replace u := u.on b
  replace cc := cc.trans (b.mono cc.size)
  clear b
  clear t u
  go_wp2_with fail
  refine (given_two ⟨a0, len0, cap0, l0⟩ ⟨a1, len1, cap1, l1⟩ false _ i0 i1 (by exact hg)).mono ?_
  rintro e w10 ⟨rfl, b⟩
  replace b := ((Below.refl _ _).alloc (Nat.le_refl _) _).trans (b.mono (by simp))
  replace i0 := i0.on b
  replace i1 := i1.on b
  replace cc := cc.trans (b.mono cc.size)
  clear b
  go_wp2_with fail
  refine (alive_any _).mono ?_
  rintro e w11 ⟨rfl, b⟩
  replace i0 := i0.on b
  replace i1 := i1.on b
  replace cc := cc.trans (b.mono cc.size)
  clear b
  go_wp2_with fail
  go_ret
  exact ⟨rfl, cc⟩

set_option maxRecDepth 100000 in
set_option maxHeartbeats 4000000 in
theorem case_d0 {a0 a1 : Option Addr} {len0 cap0 len1 cap1 k : Nat} {l0 l1 : List Nat} {w : World} (i0 : Arg.isIn ⟨a0, len0, cap0, l0⟩ w) (i1 : Arg.isIn ⟨a1, len1, cap1, l1⟩ w) (hk : k < B64) (h20 : len0 ≤ 20) (h21 : len1 ≤ 20) (hc : canon l0 = true) (hc1 : canon l1 = true) (hg : (Arg.ok ⟨a0, len0, cap0, l0⟩ && Arg.ok ⟨a1, len1, cap1, l1⟩) = true) (hx : val l0 < B64) :
    Calls Try.prog 3 #[.slice a0 len0 cap0, .slice a1 len1 cap1, .int .u64 (k : Int)] w fun e w' => e = .returned (.bool true) ∧ Below w.heap.size w w' := by
  have lk : (limbs k).length ≤ 2147483648 := len_small (k := 1) (by rw [Nat.pow_one]; exact hk) (by omega)
  have h0 := i0.1.num hc
  have h1 := i1.1.num hc1
  have lx : (limbs (val l0)).length ≤ 20 := by rw [← h0.len]; exact h20
  have ly : (limbs (val l1)).length ≤ 20 := by rw [← h1.len]; exact h21
  generalize val l0 = x at h0 lx hx
  generalize val l1 = y at h1 ly
  clear hc1
  have cc : Below w.heap.size w w := Below.refl _ _
  go_enter Try.func3, Try.ntmps3
  go_wp2_with fail
  refine (few_yes (c := cap0) i0.2 h20).mono ?_
  rintro e w3 ⟨rfl, b⟩
  replace i0 := i0.on b
  replace i1 := i1.on b
  replace h0 := h0.on b
  replace h1 := h1.on b
  replace cc := cc.trans (b.mono cc.size)
  clear b
  go_wp2_with fail
  refine (few_yes (c := cap1) i1.2 h21).mono ?_
  rintro e w4 ⟨rfl, b⟩
  replace i0 := i0.on b
  replace i1 := i1.on b
  replace h0 := h0.on b
  replace h1 := h1.on b
  replace cc := cc.trans (b.mono cc.size)
  clear b
  go_wp2_with fail
  refine (right_V i0 hc).mono ?_
  rintro e w5 ⟨rfl, b⟩
  replace i0 := i0.on b
  replace i1 := i1.on b
  replace h0 := h0.on b
  replace h1 := h1.on b
  replace cc := cc.trans (b.mono cc.size)
  clear b
  go_wp2_with fail
  refine (rright_V i0 hc).mono ?_
  rintro e w6 ⟨rfl, b⟩
  replace i0 := i0.on b
  replace i1 := i1.on b
  replace h0 := h0.on b
  replace h1 := h1.on b
  replace cc := cc.trans (b.mono cc.size)
  clear b
  go_wp2_with fail
  refine (of_N _ k hk).mono ?_
  rintro e w7 ⟨A5, n5, c5, rfl, t, b⟩
  replace i0 := i0.on b
  replace i1 := i1.on b
  replace h0 := h0.on b
  replace h1 := h1.on b
  replace cc := cc.trans (b.mono cc.size)
  clear b
  go_wp2_with fail
  refine (rof_N _ k hk).mono ?_
  rintro e w8 ⟨A6, n6, c6, rfl, u, b⟩
  replace i0 := i0.on b
  replace i1 := i1.on b
  replace h0 := h0.on b
  replace h1 := h1.on b
  replace t := t.on b
  replace cc := cc.trans (b.mono cc.size)
  clear b
  go_wp2_with fail
  refine (same_N t u (by omega) (by omega) rfl).mono ?_
  rintro e w9 ⟨rfl, b⟩
  replace i0 := i0.on b
  replace i1 := i1.on b
  replace h0 := h0.on b
  replace h1 := h1.on b
  replace t := t.on b
  replace u := u.on b
  replace cc := cc.trans (b.mono cc.size)
  clear b
  clear t u
  go_wp2_with fail
  refine (given_two ⟨a0, len0, cap0, l0⟩ ⟨a1, len1, cap1, l1⟩ true _ i0 i1 (by exact hg)).mono ?_
  rintro e w10 ⟨rfl, b⟩
  replace b := ((Below.refl _ _).alloc (Nat.le_refl _) _).trans (b.mono (by simp))
  replace i0 := i0.on b
  replace i1 := i1.on b
  replace h0 := h0.on b
  replace h1 := h1.on b
  replace cc := cc.trans (b.mono cc.size)
  clear b
  go_wp2_with fail
  refine (small_N h0 hx).mono ?_
  rintro e w11 ⟨rfl, b⟩
  replace i0 := i0.on b
  replace i1 := i1.on b
  replace h0 := h0.on b
  replace h1 := h1.on b
  replace cc := cc.trans (b.mono cc.size)
  clear b
  go_wp2_with fail
  refine (rsmall_N h0 hx).mono ?_
  rintro e w12 ⟨rfl, b⟩
  replace i0 := i0.on b
  replace i1 := i1.on b
  replace h0 := h0.on b
  replace h1 := h1.on b
  replace cc := cc.trans (b.mono cc.size)
  clear b
  go_wp2_with fail
  refine (alive_any _).mono ?_
  rintro e w13 ⟨rfl, b⟩
  replace i0 := i0.on b
  replace i1 := i1.on b
  replace h0 := h0.on b
  replace h1 := h1.on b
  replace cc := cc.trans (b.mono cc.size)
  clear b
  go_wp2_with fail
  refine (cmp_N h0 h1 (by omega) (by omega)).mono ?_
  rintro e w14 ⟨rfl, b⟩
  replace i0 := i0.on b
  replace i1 := i1.on b
  replace h0 := h0.on b
  replace h1 := h1.on b
  replace cc := cc.trans (b.mono cc.size)
  clear b
  go_wp2_with fail
  refine (rcmp_N h0 h1 (by omega) (by omega)).mono ?_
  rintro e w15 ⟨rfl, b⟩
  replace i0 := i0.on b
  replace i1 := i1.on b
  replace h0 := h0.on b
  replace h1 := h1.on b
  replace cc := cc.trans (b.mono cc.size)
  clear b
  go_wp2_with fail
  refine (bits_N h0 (by omega)).mono ?_
  rintro e w16 ⟨rfl, b⟩
  replace i0 := i0.on b
  replace i1 := i1.on b
  replace h0 := h0.on b
  replace h1 := h1.on b
  replace cc := cc.trans (b.mono cc.size)
  clear b
  go_wp2_with fail
  refine (rbits_N h0 (by omega)).mono ?_
  rintro e w17 ⟨rfl, b⟩
  replace i0 := i0.on b
  replace i1 := i1.on b
  replace h0 := h0.on b
  replace h1 := h1.on b
  replace cc := cc.trans (b.mono cc.size)
  clear b
  go_wp2_with fail
  go_ret
  exact ⟨rfl, cc⟩

set_option maxRecDepth 100000 in
set_option maxHeartbeats 4000000 in
theorem case_d1 {a0 a1 : Option Addr} {len0 cap0 len1 cap1 k : Nat} {l0 l1 : List Nat} {w : World} (i0 : Arg.isIn ⟨a0, len0, cap0, l0⟩ w) (i1 : Arg.isIn ⟨a1, len1, cap1, l1⟩ w) (hk : k < B64) (h20 : len0 ≤ 20) (h21 : len1 ≤ 20) (hc : canon l0 = true) (hc1 : canon l1 = true) (hg : (Arg.ok ⟨a0, len0, cap0, l0⟩ && Arg.ok ⟨a1, len1, cap1, l1⟩) = true) (hx : B64 ≤ val l0) :
    Calls Try.prog 3 #[.slice a0 len0 cap0, .slice a1 len1 cap1, .int .u64 (k : Int)] w fun e w' => e = .returned (.bool true) ∧ Below w.heap.size w w' := by
  have lk : (limbs k).length ≤ 2147483648 := len_small (k := 1) (by rw [Nat.pow_one]; exact hk) (by omega)
  have h0 := i0.1.num hc
  have h1 := i1.1.num hc1
  have lx : (limbs (val l0)).length ≤ 20 := by rw [← h0.len]; exact h20
  have ly : (limbs (val l1)).length ≤ 20 := by rw [← h1.len]; exact h21
  generalize val l0 = x at h0 lx hx
  generalize val l1 = y at h1 ly
  clear hc1
  have cc : Below w.heap.size w w := Below.refl _ _
  go_enter Try.func3, Try.ntmps3
  go_wp2_with fail
  refine (few_yes (c := cap0) i0.2 h20).mono ?_
  rintro e w3 ⟨rfl, b⟩
  replace i0 := i0.on b
  replace i1 := i1.on b
  replace h0 := h0.on b
  replace h1 := h1.on b
  replace cc := cc.trans (b.mono cc.size)
  clear b
  go_wp2_with fail
  refine (few_yes (c := cap1) i1.2 h21).mono ?_
  rintro e w4 ⟨rfl, b⟩
  replace i0 := i0.on b
  replace i1 := i1.on b
  replace h0 := h0.on b
  replace h1 := h1.on b
  replace cc := cc.trans (b.mono cc.size)
  clear b
  go_wp2_with fail
  refine (right_V i0 hc).mono ?_
  rintro e w5 ⟨rfl, b⟩
  replace i0 := i0.on b
  replace i1 := i1.on b
  replace h0 := h0.on b
  replace h1 := h1.on b
  replace cc := cc.trans (b.mono cc.size)
  clear b
  go_wp2_with fail
  refine (rright_V i0 hc).mono ?_
  rintro e w6 ⟨rfl, b⟩
  replace i0 := i0.on b
  replace i1 := i1.on b
  replace h0 := h0.on b
  replace h1 := h1.on b
  replace cc := cc.trans (b.mono cc.size)
  clear b
  go_wp2_with fail
  refine (of_N _ k hk).mono ?_
  rintro e w7 ⟨A5, n5, c5, rfl, t, b⟩
  replace i0 := i0.on b
  replace i1 := i1.on b
  replace h0 := h0.on b
  replace h1 := h1.on b
  replace cc := cc.trans (b.mono cc.size)
  clear b
  go_wp2_with fail
  refine (rof_N _ k hk).mono ?_
  rintro e w8 ⟨A6, n6, c6, rfl, u, b⟩
  replace i0 := i0.on b
  replace i1 := i1.on b
  replace h0 := h0.on b
  replace h1 := h1.on b
  replace t := t.on b
  replace cc := cc.trans (b.mono cc.size)
  clear b
  go_wp2_with fail
  refine (same_N t u (by omega) (by omega) rfl).mono ?_
  rintro e w9 ⟨rfl, b⟩
  replace i0 := i0.on b
  replace i1 := i1.on b
  replace h0 := h0.on b
  replace h1 := h1.on b
  replace t := t.on b
  replace u := u.on b
  replace cc := cc.trans (b.mono cc.size)
  clear b
  clear t u
  go_wp2_with fail
  refine (given_two ⟨a0, len0, cap0, l0⟩ ⟨a1, len1, cap1, l1⟩ true _ i0 i1 (by exact hg)).mono ?_
  rintro e w10 ⟨rfl, b⟩
  replace b := ((Below.refl _ _).alloc (Nat.le_refl _) _).trans (b.mono (by simp))
  replace i0 := i0.on b
  replace i1 := i1.on b
  replace h0 := h0.on b
  replace h1 := h1.on b
  replace cc := cc.trans (b.mono cc.size)
  clear b
  go_wp2_with fail
  refine (small_great_N h0 (by omega) hx).mono ?_
  rintro e w11 ⟨rfl, b⟩
  replace i0 := i0.on b
  replace i1 := i1.on b
  replace h0 := h0.on b
  replace h1 := h1.on b
  replace cc := cc.trans (b.mono cc.size)
  clear b
  go_wp2_with fail
  refine (rsmall_great_N h0 (by omega) hx).mono ?_
  rintro e w12 ⟨rfl, b⟩
  replace i0 := i0.on b
  replace i1 := i1.on b
  replace h0 := h0.on b
  replace h1 := h1.on b
  replace cc := cc.trans (b.mono cc.size)
  clear b
  go_wp2_with fail
  refine (alive_any _).mono ?_
  rintro e w13 ⟨rfl, b⟩
  replace i0 := i0.on b
  replace i1 := i1.on b
  replace h0 := h0.on b
  replace h1 := h1.on b
  replace cc := cc.trans (b.mono cc.size)
  clear b
  go_wp2_with fail
  refine (cmp_N h0 h1 (by omega) (by omega)).mono ?_
  rintro e w14 ⟨rfl, b⟩
  replace i0 := i0.on b
  replace i1 := i1.on b
  replace h0 := h0.on b
  replace h1 := h1.on b
  replace cc := cc.trans (b.mono cc.size)
  clear b
  go_wp2_with fail
  refine (rcmp_N h0 h1 (by omega) (by omega)).mono ?_
  rintro e w15 ⟨rfl, b⟩
  replace i0 := i0.on b
  replace i1 := i1.on b
  replace h0 := h0.on b
  replace h1 := h1.on b
  replace cc := cc.trans (b.mono cc.size)
  clear b
  go_wp2_with fail
  refine (bits_N h0 (by omega)).mono ?_
  rintro e w16 ⟨rfl, b⟩
  replace i0 := i0.on b
  replace i1 := i1.on b
  replace h0 := h0.on b
  replace h1 := h1.on b
  replace cc := cc.trans (b.mono cc.size)
  clear b
  go_wp2_with fail
  refine (rbits_N h0 (by omega)).mono ?_
  rintro e w17 ⟨rfl, b⟩
  replace i0 := i0.on b
  replace i1 := i1.on b
  replace h0 := h0.on b
  replace h1 := h1.on b
  replace cc := cc.trans (b.mono cc.size)
  clear b
  go_wp2_with fail
  go_ret
  exact ⟨rfl, cc⟩

/-! ### STEP 1: THE WALK: the Go text returns true, AND WRITES NOTHING THAT WAS THERE: 'Below w.heap.size w w'' (Derived/Below.lean: '.refl', '.alloc', '.drew', '.setCell' at a new block, '.trans'). Open each 'IsRow' by 'rcases' AHEAD of 'go_enter'; part every test ahead of the walk. -/
theorem walk (a0 : Option Addr) (len0 cap0 : Nat) (z0 : List Int) (a1 : Option Addr) (len1 cap1 : Nat) (z1 : List Int) (a2 : Int) (w : World) (w0 : IsRow .u64 w a0 len0 cap0 z0) (w1 : IsRow .u64 w a1 len1 cap1 z1) (w2 : (Lit.int .u64 a2).wf = true) :
    Calls Try.prog 3 #[.slice a0 len0 cap0, .slice a1 len1 cap1, .int .u64 a2] w fun e w' => e = .returned (.bool true) ∧ Below w.heap.size w w' := by
  obtain ⟨l0, hl0, hs0⟩ := arg_of_row w0
  obtain ⟨l1, hl1, hs1⟩ := arg_of_row w1
  have i0 : Arg.isIn ⟨a0, len0, cap0, l0⟩ w := ⟨hl0, hs0⟩
  have i1 : Arg.isIn ⟨a1, len1, cap1, l1⟩ w := ⟨hl1, hs1⟩
  have hb := bounds_u64 w2
  obtain ⟨k, rfl⟩ := Int.eq_ofNat_of_zero_le hb.1
  have hk : k < B64 := by unfold B64; omega
  clear hb w0 w1 w2 hl0 hl1 hs0 hs1
  rcases Nat.lt_or_ge 20 len0 with h20 | h20
  · exact case_a i0 i1 hk h20
  · rcases Nat.lt_or_ge 20 len1 with h21 | h21
    · exact case_b i0 i1 hk h20 h21
    · cases hg : (Arg.ok ⟨a0, len0, cap0, l0⟩ && Arg.ok ⟨a1, len1, cap1, l1⟩) with
      | false =>
        cases hc : canon l0 with
        | false => exact case_c0 i0 i1 hk h20 h21 hc hg
        | true => exact case_c1 i0 i1 hk h20 h21 hc hg
      | true =>
        have hg' := hg
        rw [Bool.and_eq_true] at hg'
        have hc := (ok_parts hg'.1).2
        have hc1 := (ok_parts hg'.2).2
        rcases Nat.lt_or_ge (val l0) B64 with hx | hx
        · exact case_d0 i0 i1 hk h20 h21 hc hc1 hg hx
        · exact case_d1 i0 i1 hk h20 h21 hc hc1 hg hx


/-! ### THE ROW's STEP: WRITTEN OUT: LEAVE IT -/
set_option maxRecDepth 100000 in
theorem lifted (os : Os) (started : os.Started) (H : Type) (enc : TypeId × Value → H) :
    ReturnsInHanded {} Try.checked os 3 .any (Rows.natTellsSpec.pre6 enc Try.prog Try.f3 Rows.natTellsRow.domain false) (Rows.natTellsSpec.post enc Try.prog Try.f3 false true false false) := by
  refine returnsInHanded_of_change (C := Try.checked) own started (by kernel_rfl) Try.func3
    (ChangeSpec.witness6 (enc := enc) (C := Try.checked) false ⟨#[], #[.slice none 0 0, .slice none 0 0, .int .u64 0], []⟩ 8 (by kernel_rfl) (by kernel_rfl) (by kernel_rfl) (by kernel_rfl)) ?_
  intro W base args ds gs before hval0 hW hcnd _
  have hval : ∀ (j : Nat) t v, Try.f3.params[j]? = some t → args[j]? = some v → Value.okWide Try.prog W .any base t v := hval0
  have hW' := hW
  obtain ⟨p, q, hA0, hV, rfl, hfz, hnd⟩ := hW
  have hA : DataW.TrodAll enc Try.prog W 0 (fun _ => true) true Try.f3.params.toList args.toList ds p := hA0
  rw [Try.params3] at hA hval
  obtain ⟨v0, vs0, d0, ds0, p0, q0, hargs, rfl, rfl, h0, r0⟩ := trodAll_cons hA
  obtain ⟨v1, vs1, d1, ds1, p1, q1, rfl, rfl, rfl, h1, r1⟩ := trodAll_cons r0
  obtain ⟨v2, vs2, d2, ds2, p2, q2, rfl, rfl, rfl, h2, r2⟩ := trodAll_cons r1
  obtain ⟨rfl, rfl, rfl⟩ := trodAll_nil r2
  obtain rfl : args = #[v0, v1, v2] := by cases args; simp_all
  obtain ⟨rfl, rfl⟩ := trodVars_none hV
  obtain ⟨a0, len0, cap0, rfl⟩ := okWide_slice Try.underlying23 (hval 0 23 v0 rfl rfl)
  have k0 := h0
  have lt0 : ∀ x ∈ p0, x.block < W.heap.size := by obtain ⟨m, hm⟩ := k0; exact DataW.trod_lt m _ _ _ hm
  obtain ⟨z0, w0⟩ : ∃ zs, IsRow .u64 W a0 len0 cap0 zs := by
    obtain ⟨fuel, hf⟩ := h0
    rcases open_ints Try.underlying23 Try.underlying24 (by kernel_rfl) hf with ⟨hcs, _⟩ | ⟨x, l, c, zs, hcs, _, hl, hm, hz, _, hcell, hwz⟩
    · simp [Value.cells] at hcs
      obtain ⟨rfl, rfl, rfl⟩ := hcs
      exact ⟨[], .inl ⟨rfl, rfl, rfl, rfl⟩⟩
    · simp [Value.cells] at hcs
      obtain ⟨rfl, rfl, rfl⟩ := hcs
      exact ⟨zs, .inr ⟨_, rfl, hl, hm, by simpa using hz, hcell, hwz⟩⟩
  obtain ⟨a1, len1, cap1, rfl⟩ := okWide_slice Try.underlying23 (hval 1 23 v1 rfl rfl)
  have k1 := h1
  have lt1 : ∀ x ∈ p1, x.block < W.heap.size := by obtain ⟨m, hm⟩ := k1; exact DataW.trod_lt m _ _ _ hm
  obtain ⟨z1, w1⟩ : ∃ zs, IsRow .u64 W a1 len1 cap1 zs := by
    obtain ⟨fuel, hf⟩ := h1
    rcases open_ints Try.underlying23 Try.underlying24 (by kernel_rfl) hf with ⟨hcs, _⟩ | ⟨x, l, c, zs, hcs, _, hl, hm, hz, _, hcell, hwz⟩
    · simp [Value.cells] at hcs
      obtain ⟨rfl, rfl, rfl⟩ := hcs
      exact ⟨[], .inl ⟨rfl, rfl, rfl, rfl⟩⟩
    · simp [Value.cells] at hcs
      obtain ⟨rfl, rfl, rfl⟩ := hcs
      exact ⟨zs, .inr ⟨_, rfl, hl, hm, by simpa using hz, hcell, hwz⟩⟩
  obtain ⟨a2, rfl, rfl, rfl, w2⟩ := open_int Try.underlying24 (hval 2 24 v2 rfl rfl) h2
  clear hA0 hval0
  refine (walk a0 len0 cap0 z0 a1 len1 cap1 z1 a2 W w0 w1 w2).mono fun e W' ⟨he, bel⟩ => ?_
  subst he
  exact ⟨_, rfl, _, _, _, [], _, [], hW', trodAll_mk1 (shut_bool Try.underlying4 _), (trodAll_cons_mk (Below.trod laidOut (by kernel_rfl) (of_decide_eq_true (by kernel_rfl)) k0 bel lt0) (trodAll_cons_mk (Below.trod laidOut (by kernel_rfl) (of_decide_eq_true (by kernel_rfl)) k1 bel lt1) (trodAll_cons_mk (shut_int Try.underlying24 w2) trodAll_mk0))), rfl, bel.frame _, fun h => by cases h⟩

theorem over : Rows.natTellsRow.holds Try.pinned (OpenSpec.ofChange Rows.natTellsSpec) :=
  OpenClaim.holds_of_wide 3 Try.f3 rfl rfl rfl rfl rfl rfl rfl ⟨rfl, rfl, rfl, rfl, rfl⟩ rfl rfl rfl rfl rfl (by kernel_rfl) Try.func3 (by kernel_rfl)
    (of_decide_eq_true (by kernel_rfl)) (by unfold Func.isWrapper; first | (rw [if_pos (by decide +kernel)]; kernel_rfl) | (rw [if_neg (by decide +kernel)]; exact ⟨rfl, rfl⟩))
    (fun os started H enc _ => lifted os started H enc)

/-- ████ THE STATEMENT ████ -/
theorem proved : Rows.NatTellsSaid := over
#print axioms proved
end Go.Proofs.Ytglabefefedfoaa.natTells
