/-
  Proved: whatever slices and numbers it is handed, ratchetlaw01.NatReckons, over the code of the commit named in the claim, returns true, and leaves all that was there as it was. Conditions: none.
-/
import Derived.Test.YtglabefefedfoaaRows
import Derived.WalkKit
import Derived.ProofKit
import Derived.OpenShut
import Derived.ShutString
import Derived.ChangeOld
import Derived.Below
import Derived.Test.YtglabefefedfoaaRow
import Derived.Test.YtglabefefedfoaaRMul
namespace Go.Proofs.Ytglabefefedfoaa.natReckons
open Go.ChangeShapes Go.WideShapes Go.ChangeAt Go.RowKit
open Go.ChangeMaps (open_string shut_string)
set_option linter.unusedVariables false

theorem own : ownKnob Try.prog.godebug = none := by kernel_rfl
theorem laidOut : laidOutB Try.prog = true := by kernel_rfl

/-- WHAT THE WALK IS TOLD OF A SLICE OF INTEGERS THAT CAME IN: it is nil; or it leads to a row of 'cap' cells, the numbers 'zs' (the first 'len' are its elements, the rest its spare room), each fitting its kind. -/
def IsRow (k : IntKind) (w : World) (a : Option Addr) (len cap : Nat) (zs : List Int) : Prop :=
  (a = none ∧ len = 0 ∧ cap = 0 ∧ zs = []) ∨
  ∃ x, a = some x ∧ len ≤ cap ∧ cap ≤ maxLen ∧ zs.length = cap ∧ (∀ i, i < zs.length → w.cell? (x.add i) = some (.int k (zs.getD i 0))) ∧ ∀ n ∈ zs, (Lit.int k n).wf = true

/-! ### STEP 1: THE WALK: the Go text returns true, AND WRITES NOTHING THAT WAS THERE: 'Below w.heap.size w w'' (Derived/Below.lean: '.refl', '.alloc', '.drew', '.setCell' at a new block, '.trans'). Open each 'IsRow' by 'rcases' AHEAD of 'go_enter'; part every test ahead of the walk. -/
set_option maxRecDepth 100000 in
set_option maxHeartbeats 8000000 in
theorem walk (a0 : Option Addr) (len0 cap0 : Nat) (z0 : List Int) (a1 : Option Addr) (len1 cap1 : Nat) (z1 : List Int) (w : World) (w0 : IsRow .u64 w a0 len0 cap0 z0) (w1 : IsRow .u64 w a1 len1 cap1 z1) :
    Calls Try.prog 4 #[.slice a0 len0 cap0, .slice a1 len1 cap1] w fun e w' => e = .returned (.bool true) ∧ Below w.heap.size w w' := by
  obtain ⟨l0, hl0, hs0⟩ := arg_of_row w0
  obtain ⟨l1, hl1, hs1⟩ := arg_of_row w1
  clear w0 w1
  have hi0 : Arg.isIn ⟨a0, len0, cap0, l0⟩ w := ⟨hl0, hs0⟩
  have hi1 : Arg.isIn ⟨a1, len1, cap1, l1⟩ w := ⟨hl1, hs1⟩
  cases hr : (Arg.ok ⟨a0, len0, cap0, l0⟩ && Arg.ok ⟨a1, len1, cap1, l1⟩) with
  | false =>
    have G := Lib.hid (given_two ⟨a0, len0, cap0, l0⟩ ⟨a1, len1, cap1, l1⟩ false w hi0 hi1 hr)
    clear hr hi0 hi1 hl0 hl1
    go_enter Try.func4, Try.ntmps4
    go_wp2_with fail
    refine G.out.mono ?_
    rintro e w1 ⟨rfl, b1⟩
    go_wp2_with fail
    refine (alive_any _).mono ?_
    rintro e w2 ⟨rfl, b2⟩
    go_wp2_with fail
    go_ret
    exact ⟨rfl, ((Below.refl _ w).alloc (Nat.le_refl _) _).trans ((b1.trans (b2.mono b1.size)).mono (by simp))⟩
  | true =>
    have G := Lib.hid (given_two ⟨a0, len0, cap0, l0⟩ ⟨a1, len1, cap1, l1⟩ true w hi0 hi1 hr)
    rw [Bool.and_eq_true] at hr
    obtain ⟨k0, k1⟩ := hr
    have h0 := hl0.num (ok_parts k0).2
    have lx : (limbs (val l0)).length ≤ 20 := by rw [← h0.len]; exact (ok_parts k0).1
    have h1 := hl1.num (ok_parts k1).2
    have ly : (limbs (val l1)).length ≤ 20 := by rw [← h1.len]; exact (ok_parts k1).1
    clear hi0 hi1 hl0 hl1 k0 k1
    generalize val l0 = x at h0 lx
    generalize val l1 = y at h1 ly
    have o0 : (limbs 0).length ≤ 20 := by rw [limbs_zero]; simp
    have q0 : (limbs (x + y)).length ≤ 21 := Nat.le_trans (limbs_length_add (k := 20) (by omega) (by omega)) (by omega)
    have q1 : (limbs (x * y)).length ≤ 40 := Nat.le_trans (limbs_length_mul (k := 20) (m := 20) (by omega) (by omega)) (by omega)
    have q2 : (limbs (x - y)).length ≤ 20 := Nat.le_trans (limbs_length_mono (Nat.sub_le _ _)) (by omega)
    rcases Nat.lt_or_ge x y with hxy | hxy
    · go_enter Try.func4, Try.ntmps4
      go_wp2_with fail
      refine G.out.mono ?_
      rintro e w1 ⟨rfl, b1⟩
      have cc : Below w.heap.size w w1 := ((Below.refl _ w).alloc (Nat.le_refl _) _).trans (b1.mono (by simp))
      clear b1 G
      replace h0 := h0.on cc
      replace h1 := h1.on cc
      go_wp2_with fail
      refine (sub_less_N h0 h1 (by omega) (by omega) hxy).mono ?_
      rintro e w3 ⟨rfl, b⟩
      replace h0 := h0.on b
      replace h1 := h1.on b
      replace cc := cc.trans (b.mono cc.size)
      clear b
      go_wp2_with fail
      refine (rsub_less_N h0 h1 (by omega) (by omega) hxy).mono ?_
      rintro e w4 ⟨rfl, b⟩
      replace h0 := h0.on b
      replace h1 := h1.on b
      replace cc := cc.trans (b.mono cc.size)
      clear b
      go_wp2_with fail
      refine (alive_any _).mono ?_
      rintro e w5 ⟨rfl, b⟩
      replace h0 := h0.on b
      replace h1 := h1.on b
      replace cc := cc.trans (b.mono cc.size)
      clear b
      go_wp2_with fail
      refine (add_N h0 h1 (by omega) (by omega)).mono ?_
      rintro e w6 ⟨A4, n4, c4, rfl, s, b⟩
      replace h0 := h0.on b
      replace h1 := h1.on b
      replace cc := cc.trans (b.mono cc.size)
      clear b
      go_wp2_with fail
      refine (radd_N h0 h1 (by omega) (by omega)).mono ?_
      rintro e w7 ⟨A5, n5, c5, rfl, t, b⟩
      replace h0 := h0.on b
      replace h1 := h1.on b
      replace s := s.on b
      replace cc := cc.trans (b.mono cc.size)
      clear b
      go_wp2_with fail
      refine (same_N s t (by omega) (by omega) rfl).mono ?_
      rintro e w8 ⟨rfl, b⟩
      replace h0 := h0.on b
      replace h1 := h1.on b
      replace s := s.on b
      replace t := t.on b
      replace cc := cc.trans (b.mono cc.size)
      clear b
      clear s t
      go_wp2_with fail
      refine (mul_N h0 h1 (by omega) (by omega)).mono ?_
      rintro e w9 ⟨A7, n7, c7, rfl, s, b⟩
      replace h0 := h0.on b
      replace h1 := h1.on b
      replace cc := cc.trans (b.mono cc.size)
      clear b
      go_wp2_with fail
      refine (rmul_N h0 h1 (by omega) (by omega)).mono ?_
      rintro e w10 ⟨A8, n8, c8, rfl, t, b⟩
      replace h0 := h0.on b
      replace h1 := h1.on b
      replace s := s.on b
      replace cc := cc.trans (b.mono cc.size)
      clear b
      go_wp2_with fail
      refine (same_N s t (by omega) (by omega) rfl).mono ?_
      rintro e w11 ⟨rfl, b⟩
      replace h0 := h0.on b
      replace h1 := h1.on b
      replace s := s.on b
      replace t := t.on b
      replace cc := cc.trans (b.mono cc.size)
      clear b
      clear s t
      go_wp2_with fail
      refine (same_N (num_zero _) (num_zero _) (by omega) (by omega) rfl).mono ?_
      rintro e w12 ⟨rfl, b⟩
      replace h0 := h0.on b
      replace h1 := h1.on b
      replace cc := cc.trans (b.mono cc.size)
      clear b
      go_wp2_with fail
      go_ret
      exact ⟨rfl, cc⟩
    · go_enter Try.func4, Try.ntmps4
      go_wp2_with fail
      refine G.out.mono ?_
      rintro e w1 ⟨rfl, b1⟩
      have cc : Below w.heap.size w w1 := ((Below.refl _ w).alloc (Nat.le_refl _) _).trans (b1.mono (by simp))
      clear b1 G
      replace h0 := h0.on cc
      replace h1 := h1.on cc
      go_wp2_with fail
      refine (sub_N h0 h1 (by omega) (by omega) hxy).mono ?_
      rintro e w3 ⟨A1, n1, c1, rfl, d, b⟩
      replace h0 := h0.on b
      replace h1 := h1.on b
      replace cc := cc.trans (b.mono cc.size)
      clear b
      go_wp2_with fail
      refine (rsub_N h0 h1 (by omega) (by omega) hxy).mono ?_
      rintro e w4 ⟨A2, n2, c2, rfl, f, b⟩
      replace h0 := h0.on b
      replace h1 := h1.on b
      replace d := d.on b
      replace cc := cc.trans (b.mono cc.size)
      clear b
      go_wp2_with fail
      refine (alive_any _).mono ?_
      rintro e w5 ⟨rfl, b⟩
      replace h0 := h0.on b
      replace h1 := h1.on b
      replace d := d.on b
      replace f := f.on b
      replace cc := cc.trans (b.mono cc.size)
      clear b
      go_wp2_with fail
      refine (add_N h0 h1 (by omega) (by omega)).mono ?_
      rintro e w6 ⟨A4, n4, c4, rfl, s, b⟩
      replace h0 := h0.on b
      replace h1 := h1.on b
      replace d := d.on b
      replace f := f.on b
      replace cc := cc.trans (b.mono cc.size)
      clear b
      go_wp2_with fail
      refine (radd_N h0 h1 (by omega) (by omega)).mono ?_
      rintro e w7 ⟨A5, n5, c5, rfl, t, b⟩
      replace h0 := h0.on b
      replace h1 := h1.on b
      replace d := d.on b
      replace f := f.on b
      replace s := s.on b
      replace cc := cc.trans (b.mono cc.size)
      clear b
      go_wp2_with fail
      refine (same_N s t (by omega) (by omega) rfl).mono ?_
      rintro e w8 ⟨rfl, b⟩
      replace h0 := h0.on b
      replace h1 := h1.on b
      replace d := d.on b
      replace f := f.on b
      replace s := s.on b
      replace t := t.on b
      replace cc := cc.trans (b.mono cc.size)
      clear b
      clear s t
      go_wp2_with fail
      refine (mul_N h0 h1 (by omega) (by omega)).mono ?_
      rintro e w9 ⟨A7, n7, c7, rfl, s, b⟩
      replace h0 := h0.on b
      replace h1 := h1.on b
      replace d := d.on b
      replace f := f.on b
      replace cc := cc.trans (b.mono cc.size)
      clear b
      go_wp2_with fail
      refine (rmul_N h0 h1 (by omega) (by omega)).mono ?_
      rintro e w10 ⟨A8, n8, c8, rfl, t, b⟩
      replace h0 := h0.on b
      replace h1 := h1.on b
      replace d := d.on b
      replace f := f.on b
      replace s := s.on b
      replace cc := cc.trans (b.mono cc.size)
      clear b
      go_wp2_with fail
      refine (same_N s t (by omega) (by omega) rfl).mono ?_
      rintro e w11 ⟨rfl, b⟩
      replace h0 := h0.on b
      replace h1 := h1.on b
      replace d := d.on b
      replace f := f.on b
      replace s := s.on b
      replace t := t.on b
      replace cc := cc.trans (b.mono cc.size)
      clear b
      clear s t
      go_wp2_with fail
      refine (same_N d f (by omega) (by omega) rfl).mono ?_
      rintro e w12 ⟨rfl, b⟩
      replace h0 := h0.on b
      replace h1 := h1.on b
      replace d := d.on b
      replace f := f.on b
      replace cc := cc.trans (b.mono cc.size)
      clear b
      go_wp2_with fail
      go_ret
      exact ⟨rfl, cc⟩


/-! ### THE ROW's STEP: WRITTEN OUT: LEAVE IT -/
set_option maxRecDepth 100000 in
theorem lifted (os : Os) (started : os.Started) (H : Type) (enc : TypeId × Value → H) :
    ReturnsInHanded {} Try.checked os 4 .any (Rows.natReckonsSpec.pre6 enc Try.prog Try.f4 Rows.natReckonsRow.domain false) (Rows.natReckonsSpec.post enc Try.prog Try.f4 false true false false) := by
  refine returnsInHanded_of_change (C := Try.checked) own started (by kernel_rfl) Try.func4
    (ChangeSpec.witness6 (enc := enc) (C := Try.checked) false ⟨#[], #[.slice none 0 0, .slice none 0 0], []⟩ 8 (by kernel_rfl) (by kernel_rfl) (by kernel_rfl) (by kernel_rfl)) ?_
  intro W base args ds gs before hval0 hW hcnd _
  have hval : ∀ (j : Nat) t v, Try.f4.params[j]? = some t → args[j]? = some v → Value.okWide Try.prog W .any base t v := hval0
  have hW' := hW
  obtain ⟨p, q, hA0, hV, rfl, hfz, hnd⟩ := hW
  have hA : DataW.TrodAll enc Try.prog W 0 (fun _ => true) true Try.f4.params.toList args.toList ds p := hA0
  rw [Try.params4] at hA hval
  obtain ⟨v0, vs0, d0, ds0, p0, q0, hargs, rfl, rfl, h0, r0⟩ := trodAll_cons hA
  obtain ⟨v1, vs1, d1, ds1, p1, q1, rfl, rfl, rfl, h1, r1⟩ := trodAll_cons r0
  obtain ⟨rfl, rfl, rfl⟩ := trodAll_nil r1
  obtain rfl : args = #[v0, v1] := by cases args; simp_all
  obtain ⟨rfl, rfl⟩ := trodVars_none hV
  obtain ⟨a0, len0, cap0, rfl⟩ := okWide_slice Try.underlying23 (hval 0 23 v0 rfl rfl)
  have k0 := h0
  have lt0 : ∀ x ∈ p0, x.block < W.heap.size := by obtain ⟨m, hm⟩ := k0; exact DataW.trod_lt m _ _ _ hm
  obtain ⟨z0, w0⟩ : ∃ zs, IsRow .u64 W a0 len0 cap0 zs := by
    obtain ⟨fuel, hf⟩ := h0
    rcases open_ints Try.underlying23 Try.underlying24 (by kernel_rfl) hf with ⟨hcs, _⟩ | ⟨x, l, c, zs, hcs, _, hl, hm, hz, _, hcell, hwz⟩
    · simp [Value.cells] at hcs
      obtain ⟨rfl, rfl, rfl⟩ := hcs
      exact ⟨[], .inl ⟨rfl, rfl, rfl, rfl⟩⟩
    · simp [Value.cells] at hcs
      obtain ⟨rfl, rfl, rfl⟩ := hcs
      exact ⟨zs, .inr ⟨_, rfl, hl, hm, by simpa using hz, hcell, hwz⟩⟩
  obtain ⟨a1, len1, cap1, rfl⟩ := okWide_slice Try.underlying23 (hval 1 23 v1 rfl rfl)
  have k1 := h1
  have lt1 : ∀ x ∈ p1, x.block < W.heap.size := by obtain ⟨m, hm⟩ := k1; exact DataW.trod_lt m _ _ _ hm
  obtain ⟨z1, w1⟩ : ∃ zs, IsRow .u64 W a1 len1 cap1 zs := by
    obtain ⟨fuel, hf⟩ := h1
    rcases open_ints Try.underlying23 Try.underlying24 (by kernel_rfl) hf with ⟨hcs, _⟩ | ⟨x, l, c, zs, hcs, _, hl, hm, hz, _, hcell, hwz⟩
    · simp [Value.cells] at hcs
      obtain ⟨rfl, rfl, rfl⟩ := hcs
      exact ⟨[], .inl ⟨rfl, rfl, rfl, rfl⟩⟩
    · simp [Value.cells] at hcs
      obtain ⟨rfl, rfl, rfl⟩ := hcs
      exact ⟨zs, .inr ⟨_, rfl, hl, hm, by simpa using hz, hcell, hwz⟩⟩
  clear hA0 hval0
  refine (walk a0 len0 cap0 z0 a1 len1 cap1 z1 W w0 w1).mono fun e W' ⟨he, bel⟩ => ?_
  subst he
  exact ⟨_, rfl, _, _, _, [], _, [], hW', trodAll_mk1 (shut_bool Try.underlying4 _), (trodAll_cons_mk (Below.trod laidOut (by kernel_rfl) (of_decide_eq_true (by kernel_rfl)) k0 bel lt0) (trodAll_cons_mk (Below.trod laidOut (by kernel_rfl) (of_decide_eq_true (by kernel_rfl)) k1 bel lt1) trodAll_mk0)), rfl, bel.frame _, fun h => by cases h⟩

theorem over : Rows.natReckonsRow.holds Try.pinned (OpenSpec.ofChange Rows.natReckonsSpec) :=
  OpenClaim.holds_of_wide 4 Try.f4 rfl rfl rfl rfl rfl rfl rfl ⟨rfl, rfl, rfl, rfl, rfl⟩ rfl rfl rfl rfl rfl (by kernel_rfl) Try.func4 (by kernel_rfl)
    (of_decide_eq_true (by kernel_rfl)) (by unfold Func.isWrapper; first | (rw [if_pos (by decide +kernel)]; kernel_rfl) | (rw [if_neg (by decide +kernel)]; exact ⟨rfl, rfl⟩))
    (fun os started H enc _ => lifted os started H enc)

/-- ████ THE STATEMENT ████ -/
theorem proved : Rows.NatReckonsSaid := over
#print axioms proved
end Go.Proofs.Ytglabefefedfoaa.natReckons
