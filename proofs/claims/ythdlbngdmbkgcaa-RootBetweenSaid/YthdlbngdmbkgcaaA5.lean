/-
  Several texts in one: RT1, RT2, RT3, RT4, RT, L3, VC.
-/
import Derived.Deep.LoopGhost
import Derived.Test.YthdlbngdmbkgcaaA3
import Derived.Test.YthdlbngdmbkgcaaA4
import Derived.Test.YthdlbngdmbkgcaaA1

/-
  The contracts of root's inner functions: isExponent, power, quotient, above.
-/
namespace Go.Proofs.Ythdlbngdmbkgcaa
open Go.RowKit

set_option maxHeartbeats 1000000 in
theorem isExp_yes (w : World) (k : Nat) (h1 : 1 ≤ k) (hk : k ≤ 16) : Calls Try.prog 24 #[.int .i64 (k : Int)] w fun e w' => e = .returned (.bool true) ∧ w = w' := by
  have d1 : decide (1 ≤ (k : Int)) = true := by simp; omega
  have d2 : decide ((k : Int) ≤ 16) = true := by simp; omega
  go_enter Try.func24, Try.ntmps24
  go_wp2
  go_ret
  exact ⟨rfl, rfl⟩
set_option maxHeartbeats 1000000 in
theorem isExp_no (w : World) (k : Int) (hk : k < 1 ∨ 16 < k) : Calls Try.prog 24 #[.int .i64 k] w fun e w' => e = .returned (.bool false) ∧ w = w' := by
  rcases hk with h | h
  · have d1 : decide (1 ≤ k) = false := by simp; omega
    go_enter Try.func24, Try.ntmps24
    go_wp2
    go_ret
    exact ⟨rfl, rfl⟩
  · have d1 : decide (1 ≤ k) = true := by simp; omega
    have d2 : decide (k ≤ 16) = false := by simp; omega
    go_enter Try.func24, Try.ntmps24
    go_wp2
    go_ret
    exact ⟨rfl, rfl⟩

set_option maxRecDepth 100000 in
set_option maxHeartbeats 2000000 in
theorem tpow_N {w : World} {A : Option Addr} {n c x k : Nat} (ha : Num w A n c x) (hx : (limbs x).length ≤ 1000) (hk : k ≤ 16) : Calls Try.prog 30 #[.slice A n c, .int .i64 (k : Int)] w (GotN w (x ^ k)) := by
  go_enter Try.func30, Try.ntmps30
  go_wp2_with fail
  refine (of_N w 1 B64_gt).mono ?_
  rintro e w1 ⟨A1, n1, c1, rfl, h1, b1⟩
  go_wp2_with fail
  go_loopw [5, 8] (fun ov iv wr => ∃ (j : Nat) (A' : Option Addr) (n' c' : Nat), j ≤ k ∧ iv = .int .i64 (j : Int) ∧ ov = .slice A' n' c' ∧ Num wr A' n' c' (x ^ j) ∧ Below w.heap.size w wr) (fun _ iv _ => k - (intOf iv).toNat)
  case atStart => exact ⟨0, A1, n1, c1, Nat.zero_le _, rfl, rfl, h1, b1⟩
  case round =>
    obtain ⟨j, A', n', c', hj, rfl, rfl, hN, hb⟩ := hrel
    have hl := limbs_length_pow hx j
    have ha' := ha.on hb
    by_cases hlt : j < k
    · have hl2 : (limbs (x ^ j)).length ≤ 1000000 := by omega
      clear hl
      go_wp2_with fail
      refine (mul_N hN ha' (by omega) (by omega)).mono ?_
      rintro e w2 ⟨A2, n2, c2, rfl, h2, b2⟩
      rw [← Nat.pow_succ] at h2
      go_wp2_with fail
      go_roundw
      case rel => exact ⟨j + 1, A2, n2, c2, by omega, by go_num, rfl, h2, hb.trans (b2.mono hb.size)⟩
      case measure => simp [intOf]; omega
    · obtain rfl : j = k := by omega
      clear hl
      go_wp2_with fail
      go_ret
      exact ⟨_, _, _, rfl, hN, hb⟩

set_option maxHeartbeats 1000000 in
theorem quot_N {w : World} {A B : Option Addr} {n c m d x y : Nat} (ha : Num w A n c x) (hb : Num w B m d y) (hx : (limbs x).length ≤ 300) (hy : (limbs y).length ≤ 300) (hy0 : y ≠ 0) : Calls Try.prog 39 #[.slice A n c, .slice B m d] w (GotN w (x / y)) := by
  go_enter Try.func39, Try.ntmps39
  go_wp2_with fail
  refine (ddiv_N ha hb hx hy hy0).mono ?_
  rintro e w1 ⟨A1, n1, c1, B1, m1, d1, rfl, h3, h4, b1⟩
  go_wp2_with fail
  go_ret
  exact ⟨_, _, _, rfl, h3, b1⟩

theorem wrap_one {r : Nat} (hr : r < 64) : IntKind.u64.wrap (2 ^ r) = (pw r : Int) := by
  have h1 := pw_lt hr
  rw [IntKind.wrap_u64]
  have e : ((2 : Int) ^ r) = ((pw r : Nat) : Int) := by unfold pw; simp
  rw [e]
  unfold B64 at h1
  omega

set_option maxRecDepth 100000 in
set_option maxHeartbeats 4000000 in
theorem above_N {w : World} {A : Option Addr} {n c x k : Nat} (ha : Num w A n c x) (hx : (limbs x).length ≤ 298) (h1 : 1 ≤ k) (hk : k ≤ 16) : Calls Try.prog 42 #[.slice A n c, .int .i64 (k : Int)] w (GotN w (2 ^ ((blen x + k - 1) / k))) := by
  obtain ⟨i0, hi, hz0, hz1, hz2⟩ := info_parts info24
  have hk0 : ¬ k = 0 := by omega
  obtain ⟨b, hb⟩ : ∃ b, blen x = b := ⟨_, rfl⟩
  have hb2 : b ≤ 19072 := by
    rw [← hb]
    exact blen_len hx
  obtain ⟨q, hq⟩ : ∃ q, q = (b + k - 1) / k := ⟨_, rfl⟩
  have hq2 : q ≤ 19200 := by rw [hq]; exact Nat.le_trans (Nat.div_le_self _ _) (by omega)
  obtain ⟨s, hs⟩ : ∃ s, s = q / 64 := ⟨_, rfl⟩
  obtain ⟨r, hr⟩ : ∃ r, r = q % 64 := ⟨_, rfl⟩
  have hr2 : r < 64 := by omega
  have hs2 : s ≤ 300 := by omega
  have hw' : ((b : Int) + (k : Int) - 1) / (k : Int) = (q : Int) := by
    rw [hq, Int.natCast_ediv]
    congr 1
    omega
  have hws' : (q : Int) / 64 = (s : Int) := by omega
  have hwr' : (q : Int) % 64 = (r : Int) := by omega
  have HONE := Lib.hid (wrap_one hr2)
  have hl : (List.replicate (s + 1) 0).set s (pw r) = limbs (2 ^ q) := by rw [hs, hr]; exact pw_limbs q
  rw [hb, ← hq]
  have HB := Lib.hid hb
  have HLL := Lib.hid hl
  clear hb hq hs hr hl
  go_enter Try.func42, Try.ntmps42
  go_wp2_with fail
  refine (bits_N ha (by omega)).mono ?_
  rintro e w1 ⟨rfl, b1⟩
  rw [HB.out]
  obtain ⟨t, ht⟩ : ∃ t, w1.heap.size = t := ⟨_, rfl⟩
  have HS := Lib.hid ht
  clear ht
  have hr3 : (0 : Int) ≤ (r : Int) := by omega
  have hr4 : (r : Int) ≤ 64 := by omega
  go_wp2_with (at_make; refine wpList_make_full _ rfl _ _ 23 rfl t 33 i0 (.int .u64 0) 1 Try.underlying23 hi hz0 hz1 .i64 .i64 _ _ (s + 1) rfl rfl (by omega) (by omega) (by rw [hz2]; omega) (by unfold maxLen; omega) (by rw [HS.out]; omega) ?_; intro w2 hown1 hgrow1; rw [made_zeros] at hown1; rw [HS.out] at hown1 ⊢; have hf := hown1.frozenAt s; have hc : w2.cell? ⟨t, s, none⟩ = some (.int .u64 0) := (by rw [hown1.cellAt s (by omega)]; simp [encD]); have hst := Lib.hid (hown1.stored s (.int .u64 (pw r : Int))); have HO := Lib.hid hown1; clear hown1)
  go_ret
  rw [HONE.out]
  have hrow := hst.out.1
  rw [show (Value.int IntKind.u64 (pw r : Int)) = encD (pw r) from rfl, ← List.map_set, HLL.out] at hrow
  refine ⟨_, _, _, rfl, Lim.of_own hrow (limbs_dig _), ?_⟩
  have hsz := HS.out
  exact b1.trans ((((Below.refl t w1).grown hgrow1 (by omega) (fun k h => by cases h)).grown hst.out.2 (by have := hgrow1.size; omega) (fun q e => by cases e; exact Nat.le_refl _)).mono (by have := b1.size; omega))

end Go.Proofs.Ythdlbngdmbkgcaa

/-
  The contracts of root's guesses: the closure, goDown, rootOf; and of Root, Up, Pow.
-/
namespace Go.Proofs.Ythdlbngdmbkgcaa
open Go.RowKit

theorem undrew3 {W w' : World} (hb : Below W.drew.heap.size W.drew w') : Below W.heap.size W w' := ⟨hb.os, hb.tape, hb.output, hb.size, hb.block⟩

set_option maxRecDepth 100000 in
set_option maxHeartbeats 4000000 in
theorem newt_N {w : World} {A X : Option Addr} {n c m d a x k ba bk : Nat} (hcA : w.cell? ⟨ba, 0, none⟩ = some (.slice A n c)) (hcK : w.cell? ⟨bk, 0, none⟩ = some (.int .i64 (k : Int))) (hba : ba < w.heap.size) (hbk : bk < w.heap.size) (ha : Num w A n c a) (hx : Num w X m d x) (la : (limbs a).length ≤ 299) (lx : (limbs x).length ≤ 299) (lp : (limbs (x ^ (k - 1))).length ≤ 300) (h1 : 1 ≤ k) (hk : k ≤ 16) (hx0 : x ≠ 0) (ls : (limbs (x * (k - 1) + a / x ^ (k - 1))).length ≤ 300) :
    Calls Try.prog 38 #[.slice X m d, .pointer (some ⟨ba, 0, none⟩), .pointer (some ⟨bk, 0, none⟩)] w (GotN w (newton a k x)) := by
  unfold newton
  obtain ⟨j, hj⟩ : ∃ j, k - 1 = j := ⟨_, rfl⟩
  rw [hj] at lp ls ⊢
  have hji : (k : Int) - 1 = (j : Int) := by omega
  have hjv : IntKind.i64.wrap (j : Int) = (j : Int) := IntWalk.i64_in _ (by omega)
  have hjw : IntKind.u64.wrap (j : Int) = (j : Int) := by rw [IntKind.wrap_u64]; omega
  have hkw : IntKind.u64.wrap (k : Int) = (k : Int) := by rw [IntKind.wrap_u64]; omega
  have hjk : j ≤ 16 := by omega
  have hp0 : x ^ j ≠ 0 := by have : 0 < x ^ j := Nat.pow_pos (by omega); omega
  have hk0 : k ≠ 0 := by omega
  have lq : (limbs (a / x ^ j)).length ≤ 300 := Nat.le_trans (limbs_length_mono (Nat.div_le_self _ _)) (by omega)
  have lk : (limbs k).length ≤ 1 := limbs_length_le (by rw [Nat.pow_one]; unfold B64; omega)
  have ljj : (limbs j).length ≤ 1 := limbs_length_le (by rw [Nat.pow_one]; unfold B64; omega)
  have lxj : (limbs (x * j)).length ≤ 300 := limbs_length_mul lx ljj
  have hkB : k < B64 := by unfold B64; omega
  have hjB : j < B64 := by unfold B64; omega
  have hD := below_drewN (Below.refl w.heap.size w) 1
  have haD : Num w.drew A n c a := ha.on hD
  have hxD : Num w.drew X m d x := hx.on hD
  clear hj hD
  go_enter Try.func38, Try.ntmps38
  go_wp2_with fail
  go_region_held3 (fun w' => w'.cell? ⟨ba, 0, none⟩ = some (.slice A n c) ∧ w'.cell? ⟨bk, 0, none⟩ = some (.int .i64 (k : Int)))
    (first | go_keep | exact ⟨(qq.cell (p := ⟨ba, 0, none⟩) hba).trans hcA, (qq.cell (p := ⟨bk, 0, none⟩) hbk).trans hcK⟩)
    (first
      | (go_at_call 30; (with_reducible refine (tpow_N hxD (by omega) hjk).mono ?_); rintro e v1 ⟨A1, n1, c1, rfl, h3, q1⟩; have qq := undrew3 q1; replace haD := haD.on q1; clear q1)
      | (go_at_call 39; (with_reducible refine (quot_N haD h3 (by omega) lp hp0).mono ?_); rintro e v2 ⟨A2, n2, c2, rfl, h4, q2⟩; replace qq := qq.trans (q2.mono qq.size); clear q2))
  have hxV := hx.on qq
  have f2 := (qq.cell (p := ⟨bk, 0, none⟩) hbk).trans hcK
  have hbk2 := Nat.lt_of_lt_of_le hbk qq.size
  clear haD hxD h3
  go_wp2_with fail
  refine (of_N _ j hjB).mono ?_
  rintro e v3 ⟨A3, n3, c3, rfl, h5, q3⟩
  replace hxV := hxV.on q3
  replace h4 := h4.on q3
  replace f2 := (q3.cell (p := ⟨bk, 0, none⟩) hbk2).trans f2
  replace hbk2 := Nat.lt_of_lt_of_le hbk2 q3.size
  replace qq := qq.trans (q3.mono qq.size)
  clear q3
  go_wp2_with fail
  refine (mul_N hxV h5 (by omega) (by omega)).mono ?_
  rintro e v4 ⟨A4, n4, c4, rfl, h6, q4⟩
  replace h4 := h4.on q4
  replace f2 := (q4.cell (p := ⟨bk, 0, none⟩) hbk2).trans f2
  replace hbk2 := Nat.lt_of_lt_of_le hbk2 q4.size
  replace qq := qq.trans (q4.mono qq.size)
  clear q4 h5
  go_wp2_with fail
  refine (add_N h6 h4 (by omega) (by omega)).mono ?_
  rintro e v5 ⟨A5, n5, c5, rfl, h7, q5⟩
  replace f2 := (q5.cell (p := ⟨bk, 0, none⟩) hbk2).trans f2
  replace hbk2 := Nat.lt_of_lt_of_le hbk2 q5.size
  replace qq := qq.trans (q5.mono qq.size)
  clear q5 h6 h4
  go_wp2_with fail
  refine (of_N _ k hkB).mono ?_
  rintro e v6 ⟨A6, n6, c6, rfl, h8, q6⟩
  replace h7 := h7.on q6
  replace qq := qq.trans (q6.mono qq.size)
  clear q6
  go_wp2_with fail
  refine (quot_N h7 h8 ls (by omega) hk0).mono ?_
  rintro e v7 ⟨A7, n7, c7, rfl, h9, q7⟩
  go_wp2_with fail
  go_ret
  exact ⟨_, _, _, rfl, h9, qq.trans (q7.mono qq.size)⟩

end Go.Proofs.Ythdlbngdmbkgcaa

/-
  The contracts of root's guesses that go down, and of rootOf.
-/
namespace Go.Proofs.Ythdlbngdmbkgcaa
open Go.RowKit

theorem sum_len {a x k : Nat} (la : (limbs a).length ≤ 100) (lx : (limbs x).length ≤ 110) (hk : k ≤ 16) (p : Nat) : (limbs (x * (k - 1) + a / p)).length ≤ 300 := by
  have h1 : (limbs (k - 1)).length ≤ 1 := limbs_length_le (by rw [Nat.pow_one]; unfold B64; omega)
  have h2 := limbs_length_mul lx h1
  have h3 : (limbs (a / p)).length ≤ 111 := Nat.le_trans (limbs_length_mono (Nat.div_le_self _ _)) (by omega)
  have h4 := limbs_length_add (k := 111) h2 h3
  omega

theorem iroot_ne {k a : Nat} (h1 : 1 ≤ k) (ha : a ≠ 0) : iroot k a ≠ 0 := by
  have := (le_iroot (k := k) (x := a) (r := 1) (by omega)).2 (by rw [Nat.one_pow]; omega)
  omega

set_option maxRecDepth 100000 in
set_option maxHeartbeats 4000000 in
theorem down_N {w : World} {A X : Option Addr} {n c m d a x0 k ba bk : Nat} (hcA : w.cell? ⟨ba, 0, none⟩ = some (.slice A n c)) (hcK : w.cell? ⟨bk, 0, none⟩ = some (.int .i64 (k : Int))) (hba : ba < w.heap.size) (hbk : bk < w.heap.size) (ha : Num w A n c a) (hx : Num w X m d x0) (la : (limbs a).length ≤ 100) (lx : (limbs x0).length ≤ 110) (lp : (limbs (x0 ^ (k - 1))).length ≤ 300) (h1 : 1 ≤ k) (hk : k ≤ 16) (ha0 : a ≠ 0) (hx0 : iroot k a ≤ x0) :
    Calls Try.prog 41 #[.slice X m d, .func (.func 38) #[] #[.pointer (some ⟨ba, 0, none⟩), .pointer (some ⟨bk, 0, none⟩)]] w (GotN w (iroot k a)) := by
  have hr0 := iroot_ne h1 ha0
  have hk0 : k ≠ 0 := by omega
  go_enter Try.func41, Try.ntmps41
  go_wp2_with fail
  go_loopg [0] x0 (fun g v wr => ∃ (X' : Option Addr) (m' d' : Nat), v = .slice X' m' d' ∧ Num wr X' m' d' g ∧ iroot k a ≤ g ∧ g ≤ x0 ∧ Below w.heap.size w wr)
  case atStart => exact ⟨X, m, d, rfl, hx, hx0, Nat.le_refl _, Below.refl _ _⟩
  case round =>
    obtain ⟨X', m', d', rfl, hN, hge, hle, hB⟩ := hrel
    have hg0 : gk ≠ 0 := by omega
    have lg : (limbs gk).length ≤ 110 := Nat.le_trans (limbs_length_mono hle) lx
    have lgp : (limbs (gk ^ (k - 1))).length ≤ 300 := Nat.le_trans (limbs_length_mono (pow_le _ hle)) lp
    have hn1 := newton_ge h1 (iroot_pow a hk0) hg0
    have lnn : (limbs (newton a k gk)).length ≤ 400 := by
      unfold newton
      exact Nat.le_trans (limbs_length_mono (Nat.div_le_self _ _)) (Nat.le_trans (sum_len la lg hk _) (by omega))
    have hcall := Lib.hid (newt_N ((hB.cell (p := ⟨ba, 0, none⟩) hba).trans hcA) ((hB.cell (p := ⟨bk, 0, none⟩) hbk).trans hcK) (Nat.lt_of_lt_of_le hba hB.size) (Nat.lt_of_lt_of_le hbk hB.size) (ha.on hB) hN (by omega) (by omega) lgp h1 hk hg0 (sum_len la lg hk _))
    clear lgp
    rcases Nat.lt_or_ge a (gk ^ k) with hlt | hge2
    · have hl2 := newton_lt h1 hg0 hlt
      obtain ⟨y, hy⟩ : ∃ y, newton a k gk = y := ⟨_, rfl⟩
      rw [hy] at hcall hn1 hl2 lnn
      clear hy hlt
      go_wp2_with fail
      refine hcall.out.mono ?_
      rintro e w1 ⟨A1, n1, c1, rfl, h3, b1⟩
      have hN1 := hN.on b1
      go_wp2_with fail
      refine (cmp_N h3 hN1 (by omega) (by omega)).mono ?_
      rintro e w2 ⟨rfl, b2⟩
      rw [cmpN_lt hl2]
      go_wp2_with fail
      go_roundg y
      case rel => exact ⟨_, _, _, rfl, h3.on b2, hn1, by omega, hB.trans ((b1.trans (b2.mono b1.size)).mono hB.size)⟩
      case measure => exact hl2
    · have hl2 := newton_end h1 hg0 hge2
      have he : iroot k a = gk := by have := (le_iroot hk0).2 hge2; omega
      rw [he]
      have hz : cmpN (newton a k gk) gk = 0 ∨ cmpN (newton a k gk) gk = 1 := by
        rcases Nat.lt_or_ge gk (newton a k gk) with h | h
        · exact .inr (cmpN_gt h)
        · exact .inl (cmpN_zero.2 (by omega))
      obtain ⟨y, hy⟩ : ∃ y, newton a k gk = y := ⟨_, rfl⟩
      rw [hy] at hcall hn1 hl2 lnn hz
      obtain ⟨z, hzz⟩ : ∃ z, cmpN y gk = z := ⟨_, rfl⟩
      rw [hzz] at hz
      have HZ := Lib.hid hzz
      have HC := Lib.hid hz
      clear hy hge2 he hz hzz
      go_wp2_with fail
      refine hcall.out.mono ?_
      rintro e w1 ⟨A1, n1, c1, rfl, h3, b1⟩
      have hN1 := hN.on b1
      go_wp2_with fail
      refine (cmp_N h3 hN1 (by omega) (by omega)).mono ?_
      rintro e w2 ⟨rfl, b2⟩
      rw [HZ.out]
      rcases HC.out with rfl | rfl
      all_goals
        go_wp2_with fail
        go_ret
        exact ⟨_, _, _, rfl, hN1.on b2, hB.trans ((b1.trans (b2.mono b1.size)).mono hB.size)⟩

end Go.Proofs.Ythdlbngdmbkgcaa

/-
  The contract of rootOf.
-/
namespace Go.Proofs.Ythdlbngdmbkgcaa
open Go.RowKit

theorem iroot_zero {k : Nat} (hk : k ≠ 0) : iroot k 0 = 0 := iroot_eq hk (by rw [Nat.zero_pow (by omega)]; omega) (by rw [Nat.zero_add, Nat.one_pow]; omega)

theorem Num.set_other {w : World} {A : Option Addr} {n c x : Nat} {p : Addr} {u v : Value} (h : Num w A n c x) (hp : w.cell? p = some u) (hu : ∀ k i, u ≠ .int k i) : Num (w.setCell p v) A n c x := by
  refine ⟨h.1, h.2.1, h.2.2.1, fun h0 => ?_⟩
  obtain ⟨b, off, e, hb, hc⟩ := h.2.2.2 h0
  refine ⟨b, off, e, by simpa using hb, fun j hj => ?_⟩
  have hne : p ≠ ⟨b, off + j, none⟩ := fun e2 => by
    have h2 := hc j hj
    rw [← e2, hp] at h2
    injection h2 with h3
    exact hu _ _ h3
  rw [World.cell?_setCell_other (h := hne)]
  exact hc j hj

set_option maxRecDepth 100000 in
set_option maxHeartbeats 4000000 in
theorem rootof_N {w : World} {A : Option Addr} {n c x k : Nat} (ha : Num w A n c x) (hx : (limbs x).length ≤ 100) (h1 : 1 ≤ k) (hk : k ≤ 16) : Calls Try.prog 25 #[.slice A n c, .int .i64 (k : Int)] w (GotN w (iroot k x)) := by
  have hk0 : k ≠ 0 := by omega
  obtain ⟨W, hW⟩ : ∃ W, (w.alloc (.cells #[.slice A n c] 23)).alloc (.cells #[.int .i64 (k : Int)] 3) = W := ⟨_, rfl⟩
  obtain ⟨t, ht⟩ : ∃ t, w.heap.size = t := ⟨_, rfl⟩
  have hBW : Below t w W := by
    rw [← hW, ← ht]
    exact ((Below.refl _ w).alloc (Nat.le_refl _) _).alloc (by simp) _
  have hS : W.heap.size = t + 2 := by rw [← hW, ← ht]; simp
  have c1 : W.cell? ⟨t, 0, none⟩ = some (.slice A n c) := by rw [← hW, ← ht]; simp [go_sem]
  have c2 : W.cell? ⟨t + 1, 0, none⟩ = some (.int .i64 (k : Int)) := by rw [← hW, ← ht]; simp [go_sem]
  have f1 : W.frozen? ⟨t, 0, none⟩ = false := by rw [← hW, ← ht]; simp [go_sem]
  have haW := ha.on (by rw [ht]; exact hBW)
  have hshr0 : Calls Try.prog 37 #[.slice A n c, .int .i64 0] W (GotP W (x / 2 ^ 0) 0) := dshr_N (k := 0) haW (by omega) (by omega)
  have hshr := Lib.hid hshr0
  have HT := Lib.hid ht
  have HS := Lib.hid hS
  unfold GotN
  go_enter Try.func25, Try.ntmps25
  clear hS hshr0
  go_wp2_with fail
  clear hW ht
  refine hshr.out.mono ?_
  rintro e w1 ⟨A1, n1, m1, rfl, h3, b1⟩
  rw [Nat.pow_zero, Nat.div_one] at h3
  have d1 := (b1.cell (p := ⟨t, 0, none⟩) (by show t < _; rw [HS.out]; omega)).trans c1
  have d2 := (b1.cell (p := ⟨t + 1, 0, none⟩) (by show t + 1 < _; rw [HS.out]; omega)).trans c2
  have g1 := (b1.frozen (p := ⟨t, 0, none⟩) (by show t < _; rw [HS.out]; omega)).trans f1
  have hs1 : t + 2 ≤ w1.heap.size := by have := b1.size; rw [HS.out] at this; exact this
  have hB1 : Below t w w1 := hBW.trans (b1.mono (by rw [HS.out]; omega))
  clear c1 c2 f1 hBW b1 hshr haW
  have hl3 := h3.len
  by_cases hx0 : x = 0
  · subst hx0
    rw [limbs_zero] at hl3
    simp at hl3
    subst hl3
    go_wp2_with fail
    go_ret
    exact ⟨none, 0, 0, rfl, by rw [iroot_zero hk0]; exact num_none _ _ _, by rw [HT.out]; exact hB1.setCell (Nat.le_refl _) _⟩
  · have hn0 : ((n1 : Int) == 0) = false := by have := limbs_ne_nil hx0; simp; omega
    obtain ⟨w2, hw2⟩ : ∃ w2, w1.setCell ⟨t, 0, none⟩ (.slice A1 n1 m1) = w2 := ⟨_, rfl⟩
    have h3' : Num w2 A1 n1 m1 x := by rw [← hw2]; exact h3.set_other d1 (fun _ _ e => by cases e)
    have e1 : w2.cell? ⟨t, 0, none⟩ = some (.slice A1 n1 m1) := by rw [← hw2]; exact World.cell?_setCell_same _ _ _ d1
    have e2 : w2.cell? ⟨t + 1, 0, none⟩ = some (.int .i64 (k : Int)) := by rw [← hw2, World.cell?_setCell_other (h := fun e => by injection e with e3; omega)]; exact d2
    have hs2 : t + 2 ≤ w2.heap.size := by rw [← hw2]; simp; exact hs1
    have hB2 : Below t w w2 := by rw [← hw2]; exact hB1.setCell (Nat.le_refl _) _
    obtain ⟨q, hq⟩ : ∃ q, (blen x + k - 1) / k = q := ⟨_, rfl⟩
    have hbl := blen_len hx
    have hqk : q * k ≤ 6400 + 15 := by rw [← hq]; exact above_bits h1 hk (by omega)
    have hq1 : q ≤ 6415 := Nat.le_trans (Nat.le_mul_of_pos_right q (by omega)) hqk
    have hqp : q * (k - 1) ≤ 6415 := Nat.le_trans (Nat.mul_le_mul_left q (by omega)) hqk
    have lq : (limbs (2 ^ q)).length ≤ 110 := Nat.le_trans (limbs_two_pow (m := 110) (by omega)) (Nat.le_refl _)
    have lp : (limbs ((2 ^ q) ^ (k - 1))).length ≤ 300 := by rw [← Nat.pow_mul]; exact limbs_two_pow (m := 300) (by omega)
    have hge : iroot k x ≤ 2 ^ q := by
      rcases Nat.lt_or_ge (2 ^ q) (iroot k x) with h | h
      · have h5 := above_root (a := x) h1 (lt_blen x)
        rw [hq] at h5
        have h6 := pow_lt hk0 h
        have h7 := iroot_pow x hk0
        omega
      · exact h
    have hab : Calls Try.prog 42 #[.slice A1 n1 m1, .int .i64 (k : Int)] w2 (GotN w2 (2 ^ q)) := by rw [← hq]; exact above_N h3' (by omega) h1 hk
    have HAB := Lib.hid hab
    have HQ := Lib.hid hq
    clear hl3 hq h3 d2 hbl hqk hqp hab
    go_wp2_with fail
    clear d1
    refine HAB.out.mono ?_
    rintro e w3 ⟨A3, n3, c3, rfl, h4, b3⟩
    have hd := down_N ((b3.cell (p := ⟨t, 0, none⟩) (by show t < _; omega)).trans e1) ((b3.cell (p := ⟨t + 1, 0, none⟩) (by show t + 1 < _; omega)).trans e2) (Nat.lt_of_lt_of_le (show t < _ by omega) b3.size) (Nat.lt_of_lt_of_le (show t + 1 < _ by omega) b3.size) (h3'.on b3) h4 hx lq lp h1 hk hx0 hge
    have HD := Lib.hid hd
    have hB3 := hB2.trans (b3.mono (by omega))
    clear hd e1 e2 hw2
    go_wp2_with fail
    refine HD.out.mono ?_
    rintro e w4 ⟨A4, n4, c4, rfl, h5, b4⟩
    go_wp2_with fail
    go_ret
    exact ⟨_, _, _, rfl, h5, by rw [HT.out]; exact hB3.trans (b4.mono (by have := b3.size; omega))⟩

end Go.Proofs.Ythdlbngdmbkgcaa

/-
  The contracts of package root in one style, over numbers.
-/
namespace Go.Proofs.Ythdlbngdmbkgcaa
open Go.RowKit

set_option maxHeartbeats 1000000 in
theorem root_N {w : World} {A : Option Addr} {n c x k : Nat} (ha : Num w A n c x) (hx : (limbs x).length ≤ 100) (h1 : 1 ≤ k) (hk : k ≤ 16) : Calls Try.prog 11 #[.slice A n c, .int .i64 (k : Int)] w (GotP w (iroot k x) 0) := by
  go_enter Try.func11, Try.ntmps11
  go_wp2_with fail
  refine (isExp_yes _ k h1 hk).mono ?_
  rintro e w' ⟨rfl, rfl⟩
  go_wp2_with fail
  refine (rootof_N ha hx h1 hk).mono ?_
  rintro e w1 ⟨A1, n1, c1, rfl, hr, b1⟩
  go_wp2_with fail
  go_ret2
  exact ⟨_, _, _, rfl, hr, b1⟩
set_option maxHeartbeats 1000000 in
theorem root_no (w : World) (A : Option Addr) (n c : Nat) (k : Int) (hk : k < 1 ∨ 16 < k) : Calls Try.prog 11 #[.slice A n c, .int .i64 k] w (GotV w (.tuple #[.slice none 0 0, .int .i64 1])) := by
  have HK := Lib.hid hk
  clear hk
  go_enter Try.func11, Try.ntmps11
  go_wp2_with fail
  refine (isExp_no _ k HK.out).mono ?_
  rintro e w' ⟨rfl, rfl⟩
  go_wp2_with fail
  go_ret2
  exact ⟨rfl, Below.refl _ _⟩

theorem uroot_lt {k x : Nat} (h : iroot k x ^ k ≠ x) : uroot k x = iroot k x + 1 := by unfold uroot; rw [if_neg h]
theorem uroot_eq {k x : Nat} (h : iroot k x ^ k = x) : uroot k x = iroot k x := by unfold uroot; rw [if_pos h]

set_option maxHeartbeats 2000000 in
theorem up_N {w : World} {A : Option Addr} {n c x k : Nat} (ha : Num w A n c x) (hx : (limbs x).length ≤ 100) (h1 : 1 ≤ k) (hk : k ≤ 16) : Calls Try.prog 13 #[.slice A n c, .int .i64 (k : Int)] w (GotP w (uroot k x) 0) := by
  have hk0 : k ≠ 0 := by omega
  have hpw := iroot_pow x hk0
  have hrl : (limbs (iroot k x)).length ≤ 100 := Nat.le_trans (limbs_length_mono (iroot_le x hk0)) hx
  have hpl : (limbs (iroot k x ^ k)).length ≤ 100 := Nat.le_trans (limbs_length_mono hpw) hx
  by_cases he : iroot k x ^ k = x
  · have hz : cmpN (iroot k x ^ k) x = 0 := cmpN_zero.2 he
    have HU := Lib.hid (uroot_eq he)
    have HZ := Lib.hid hz
    clear he hz hpw
    go_enter Try.func13, Try.ntmps13
    go_wp2_with fail
    refine (isExp_yes _ k h1 hk).mono ?_
    rintro e w' ⟨rfl, rfl⟩
    go_wp2_with fail
    refine (rootof_N ha hx h1 hk).mono ?_
    rintro e w1 ⟨A1, n1, c1, rfl, hr, b1⟩
    have ha1 := ha.on b1
    go_wp2_with fail
    refine (tpow_N hr (by omega) hk).mono ?_
    rintro e w2 ⟨A2, n2, c2, rfl, hp, b2⟩
    have ha2 := ha1.on b2
    have hr2 := hr.on b2
    go_wp2_with fail
    refine (cmp_N hp ha2 (by omega) (by omega)).mono ?_
    rintro e w3 ⟨rfl, b3⟩
    rw [HZ.out]
    go_wp2_with fail
    go_ret2
    rw [HU.out]
    exact ⟨_, _, _, rfl, hr2.on b3, b1.trans ((b2.trans (b3.mono b2.size)).mono b1.size)⟩
  · have hz : cmpN (iroot k x ^ k) x = -1 := cmpN_lt (by omega)
    have HU := Lib.hid (uroot_lt he)
    have HZ := Lib.hid hz
    clear he hz hpw
    go_enter Try.func13, Try.ntmps13
    go_wp2_with fail
    refine (isExp_yes _ k h1 hk).mono ?_
    rintro e w' ⟨rfl, rfl⟩
    go_wp2_with fail
    refine (rootof_N ha hx h1 hk).mono ?_
    rintro e w1 ⟨A1, n1, c1, rfl, hr, b1⟩
    have ha1 := ha.on b1
    go_wp2_with fail
    refine (tpow_N hr (by omega) hk).mono ?_
    rintro e w2 ⟨A2, n2, c2, rfl, hp, b2⟩
    have ha2 := ha1.on b2
    have hr2 := hr.on b2
    go_wp2_with fail
    refine (cmp_N hp ha2 (by omega) (by omega)).mono ?_
    rintro e w3 ⟨rfl, b3⟩
    rw [HZ.out]
    have hr3 := hr2.on b3
    have b13 : Below w.heap.size w w3 := b1.trans ((b2.trans (b3.mono b2.size)).mono b1.size)
    go_wp2_with fail
    refine (of_N _ 1 B64_gt).mono ?_
    rintro e w4 ⟨A4, n4, c4, rfl, h4, b4⟩
    have hr4 := hr3.on b4
    go_wp2_with fail
    refine (add_N hr4 h4 (by omega) (by rw [limbs_one (by omega) B64_gt]; simp)).mono ?_
    rintro e w5 ⟨A5, n5, c5, rfl, h5, b5⟩
    go_wp2_with fail
    go_ret2
    rw [HU.out]
    exact ⟨_, _, _, rfl, h5, b13.trans ((b4.trans (b5.mono b4.size)).mono b13.size)⟩
set_option maxHeartbeats 1000000 in
theorem up_no (w : World) (A : Option Addr) (n c : Nat) (k : Int) (hk : k < 1 ∨ 16 < k) : Calls Try.prog 13 #[.slice A n c, .int .i64 k] w (GotV w (.tuple #[.slice none 0 0, .int .i64 1])) := by
  have HK := Lib.hid hk
  clear hk
  go_enter Try.func13, Try.ntmps13
  go_wp2_with fail
  refine (isExp_no _ k HK.out).mono ?_
  rintro e w' ⟨rfl, rfl⟩
  go_wp2_with fail
  go_ret2
  exact ⟨rfl, Below.refl _ _⟩
set_option maxHeartbeats 1000000 in
theorem pow_N {w : World} {A : Option Addr} {n c x k : Nat} (ha : Num w A n c x) (hx : (limbs x).length ≤ 100) (h1 : 1 ≤ k) (hk : k ≤ 16) : Calls Try.prog 15 #[.slice A n c, .int .i64 (k : Int)] w (GotP w (x ^ k) 0) := by
  go_enter Try.func15, Try.ntmps15
  go_wp2_with fail
  refine (isExp_yes _ k h1 hk).mono ?_
  rintro e w' ⟨rfl, rfl⟩
  go_wp2_with fail
  refine (tpow_N ha (by omega) hk).mono ?_
  rintro e w1 ⟨A1, n1, c1, rfl, hr, b1⟩
  go_wp2_with fail
  go_ret2
  exact ⟨_, _, _, rfl, hr, b1⟩
set_option maxHeartbeats 1000000 in
theorem pow_no (w : World) (A : Option Addr) (n c : Nat) (k : Int) (hk : k < 1 ∨ 16 < k) : Calls Try.prog 15 #[.slice A n c, .int .i64 k] w (GotV w (.tuple #[.slice none 0 0, .int .i64 1])) := by
  have HK := Lib.hid hk
  clear hk
  go_enter Try.func15, Try.ntmps15
  go_wp2_with fail
  refine (isExp_no _ k HK.out).mono ?_
  rintro e w' ⟨rfl, rfl⟩
  go_wp2_with fail
  go_ret2
  exact ⟨rfl, Below.refl _ _⟩

end Go.Proofs.Ythdlbngdmbkgcaa

/-
  What the laws of root lean on: 'given' and 'alive'.
-/
namespace Go.Proofs.Ythdlbngdmbkgcaa
open Go.RowKit

set_option maxHeartbeats 1000000 in
theorem given_N {A : Option Addr} {n c : Nat} {l : List Nat} {w : World} (most : Int) (r : Bool) (h : Lim w.heap.size w A n c l) (hn : n ≤ 9223372036854775807) (hr : (decide ((n : Int) ≤ most) && canon l) = r) :
    Calls Try.prog 9 #[.slice A n c, .int .i64 most] w fun e w' => e = .returned (.bool r) ∧ w = w' := by
  by_cases h1 : (n : Int) ≤ most
  · have hr2 : canon l = r := by rw [← hr]; simp [h1]
    clear hr
    go_enter Try.func9, Try.ntmps9
    go_wp2_with (go_at_call 18; refine (rright_any _ _ _ _ _ r _ h hn hr2).mono ?_; rintro e w' ⟨rfl, rfl⟩)
    go_ret
    exact ⟨rfl, rfl⟩
  · have hr2 : r = false := by rw [← hr]; simp [h1]
    subst hr2
    clear hr
    go_enter Try.func9, Try.ntmps9
    go_wp2_with fail
    go_ret
    exact ⟨rfl, rfl⟩

section
variable {w : World} {A : Option Addr} {n c : Nat}
theorem root_given (ha : Num w A n c 26) : Calls Try.prog 11 #[.slice A n c, .int .i64 3] w (GotP w 2 0) := by
  have h := root_N (k := 3) ha (Nat.le_trans (len_one (by unfold B64; omega)) (by omega)) (by omega) (by omega)
  rwa [iroot_eq (k := 3) (x := 26) (r := 2) (by omega) (by omega) (by omega)] at h
theorem up_given (ha : Num w A n c 26) : Calls Try.prog 13 #[.slice A n c, .int .i64 3] w (GotP w 3 0) := by
  have h := up_N (k := 3) ha (Nat.le_trans (len_one (by unfold B64; omega)) (by omega)) (by omega) (by omega)
  have e : uroot 3 26 = 3 := by unfold uroot; rw [iroot_eq (k := 3) (x := 26) (r := 2) (by omega) (by omega) (by omega)]; rfl
  rwa [e] at h
theorem pow_given (ha : Num w A n c 3) : Calls Try.prog 15 #[.slice A n c, .int .i64 3] w (GotP w 27 0) :=
  pow_N (k := 3) ha (Nat.le_trans (len_one (by unfold B64; omega)) (by omega)) (by omega) (by omega)
end

set_option maxRecDepth 100000 in
set_option maxHeartbeats 4000000 in
theorem alive_any (w : World) : Calls Try.prog 10 #[] w (GotV w (.bool true)) := by
  have t1 := Lib.hid fun w : World => new_first (x := 26) (v := 26) (by omega) (by unfold B64; omega) rfl w 33
  have t3 := Lib.hid fun w : World => new_first (x := 3) (v := 3) (by omega) (by unfold B64; omega) rfl w 33
  go_enter Try.func10, Try.ntmps10
  go_wp2_with fail
  refine (root_given (t1.out w)).mono ?_
  rintro e w1 ⟨A1, n1, c1, rfl, ha, b⟩
  have cc : Below w.heap.size w w1 := ((Below.refl _ w).alloc (Nat.le_refl _) _).trans (b.mono (by simp))
  clear b
  go_wp2_with fail
  refine (up_given (t1.out w1)).mono ?_
  rintro e w2 ⟨A2, n2, c2, rfl, hb, b⟩
  replace b : Below w1.heap.size w1 w2 := ((Below.refl _ w1).alloc (Nat.le_refl _) _).trans (b.mono (by simp))
  replace ha := ha.on b
  replace cc := cc.trans (b.mono cc.size)
  clear b
  go_wp2_with fail
  refine (pow_given (t3.out w2)).mono ?_
  rintro e w3 ⟨A3, n3, c3, rfl, hc, b⟩
  replace b : Below w2.heap.size w2 w3 := ((Below.refl _ w2).alloc (Nat.le_refl _) _).trans (b.mono (by simp))
  replace ha := ha.on b
  replace hb := hb.on b
  replace cc := cc.trans (b.mono cc.size)
  clear b
  go_wp2_with fail
  refine (root_no _ _ _ _ 0 (by omega)).mono ?_
  rintro e w4 ⟨rfl, b⟩
  replace b : Below w3.heap.size w3 w4 := ((Below.refl _ w3).alloc (Nat.le_refl _) _).trans (b.mono (by simp))
  replace ha := ha.on b
  replace hb := hb.on b
  replace hc := hc.on b
  replace cc := cc.trans (b.mono cc.size)
  clear b t1 t3
  obtain ⟨rfl, d1, o1, rfl, f1⟩ := ha.cell (by omega) (by unfold B64; omega)
  obtain ⟨rfl, d2, o2, rfl, f2⟩ := hb.cell (by omega) (by unfold B64; omega)
  obtain ⟨rfl, d3, o3, rfl, f3⟩ := hc.cell (by omega) (by unfold B64; omega)
  clear ha hb hc
  go_wp2_with fail
  go_ret
  exact ⟨rfl, cc⟩

end Go.Proofs.Ythdlbngdmbkgcaa

/-
  A small help.
-/
namespace Go.Proofs.Ythdlbngdmbkgcaa
open Go.RowKit
set_option linter.unusedVariables false

theorem cmpN_le {a b : Nat} (h : a ≤ b) : cmpN a b ≤ 0 := by
  rcases Nat.lt_or_ge a b with h1 | h1
  · rw [cmpN_lt h1]; omega
  · rw [cmpN_zero.2 (by omega)]; omega

end Go.Proofs.Ythdlbngdmbkgcaa
