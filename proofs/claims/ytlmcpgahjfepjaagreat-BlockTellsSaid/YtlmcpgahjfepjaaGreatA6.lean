/-
  Several texts in one: S5, S6, S7, S8, D, QR, QS, QT, MathY.
-/
import Derived.Test.YtlmcpgahjfepjaaGreatA5
import Derived.Deep.QuietTactic
import Derived.BigQuiet
import Derived.Deep.DeepCutAuto
import Derived.Deep.CutBlock
import Derived.WalkMore
import Derived.Test.YtlmcpgahjfepjaaGreatA4

/-
  The contract of the library's Div64, for a divisor whose top bit is set.
-/
namespace Go.Proofs.YtlmcpgahjfepjaaGreat
set_option maxRecDepth 100000
open Go.RowKit

theorem lead_zero {y : Nat} (w : World) (hy : y < B64) (ht : B64 ≤ 2 * y) : Calls Tryz.prog 134 #[.int .u64 (y : Int)] w fun e w' => e = .returned (.int .i64 0) ∧ w = w' := by
  have e : blen y = 64 := blen_eq (k := 63) (by rw [show (2 : Nat) ^ 63 = B64 / 2 from rfl]; omega) (by rw [← B64_two]; exact hy)
  refine (lead_any y w hy).mono ?_
  rintro e' w' ⟨rfl, rfl⟩
  rw [e]
  exact ⟨rfl, rfl⟩

theorem wrap_nat {n : Nat} (h : n < B64) : IntKind.u64.wrap (n : Int) = (n : Int) := by
  rw [IntKind.wrap_u64]
  unfold B64 at h
  omega
theorem wrap_mul {a b : Nat} (h : a * b < B64) : IntKind.u64.wrap ((a : Int) * (b : Int)) = ((a * b : Nat) : Int) := by
  rw [← wrap_nat h]
  simp
theorem wrap_fit {r d : Nat} (hr : r < H32) (hd : d < H32) : IntKind.u64.wrap (IntKind.u64.wrap (4294967296 * (r : Int)) + (d : Int)) = ((H32 * r + d : Nat) : Int) := by
  rw [IntKind.wrap_u64, IntKind.wrap_u64]
  unfold H32 at *
  omega
/-- What the library's loop asks, said in its own spelling. -/
theorem Half.ask {u y y1 y0 d q r m1 m2 : Nat} (h : Half u y y1 y0 d q r) (hb : tooBig q y0 r d) (hm1 : m1 = q * y0) (hm2 : m2 = H32 * r + d) :
    (4294967296 : Int) ≤ (q : Int) ∨ (¬ (4294967296 : Int) ≤ (q : Int) ∧ IntKind.u64.wrap ((q : Int) * (y0 : Int)) = (m1 : Int) ∧ m2 < m1) := by
  rcases Nat.lt_or_ge q H32 with h1 | h1
  · refine .inr ⟨by unfold H32 at h1; omega, ?_, ?_⟩
    · rw [hm1]
      refine wrap_mul ?_
      rw [← H32_sq]
      exact Nat.mul_lt_mul_of_lt_of_le h1 (Nat.le_of_lt h.h0) H32_pos
    · rcases hb with h2 | h2
      · omega
      · omega
  · exact .inl (by unfold H32 at h1; omega)
theorem Half.ask_no {u y y1 y0 d q r m1 m2 : Nat} (h : Half u y y1 y0 d q r) (hb : ¬ tooBig q y0 r d) (hm1 : m1 = q * y0) (hm2 : m2 = H32 * r + d) :
    ¬ (4294967296 : Int) ≤ (q : Int) ∧ IntKind.u64.wrap ((q : Int) * (y0 : Int)) = (m1 : Int) ∧ ¬ m2 < m1 := by
  unfold tooBig at hb
  have h1 : q < H32 := by
    rcases Nat.lt_or_ge q H32 with h1 | h1
    · exact h1
    · exact absurd (.inl h1) hb
  refine ⟨by unfold H32 at h1; omega, ?_, fun h2 => hb (.inr (by omega))⟩
  rw [hm1]
  refine wrap_mul ?_
  rw [← H32_sq]
  exact Nat.mul_lt_mul_of_lt_of_le h1 (Nat.le_of_lt h.h0) H32_pos

set_option maxRecDepth 100000 in
set_option maxHeartbeats 4000000 in
theorem div64_main (hi lo y : Nat) (w : World) (h0 : hi ≠ 0) (hhi : hi < y) (hlo : lo < B64) (hy : y < B64) (ht : B64 ≤ 2 * y) :
    Calls Tryz.prog 119 #[.int .u64 (hi : Int), .int .u64 (lo : Int), .int .u64 (y : Int)] w fun e w' => e = .returned (.tuple #[.int .u64 ((hi * B64 + lo) / y : Nat), .int .u64 ((hi * B64 + lo) % y : Nat)]) ∧ w = w' := by
  have hy0 : ((y : Int) == 0) = false := by have := B64_pos; simp; omega
  have hle : decide (y ≤ hi) = false := by simp; omega
  have hh0 : ((hi : Int) == 0) = false := by simp; omega
  obtain ⟨y1, hy1⟩ : ∃ y1, y1 = hiH y := ⟨_, rfl⟩
  obtain ⟨y0, hyl⟩ : ∃ y0, y0 = loH y := ⟨_, rfl⟩
  obtain ⟨l1, hl1⟩ : ∃ l1, l1 = hiH lo := ⟨_, rfl⟩
  obtain ⟨l0, hll⟩ : ∃ l0, l0 = loH lo := ⟨_, rfl⟩
  have a1 : IntKind.u64.wrap (y : Int) = (y : Int) := by rw [IntKind.wrap_u64]; unfold B64 at hy; omega
  have a2 : (y : Int) / 4294967296 = (y1 : Int) := by rw [hy1]; unfold hiH H32; omega
  have a3 : bits .and .u64 (y : Int) 4294967295 = (y0 : Int) := by rw [u64_and32, hyl]; unfold loH H32; omega
  have a4 : IntKind.u64.wrap (lo : Int) = (lo : Int) := by rw [IntKind.wrap_u64]; unfold B64 at hlo; omega
  have a5 : (lo : Int) / 4294967296 = (l1 : Int) := by rw [hl1]; unfold hiH H32; omega
  have a6 : bits .and .u64 (lo : Int) 4294967295 = (l0 : Int) := by rw [u64_and32, hll]; unfold loH H32; omega
  have a7 : IntKind.u64.wrap (hi : Int) = (hi : Int) := by rw [IntKind.wrap_u64]; unfold B64 at hy; omega
  have a8 : (lo : Int) / 18446744073709551616 = 0 := by unfold B64 at hlo; omega
  have a9 : bits .or .u64 (hi : Int) 0 = (hi : Int) := by
    have := or_shl hi (s := 0) (c := 0) (by omega) (by simp)
    have e : shlD hi 0 = hi := by unfold shlD; rw [Nat.pow_zero, Nat.mul_one, Nat.mod_eq_of_lt (by omega)]
    rw [e] at this
    simpa [a7] using this
  have hY := Half.start (u := hi) (y := y) (y1 := y1) (y0 := y0) (d := l1) (by rw [hy1, hyl]; unfold hiH loH; rw [Nat.mul_comm]; exact (Nat.div_add_mod y H32).symm) (by rw [hyl]; exact loH_lt y) (by rw [hy1]; exact hiH_lt hy)
    (by rw [hy1]; unfold hiH H32; unfold B64 at ht; omega) hhi (by rw [hl1]; exact hiH_lt hlo)
  have b1 : ¬ y1 = 0 := by have := hY.top; unfold H32 at this; omega
  have hr := Half.r_lt (u := hi) hY.top
  obtain ⟨q, hq⟩ : ∃ q, q = hi / y1 := ⟨_, rfl⟩
  obtain ⟨r, hr'⟩ : ∃ r, r = hi % y1 := ⟨_, rfl⟩
  rw [← hq, ← hr'] at hY
  rw [← hr'] at hr
  have a10 : IntKind.u64.wrap ((hi : Int) / (y1 : Int)) = (q : Int) := by
    rw [hq, IntKind.wrap_u64]
    have h1 : hi / y1 ≤ hi := Nat.div_le_self _ _
    have h2 : ((hi / y1 : Nat) : Int) = (hi : Int) / (y1 : Int) := by simp
    rw [← h2]
    unfold B64 at hy
    omega
  have a11 : IntKind.u64.wrap ((hi : Int) - IntKind.u64.wrap ((q : Int) * (y1 : Int))) = (r : Int) := by
    have h1 := hY.hq
    have h2 : ((q * y1 : Nat) : Int) = (q : Int) * (y1 : Int) := by simp
    rw [← h2, IntKind.wrap_u64, IntKind.wrap_u64]
    unfold B64 at hy
    omega
  have HQ := Lib.hid hq
  have HR := Lib.hid hr'
  have HY1 := Lib.hid hy1
  have HYL := Lib.hid hyl
  have HL1 := Lib.hid hl1
  have HLL := Lib.hid hll
  have HYY := Lib.hid hY
  clear hq hr' hy1 hyl hl1 hll hY
  go_enter Tryz.func119, Tryz.ntmps119
  go_upto_block 0 with (go_at_call 134; refine (lead_zero _ hy ht).mono ?_; rintro e w' ⟨rfl, rfl⟩)
  go_cut [15] (fun qv wx => ∃ q : Nat, qv = .int .u64 (q : Int) ∧ q < H32 ∧ Hid (q = (hi * H32 + l1) / y) ∧ w = wx)
  case first =>
    go_wp2_with fail
    go_loop [15, 16] (fun qv rv => ∃ q r : Nat, qv = .int .u64 (q : Int) ∧ rv = .int .u64 (r : Int) ∧ Half hi y y1 y0 l1 q r ∧ r < H32) (fun qv _ => (intOf qv).toNat)
    case atStart => exact ⟨q, r, rfl, rfl, HYY.out, by have := HYY.out.h1; omega⟩
    case round =>
      obtain ⟨q, r, rfl, rfl, hH, hr32⟩ := hrel
      have hq2 := hH.q_le
      have hd32 := hH.hd
      have hy32 := hH.h1
      obtain ⟨m1, hm1⟩ : ∃ m1, m1 = q * y0 := ⟨_, rfl⟩
      obtain ⟨m2, hm2⟩ : ∃ m2, m2 = H32 * r + l1 := ⟨_, rfl⟩
      have c4 : IntKind.u64.wrap (IntKind.u64.wrap (4294967296 * (r : Int)) + (l1 : Int)) = (m2 : Int) := by rw [hm2]; exact wrap_fit hr32 hd32
      by_cases hb : tooBig q y0 r l1
      · have hH' := hH.step hb
        have hpos := (hH.pos hb).2
        have hask := hH.ask hb hm1 hm2
        obtain ⟨q', hq'⟩ : ∃ q', q' = q - 1 := ⟨_, rfl⟩
        obtain ⟨r', hr'⟩ : ∃ r', r' = r + y1 := ⟨_, rfl⟩
        rw [← hq', ← hr'] at hH'
        have c1 : IntKind.u64.wrap ((q : Int) - 1) = (q' : Int) := by
          rw [IntKind.wrap_u64]; unfold H32 at hq2; omega
        have c2 : IntKind.u64.wrap ((r : Int) + (y1 : Int)) = (r' : Int) := by
          rw [IntKind.wrap_u64]; unfold H32 at hr32 hy32; omega
        have hlt : q' < q := by omega
        have HH := Lib.hid hH'
        clear hH' hH hb hm1 hm2 hq' hr' hpos hq2 hd32 hy32
        by_cases hx : H32 ≤ r'
        · have g2 : (4294967296 : Int) ≤ (r' : Int) := by unfold H32 at hx; omega
          have hfin := HH.out.fin (.inl hx)
          have HF := Lib.hid hfin
          clear hfin hx
          rcases hask with g1 | ⟨g1, c3, g3⟩
          all_goals
            go_wp2_with fail
            go_meet
            exact ⟨q', rfl, HF.out.2, Lib.hid HF.out.1, rfl⟩
        · have g2 : ¬ (4294967296 : Int) ≤ (r' : Int) := by unfold H32 at hx; omega
          have hr3 : r' < H32 := by omega
          clear hx
          rcases hask with g1 | ⟨g1, c3, g3⟩
          all_goals
            go_wp2_with fail
            go_round
            case rel => exact ⟨q', r', rfl, rfl, HH.out, hr3⟩
            case measure => simp [intOf]; omega
      · have hfin := hH.fin (.inr hb)
        obtain ⟨g1, c3, g3⟩ := hH.ask_no hb hm1 hm2
        have HF := Lib.hid hfin
        clear hfin hH hb hm1 hm2 hq2 hd32 hy32
        go_wp2_with fail
        go_meet
        exact ⟨q, rfl, HF.out.2, Lib.hid HF.out.1, rfl⟩
  case rest =>
    obtain ⟨q1, rfl, hq1, HQ1, rfl⟩ := hcut
    obtain ⟨u, hu⟩ : ∃ u, u = (hi * H32 + l1) % y := ⟨_, rfl⟩
    have hy0' : 0 < y := by omega
    have huy : u < y := by rw [hu]; exact Nat.mod_lt _ hy0'
    have d1 : IntKind.u64.wrap (IntKind.u64.wrap (IntKind.u64.wrap ((hi : Int) * 4294967296) + (l1 : Int)) - IntKind.u64.wrap ((q1 : Int) * (y : Int))) = (u : Int) := by
      have e : u + y * q1 = hi * H32 + l1 := by rw [hu, HQ1.out]; exact Nat.mod_add_div _ _
      have e2 : ((q1 : Int) * (y : Int)) = ((y * q1 : Nat) : Int) := by rw [Nat.mul_comm]; simp
      rw [e2, IntKind.wrap_u64, IntKind.wrap_u64, IntKind.wrap_u64, IntKind.wrap_u64]
      generalize y * q1 = z at *
      unfold H32 at e
      unfold B64 at hy
      omega
    have hY := Half.start (u := u) (d := l0) HYY.out.hy HYY.out.h0 HYY.out.h1 HYY.out.top huy (by rw [HLL.out]; exact loH_lt lo)
    have hr2 := Half.r_lt (u := u) hY.top
    obtain ⟨q2, hq2⟩ : ∃ q, q = u / y1 := ⟨_, rfl⟩
    obtain ⟨r2, hr2'⟩ : ∃ r, r = u % y1 := ⟨_, rfl⟩
    rw [← hq2, ← hr2'] at hY
    rw [← hr2'] at hr2
    have d2 : IntKind.u64.wrap ((u : Int) / (y1 : Int)) = (q2 : Int) := by
      rw [hq2, IntKind.wrap_u64]
      have h1 : u / y1 ≤ u := Nat.div_le_self _ _
      have h2 : ((u / y1 : Nat) : Int) = (u : Int) / (y1 : Int) := by simp
      rw [← h2]
      unfold B64 at hy
      omega
    have d3 : IntKind.u64.wrap ((u : Int) - IntKind.u64.wrap ((q2 : Int) * (y1 : Int))) = (r2 : Int) := by
      have h1 := hY.hq
      have h2 : ((q2 * y1 : Nat) : Int) = (q2 : Int) * (y1 : Int) := by simp
      rw [← h2, IntKind.wrap_u64, IntKind.wrap_u64]
      unfold B64 at hy
      omega
    have HU := Lib.hid hu
    have HZ := Lib.hid hY
    clear hu hY hq2 hr2'
    go_upto_block 2 with fail
    go_cut [18] (fun qv wx => ∃ q : Nat, qv = .int .u64 (q : Int) ∧ q < H32 ∧ Hid (q = (u * H32 + l0) / y) ∧ w = wx)
    case first =>
      go_wp2_with fail
      go_loop [18, 16] (fun qv rv => ∃ q r : Nat, qv = .int .u64 (q : Int) ∧ rv = .int .u64 (r : Int) ∧ Half u y y1 y0 l0 q r ∧ r < H32) (fun qv _ => (intOf qv).toNat)
      case atStart => exact ⟨q2, r2, rfl, rfl, HZ.out, by have := HZ.out.h1; omega⟩
      case round =>
        obtain ⟨q, r, rfl, rfl, hH, hr32⟩ := hrel
        have hq2 := hH.q_le
        have hd32 := hH.hd
        have hy32 := hH.h1
        obtain ⟨m1, hm1⟩ : ∃ m1, m1 = q * y0 := ⟨_, rfl⟩
        obtain ⟨m2, hm2⟩ : ∃ m2, m2 = H32 * r + l0 := ⟨_, rfl⟩
        have c4 : IntKind.u64.wrap (IntKind.u64.wrap (4294967296 * (r : Int)) + (l0 : Int)) = (m2 : Int) := by rw [hm2]; exact wrap_fit hr32 hd32
        by_cases hb : tooBig q y0 r l0
        · have hH' := hH.step hb
          have hpos := (hH.pos hb).2
          have hask := hH.ask hb hm1 hm2
          obtain ⟨q', hq'⟩ : ∃ q', q' = q - 1 := ⟨_, rfl⟩
          obtain ⟨r', hr'⟩ : ∃ r', r' = r + y1 := ⟨_, rfl⟩
          rw [← hq', ← hr'] at hH'
          have c1 : IntKind.u64.wrap ((q : Int) - 1) = (q' : Int) := by
            rw [IntKind.wrap_u64]; unfold H32 at hq2; omega
          have c2 : IntKind.u64.wrap ((r : Int) + (y1 : Int)) = (r' : Int) := by
            rw [IntKind.wrap_u64]; unfold H32 at hr32 hy32; omega
          have hlt : q' < q := by omega
          have HH := Lib.hid hH'
          clear hH' hH hb hm1 hm2 hq' hr' hpos hq2 hd32 hy32
          by_cases hx : H32 ≤ r'
          · have g2 : (4294967296 : Int) ≤ (r' : Int) := by unfold H32 at hx; omega
            have hfin := HH.out.fin (.inl hx)
            have HF := Lib.hid hfin
            clear hfin hx
            rcases hask with g1 | ⟨g1, c3, g3⟩
            all_goals
              go_wp2_with fail
              go_meet
              exact ⟨q', rfl, HF.out.2, Lib.hid HF.out.1, rfl⟩
          · have g2 : ¬ (4294967296 : Int) ≤ (r' : Int) := by unfold H32 at hx; omega
            have hr3 : r' < H32 := by omega
            clear hx
            rcases hask with g1 | ⟨g1, c3, g3⟩
            all_goals
              go_wp2_with fail
              go_round
              case rel => exact ⟨q', r', rfl, rfl, HH.out, hr3⟩
              case measure => simp [intOf]; omega
        · have hfin := hH.fin (.inr hb)
          obtain ⟨g1, c3, g3⟩ := hH.ask_no hb hm1 hm2
          have HF := Lib.hid hfin
          clear hfin hH hb hm1 hm2 hq2 hd32 hy32
          go_wp2_with fail
          go_meet
          exact ⟨q, rfl, HF.out.2, Lib.hid HF.out.1, rfl⟩
    case rest =>
      obtain ⟨q0, rfl, hq0, HQ0, rfl⟩ := hcut
      have hB := both_halves (hi := hi) (l1 := l1) (l0 := l0) hy0' HQ1.out HU.out HQ0.out
      have hlo2 : l1 * H32 + l0 = lo := by rw [HL1.out, HLL.out]; unfold hiH loH; rw [Nat.mul_comm]; exact Nat.div_add_mod lo H32
      rw [hlo2] at hB
      have e1 : IntKind.u64.wrap (IntKind.u64.wrap ((q1 : Int) * 4294967296) + (q0 : Int)) = ((q1 * H32 + q0 : Nat) : Int) := by
        rw [IntKind.wrap_u64, IntKind.wrap_u64]
        unfold H32 at hq1 hq0 ⊢
        omega
      have e2 : IntKind.u64.wrap (IntKind.u64.wrap (IntKind.u64.wrap ((u : Int) * 4294967296) + (l0 : Int)) - IntKind.u64.wrap ((q0 : Int) * (y : Int))) = (((u * H32 + l0) % y : Nat) : Int) := by
        have e : (u * H32 + l0) % y + y * q0 = u * H32 + l0 := by rw [HQ0.out]; exact Nat.mod_add_div _ _
        have hlt : (u * H32 + l0) % y < y := Nat.mod_lt _ hy0'
        have e2 : ((q0 : Int) * (y : Int)) = ((y * q0 : Nat) : Int) := by rw [Nat.mul_comm]; simp
        rw [e2, IntKind.wrap_u64, IntKind.wrap_u64, IntKind.wrap_u64, IntKind.wrap_u64]
        generalize y * q0 = z at *
        generalize (u * H32 + l0) % y = v at *
        unfold H32 at e
        unfold B64 at hy
        omega
      have HB := Lib.hid hB
      have E1 := Lib.hid e1
      have E2 := Lib.hid e2
      clear hB hlo2 e1 e2
      go_wp2_with fail
      go_ret2
      refine ⟨ret_two ?_ ?_, rfl⟩
      · rw [E1.out, HB.out.1]
      · rw [← HB.out.2, ← E2.out]

set_option maxHeartbeats 1000000 in
theorem div64_zero (lo y : Nat) (w : World) (hlo : lo < B64) (hy0 : 0 < y) :
    Calls Tryz.prog 119 #[.int .u64 0, .int .u64 (lo : Int), .int .u64 (y : Int)] w fun e w' => e = .returned (.tuple #[.int .u64 (lo / y : Nat), .int .u64 (lo % y : Nat)]) ∧ ∃ n, w' = w.drewN n := by
  have h1 : ((y : Int) == 0) = false := by simp; omega
  have h2 : ¬ (y : Int) ≤ 0 := by omega
  have h3 : ¬ y = 0 := by omega
  have h4 : IntKind.u64.wrap ((lo : Int) / (y : Int)) = ((lo / y : Nat) : Int) := by
    have h5 : lo / y ≤ lo := Nat.div_le_self _ _
    have h6 : ((lo / y : Nat) : Int) = (lo : Int) / (y : Int) := by simp
    rw [← h6]
    exact wrap_nat (by omega)
  have h5 : ((lo : Int)).tmod (y : Int) = ((lo % y : Nat) : Int) := by
    rw [Int.tmod_eq_emod_of_nonneg (by omega)]
    simp
  have H4 := Lib.hid h4
  have H5 := Lib.hid h5
  clear h4 h5
  go_enter Tryz.func119, Tryz.ntmps119
  go_wp2_with fail
  go_quiet (fail)
  go_wp2_with fail
  go_ret2
  exact ⟨ret_two H4.out H5.out, _, rfl⟩

theorem div64_any (hi lo y : Nat) (w : World) (hhi : hi < y) (hlo : lo < B64) (hy : y < B64) (ht : B64 ≤ 2 * y) :
    Calls Tryz.prog 119 #[.int .u64 (hi : Int), .int .u64 (lo : Int), .int .u64 (y : Int)] w fun e w' => e = .returned (.tuple #[.int .u64 ((hi * B64 + lo) / y : Nat), .int .u64 ((hi * B64 + lo) % y : Nat)]) ∧ ∃ n, w' = w.drewN n := by
  by_cases h0 : hi = 0
  · subst h0
    rw [Nat.zero_mul, Nat.zero_add]
    exact div64_zero lo y w hlo hhi
  · refine (div64_main hi lo y w h0 hhi hlo hy ht).mono ?_
    rintro e w' ⟨rfl, rfl⟩
    exact ⟨rfl, 0, rfl⟩
end Go.Proofs.YtlmcpgahjfepjaaGreat

/-
  The contract of div's guess.
-/
namespace Go.Proofs.YtlmcpgahjfepjaaGreat
open Go.RowKit

/-- What a guess sees of two rows of digits. -/
theorem seen_rows {Rl Dl : List Nat} {k v2 : Nat} (hR : Dig Rl) (hD : Dig Dl) (lR : Rl.length = k + 2) (lD : Dl.length = k + 1) (top : B64 ≤ 2 * Dl[k]?.getD 0) (hv2 : v2 = if k = 0 then 0 else Dl[k - 1]?.getD 0) :
    Seen (val Rl) (val Dl) (B64 ^ k) (Rl[k + 1]?.getD 0 * B64 + Rl[k]?.getD 0) (Dl[k]?.getD 0) v2 (val (Dl.take k)) (val (Rl.take k)) := by
  have e1 : val Dl = val (Dl.take k) + B64 ^ k * Dl[k]?.getD 0 := by rw [← val_take_succ, List.take_of_length_le (by omega)]
  have e2 : val Rl = val (Rl.take k) + B64 ^ k * Rl[k]?.getD 0 + B64 ^ (k + 1) * Rl[k + 1]?.getD 0 := by rw [← val_take_succ, ← val_take_succ, List.take_of_length_le (by omega)]
  have l1 : val (Dl.take k) < B64 ^ k := by have := val_lt (hD.take k); rw [List.length_take, Nat.min_eq_left (by omega)] at this; exact this
  have l2 : val (Rl.take k) < B64 ^ k := by have := val_lt (hR.take k); rw [List.length_take, Nat.min_eq_left (by omega)] at this; exact this
  have hv : v2 * B64 ^ k ≤ B64 * val (Dl.take k) ∧ B64 * val (Dl.take k) < (v2 + 1) * B64 ^ k ∧ v2 < B64 := by
    cases k with
    | zero => rw [hv2]; simp [val_nil, B64_pos]
    | succ j =>
      rw [if_neg (by omega), Nat.add_sub_cancel] at hv2
      have l3 : val (Dl.take j) < B64 ^ j := by have := val_lt (hD.take j); rw [List.length_take, Nat.min_eq_left (by omega)] at this; exact this
      rw [val_take_succ, ← hv2, Nat.pow_succ, Nat.mul_add, Nat.add_mul]
      have e3 : B64 * (B64 ^ j * v2) = v2 * (B64 ^ j * B64) := by ac_rfl
      have e4 : B64 * val (Dl.take j) < B64 ^ j * B64 := by rw [Nat.mul_comm]; exact Nat.mul_lt_mul_of_pos_right l3 B64_pos
      rw [e3]
      refine ⟨by omega, by omega, ?_⟩
      rw [hv2]; exact hD.get _
  refine ⟨by rw [e1, Nat.mul_comm]; omega, ?_, l1, l2, hv.1, hv.2.1, top, hD.get _, hv.2.2⟩
  rw [e2, Nat.add_mul, Nat.pow_succ]
  have e5 : Rl[k + 1]?.getD 0 * B64 * B64 ^ k = B64 ^ k * B64 * Rl[k + 1]?.getD 0 := by ac_rfl
  rw [e5, Nat.mul_comm (Rl[k]?.getD 0)]
  omega

theorem big_lit : (18446744073709551615 : Int) = ((B64 - 1 : Nat) : Int) := by unfold B64; omega

/-- A call has answered a guess. -/
def GotG (w : World) (R D : Nat) (e : Ending) (w' : World) : Prop := ∃ t : Nat, e = .returned (.int .u64 (t : Int)) ∧ Good R D t ∧ Below w.heap.size w w'

end Go.Proofs.YtlmcpgahjfepjaaGreat

/-
  The contracts of div's lessTimes, addBack and takeOff: a window of a row of digits is changed in place.
-/
namespace Go.Proofs.YtlmcpgahjfepjaaGreat
open Go.RowKit
/-- A slice of digits in another block than the one that is written is kept. -/
theorem Lim.apart {B : Nat} {w w' : World} {b o n c g : Nat} {l : List Nat} (h : Lim B w (some ⟨b, o, none⟩) n c l) (hg : w.grownBy w' (some g)) (hne : b ≠ g) (hB : B ≤ w.heap.size) : Lim B w' (some ⟨b, o, none⟩) n c l :=
  ⟨h.1, h.2.1, h.2.2.1, fun hn => by
    obtain ⟨b', o', e, hlt, hc⟩ := h.2.2.2 hn
    injection e with e
    injection e with e1 e2
    subst e1; subst e2
    exact ⟨b, o, rfl, hlt, fun j hj => (World.cell?_of_block (a := ⟨b, o + j, none⟩) (hg.block b (by omega) (by simp; omega))).trans (hc j hj)⟩⟩

theorem win_get {pre Q post : List Nat} {i k : Nat} (hi : pre.length = i) (hk : k < Q.length) : ((pre ++ (Q ++ post)).map encD)[i + k]? = some (.int .u64 ((Q[k]?.getD 0 : Nat) : Int)) := by
  rw [List.getElem?_map, List.getElem?_append_right (by omega), hi, Nat.add_sub_cancel_left, List.getElem?_append_left hk, List.getElem?_eq_getElem hk]
  rfl
theorem win_set {pre Q post : List Nat} {i k : Nat} (d : Nat) (hi : pre.length = i) (hk : k < Q.length) : ((pre ++ (Q ++ post)).map encD).set (i + k) (.int .u64 (d : Int)) = (pre ++ (Q.set k d ++ post)).map encD := by
  rw [show (Value.int IntKind.u64 (d : Int)) = encD d from rfl, ← List.map_set, List.set_append_right _ _ (by omega), hi, Nat.add_sub_cancel_left, List.set_append_left _ _ hk]

theorem wrap_owed {x y q c : Nat} (hx : x < B64) (hy : y < B64) (hc : c < B64) :
    IntKind.u64.wrap (IntKind.u64.wrap ((mulHi y x : Int) + (sumHi (mulLo y x) c 0 : Int)) + (subHi q (sumLo (mulLo y x) c 0) 0 : Int)) = (owed x y q c : Int) := by
  obtain ⟨h1, h2⟩ := owed_lt (q := q) hx hy hc
  unfold owed at h2 ⊢
  generalize mulHi y x = a at *
  generalize sumHi (mulLo y x) c 0 = b at *
  generalize subHi q (sumLo (mulLo y x) c 0) 0 = d at *
  simp only [IntKind.wrap_u64]
  unfold B64 at h1 h2
  omega

theorem lessD_eq (x y q c : Nat) : subLo q (sumLo (mulLo y x) c 0) 0 = lessD x y q c := rfl
theorem times_none {a p M h : Nat} (e : a = p + M * h) (hz : h = 0) : a = p := by
  subst hz
  rw [e, Nat.mul_zero, Nat.add_zero]
theorem times_once {a p M h : Nat} (e : a = p + M * h) (hz : h = 1) : a = p + M := by
  subst hz
  rw [e, Nat.mul_one]
/-- A row of the caller's, with a window. -/
def Win (w : World) (base g N cap : Nat) (pre Q post : List Nat) : Prop := w.ownsRow base 79 1 (.slice (some ⟨g, 0, none⟩) N cap) N ((pre ++ (Q ++ post)).map encD)

theorem wrap_sum (x c : Nat) : IntKind.u64.wrap ((x : Int) + (c : Int)) = ((sumLo x c 0 : Nat) : Int) := by
  rw [IntKind.wrap_u64, show (18446744073709551616 : Int) = (B64 : Int) from rfl]
  unfold sumLo
  simp

end Go.Proofs.YtlmcpgahjfepjaaGreat

/-
  The contract of div's takeOff, and the arithmetic of a round of the long division.
-/
namespace Go.Proofs.YtlmcpgahjfepjaaGreat
open Go.RowKit

theorem Win.lim {w : World} {base g N cap i cr n : Nat} {pre P post : List Nat} (h : Win w base g N cap pre P post) (hi : pre.length = i) (hP : Dig P) (lP : P.length = n) (hcr : n ≤ cr) : Lim w.heap.size w (some ⟨g, i, none⟩) n cr P := by
  refine ⟨lP.symm, hcr, hP, fun _ => ⟨g, i, rfl, (World.ownsRow.lt h g rfl).2, fun j hj => ?_⟩⟩
  have hlN : (pre ++ (P ++ post)).length = N := by have := h.1; simpa using this
  rw [World.ownsRow.cellAt h (i + j) (by simp at hlN; omega), win_get hi (by omega)]

theorem grown_of_below {w w' : World} {row : Option Nat} (h : Below w.heap.size w w') : w.grownBy w' row := ⟨h.os, h.tape, h.output, h.size, fun k hk _ => h.block k hk⟩

theorem pred_wrap {t : Nat} (h0 : t ≠ 0) (ht : t < B64) : IntKind.u64.wrap ((t : Int) - 1) = ((t - 1 : Nat) : Int) := by
  rw [IntKind.wrap_u64]
  unfold B64 at ht
  omega

theorem ret_u64 {a b : Int} (h : a = b) : Ending.returned (.int .u64 a) = .returned (.int .u64 b) := by rw [h]

/-- A round of the division: what the window holds, and what becomes of the row. -/
theorem long_step {Rl : List Nat} {t k D : Nat} (hR : Dig Rl) (hD : D < B64 ^ (k + 1)) (hD0 : 0 < D) (hl : t + (k + 2) ≤ Rl.length) (hlt : val Rl < D * B64 ^ (t + 1)) :
    val ((Rl.drop t).take (k + 2)) < B64 * D ∧ ∀ Q : List Nat, Q.length = k + 2 → val Q = val ((Rl.drop t).take (k + 2)) % D →
      val (Rl.take t ++ (Q ++ Rl.drop (t + (k + 2)))) + D * (B64 ^ t * (val ((Rl.drop t).take (k + 2)) / D)) = val Rl ∧ val (Rl.take t ++ (Q ++ Rl.drop (t + (k + 2)))) < D * B64 ^ t := by
  have e0 : Rl = Rl.take t ++ ((Rl.drop t).take (k + 2) ++ Rl.drop (t + (k + 2))) := by
    rw [← List.drop_drop, List.take_append_drop, List.take_append_drop]
  have lt : (Rl.take t).length = t := by rw [List.length_take, Nat.min_eq_left (by omega)]
  have lP : ((Rl.drop t).take (k + 2)).length = k + 2 := by rw [List.length_take, List.length_drop, Nat.min_eq_left (by omega)]
  have hpre : val (Rl.take t) < B64 ^ t := by have := val_lt (hR.take t); rw [lt] at this; exact this
  have ev : val Rl = val (Rl.take t) + B64 ^ t * (val ((Rl.drop t).take (k + 2)) + B64 ^ (k + 2) * val (Rl.drop (t + (k + 2)))) := by
    have h := congrArg val e0
    rw [val_append, val_append, lt, lP] at h
    exact h
  have hBt : 0 < B64 ^ t := Nat.pow_pos B64_pos
  generalize hp : val (Rl.take t) = pre at *
  generalize hP : val ((Rl.drop t).take (k + 2)) = P at *
  generalize hpo : val (Rl.drop (t + (k + 2))) = po at *
  generalize val Rl = X at *
  have h1 : P + B64 ^ (k + 2) * po < D * B64 := by
    rcases Nat.lt_or_ge (P + B64 ^ (k + 2) * po) (D * B64) with h | h
    · exact h
    · have h2 : B64 ^ t * (D * B64) ≤ B64 ^ t * (P + B64 ^ (k + 2) * po) := Nat.mul_le_mul_left _ h
      have h3 : D * B64 ^ (t + 1) = B64 ^ t * (D * B64) := by rw [Nat.pow_succ]; ac_rfl
      omega
  have h2 : D * B64 ≤ B64 ^ (k + 2) := by
    rw [Nat.pow_succ B64 (k + 1)]
    exact Nat.mul_le_mul_right _ (Nat.le_of_lt hD)
  have hpo0 : po = 0 := by
    rcases Nat.eq_zero_or_pos po with h | h
    · exact h
    · have h3 : B64 ^ (k + 2) * 1 ≤ B64 ^ (k + 2) * po := Nat.mul_le_mul_left _ h
      rw [Nat.mul_one] at h3
      omega
  subst hpo0
  rw [Nat.mul_zero, Nat.add_zero] at h1 ev
  refine ⟨by rw [Nat.mul_comm]; exact h1, fun Q hQ hv => ?_⟩
  rw [val_append, val_append, lt, hp, hQ, hpo, hv, Nat.mul_zero, Nat.add_zero]
  have h4 := Nat.mod_add_div P D
  have h5 := Nat.mod_lt P hD0
  generalize P % D = m at *
  generalize P / D = q at *
  have h6 : D * (B64 ^ t * q) = B64 ^ t * (D * q) := by ac_rfl
  have h7 : B64 ^ t * (m + D * q) = B64 ^ t * m + B64 ^ t * (D * q) := Nat.mul_add ..
  rw [h4] at h7
  refine ⟨by rw [h6]; omega, ?_⟩
  have h8 : B64 ^ t * (m + 1) ≤ B64 ^ t * D := Nat.mul_le_mul_left _ h5
  rw [Nat.mul_add, Nat.mul_one] at h8
  rw [Nat.mul_comm D]
  omega

/-- The divisor's top bit is set by the shift. -/
theorem norm_top {y k s : Nat} (hl : (limbs y).length = k + 1) (hs : s = 64 - blen ((limbs y)[k]?.getD 0)) : s < 64 ∧ y * 2 ^ s < B64 ^ (k + 1) ∧ (limbs (y * 2 ^ s)).length = k + 1 ∧ B64 ≤ 2 * (limbs (y * 2 ^ s))[k]?.getD 0 := by
  have hd := limbs_dig y
  have hv : val ((limbs y).take k) + B64 ^ k * (limbs y)[k]?.getD 0 = y := by rw [← val_take_succ, List.take_of_length_le (by omega), val_limbs]
  have hlo : val ((limbs y).take k) < B64 ^ k := by have := val_lt (hd.take k); rw [List.length_take, Nat.min_eq_left (by omega)] at this; exact this
  have htl : (limbs y)[k]?.getD 0 < B64 := hd.get k
  have ht0 : (limbs y)[k]?.getD 0 ≠ 0 := fun h => by
    have hge := limbs_ge (n := y) (by omega)
    rw [hl, Nat.add_sub_cancel] at hge
    rw [h, Nat.mul_zero, Nat.add_zero] at hv
    omega
  generalize (limbs y)[k]?.getD 0 = T at *
  have hb1 := blen_pos ht0
  have hb2 : blen T ≤ 64 := blen_le (by rw [← B64_two]; exact htl)
  have hs64 : s < 64 := by omega
  have h1 : T + 1 ≤ 2 ^ blen T := lt_blen T
  have h2 := blen_ge ht0
  have e1 : 2 ^ blen T * 2 ^ s = B64 := by rw [B64_two, ← Nat.pow_add]; congr 1; omega
  have e2 : 2 * (2 ^ (blen T - 1) * 2 ^ s) = B64 := by
    rw [← e1, ← Nat.mul_assoc]
    congr 1
    rw [Nat.mul_comm, ← Nat.pow_succ]
    congr 1
    omega
  have h3 : (T + 1) * 2 ^ s ≤ B64 := by rw [← e1]; exact Nat.mul_le_mul_right _ h1
  have h4 : B64 ≤ 2 * (T * 2 ^ s) := by rw [← e2]; exact Nat.mul_le_mul_left _ (Nat.mul_le_mul_right _ h2)
  have hp : 0 < 2 ^ s := Nat.pow_pos (by omega)
  have h5 : y * 2 ^ s < B64 ^ (k + 1) := by
    have h6 : y < B64 ^ k * (T + 1) := by rw [Nat.mul_add, Nat.mul_one]; omega
    have h7 : y * 2 ^ s < B64 ^ k * (T + 1) * 2 ^ s := Nat.mul_lt_mul_of_pos_right h6 hp
    have h8 : B64 ^ k * ((T + 1) * 2 ^ s) ≤ B64 ^ k * B64 := Nat.mul_le_mul_left _ h3
    rw [Nat.pow_succ]
    rw [Nat.mul_assoc] at h7
    omega
  have h6 : B64 ^ k * (T * 2 ^ s) ≤ y * 2 ^ s := by
    rw [← Nat.mul_assoc]
    exact Nat.mul_le_mul_right _ (by omega)
  have hBk : 0 < B64 ^ k := Nat.pow_pos B64_pos
  have hlen : (limbs (y * 2 ^ s)).length = k + 1 := by
    have a := limbs_length_le h5
    rcases Nat.lt_or_ge (limbs (y * 2 ^ s)).length (k + 1) with b | b
    · have c := lt_of_limbs_length (n := y * 2 ^ s) (k := k) (by omega)
      have d : B64 ^ k * 1 ≤ B64 ^ k * (T * 2 ^ s) := Nat.mul_le_mul_left _ (by have := B64_pos; omega)
      omega
    · omega
  refine ⟨hs64, h5, hlen, ?_⟩
  rw [limbs_get]
  unfold dig
  have h7 : y * 2 ^ s / B64 ^ k < B64 := by rw [Nat.div_lt_iff_lt_mul hBk, Nat.mul_comm B64, ← Nat.pow_succ]; exact h5
  rw [Nat.mod_eq_of_lt h7]
  have h8 : T * 2 ^ s ≤ y * 2 ^ s / B64 ^ k := by rw [Nat.le_div_iff_mul_le hBk, Nat.mul_comm _ (B64 ^ k)]; exact h6
  omega

/-- The end of the division. -/
theorem long_end {x y s R q : Nat} (hy : 0 < y) (hR : R < y * 2 ^ s) (e : R + y * 2 ^ s * q = x * 2 ^ s) : q = x / y ∧ R / 2 ^ s = x % y := by
  have hp : 0 < 2 ^ s := Nat.pow_pos (by omega)
  have hD : 0 < y * 2 ^ s := Nat.mul_pos hy hp
  have h1 : x * 2 ^ s / (y * 2 ^ s) = q := by rw [← e, Nat.add_mul_div_left _ _ hD, Nat.div_eq_of_lt hR, Nat.zero_add]
  have h2 : x * 2 ^ s % (y * 2 ^ s) = R := by rw [← e, Nat.add_mul_mod_self_left, Nat.mod_eq_of_lt hR]
  rw [Nat.mul_div_mul_right _ _ hp] at h1
  rw [Nat.mul_mod_mul_right] at h2
  exact ⟨h1.symm, by rw [← h2, Nat.mul_div_cancel _ hp]⟩

theorem long_start {x y k n s : Nat} (hn : (limbs x).length = n) (hl : (limbs y).length = k + 1) (hkn : k + 1 ≤ n) : x * 2 ^ s < y * 2 ^ s * B64 ^ (n - (k + 1) + 1) := by
  have h1 : x < B64 ^ n := lt_of_limbs_length (by omega)
  have h2 := limbs_ge (n := y) (by omega)
  rw [hl, Nat.add_sub_cancel] at h2
  have h3 : B64 ^ k * B64 ^ (n - (k + 1) + 1) ≤ y * B64 ^ (n - (k + 1) + 1) := Nat.mul_le_mul_right _ h2
  rw [← Nat.pow_add, show k + (n - (k + 1) + 1) = n by omega] at h3
  have h4 : y * 2 ^ s * B64 ^ (n - (k + 1) + 1) = y * B64 ^ (n - (k + 1) + 1) * 2 ^ s := by ac_rfl
  rw [h4]
  exact Nat.mul_lt_mul_of_pos_right (by omega) (Nat.pow_pos (by omega))

end Go.Proofs.YtlmcpgahjfepjaaGreat

/-
  The contracts of package div in one style, over numbers.
-/
namespace Go.Proofs.YtlmcpgahjfepjaaGreat
open Go.RowKit
end Go.Proofs.YtlmcpgahjfepjaaGreat

/-
  The contracts of rat: quotient, isNought, times, less, reduced.
-/
namespace Go.Proofs.YtlmcpgahjfepjaaGreat
open Go.RowKit
set_option linter.unusedVariables false
set_option linter.unusedSimpArgs false






end Go.Proofs.YtlmcpgahjfepjaaGreat

/-
  The contracts of rat: join, Add, Sub, Mul.
-/
namespace Go.Proofs.YtlmcpgahjfepjaaGreat
open Go.RowKit
set_option linter.unusedVariables false
set_option linter.unusedSimpArgs false






end Go.Proofs.YtlmcpgahjfepjaaGreat

/-
  The contracts of rat: Make, Of, Cmp, Div, Right.
-/
namespace Go.Proofs.YtlmcpgahjfepjaaGreat
open Go.RowKit
set_option linter.unusedVariables false
set_option linter.unusedSimpArgs false





theorem rt_inv {w : World} {b : Bool} {A B : Option Addr} {n c m d : Nat} {x : Rat} (h : Rt w b A n c B m d x) (hne : x.num ≠ 0) : Rt w b B m d A n c x⁻¹ := by
  refine ⟨?_, ?_⟩
  · rw [inv_num x hne]; exact zn_side h.1 h.2 x.den_nz
  · rw [inv_den x hne]; exact h.1.1




theorem gcd_any {p q k : Nat} (hp : (limbs p).length ≤ k) (hq : (limbs q).length ≤ k) : (limbs (Nat.gcd p q)).length ≤ k := by
  rcases Nat.eq_zero_or_pos q with h | h
  · subst h; rw [Nat.gcd_zero_right]; exact hp
  · exact gcd_len (by omega) hq





end Go.Proofs.YtlmcpgahjfepjaaGreat

/-
  Rationals on a grid: rounded down, up, to the nearest; a multiple's number.
-/
namespace Go.Proofs.YtlmcpgahjfepjaaGreat
set_option linter.unusedSimpArgs false

theorem cmpQ_scale (a b c : Rat) (h : 0 < c) : cmpQ (a * c) (b * c) = cmpQ a b := by
  have e1 : (a * c < b * c) ↔ a < b := by
    constructor
    · intro h1; exact Rat.lt_of_mul_lt_mul_right h1 (Rat.le_of_lt h)
    · intro h1; exact Rat.mul_lt_mul_of_pos_right h1 h
  have e2 : (b * c < a * c) ↔ b < a := by
    constructor
    · intro h1; exact Rat.lt_of_mul_lt_mul_right h1 (Rat.le_of_lt h)
    · intro h1; exact Rat.mul_lt_mul_of_pos_right h1 h
  unfold cmpQ; simp only [e1, e2]
/-- To the nearest whole number, of two as near the even one. -/
def nr (A : Rat) : Int := if A - (A.floor : Rat) < ((-(-A).floor : Int) : Rat) - A ∨ (A - (A.floor : Rat) = ((-(-A).floor : Int) : Rat) - A ∧ A.floor % 2 = 0) then A.floor else -(-A).floor
theorem fl_le (A : Rat) : (A.floor : Rat) ≤ A := Rat.floor_le A
theorem fl_lt (A : Rat) : A < (A.floor : Rat) + 1 := by
  have := Rat.lt_floor_add_one A
  rw [Rat.intCast_add] at this; exact this
theorem fl_eq {A : Rat} {n : Int} (h1 : (n : Rat) ≤ A) (h2 : A < (n : Rat) + 1) : A.floor = n := by
  have a1 := Rat.le_floor_iff.2 h1
  have a2 : A.floor < n + 1 := Rat.floor_lt_iff.2 (by rw [Rat.intCast_add]; exact h2)
  omega
theorem up_ge (A : Rat) : A ≤ ((-(-A).floor : Int) : Rat) := by
  have := fl_le (-A); rw [Rat.intCast_neg]; grind
theorem up_lt (A : Rat) : ((-(-A).floor : Int) : Rat) < A + 1 := by
  have := fl_lt (-A); rw [Rat.intCast_neg]; grind
theorem up_cases (A : Rat) : (-(-A).floor = A.floor ∧ A = (A.floor : Rat)) ∨ (-(-A).floor = A.floor + 1 ∧ (A.floor : Rat) < A) := by
  have h1 := fl_le A
  have h2 := fl_lt A
  have h3 := up_ge A
  have h4 := up_lt A
  rcases Classical.em ((A.floor : Rat) < A) with h | h
  · right
    refine ⟨?_, h⟩
    have : (-A).floor = -(A.floor + 1) := by
      apply fl_eq
      · rw [Rat.intCast_neg, Rat.intCast_add]; grind
      · rw [Rat.intCast_neg, Rat.intCast_add]; grind
    omega
  · left
    have h' : A = (A.floor : Rat) := by grind
    refine ⟨?_, h'⟩
    have : (-A).floor = -A.floor := by
      apply fl_eq
      · rw [Rat.intCast_neg]; grind
      · rw [Rat.intCast_neg]; grind
    omega
/-- n is at most half a step away, and even, if it is just that. -/
def NrHalf (A : Rat) (n : Int) : Prop := (n : Rat) - A + ((n : Rat) - A) ≤ 1 ∧ A - (n : Rat) + (A - (n : Rat)) ≤ 1 ∧ (((n : Rat) - A + ((n : Rat) - A) = 1 ∨ A - (n : Rat) + (A - (n : Rat)) = 1) → n % 2 = 0)
theorem nr_half (A : Rat) : NrHalf A (nr A) := by
  have f1 := fl_le A
  have f2 := fl_lt A
  unfold nr NrHalf
  rcases up_cases A with ⟨h1, h2⟩ | ⟨h1, h2⟩
  · have e : (if A - (A.floor : Rat) < ((-(-A).floor : Int) : Rat) - A ∨ (A - (A.floor : Rat) = ((-(-A).floor : Int) : Rat) - A ∧ A.floor % 2 = 0) then A.floor else -(-A).floor) = A.floor := by rw [h1]; split <;> rfl
    rw [e]
    refine ⟨by grind, by grind, ?_⟩
    intro h; exfalso; grind
  · rw [h1, Rat.intCast_add]
    have e : ((1 : Int) : Rat) = 1 := rfl
    rw [e]
    by_cases hc : A - (A.floor : Rat) < (A.floor : Rat) + 1 - A ∨ (A - (A.floor : Rat) = (A.floor : Rat) + 1 - A ∧ A.floor % 2 = 0)
    · rw [if_pos hc]
      refine ⟨by grind, by grind, ?_⟩
      intro h
      rcases hc with hc | ⟨_, hc⟩
      · exfalso; grind
      · exact hc
    · rw [if_neg hc, Rat.intCast_add, e]
      have hn : ¬ A - (A.floor : Rat) < (A.floor : Rat) + 1 - A := fun x => hc (.inl x)
      refine ⟨by grind, by grind, ?_⟩
      intro h
      have h4 : A.floor % 2 ≠ 0 := fun x => by
        rcases h with h | h
        · exact hc (.inr ⟨by grind, x⟩)
        · grind
      omega
theorem half_unique {A : Rat} {n m : Int} (h : NrHalf A n) (g : NrHalf A m) : n = m := by
  obtain ⟨h1, h2, h3⟩ := h
  obtain ⟨g1, g2, g3⟩ := g
  have o : ((1 : Int) : Rat) = 1 := rfl
  have k1 : ((m : Int) : Rat) ≤ ((n + 1 : Int) : Rat) := by rw [Rat.intCast_add, o]; grind
  have k2 : ((n : Int) : Rat) ≤ ((m + 1 : Int) : Rat) := by rw [Rat.intCast_add, o]; grind
  rw [Rat.intCast_le_intCast] at k1 k2
  have : n = m ∨ m = n + 1 ∨ n = m + 1 := by omega
  rcases this with h | h | h
  · exact h
  · exfalso
    have e : ((m : Int) : Rat) = (n : Rat) + 1 := by rw [h, Rat.intCast_add, o]
    have b1 := g3 (.inl (by grind))
    have b2 := h3 (.inr (by grind))
    omega
  · exfalso
    have e : ((n : Int) : Rat) = (m : Rat) + 1 := by rw [h, Rat.intCast_add, o]
    have b1 := g3 (.inr (by grind))
    have b2 := h3 (.inl (by grind))
    omega
theorem nr_unique {A : Rat} {n : Int} (h : NrHalf A n) : nr A = n := half_unique (nr_half A) h
theorem nr_neg (A : Rat) : nr (-A) = -nr A := by
  obtain ⟨g1, g2, g3⟩ := nr_half A
  apply nr_unique
  unfold NrHalf
  rw [Rat.intCast_neg]
  refine ⟨by grind, by grind, ?_⟩
  intro h
  have : nr A % 2 = 0 := g3 (by grind)
  omega
theorem nr_int (n : Int) : nr (n : Rat) = n := by
  apply nr_unique
  unfold NrHalf
  refine ⟨by grind, by grind, ?_⟩
  intro h; exfalso; grind
theorem nr_mono {A B : Rat} (h : A ≤ B) : nr A ≤ nr B := by
  obtain ⟨g1, g2, g3⟩ := nr_half A
  obtain ⟨f1, f2, f3⟩ := nr_half B
  rcases Int.lt_or_le (nr B) (nr A) with h1 | h1
  · exfalso
    have k : ((nr B + 1 : Int) : Rat) ≤ ((nr A : Int) : Rat) := Rat.intCast_le_intCast.2 (by omega)
    rw [Rat.intCast_add] at k
    have e1 : ((1 : Int) : Rat) = 1 := rfl
    rw [e1] at k
    have b1 := g3 (.inl (by grind))
    have b2 := f3 (.inr (by grind))
    have k2 : ((nr A : Int) : Rat) = ((nr B + 1 : Int) : Rat) := by rw [Rat.intCast_add, e1]; grind
    have := Rat.intCast_inj.1 k2
    omega
  · exact h1
theorem nr_one (A : Rat) : nr A = A.floor ∨ nr A = -(-A).floor := by unfold nr; split <;> simp
/-- 2 to the power of k. -/
def dw (k : Nat) : Rat := ((2 ^ k : Nat) : Rat)
theorem dw_pos (k : Nat) : 0 < dw k := by
  unfold dw
  have : 0 < 2 ^ k := Nat.pow_pos (by omega)
  exact Rat.natCast_pos.2 this
theorem dw_add (k n : Nat) : dw (k + n) = dw k * dw n := by
  unfold dw
  rw [Nat.pow_add, Rat.natCast_mul]
def flo (a : Rat) (k : Nat) : Int := (a * dw k).floor
def cei (a : Rat) (k : Nat) : Int := -flo (-a) k
def nea (a : Rat) (k : Nat) : Int := nr (a * dw k)
def bak (n : Int) (k : Nat) : Rat := mkRat n (2 ^ k)
theorem bak_mul (n : Int) (k : Nat) : bak n k * dw k = (n : Rat) := by
  unfold bak dw
  have h : (2 ^ k : Nat) ≠ 0 := Nat.ne_of_gt (Nat.pow_pos (by omega))
  have h2 : ((2 ^ k : Nat) : Rat) = mkRat ((2 ^ k : Nat) : Int) 1 := by rw [Rat.mkRat_one]; rfl
  have h3 : (n : Rat) = mkRat n 1 := by rw [Rat.mkRat_one]
  rw [h2, h3, Rat.mkRat_mul_mkRat, Rat.mkRat_eq_iff (by omega) (by omega)]
  simp
theorem bak_eq (n : Int) (k : Nat) : bak n k = (n : Rat) / dw k := by
  have h := bak_mul n k
  have := dw_pos k
  grind
theorem dw_cancel {a b : Rat} {k : Nat} (h : a * dw k = b * dw k) : a = b := by
  have := dw_pos k
  have h0 : dw k ≠ 0 := by grind
  grind
theorem floor_mk (p : Int) (q : Nat) (hq : q ≠ 0) : (mkRat p q).floor = p / (q : Int) := by
  have h0 : (0 : Int) < q := by omega
  have hm : mkRat p q * (q : Rat) = (p : Rat) := by
    have h2 : ((q : Nat) : Rat) = mkRat ((q : Nat) : Int) 1 := by rw [Rat.mkRat_one]; rfl
    have h3 : (p : Rat) = mkRat p 1 := by rw [Rat.mkRat_one]
    rw [h2, h3, Rat.mkRat_mul_mkRat, Rat.mkRat_eq_iff (by omega) (by omega)]
    simp
  have hqp : (0 : Rat) < (q : Rat) := Rat.natCast_pos.2 (by omega)
  have e : ((q : Int) : Rat) = (q : Rat) := rfl
  apply fl_eq
  · have h1 : p / (q : Int) * (q : Int) ≤ p := Int.ediv_mul_le _ (by omega)
    have h2 : ((p / (q : Int) * (q : Int) : Int) : Rat) ≤ (p : Rat) := Rat.intCast_le_intCast.2 h1
    rw [Rat.intCast_mul, e, ← hm] at h2
    exact Rat.le_of_mul_le_mul_right h2 hqp
  · have h1 : p < (p / (q : Int) + 1) * (q : Int) := Int.lt_ediv_add_one_mul_self _ h0
    have h2 : (p : Rat) < (((p / (q : Int) + 1) * (q : Int) : Int) : Rat) := Rat.intCast_lt_intCast.2 h1
    rw [Rat.intCast_mul, Rat.intCast_add, e, ← hm] at h2
    exact Rat.lt_of_mul_lt_mul_right h2 (Rat.le_of_lt hqp)
theorem flo_ediv (a : Rat) (k : Nat) : flo a k = a.num * ((2 ^ k : Nat) : Int) / (a.den : Int) := by
  unfold flo dw
  have h2 : ((2 ^ k : Nat) : Rat) = mkRat ((2 ^ k : Nat) : Int) 1 := by rw [Rat.mkRat_one]; rfl
  have h3 : a * mkRat ((2 ^ k : Nat) : Int) 1 = mkRat (a.num * ((2 ^ k : Nat) : Int)) a.den := by
    conv => lhs; rw [← Rat.mkRat_self a]
    rw [Rat.mkRat_mul_mkRat, Nat.mul_one]
  rw [h2, h3, floor_mk _ _ a.den_nz]
/-- As the document's answer reckons it: of the size, and the side put on. -/
theorem flo_pos (a : Rat) (k : Nat) (h : ¬ a.num < 0) : flo a k = ((a.num.natAbs * 2 ^ k / a.den : Nat) : Int) := by
  rw [flo_ediv]
  have e : a.num = (a.num.natAbs : Int) := by omega
  conv => lhs; rw [e]
  rw [← Int.natCast_mul, ← Int.natCast_ediv]
theorem flo_neg (a : Rat) (k : Nat) (h : a.num < 0) : flo a k = -((a.num.natAbs * 2 ^ k / a.den + (if a.num.natAbs * 2 ^ k % a.den = 0 then 0 else 1) : Nat) : Int) := by
  rw [flo_ediv]
  have e : a.num = -(a.num.natAbs : Int) := by omega
  conv => lhs; rw [e]
  have hd : 0 < a.den := Nat.pos_of_ne_zero a.den_nz
  generalize a.den = d at hd ⊢
  rw [Int.neg_mul, ← Int.natCast_mul]
  generalize a.num.natAbs * 2 ^ k = x
  have h1 := Nat.div_add_mod x d
  have h2 := Nat.mod_lt x hd
  generalize x / d = q at h1 ⊢
  generalize x % d = r at h1 h2 ⊢
  subst h1
  split
  · next h0 =>
    subst h0
    simp only [Nat.add_zero]
    rw [Int.natCast_mul, show -((d : Int) * (q : Int)) = (d : Int) * (-(q : Int)) by rw [Int.mul_neg], Int.mul_ediv_cancel_left _ (by omega)]
  · next h0 =>
    have : -((d * q + r : Nat) : Int) = ((d : Int) - (r : Int)) + (d : Int) * (-((q + 1 : Nat) : Int)) := by
      simp only [Int.natCast_add, Int.natCast_mul, Int.mul_neg, Int.mul_add]; omega
    rw [this, Int.add_mul_ediv_left _ _ (by omega), Int.ediv_eq_zero_of_lt (by omega) (by omega)]
    omega
theorem cei_up (a : Rat) (k : Nat) : cei a k = -(-(a * dw k)).floor := by
  unfold cei flo; rw [Rat.neg_mul]
/-- How the document's answer takes the nearest: by which of both is nearer. -/
theorem nea_by (a : Rat) (k : Nat) : nea a k = if cmpQ (a - bak (flo a k) k) (bak (cei a k) k - a) < 0 ∨ (cmpQ (a - bak (flo a k) k) (bak (cei a k) k - a) = 0 ∧ flo a k % 2 = 0) then flo a k else cei a k := by
  have hp := dw_pos k
  rw [← cmpQ_scale _ _ _ hp]
  have e1 : (a - bak (flo a k) k) * dw k = a * dw k - (flo a k : Rat) := by rw [← bak_mul (flo a k) k]; grind
  have e2 : (bak (cei a k) k - a) * dw k = (cei a k : Rat) - a * dw k := by rw [← bak_mul (cei a k) k]; grind
  rw [e1, e2, cei_up]
  unfold nea nr flo cmpQ
  generalize a * dw k = A
  generalize -(-A).floor = hi
  generalize A.floor = lo
  by_cases h1 : A - (lo : Rat) < (hi : Rat) - A
  · simp [h1]
  · by_cases h2 : (hi : Rat) - A < A - (lo : Rat)
    · have h3 : ¬ (A - (lo : Rat) = (hi : Rat) - A) := by grind
      simp [h1, h2, h3]
    · have h3 : A - (lo : Rat) = (hi : Rat) - A := by grind
      simp [h1, h2, h3]
theorem bak_one (k : Nat) : bak 1 k * dw k = 1 := by rw [bak_mul]; rfl
theorem low_le (a : Rat) (k : Nat) : cmpQ (bak (flo a k) k) a ≤ 0 := by
  rw [← cmpQ_scale _ _ _ (dw_pos k), bak_mul]
  have := fl_le (a * dw k)
  unfold flo cmpQ; grind
theorem high_ge (a : Rat) (k : Nat) : cmpQ a (bak (cei a k) k) ≤ 0 := by
  rw [← cmpQ_scale _ _ _ (dw_pos k), bak_mul, cei_up]
  have := up_ge (a * dw k)
  unfold cmpQ; grind
theorem on_both (a : Rat) (k : Nat) : (bak (flo a k) k = a ↔ bak (cei a k) k = a) ∧ (bak (flo a k) k ≠ a → bak (cei a k) k - bak (flo a k) k = bak 1 k) := by
  have hp := dw_pos k
  have h1 : bak (flo a k) k = a ↔ ((flo a k : Int) : Rat) = a * dw k := by
    rw [← bak_mul (flo a k) k]; constructor
    · intro h; rw [h]
    · intro h; exact dw_cancel h
  have h2 : bak (cei a k) k = a ↔ ((cei a k : Int) : Rat) = a * dw k := by
    rw [← bak_mul (cei a k) k]; constructor
    · intro h; rw [h]
    · intro h; exact dw_cancel h
  rw [h1, h2, cei_up]
  have hc := up_cases (a * dw k)
  unfold flo at *
  have o : ((1 : Int) : Rat) = 1 := rfl
  rcases hc with ⟨c1, c2⟩ | ⟨c1, c2⟩
  · rw [c1]
    refine ⟨Iff.rfl, fun h => absurd (h1.2 c2.symm) h⟩
  · refine ⟨⟨fun h => by exfalso; grind, fun h => ?_⟩, fun h => ?_⟩
    · exfalso
      have u := up_lt (a * dw k)
      have f := fl_lt (a * dw k)
      rw [c1, Rat.intCast_add, o] at h
      grind
    · apply dw_cancel (k := k)
      rw [bak_one]
      have e := bak_mul (-(-(a * dw k)).floor) k
      have e' := bak_mul ((a * dw k).floor) k
      rw [c1, Rat.intCast_add, o] at e
      rw [c1]
      grind
theorem nea_one (a : Rat) (k : Nat) : nea a k = flo a k ∨ nea a k = cei a k := by rw [cei_up]; exact nr_one _
def absQ (x : Rat) : Rat := if x < 0 then -x else x
theorem near_half (a : Rat) (k : Nat) : cmpQ (absQ (bak (nea a k) k - a) + absQ (bak (nea a k) k - a)) (bak 1 k) ≤ 0 ∧ (absQ (bak (nea a k) k - a) + absQ (bak (nea a k) k - a) = bak 1 k → nea a k % 2 = 0) := by
  have hp := dw_pos k
  obtain ⟨h1, h2, h3⟩ := nr_half (a * dw k)
  have e : ∀ x : Rat, absQ x * dw k = absQ (x * dw k) := by
    intro x
    unfold absQ
    by_cases hx : x < 0
    · have : x * dw k < 0 := by
        have := Rat.mul_lt_mul_of_pos_right hx hp
        rwa [Rat.zero_mul] at this
      rw [if_pos hx, if_pos this, Rat.neg_mul]
    · have : ¬ x * dw k < 0 := by
        have h0 : 0 ≤ x := by grind
        have := Rat.mul_nonneg h0 (Rat.le_of_lt hp)
        grind
      rw [if_neg hx, if_neg this]
  have e2 : (bak (nea a k) k - a) * dw k = (nea a k : Rat) - a * dw k := by rw [← bak_mul (nea a k) k]; grind
  have e3 : (absQ (bak (nea a k) k - a) + absQ (bak (nea a k) k - a)) * dw k = absQ ((nea a k : Rat) - a * dw k) + absQ ((nea a k : Rat) - a * dw k) := by rw [Rat.add_mul, e, e2]
  refine ⟨?_, fun h => ?_⟩
  · rw [← cmpQ_scale _ _ _ hp, e3, bak_one]
    unfold nea absQ cmpQ
    grind
  · have h4 : (absQ (bak (nea a k) k - a) + absQ (bak (nea a k) k - a)) * dw k = bak 1 k * dw k := by rw [h]
    rw [e3, bak_one] at h4
    unfold nea at *
    apply h3
    unfold absQ at h4
    grind
theorem flo_mono {a b : Rat} (k : Nat) (h : a ≤ b) : flo a k ≤ flo b k := Rat.floor_monotone (Rat.mul_le_mul_of_nonneg_right h (Rat.le_of_lt (dw_pos k)))
theorem cei_mono {a b : Rat} (k : Nat) (h : a ≤ b) : cei a k ≤ cei b k := by
  have : flo (-b) k ≤ flo (-a) k := flo_mono k (by grind)
  unfold cei; omega
theorem nea_mono {a b : Rat} (k : Nat) (h : a ≤ b) : nea a k ≤ nea b k := nr_mono (Rat.mul_le_mul_of_nonneg_right h (Rat.le_of_lt (dw_pos k)))
theorem cei_neg (a : Rat) (k : Nat) : cei (-a) k = -flo a k := by unfold cei; rw [Rat.neg_neg]
theorem nea_neg (a : Rat) (k : Nat) : nea (-a) k = -nea a k := by unfold nea; rw [Rat.neg_mul, nr_neg]
theorem flo_bak (n : Int) (k : Nat) : flo (bak n k) k = n := by unfold flo; rw [bak_mul, Rat.floor_intCast]
theorem bak_neg (n : Int) (k : Nat) : -bak n k = bak (-n) k := by
  apply dw_cancel (k := k)
  rw [Rat.neg_mul, bak_mul, bak_mul, Rat.intCast_neg]
theorem cei_bak (n : Int) (k : Nat) : cei (bak n k) k = n := by unfold cei; rw [bak_neg, flo_bak]; omega
theorem nea_bak (n : Int) (k : Nat) : nea (bak n k) k = n := by unfold nea; rw [bak_mul, nr_int]
theorem nea_fine (n : Int) (k : Nat) : nea (bak n k) (k + 1) = n + n := by
  unfold nea
  rw [dw_add, ← Rat.mul_assoc, bak_mul, show (n : Rat) * dw 1 = ((n + n : Int) : Rat) by rw [Rat.intCast_add]; unfold dw; grind, nr_int]
theorem flo_add (a b : Rat) (k : Nat) : flo a k + flo b k ≤ flo (a + b) k ∧ flo (a + b) k ≤ flo a k + flo b k + 1 := by
  unfold flo
  rw [Rat.add_mul]
  generalize a * dw k = A
  generalize b * dw k = B
  have f1 := fl_le A
  have f2 := fl_lt A
  have f3 := fl_le B
  have f4 := fl_lt B
  have o : ((1 : Int) : Rat) = 1 := rfl
  refine ⟨Rat.le_floor_iff.2 (by rw [Rat.intCast_add]; grind), ?_⟩
  have : (A + B).floor < A.floor + B.floor + 1 + 1 := Rat.floor_lt_iff.2 (by rw [Rat.intCast_add, Rat.intCast_add, Rat.intCast_add, o]; grind)
  omega
theorem flo_shift (a : Rat) (n : Int) (k : Nat) : flo (a + bak n k) k = flo a k + n := by
  unfold flo
  rw [Rat.add_mul, bak_mul, Rat.floor_add_intCast]
theorem flo_finer (a : Rat) (k n : Nat) : flo (bak (flo a (k + n)) (k + n)) k = flo a k := by
  have hb := bak_mul (flo a (k + n)) (k + n)
  have hp := dw_pos n
  have hl := fl_le (a * dw (k + n))
  have hm : ∀ m : Int, (m : Rat) ≤ bak (flo a (k + n)) (k + n) * dw k ↔ (m : Rat) ≤ a * dw k := by
    intro m
    have e1 : (m : Rat) * dw n = ((m * ((2 ^ n : Nat) : Int) : Int) : Rat) := by rw [Rat.intCast_mul]; rfl
    have g1 : (m : Rat) ≤ bak (flo a (k + n)) (k + n) * dw k ↔ (m : Rat) * dw n ≤ ((flo a (k + n) : Int) : Rat) := by
      rw [← hb, dw_add, ← Rat.mul_assoc]
      exact ⟨fun h => Rat.mul_le_mul_of_nonneg_right h (Rat.le_of_lt hp), fun h => Rat.le_of_mul_le_mul_right h hp⟩
    have g2 : (m : Rat) ≤ a * dw k ↔ (m : Rat) * dw n ≤ a * dw (k + n) := by
      rw [dw_add, ← Rat.mul_assoc]
      exact ⟨fun h => Rat.mul_le_mul_of_nonneg_right h (Rat.le_of_lt hp), fun h => Rat.le_of_mul_le_mul_right h hp⟩
    rw [g1, g2, e1, Rat.intCast_le_intCast]
    unfold flo
    exact Rat.le_floor_iff
  apply Int.le_antisymm
  · unfold flo
    exact Rat.le_floor_iff.2 ((hm _).1 (Rat.le_floor_iff.1 (Int.le_refl _)))
  · exact Rat.le_floor_iff.2 ((hm _).2 (Rat.le_floor_iff.1 (Int.le_refl _)))
theorem cei_finer (a : Rat) (k n : Nat) : cei (bak (cei a (k + n)) (k + n)) k = cei a k := by
  unfold cei
  rw [bak_neg, Int.neg_neg, flo_finer]
theorem flo_shr (a : Rat) (k n : Nat) : flo a k = flo a (k + n) / ((2 ^ n : Nat) : Int) := by
  rw [← flo_finer a k n, flo_ediv]
  have h0 : (2 ^ n : Nat) ≠ 0 := Nat.ne_of_gt (Nat.pow_pos (by omega))
  have h1 : (2 ^ (k + n) : Nat) ≠ 0 := Nat.ne_of_gt (Nat.pow_pos (by omega))
  have h2 : (2 ^ k : Nat) ≠ 0 := Nat.ne_of_gt (Nat.pow_pos (by omega))
  rw [← flo_ediv, flo, bak]
  have e : mkRat (flo a (k + n)) (2 ^ (k + n)) * dw k = mkRat (flo a (k + n)) (2 ^ n) := by
    unfold dw
    have h3 : ((2 ^ k : Nat) : Rat) = mkRat ((2 ^ k : Nat) : Int) 1 := by rw [Rat.mkRat_one]; rfl
    rw [h3, Rat.mkRat_mul_mkRat, Rat.mkRat_eq_iff (by omega) h0, Nat.pow_add]
    simp only [Nat.mul_one, Int.natCast_mul]
    ac_rfl
  rw [e, floor_mk _ _ h0]
end Go.Proofs.YtlmcpgahjfepjaaGreat
