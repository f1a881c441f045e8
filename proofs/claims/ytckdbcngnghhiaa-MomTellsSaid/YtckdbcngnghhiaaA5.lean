/-
  Several texts in one: V1, V2, V3, V4, V5, V6, DG, JMa.
-/
import Derived.Test.YtckdbcngnghhiaaA3
import Derived.Test.YtckdbcngnghhiaaA4
import Derived.Test.YtckdbcngnghhiaaA1
import Derived.Test.YtckdbcngnghhiaaA2
import Derived.RangeFuncBox
import Derived.Deep.RegionHeld

/-
  The contract of the library's Div64, for any divisor.
-/
namespace Go.Proofs.Ytckdbcngnghhiaa
set_option maxRecDepth 100000
open Go.RowKit

theorem norm64 {H L Y s : Nat} (hs : s = 64 - blen Y) (hH : H < Y) (hL : L < B64) (hY : Y < B64) :
    s < 64 ∧ Y * 2 ^ s < B64 ∧ B64 ≤ 2 * (Y * 2 ^ s) ∧ shlD H s + shrD L s < Y * 2 ^ s ∧ shlD L s < B64 ∧
    ((shlD H s + shrD L s) * B64 + shlD L s) / (Y * 2 ^ s) = (H * B64 + L) / Y ∧ ((shlD H s + shrD L s) * B64 + shlD L s) % (Y * 2 ^ s) / 2 ^ s = (H * B64 + L) % Y := by
  have h0 : Y ≠ 0 := by omega
  have b1 := blen_pos h0
  have b2 : blen Y ≤ 64 := blen_le (by rw [← B64_two]; exact hY)
  have b3 := lt_blen Y
  have b4 := blen_ge h0
  have e1 : 2 ^ blen Y * 2 ^ s = B64 := by rw [B64_two, ← Nat.pow_add]; congr 1; omega
  have e2 : 2 * (2 ^ (blen Y - 1) * 2 ^ s) = B64 := by
    rw [← e1, ← Nat.mul_assoc, Nat.mul_comm 2, ← Nat.pow_succ]; congr 3; omega
  have hp : 0 < 2 ^ s := Nat.pow_pos (by omega)
  have c1 : Y * 2 ^ s < B64 := by rw [← e1]; exact Nat.mul_lt_mul_of_pos_right b3 hp
  have c2 : B64 ≤ 2 * (Y * 2 ^ s) := by rw [← e2]; exact Nat.mul_le_mul_left _ (Nat.mul_le_mul_right _ b4)
  have c3 : H * 2 ^ s < B64 := Nat.lt_of_le_of_lt (Nat.mul_le_mul_right _ (by omega)) c1
  have c4 : shlD H s = H * 2 ^ s := Nat.mod_eq_of_lt c3
  have c5 : shlD L s + B64 * shrD L s = L * 2 ^ s := sh_split L (by omega)
  have c6 : shlD L s < B64 := Nat.mod_lt _ B64_pos
  have c7 : (shlD H s + shrD L s) * B64 + shlD L s = (H * B64 + L) * 2 ^ s := by
    rw [c4, Nat.add_mul, Nat.add_mul, ← c5]
    have : H * 2 ^ s * B64 = H * B64 * 2 ^ s := by ac_rfl
    rw [this, Nat.mul_comm (shrD L s)]
    omega
  have c8 : shlD H s + shrD L s < Y * 2 ^ s := by
    refine Nat.lt_of_mul_lt_mul_right (a := B64) ?_
    have k1 : H * B64 + L < Y * B64 := by
      have := Nat.mul_le_mul_right B64 (show H + 1 ≤ Y from hH)
      rw [Nat.add_mul] at this
      omega
    have k2 := Nat.mul_lt_mul_of_pos_right k1 hp
    have k3 : Y * 2 ^ s * B64 = Y * B64 * 2 ^ s := by ac_rfl
    rw [k3]
    omega
  refine ⟨by omega, c1, c2, c8, c6, ?_, ?_⟩
  · rw [c7, Nat.mul_div_mul_right _ _ hp]
  · rw [c7, Nat.mul_mod_mul_right, Nat.mul_div_cancel _ hp]
theorem shr_nat (n s : Nat) : ((n : Int)) / 2 ^ s = ((n / 2 ^ s : Nat) : Int) := by simp

set_option maxHeartbeats 4000000 in
theorem div64_full (H L Y : Nat) (w : World) (h0 : H ≠ 0) (hH : H < Y) (hL : L < B64) (hYB : Y < B64) :
    Calls Try.prog 84 #[.int .u64 (H : Int), .int .u64 (L : Int), .int .u64 (Y : Int)] w fun e w' => e = .returned (.tuple #[.int .u64 ((H * B64 + L) / Y : Nat), .int .u64 ((H * B64 + L) % Y : Nat)]) ∧ w = w' := by
  have hy0 : ((Y : Int) == 0) = false := by simp; omega
  have hle : decide (Y ≤ H) = false := by simp; omega
  have hh0 : ((H : Int) == 0) = false := by simp; omega
  obtain ⟨s, hs⟩ : ∃ s, s = 64 - blen Y := ⟨_, rfl⟩
  have hn := norm64 hs hH hL hYB
  have hc := shrD_lt (s := s) hL (by omega)
  have hor := or_shl H (s := s) (c := shrD L s) (by omega) hc
  have CL : Calls Try.prog 89 #[.int .u64 (Y : Int)] w fun e w' => e = .returned (.int .i64 (s : Int)) ∧ w = w' := by rw [hs]; exact lead_any Y w hYB
  obtain ⟨y, hyd⟩ : ∃ y, y = Y * 2 ^ s := ⟨_, rfl⟩
  obtain ⟨hi, hhd⟩ : ∃ hi, hi = shlD H s + shrD L s := ⟨_, rfl⟩
  obtain ⟨lo, hld⟩ : ∃ lo, lo = shlD L s := ⟨_, rfl⟩
  obtain ⟨t, htd⟩ : ∃ t, t = 64 - s := ⟨_, rfl⟩
  obtain ⟨c, hcd⟩ : ∃ c, c = shrD L s := ⟨_, rfl⟩
  rw [← hyd, ← hhd, ← hld] at hn
  rw [← hhd, ← hcd] at hor
  obtain ⟨hs64, hy, ht, hhi, hlo, hdiv, hmod⟩ := hn
  rw [← hdiv, ← hmod]
  have HN := Lib.hid (show y = Y * 2 ^ s from hyd)
  have as1 : IntKind.u64.wrap (s : Int) = (s : Int) := by rw [IntKind.wrap_u64]; omega
  have as2 : IntKind.u64.wrap (64 - (s : Int)) = (t : Int) := by rw [IntKind.wrap_u64, htd]; omega
  have as3 : IntKind.u64.wrap ((Y : Int) * 2 ^ s) = (y : Int) := by
    have : ((Y : Int) * 2 ^ s) = ((Y * 2 ^ s : Nat) : Int) := by simp
    rw [this, ← hyd]; exact wrap_nat hy
  have as4 : IntKind.u64.wrap ((L : Int) * 2 ^ s) = (lo : Int) := by
    rw [hld, IntKind.wrap_u64, show (18446744073709551616 : Int) = (B64 : Int) from rfl]
    unfold shlD
    simp
  have am : min t 64 = t := by omega
  have as5 : (L : Int) / 2 ^ t = (c : Int) := by rw [htd, hcd]; exact shr_eq L s
  clear hs hcd hhd hld hyd htd hc hdiv hmod hH hL
  have HS := Lib.hid hs64
  obtain ⟨y1, hy1⟩ : ∃ y1, y1 = hiH y := ⟨_, rfl⟩
  obtain ⟨y0, hyl⟩ : ∃ y0, y0 = loH y := ⟨_, rfl⟩
  obtain ⟨l1, hl1⟩ : ∃ l1, l1 = hiH lo := ⟨_, rfl⟩
  obtain ⟨l0, hll⟩ : ∃ l0, l0 = loH lo := ⟨_, rfl⟩
  have a2 : (y : Int) / 4294967296 = (y1 : Int) := by rw [hy1]; unfold hiH H32; omega
  have a3 : bits .and .u64 (y : Int) 4294967295 = (y0 : Int) := by rw [u64_and32, hyl]; unfold loH H32; omega
  have a5 : (lo : Int) / 4294967296 = (l1 : Int) := by rw [hl1]; unfold hiH H32; omega
  have a6 : bits .and .u64 (lo : Int) 4294967295 = (l0 : Int) := by rw [u64_and32, hll]; unfold loH H32; omega
  have hY := Half.start (u := hi) (y := y) (y1 := y1) (y0 := y0) (d := l1) (by rw [hy1, hyl]; unfold hiH loH; rw [Nat.mul_comm]; exact (Nat.div_add_mod y H32).symm) (by rw [hyl]; exact loH_lt y) (by rw [hy1]; exact hiH_lt hy)
    (by rw [hy1]; unfold hiH H32; unfold B64 at ht; omega) hhi (by rw [hl1]; exact hiH_lt hlo)
  have b1 : ¬ y1 = 0 := by have := hY.top; unfold H32 at this; omega
  have hr := Half.r_lt (u := hi) hY.top
  obtain ⟨q, hq⟩ : ∃ q, q = hi / y1 := ⟨_, rfl⟩
  obtain ⟨r, hr'⟩ : ∃ r, r = hi % y1 := ⟨_, rfl⟩
  rw [← hq, ← hr'] at hY
  rw [← hr'] at hr
  have a10 : IntKind.u64.wrap ((hi : Int) / (y1 : Int)) = (q : Int) := by
    rw [hq, IntKind.wrap_u64]
    have h1 : hi / y1 ≤ hi := Nat.div_le_self _ _
    have h2 : ((hi / y1 : Nat) : Int) = (hi : Int) / (y1 : Int) := by simp
    rw [← h2]
    unfold B64 at hy
    omega
  have a11 : IntKind.u64.wrap ((hi : Int) - IntKind.u64.wrap ((q : Int) * (y1 : Int))) = (r : Int) := by
    have h1 := hY.hq
    have h2 : ((q * y1 : Nat) : Int) = (q : Int) * (y1 : Int) := by simp
    rw [← h2, IntKind.wrap_u64, IntKind.wrap_u64]
    unfold B64 at hy
    omega
  have HQ := Lib.hid hq
  have HR := Lib.hid hr'
  have HY1 := Lib.hid hy1
  have HYL := Lib.hid hyl
  have HL1 := Lib.hid hl1
  have HLL := Lib.hid hll
  have HYY := Lib.hid hY
  clear hq hr' hy1 hyl hl1 hll hY
  go_enter Try.func84, Try.ntmps84
  go_upto_block 0 with (go_at_call 89; refine CL.mono ?_; rintro e w' ⟨rfl, rfl⟩)
  go_cut [15] (fun qv wx => ∃ q : Nat, qv = .int .u64 (q : Int) ∧ q < H32 ∧ Hid (q = (hi * H32 + l1) / y) ∧ w = wx)
  case first =>
    go_wp2_with fail
    go_loop [15, 16] (fun qv rv => ∃ q r : Nat, qv = .int .u64 (q : Int) ∧ rv = .int .u64 (r : Int) ∧ Half hi y y1 y0 l1 q r ∧ r < H32) (fun qv _ => (intOf qv).toNat)
    case atStart => exact ⟨q, r, rfl, rfl, HYY.out, by have := HYY.out.h1; omega⟩
    case round =>
      obtain ⟨q, r, rfl, rfl, hH, hr32⟩ := hrel
      have hq2 := hH.q_le
      have hd32 := hH.hd
      have hy32 := hH.h1
      obtain ⟨m1, hm1⟩ : ∃ m1, m1 = q * y0 := ⟨_, rfl⟩
      obtain ⟨m2, hm2⟩ : ∃ m2, m2 = H32 * r + l1 := ⟨_, rfl⟩
      have c4 : IntKind.u64.wrap (IntKind.u64.wrap (4294967296 * (r : Int)) + (l1 : Int)) = (m2 : Int) := by rw [hm2]; exact wrap_fit hr32 hd32
      by_cases hb : tooBig q y0 r l1
      · have hH' := hH.step hb
        have hpos := (hH.pos hb).2
        have hask := hH.ask hb hm1 hm2
        obtain ⟨q', hq'⟩ : ∃ q', q' = q - 1 := ⟨_, rfl⟩
        obtain ⟨r', hr'⟩ : ∃ r', r' = r + y1 := ⟨_, rfl⟩
        rw [← hq', ← hr'] at hH'
        have c1 : IntKind.u64.wrap ((q : Int) - 1) = (q' : Int) := by
          rw [IntKind.wrap_u64]; unfold H32 at hq2; omega
        have c2 : IntKind.u64.wrap ((r : Int) + (y1 : Int)) = (r' : Int) := by
          rw [IntKind.wrap_u64]; unfold H32 at hr32 hy32; omega
        have hlt : q' < q := by omega
        have HH := Lib.hid hH'
        clear hH' hH hb hm1 hm2 hq' hr' hpos hq2 hd32 hy32
        by_cases hx : H32 ≤ r'
        · have g2 : (4294967296 : Int) ≤ (r' : Int) := by unfold H32 at hx; omega
          have hfin := HH.out.fin (.inl hx)
          have HF := Lib.hid hfin
          clear hfin hx
          rcases hask with g1 | ⟨g1, c3, g3⟩
          all_goals
            go_wp2_with fail
            go_meet
            exact ⟨q', rfl, HF.out.2, Lib.hid HF.out.1, rfl⟩
        · have g2 : ¬ (4294967296 : Int) ≤ (r' : Int) := by unfold H32 at hx; omega
          have hr3 : r' < H32 := by omega
          clear hx
          rcases hask with g1 | ⟨g1, c3, g3⟩
          all_goals
            go_wp2_with fail
            go_round
            case rel => exact ⟨q', r', rfl, rfl, HH.out, hr3⟩
            case measure => simp [intOf]; omega
      · have hfin := hH.fin (.inr hb)
        obtain ⟨g1, c3, g3⟩ := hH.ask_no hb hm1 hm2
        have HF := Lib.hid hfin
        clear hfin hH hb hm1 hm2 hq2 hd32 hy32
        go_wp2_with fail
        go_meet
        exact ⟨q, rfl, HF.out.2, Lib.hid HF.out.1, rfl⟩
  case rest =>
    obtain ⟨q1, rfl, hq1, HQ1, rfl⟩ := hcut
    obtain ⟨u, hu⟩ : ∃ u, u = (hi * H32 + l1) % y := ⟨_, rfl⟩
    have hy0' : 0 < y := by omega
    have huy : u < y := by rw [hu]; exact Nat.mod_lt _ hy0'
    have d1 : IntKind.u64.wrap (IntKind.u64.wrap (IntKind.u64.wrap ((hi : Int) * 4294967296) + (l1 : Int)) - IntKind.u64.wrap ((q1 : Int) * (y : Int))) = (u : Int) := by
      have e : u + y * q1 = hi * H32 + l1 := by rw [hu, HQ1.out]; exact Nat.mod_add_div _ _
      have e2 : ((q1 : Int) * (y : Int)) = ((y * q1 : Nat) : Int) := by rw [Nat.mul_comm]; simp
      rw [e2, IntKind.wrap_u64, IntKind.wrap_u64, IntKind.wrap_u64, IntKind.wrap_u64]
      generalize y * q1 = z at *
      unfold H32 at e
      unfold B64 at hy
      omega
    have hY := Half.start (u := u) (d := l0) HYY.out.hy HYY.out.h0 HYY.out.h1 HYY.out.top huy (by rw [HLL.out]; exact loH_lt lo)
    have hr2 := Half.r_lt (u := u) hY.top
    obtain ⟨q2, hq2⟩ : ∃ q, q = u / y1 := ⟨_, rfl⟩
    obtain ⟨r2, hr2'⟩ : ∃ r, r = u % y1 := ⟨_, rfl⟩
    rw [← hq2, ← hr2'] at hY
    rw [← hr2'] at hr2
    have d2 : IntKind.u64.wrap ((u : Int) / (y1 : Int)) = (q2 : Int) := by
      rw [hq2, IntKind.wrap_u64]
      have h1 : u / y1 ≤ u := Nat.div_le_self _ _
      have h2 : ((u / y1 : Nat) : Int) = (u : Int) / (y1 : Int) := by simp
      rw [← h2]
      unfold B64 at hy
      omega
    have d3 : IntKind.u64.wrap ((u : Int) - IntKind.u64.wrap ((q2 : Int) * (y1 : Int))) = (r2 : Int) := by
      have h1 := hY.hq
      have h2 : ((q2 * y1 : Nat) : Int) = (q2 : Int) * (y1 : Int) := by simp
      rw [← h2, IntKind.wrap_u64, IntKind.wrap_u64]
      unfold B64 at hy
      omega
    have HU := Lib.hid hu
    have HZ := Lib.hid hY
    clear hu hY hq2 hr2'
    go_upto_block 2 with fail
    go_cut [18] (fun qv wx => ∃ q : Nat, qv = .int .u64 (q : Int) ∧ q < H32 ∧ Hid (q = (u * H32 + l0) / y) ∧ w = wx)
    case first =>
      go_wp2_with fail
      go_loop [18, 16] (fun qv rv => ∃ q r : Nat, qv = .int .u64 (q : Int) ∧ rv = .int .u64 (r : Int) ∧ Half u y y1 y0 l0 q r ∧ r < H32) (fun qv _ => (intOf qv).toNat)
      case atStart => exact ⟨q2, r2, rfl, rfl, HZ.out, by have := HZ.out.h1; omega⟩
      case round =>
        obtain ⟨q, r, rfl, rfl, hH, hr32⟩ := hrel
        have hq2 := hH.q_le
        have hd32 := hH.hd
        have hy32 := hH.h1
        obtain ⟨m1, hm1⟩ : ∃ m1, m1 = q * y0 := ⟨_, rfl⟩
        obtain ⟨m2, hm2⟩ : ∃ m2, m2 = H32 * r + l0 := ⟨_, rfl⟩
        have c4 : IntKind.u64.wrap (IntKind.u64.wrap (4294967296 * (r : Int)) + (l0 : Int)) = (m2 : Int) := by rw [hm2]; exact wrap_fit hr32 hd32
        by_cases hb : tooBig q y0 r l0
        · have hH' := hH.step hb
          have hpos := (hH.pos hb).2
          have hask := hH.ask hb hm1 hm2
          obtain ⟨q', hq'⟩ : ∃ q', q' = q - 1 := ⟨_, rfl⟩
          obtain ⟨r', hr'⟩ : ∃ r', r' = r + y1 := ⟨_, rfl⟩
          rw [← hq', ← hr'] at hH'
          have c1 : IntKind.u64.wrap ((q : Int) - 1) = (q' : Int) := by
            rw [IntKind.wrap_u64]; unfold H32 at hq2; omega
          have c2 : IntKind.u64.wrap ((r : Int) + (y1 : Int)) = (r' : Int) := by
            rw [IntKind.wrap_u64]; unfold H32 at hr32 hy32; omega
          have hlt : q' < q := by omega
          have HH := Lib.hid hH'
          clear hH' hH hb hm1 hm2 hq' hr' hpos hq2 hd32 hy32
          by_cases hx : H32 ≤ r'
          · have g2 : (4294967296 : Int) ≤ (r' : Int) := by unfold H32 at hx; omega
            have hfin := HH.out.fin (.inl hx)
            have HF := Lib.hid hfin
            clear hfin hx
            rcases hask with g1 | ⟨g1, c3, g3⟩
            all_goals
              go_wp2_with fail
              go_meet
              exact ⟨q', rfl, HF.out.2, Lib.hid HF.out.1, rfl⟩
          · have g2 : ¬ (4294967296 : Int) ≤ (r' : Int) := by unfold H32 at hx; omega
            have hr3 : r' < H32 := by omega
            clear hx
            rcases hask with g1 | ⟨g1, c3, g3⟩
            all_goals
              go_wp2_with fail
              go_round
              case rel => exact ⟨q', r', rfl, rfl, HH.out, hr3⟩
              case measure => simp [intOf]; omega
        · have hfin := hH.fin (.inr hb)
          obtain ⟨g1, c3, g3⟩ := hH.ask_no hb hm1 hm2
          have HF := Lib.hid hfin
          clear hfin hH hb hm1 hm2 hq2 hd32 hy32
          go_wp2_with fail
          go_meet
          exact ⟨q, rfl, HF.out.2, Lib.hid HF.out.1, rfl⟩
    case rest =>
      obtain ⟨q0, rfl, hq0, HQ0, rfl⟩ := hcut
      have hB := both_halves (hi := hi) (l1 := l1) (l0 := l0) hy0' HQ1.out HU.out HQ0.out
      have hlo2 : l1 * H32 + l0 = lo := by rw [HL1.out, HLL.out]; unfold hiH loH; rw [Nat.mul_comm]; exact Nat.div_add_mod lo H32
      rw [hlo2] at hB
      have e1 : IntKind.u64.wrap (IntKind.u64.wrap ((q1 : Int) * 4294967296) + (q0 : Int)) = ((q1 * H32 + q0 : Nat) : Int) := by
        rw [IntKind.wrap_u64, IntKind.wrap_u64]
        unfold H32 at hq1 hq0 ⊢
        omega
      have e2 : IntKind.u64.wrap (IntKind.u64.wrap (IntKind.u64.wrap ((u : Int) * 4294967296) + (l0 : Int)) - IntKind.u64.wrap ((q0 : Int) * (y : Int))) = (((u * H32 + l0) % y : Nat) : Int) := by
        have e : (u * H32 + l0) % y + y * q0 = u * H32 + l0 := by rw [HQ0.out]; exact Nat.mod_add_div _ _
        have hlt : (u * H32 + l0) % y < y := Nat.mod_lt _ hy0'
        have e2 : ((q0 : Int) * (y : Int)) = ((y * q0 : Nat) : Int) := by rw [Nat.mul_comm]; simp
        rw [e2, IntKind.wrap_u64, IntKind.wrap_u64, IntKind.wrap_u64, IntKind.wrap_u64]
        generalize y * q0 = z at *
        generalize (u * H32 + l0) % y = v at *
        unfold H32 at e
        unfold B64 at hy
        omega
      have HB := Lib.hid hB
      have E1 := Lib.hid e1
      have E2 := Lib.hid e2
      clear hB hlo2 e1 e2
      go_wp2_with fail
      go_ret2
      refine ⟨ret_two ?_ ?_, rfl⟩
      · rw [E1.out, HB.out.1]
      · rw [← HB.out.2, ← shr_nat, ← E2.out]

theorem div64_N (H L Y : Nat) (w : World) (hH : H < Y) (hL : L < B64) (hY : Y < B64) :
    Calls Try.prog 84 #[.int .u64 (H : Int), .int .u64 (L : Int), .int .u64 (Y : Int)] w fun e w' => e = .returned (.tuple #[.int .u64 ((H * B64 + L) / Y : Nat), .int .u64 ((H * B64 + L) % Y : Nat)]) ∧ ∃ n, w' = w.drewN n := by
  by_cases h0 : H = 0
  · subst h0
    rw [Nat.zero_mul, Nat.zero_add]
    exact div64_zero L Y w hL hH
  · refine (div64_full H L Y w h0 hH hL hY).mono ?_
    rintro e w' ⟨rfl, rfl⟩
    exact ⟨rfl, 0, rfl⟩
end Go.Proofs.Ytckdbcngnghhiaa

/-
  The contracts of the landed fix: size, isFrac, product, plus, mantissa.
-/
namespace Go.Proofs.Ytckdbcngnghhiaa
set_option maxRecDepth 100000
set_option maxHeartbeats 8000000
open Go.RowKit
set_option linter.unusedVariables false
set_option linter.unusedSimpArgs false

theorem size_neg (w : World) {a : Int} (ha : I64 a) (h : a < 0) :
    Calls Try.prog 80 #[.int .i64 a] w (GotV w (.int .u64 (a.natAbs : Int))) := by
  have t1 : decide (a < 0) = true := decide_eq_true h
  have k1 : IntKind.u64.wrap (-IntKind.u64.wrap a) = (a.natAbs : Int) := by unfold I64 at ha; rw [IntKind.wrap_u64, IntKind.wrap_u64]; omega
  go_enter Try.func80, Try.ntmps80
  go_wp2_with fail
  go_ret
  exact ⟨rfl, Below.refl _ _⟩

theorem size_pos (w : World) {a : Int} (ha : I64 a) (h : 0 ≤ a) :
    Calls Try.prog 80 #[.int .i64 a] w (GotV w (.int .u64 (a.natAbs : Int))) := by
  have t1 : decide (a < 0) = false := decide_eq_false (by omega)
  have k1 : IntKind.u64.wrap a = (a.natAbs : Int) := by unfold I64 at ha; rw [IntKind.wrap_u64]; omega
  go_enter Try.func80, Try.ntmps80
  go_wp2_with fail
  go_ret
  exact ⟨rfl, Below.refl _ _⟩

theorem size_N (w : World) {a : Int} (ha : I64 a) :
    Calls Try.prog 80 #[.int .i64 a] w (GotV w (.int .u64 (a.natAbs : Int))) := by
  by_cases h : a < 0
  · exact size_neg w ha h
  · exact size_pos w ha (by omega)

theorem isf_2 (w : World) {j : Int} (h0 : 0 ≤ j) (h1 : j ≤ 40) :
    Calls Try.prog 77 #[.int .i64 j] w (GotV w (.bool true)) := by
  have t1 : decide (0 ≤ j) = true := decide_eq_true h0
  have t2 : decide (j ≤ 40) = true := decide_eq_true (by omega)
  go_enter Try.func77, Try.ntmps77
  go_wp2_with fail
  go_ret
  exact ⟨rfl, Below.refl _ _⟩

theorem product_N {w : World} {x y : Nat} (hx : x < B64) (hy : y < B64) :
    Calls Try.prog 79 #[.int .u64 (x : Int), .int .u64 (y : Int)] w (GotV w (.agg #[.int .u64 (mulLo x y : Int), .int .u64 (mulHi x y : Int)])) := by
  have cc := Below.refl w.heap.size w
  go_enter Try.func79, Try.ntmps79
  go_wp2_with fail
  generalize hv_ : w.alloc (.cells #[.int .u64 0, .int .u64 0] 109) = v1
  obtain ⟨f0, f1⟩ : Fz2 v1 w.heap.size := by simp [Fz2, ← hv_, go_sem]
  have bA : Below w.heap.size w v1 := by rw [← hv_]; exact ((Below.refl _ w).alloc (by simp) _)
  replace cc := bK cc bA
  clear bA
  obtain ⟨g_0, g_1⟩ : Cs2 v1 w.heap.size (.int .u64 0) (.int .u64 0) := by simp [Cs2, ← hv_, go_sem]
  have g_l : w.heap.size < v1.heap.size := by simp [← hv_] <;> omega
  clear hv_
  refine (mul64_any x y _ hx hy).mono ?_
  rintro e w' ⟨rfl, rfl⟩
  go_wp2_with fail
  refine bodyPost_ret (v := .agg #[.int .u64 (mulLo x y : Int), .int .u64 (mulHi x y : Int)]) (by simp [results, Try.results79, go_sem, g_0, g_1]) rfl ⟨rfl, below_put cc (by omega) _ _⟩

theorem plus_N {w : World} {l h y : Nat} (hl : l < B64) (hy : y < B64) (hh : h + sumHi l y 0 < B64) :
    Calls Try.prog 83 #[.agg #[.int .u64 (l : Int), .int .u64 (h : Int)], .int .u64 (y : Int)] w (GotV w (.agg #[.int .u64 (sumLo l y 0 : Int), .int .u64 ((h + sumHi l y 0 : Nat) : Int)])) := by
  obtain ⟨q, hq⟩ : ∃ q, h + sumHi l y 0 = q := ⟨_, rfl⟩
  rw [hq] at hh ⊢
  have k1 : IntKind.u64.wrap ((h : Int) + (sumHi l y 0 : Int)) = (q : Int) := by rw [← hq] at hh ⊢; rw [← Int.natCast_add]; exact wrap_nat hh
  have r1 := add64_run0 l y
  clear hq
  go_enter Try.func83, Try.ntmps83
  go_wp2_with fail
  refine bodyPost_ret (v := .agg #[.int .u64 (sumLo l y 0 : Int), .int .u64 (q : Int)]) (by simp [results, Try.results83, go_sem]) rfl ⟨rfl, below_two _ _ _⟩

theorem mant_yes {w : World} {b : Bool} {A : Option Addr} {n c : Nat} {z : Int} (hz : Zn w b A n c z) (hx : (limbs z.natAbs).length ≤ 300) (hi : I64 z) :
    Calls Try.prog 85 #[.agg #[.bool b, .slice A n c]] w (GotV w (.tuple #[.int .i64 (z), .int .i64 (0)])) := by
  have cc := Below.refl w.heap.size w
  go_enter Try.func85, Try.ntmps85
  go_wp2_with fail
  generalize hv_ : w.alloc (.cells #[.bool b, .slice A n c] 38) = v1
  have bA : Below w.heap.size w v1 := by rw [← hv_]; exact ((Below.refl _ w).alloc (by simp) _)
  replace hz := hz.on bA
  replace cc := bK cc bA
  clear bA
  obtain ⟨ka0, ka1⟩ : Cs2 v1 w.heap.size (.bool b) (.slice A n c) := by simp [Cs2, ← hv_, go_sem]
  have kal : w.heap.size < v1.heap.size := by simp [← hv_] <;> omega
  clear hv_
  refine (zint_yes hz hi).mono ?_
  rintro e w2 ⟨rfl, b⟩
  replace hz := hz.on b
  rewrite [cR b kal] at ka0 ka1
  replace kal := lK b kal
  replace cc := bK cc b
  clear b
  go_wp2_with fail
  go_ret2
  exact ⟨rfl, cc⟩

theorem mant_no {w : World} {b : Bool} {A : Option Addr} {n c : Nat} {z : Int} (hz : Zn w b A n c z) (hx : (limbs z.natAbs).length ≤ 300) (hi : ¬ I64 z) :
    Calls Try.prog 85 #[.agg #[.bool b, .slice A n c]] w (GotV w (.tuple #[.int .i64 (0), .int .i64 (2)])) := by
  have cc := Below.refl w.heap.size w
  go_enter Try.func85, Try.ntmps85
  go_wp2_with fail
  generalize hv_ : w.alloc (.cells #[.bool b, .slice A n c] 38) = v1
  have bA : Below w.heap.size w v1 := by rw [← hv_]; exact ((Below.refl _ w).alloc (by simp) _)
  replace hz := hz.on bA
  replace cc := bK cc bA
  clear bA
  obtain ⟨ka0, ka1⟩ : Cs2 v1 w.heap.size (.bool b) (.slice A n c) := by simp [Cs2, ← hv_, go_sem]
  have kal : w.heap.size < v1.heap.size := by simp [← hv_] <;> omega
  clear hv_
  refine (zint_no hz hx hi).mono ?_
  rintro e w2 ⟨rfl, b⟩
  replace hz := hz.on b
  rewrite [cR b kal] at ka0 ka1
  replace kal := lK b kal
  replace cc := bK cc b
  clear b
  go_wp2_with fail
  go_ret2
  exact ⟨rfl, cc⟩

theorem mant_N {w : World} {b : Bool} {A : Option Addr} {n c : Nat} {z : Int} (hz : Zn w b A n c z) (hx : (limbs z.natAbs).length ≤ 300) :
    Calls Try.prog 85 #[.agg #[.bool b, .slice A n c]] w (GotV w (.tuple #[.int .i64 (nI (z)), .int .i64 (nE (z))])) := by
  by_cases hi : I64 z
  · rw [(nI_yes hi).1, (nI_yes hi).2]; exact mant_yes hz hx hi
  · rw [(nI_no hi).1, (nI_no hi).2]; exact mant_no hz hx hi

end Go.Proofs.Ytckdbcngnghhiaa

/-
  The contract of the landed fix: nearest.
-/
namespace Go.Proofs.Ytckdbcngnghhiaa
set_option maxRecDepth 100000
set_option maxHeartbeats 8000000
open Go.RowKit
set_option linter.unusedVariables false
set_option linter.unusedSimpArgs false

theorem near_parts {X d : Nat} (hd : 0 < d) : ∃ T r k, X / d = T ∧ X % d = r ∧ T * d + r = X ∧ r < d ∧ (X + d / 2) / d = T + k ∧ ((r + d / 2 < d ∧ k = 0) ∨ (d ≤ r + d / 2 ∧ k = 1)) := by
  have h1 := Nat.div_add_mod X d
  have h2 := Nat.mod_lt X hd
  have h3 : (X + d / 2) / d = X / d + (X % d + d / 2) / d := by
    have : X + d / 2 = d * (X / d) + (X % d + d / 2) := by omega
    rw [this, Nat.mul_add_div hd]
  refine ⟨X / d, X % d, (X % d + d / 2) / d, rfl, rfl, by rw [Nat.mul_comm]; exact h1, h2, h3, ?_⟩
  rcases Nat.lt_or_ge (X % d + d / 2) d with h | h
  · exact .inl ⟨h, Nat.div_eq_of_lt h⟩
  · exact .inr ⟨h, Nat.div_eq_of_lt_le (by omega) (by omega)⟩
theorem near_odd {X d : Nat} (hd : 0 < d) (p : d % 2 = 1) : (((X + d / 2) / d : Nat) : Int) = rn (X : Int) d := by
  obtain ⟨T, r, k, e1, e2, e3, h2, e4, h5⟩ := near_parts (X := X) hd
  rw [rn_nat X d (by omega), e4, e1]
  unfold fars
  rw [e1, e2]
  rcases h5 with ⟨h5, rfl⟩ | ⟨h5, rfl⟩
  · have f1 : ¬ d < r + r := by omega
    have f2 : ¬ r + r = d := by omega
    simp [f1, f2]
  · have f1 : d < r + r := by omega
    simp [f1]
theorem near_ne {X d : Nat} (hd : 0 < d) (p : d % 2 = 0) (hne : (X + d / 2) / d * d ≠ X + d / 2) : (((X + d / 2) / d : Nat) : Int) = rn (X : Int) d := by
  obtain ⟨T, r, k, e1, e2, e3, h2, e4, h5⟩ := near_parts (X := X) hd
  rw [rn_nat X d (by omega), e4, e1]
  rw [e4, Nat.add_mul] at hne
  unfold fars
  rw [e1, e2]
  rcases h5 with ⟨h5, rfl⟩ | ⟨h5, rfl⟩
  · have f1 : ¬ d < r + r := by omega
    have f2 : ¬ r + r = d := by omega
    simp [f1, f2]
  · have f1 : d < r + r := by omega
    simp [f1]
theorem near_eq {X d : Nat} (hd : 0 < d) (p : d % 2 = 0) (he : (X + d / 2) / d * d = X + d / 2) : (((X + d / 2) / d - (X + d / 2) / d % 2 : Nat) : Int) = rn (X : Int) d := by
  obtain ⟨T, r, k, e1, e2, e3, h2, e4, h5⟩ := near_parts (X := X) hd
  rw [rn_nat X d (by omega), e4, e1]
  rw [e4, Nat.add_mul] at he
  unfold fars
  rw [e1, e2]
  rcases h5 with ⟨h5, rfl⟩ | ⟨h5, rfl⟩
  · omega
  · have f1 : ¬ d < r + r := by omega
    have f2 : r + r = d := by omega
    by_cases hT : T % 2 = 1
    · simp [f1, f2, hT]; omega
    · simp [f1, f2, hT]; omega
theorem near_least {X d : Nat} (hd : 0 < d) : (((X + d / 2) / d : Nat) : Int) - 1 ≤ rn (X : Int) d := by
  by_cases p : d % 2 = 1
  · rw [near_odd hd p]; omega
  · by_cases he : (X + d / 2) / d * d = X + d / 2
    · rw [← near_eq hd (by omega) he]; omega
    · rw [near_ne hd (by omega) he]; omega
theorem rn_sgn (b : Bool) (X : Nat) {d : Nat} (hd : d ≠ 0) : rn (sgn b X) d = if b then -rn (X : Int) d else rn (X : Int) d := by
  cases b
  · rfl
  · exact rn_neg (X : Int) hd
theorem near_far {b : Bool} {X d : Nat} (hd : 0 < d) (h : d * B64 ≤ X + d / 2) : ¬ I64 (rn (sgn b X) d) := by
  have h1 : B64 ≤ (X + d / 2) / d := (Nat.le_div_iff_mul_le hd).2 (by rw [Nat.mul_comm]; exact h)
  have h2 := near_least (X := X) hd
  have h3 : (18446744073709551616 : Int) ≤ (((X + d / 2) / d : Nat) : Int) := by unfold B64 at h1; omega
  rw [rn_sgn b X (by omega)]
  unfold I64
  cases b <;> simp <;> omega
theorem plus_val {l h m : Nat} : (h + sumHi l m 0) * B64 + sumLo l m 0 = l + B64 * h + m := by
  unfold sumHi sumLo
  have h1 := Nat.div_add_mod (l + m + 0) B64
  rw [Nat.add_mul, Nat.mul_comm h, Nat.mul_comm ((l + m + 0) / B64)]
  omega
theorem limbs_eq {t d lo hi : Nat} (hlo : lo < B64) : (mulLo t d = lo ∧ mulHi t d = hi) ↔ t * d = hi * B64 + lo := by
  unfold mulLo mulHi
  have h1 := Nat.div_add_mod (t * d) B64
  constructor
  · rintro ⟨a, b⟩
    rw [a, b, Nat.mul_comm] at h1
    exact h1.symm
  · intro h
    rw [h]
    refine ⟨?_, ?_⟩
    · rw [Nat.add_comm, Nat.add_mul_mod_self_right, Nat.mod_eq_of_lt hlo]
    · rw [Nat.add_comm, Nat.add_mul_div_right _ _ B64_pos, Nat.div_eq_of_lt hlo, Nat.zero_add]
theorem zn_less {w : World} {A : Option Addr} {n c q : Nat} (h : Num w A n c q) (hq : 0 < q) : Zn w true A n c (-(q : Int)) := ⟨by rw [Int.natAbs_neg, Int.natAbs_natCast]; exact h, by simp; omega⟩
theorem got_drewn {w : World} {v : Value} {e : Ending} {w' : World} (h : e = .returned v ∧ ∃ n, w' = w.drewN n) : GotV w v e w' := by
  obtain ⟨rfl, n, rfl⟩ := h
  exact ⟨rfl, below_drewN (Below.refl _ _) n⟩

theorem arr_eq (a b c d : Int) (w : World) : (Op.equalIn 10000 109 (.agg #[.int .u64 a, .int .u64 b]) (.agg #[.int .u64 c, .int .u64 d])).run Try.prog w = .ok (a == c && b == d) w := by
  have u3 := Try.underlying84
  have a3 := Try.isAgg84
  have z3 := Try.sizeOf84
  rw [show (10000 : Nat) = 9999 + 1 from rfl, Op.equalIn]
  simp only [Sem.run_bind, run_underlying Try.underlying109, Result.andThen_ok]
  simp only [Std.Legacy.Range.forIn_eq_forIn_range', Std.Legacy.Range.size, Nat.sub_zero, Nat.add_sub_cancel, Nat.div_one, List.range'_succ, List.range'_zero, List.forIn_cons, List.forIn_nil]
  go_simp
  by_cases h1 : a = c <;> by_cases h2 : b = d <;> simp [h1, h2]

attribute [local go_sem] arr_eq

theorem nearest_far {w : World} {b : Bool} {l h d m lo hi : Nat} (CP : ∀ W : World, Calls Try.prog 83 #[.agg #[.int .u64 (l : Int), .int .u64 (h : Int)], .int .u64 (m : Int)] W (GotV W (.agg #[.int .u64 (lo : Int), .int .u64 (hi : Int)]))) (k1 : IntKind.u64.wrap ((d : Int) / 2) = (m : Int)) (t1 : d ≤ hi) :
    Calls Try.prog 78 #[.bool b, .agg #[.int .u64 (l : Int), .int .u64 (h : Int)], .int .u64 (d : Int)] w (GotV w (.tuple #[.int .i64 (0), .int .i64 (2)])) := by
  have q1 : (d : Int) ≤ (hi : Int) := by omega
  have cc := Below.refl w.heap.size w
  go_enter Try.func78, Try.ntmps78
  go_wp2_with fail
  generalize hv_ : w.alloc (.cells #[.int .u64 (l : Int), .int .u64 (h : Int)] 109) = v1
  have bA : Below w.heap.size w v1 := by rw [← hv_]; exact ((Below.refl _ w).alloc (by simp) _)
  replace cc := bK cc bA
  clear bA
  obtain ⟨ka0, ka1⟩ : Cs2 v1 w.heap.size (.int .u64 (l : Int)) (.int .u64 (h : Int)) := by simp [Cs2, ← hv_, go_sem]
  have kal : w.heap.size < v1.heap.size := by simp [← hv_] <;> omega
  clear hv_
  refine (CP _).mono ?_
  rintro e w2 ⟨rfl, b⟩
  rewrite [cR b kal] at ka0 ka1
  replace kal := lK b kal
  replace cc := bK cc b
  clear b
  go_wp2_with fail
  generalize hv_ : w2.alloc (.cells #[.int .u64 (lo : Int), .int .u64 (hi : Int)] 109) = v3
  have bA : Below w2.heap.size w2 v3 := by rw [← hv_]; exact below_one _ _
  rewrite [cR bA kal] at ka0 ka1
  replace kal := lK bA kal
  replace cc := bK cc bA
  clear bA
  obtain ⟨kr0, kr1⟩ : Cs2 v3 w2.heap.size (.int .u64 (lo : Int)) (.int .u64 (hi : Int)) := by simp [Cs2, ← hv_, go_sem]
  have krl : w2.heap.size < v3.heap.size := by simp [← hv_]
  clear hv_
  go_wp2_with fail
  go_ret2
  exact ⟨rfl, cc⟩

theorem nearest_odd {w : World} {b : Bool} {l h d m lo hi t r : Nat} {z : Int} (CP : ∀ W : World, Calls Try.prog 83 #[.agg #[.int .u64 (l : Int), .int .u64 (h : Int)], .int .u64 (m : Int)] W (GotV W (.agg #[.int .u64 (lo : Int), .int .u64 (hi : Int)]))) (CD : ∀ W : World, Calls Try.prog 84 #[.int .u64 (hi : Int), .int .u64 (lo : Int), .int .u64 (d : Int)] W (GotV W (.tuple #[.int .u64 (t : Int), .int .u64 (r : Int)]))) (k1 : IntKind.u64.wrap ((d : Int) / 2) = (m : Int)) (t1 : hi < d) (p : d % 2 = 1) (hz : sgn b t = z) (hu : t < B64) :
    Calls Try.prog 78 #[.bool b, .agg #[.int .u64 (l : Int), .int .u64 (h : Int)], .int .u64 (d : Int)] w (GotV w (.tuple #[.int .i64 (nI (z)), .int .i64 (nE (z))])) := by
  have q1 : ¬ (d : Int) ≤ (hi : Int) := by omega
  have q2 : (d : Int) % 2 = 1 := by omega
  have q3 : (d : Int).tmod 2 = 1 := by rw [Int.tmod_eq_emod_of_nonneg (by omega)]; omega
  have cc := Below.refl w.heap.size w
  go_enter Try.func78, Try.ntmps78
  go_wp2_with fail
  generalize hv_ : w.alloc (.cells #[.int .u64 (l : Int), .int .u64 (h : Int)] 109) = v1
  have bA : Below w.heap.size w v1 := by rw [← hv_]; exact ((Below.refl _ w).alloc (by simp) _)
  replace cc := bK cc bA
  clear bA
  obtain ⟨ka0, ka1⟩ : Cs2 v1 w.heap.size (.int .u64 (l : Int)) (.int .u64 (h : Int)) := by simp [Cs2, ← hv_, go_sem]
  have kal : w.heap.size < v1.heap.size := by simp [← hv_] <;> omega
  clear hv_
  refine (CP _).mono ?_
  rintro e w2 ⟨rfl, b⟩
  rewrite [cR b kal] at ka0 ka1
  replace kal := lK b kal
  replace cc := bK cc b
  clear b
  go_wp2_with fail
  generalize hv_ : w2.alloc (.cells #[.int .u64 (lo : Int), .int .u64 (hi : Int)] 109) = v3
  have bA : Below w2.heap.size w2 v3 := by rw [← hv_]; exact below_one _ _
  rewrite [cR bA kal] at ka0 ka1
  replace kal := lK bA kal
  replace cc := bK cc bA
  clear bA
  obtain ⟨kr0, kr1⟩ : Cs2 v3 w2.heap.size (.int .u64 (lo : Int)) (.int .u64 (hi : Int)) := by simp [Cs2, ← hv_, go_sem]
  have krl : w2.heap.size < v3.heap.size := by simp [← hv_]
  clear hv_
  refine (CD _).mono ?_
  rintro e w4 ⟨rfl, b⟩
  rewrite [cR b kal] at ka0 ka1
  replace kal := lK b kal
  rewrite [cR b krl] at kr0 kr1
  replace krl := lK b krl
  replace cc := bK cc b
  clear b
  go_wp2_with fail
  have bD : Below w4.heap.size w4 w4.drew := below_drewN (Below.refl _ w4) 1
  rewrite [cR bD kal] at ka0 ka1
  replace kal := lK bD kal
  rewrite [cR bD krl] at kr0 kr1
  replace krl := lK bD krl
  replace cc := bK cc bD
  clear bD
  refine wp_region_held_drew (S := fun w' => w'.cell? ⟨w.heap.size, 0, none⟩ = some (.int .u64 (l : Int)) ∧ w'.cell? ⟨w.heap.size, 1, none⟩ = some (.int .u64 (h : Int)) ∧ w'.cell? ⟨w2.heap.size, 0, none⟩ = some (.int .u64 (lo : Int)) ∧ w'.cell? ⟨w2.heap.size, 1, none⟩ = some (.int .u64 (hi : Int))) (by kernel_rfl) ?_ (fun hHeld => ?_)
  · exact ⟨ka0, ka1, kr0, kr1⟩
  refine tY (i := 0) (v := ?_) rfl ?_ hHeld ?_
  rotate_left
  · (intro w hSw; (try dsimp only at hSw); go_simp; (try with_reducible rfl))
  try simp only [Act.put, pT]
  refine tY (i := 1) (v := ?_) rfl ?_ hHeld ?_
  rotate_left
  · (intro w hSw; (try dsimp only at hSw); go_simp; (try with_reducible rfl))
  try simp only [Act.put, pT]
  refine tY (i := 2) (v := ?_) rfl ?_ hHeld ?_
  rotate_left
  · (intro w hSw; (try dsimp only at hSw); go_simp; (try with_reducible rfl))
  try simp only [Act.put, pT]
  refine tY (i := 3) (v := ?_) rfl ?_ hHeld ?_
  rotate_left
  · (intro w hSw; (try dsimp only at hSw); go_simp; (try with_reducible rfl))
  try simp only [Act.put, pT]
  refine tU (i := 4) rfl hHeld ?_
  try simp only [Act.put, pT]
  refine tU (i := 5) rfl hHeld ?_
  try simp only [Act.put, pT]
  refine tU (i := 6) rfl hHeld ?_
  try simp only [Act.put, pT]
  refine tU (i := 7) rfl hHeld ?_
  try simp only [Act.put, pT]
  refine tU (i := 8) rfl hHeld ?_
  try simp only [Act.put, pT]
  refine tY (i := 9) (v := ?_) rfl ?_ hHeld ?_
  rotate_left
  · (intro w hSw; (try dsimp only at hSw); go_simp; (try with_reducible rfl))
  try simp only [Act.put, pT]
  refine wpAnyH_done (by kernel_rfl) ?_ _
  clear hHeld
  have hb : (b = false) ∨ (b = true ∧ decide (0 < t) = false) ∨ (b = true ∧ decide (0 < t) = true) := by cases b <;> simp <;> omega
  rcases hb with rfl | ⟨rfl, ub⟩ | ⟨rfl, ub⟩
  · skip
    obtain rfl : (t : Int) = z := hz
    have HU := Lib.hid hu
    clear hu
    try clear hz
    go_wp2_with fail
    refine (of_N _ t HU.out).mono ?_
    rintro e w5 ⟨Av, nv, cv, rfl, v, b⟩
    rewrite [cR b kal] at ka0 ka1
    replace kal := lK b kal
    rewrite [cR b krl] at kr0 kr1
    replace krl := lK b krl
    replace cc := bK cc b
    clear b
    have zu := zn_nat v
    go_wp2_with fail
    refine (mant_N zu (by rw [Int.natAbs_natCast]; exact Nat.le_trans (len_one HU.out) (by omega))).mono ?_
    rintro e w6 ⟨rfl, b⟩
    replace v := v.on b
    replace zu := zu.on b
    rewrite [cR b kal] at ka0 ka1
    replace kal := lK b kal
    rewrite [cR b krl] at kr0 kr1
    replace krl := lK b krl
    replace cc := bK cc b
    clear b
    go_wp2_with fail
    go_ret2
    exact ⟨rfl, cc⟩
  · skip
    have u0 : t = 0 := by simpa using ub
    obtain rfl : (t : Int) = z := by rw [← hz]; unfold sgn; simp; omega
    have ui : decide (0 < (t : Int)) = false := by simp; omega
    clear u0
    have HU := Lib.hid hu
    clear hu
    try clear hz
    go_wp2_with fail
    refine (of_N _ t HU.out).mono ?_
    rintro e w5 ⟨Av, nv, cv, rfl, v, b⟩
    rewrite [cR b kal] at ka0 ka1
    replace kal := lK b kal
    rewrite [cR b krl] at kr0 kr1
    replace krl := lK b krl
    replace cc := bK cc b
    clear b
    have zu := zn_nat v
    go_wp2_with fail
    refine (mant_N zu (by rw [Int.natAbs_natCast]; exact Nat.le_trans (len_one HU.out) (by omega))).mono ?_
    rintro e w6 ⟨rfl, b⟩
    replace v := v.on b
    replace zu := zu.on b
    rewrite [cR b kal] at ka0 ka1
    replace kal := lK b kal
    rewrite [cR b krl] at kr0 kr1
    replace krl := lK b krl
    replace cc := bK cc b
    clear b
    go_wp2_with fail
    go_ret2
    exact ⟨rfl, cc⟩
  · skip
    have u0 : 0 < t := of_decide_eq_true ub
    obtain rfl : -(t : Int) = z := hz
    have ui : decide (0 < (t : Int)) = true := by simp; omega
    have HU := Lib.hid hu
    clear hu
    try clear hz
    have HU0 := Lib.hid u0
    clear u0
    go_wp2_with fail
    refine (of_N _ t HU.out).mono ?_
    rintro e w5 ⟨Av, nv, cv, rfl, v, b⟩
    rewrite [cR b kal] at ka0 ka1
    replace kal := lK b kal
    rewrite [cR b krl] at kr0 kr1
    replace krl := lK b krl
    replace cc := bK cc b
    clear b
    have zu := zn_less v HU0.out
    go_wp2_with fail
    refine (mant_N zu (by rw [Int.natAbs_neg, Int.natAbs_natCast]; exact Nat.le_trans (len_one HU.out) (by omega))).mono ?_
    rintro e w6 ⟨rfl, b⟩
    replace v := v.on b
    replace zu := zu.on b
    rewrite [cR b kal] at ka0 ka1
    replace kal := lK b kal
    rewrite [cR b krl] at kr0 kr1
    replace krl := lK b krl
    replace cc := bK cc b
    clear b
    go_wp2_with fail
    go_ret2
    exact ⟨rfl, cc⟩

theorem nearest_ne {w : World} {b : Bool} {l h d m lo hi t r x y : Nat} {z : Int} (CP : ∀ W : World, Calls Try.prog 83 #[.agg #[.int .u64 (l : Int), .int .u64 (h : Int)], .int .u64 (m : Int)] W (GotV W (.agg #[.int .u64 (lo : Int), .int .u64 (hi : Int)]))) (CD : ∀ W : World, Calls Try.prog 84 #[.int .u64 (hi : Int), .int .u64 (lo : Int), .int .u64 (d : Int)] W (GotV W (.tuple #[.int .u64 (t : Int), .int .u64 (r : Int)]))) (k1 : IntKind.u64.wrap ((d : Int) / 2) = (m : Int)) (t1 : hi < d) (CQ : ∀ W : World, Calls Try.prog 79 #[.int .u64 (t : Int), .int .u64 (d : Int)] W (GotV W (.agg #[.int .u64 (x : Int), .int .u64 (y : Int)]))) (p : d % 2 = 0) (he : ((lo : Int) == (x : Int) && (hi : Int) == (y : Int)) = false) (hz : sgn b t = z) (hu : t < B64) :
    Calls Try.prog 78 #[.bool b, .agg #[.int .u64 (l : Int), .int .u64 (h : Int)], .int .u64 (d : Int)] w (GotV w (.tuple #[.int .i64 (nI (z)), .int .i64 (nE (z))])) := by
  have q1 : ¬ (d : Int) ≤ (hi : Int) := by omega
  have q2 : (d : Int) % 2 = 0 := by omega
  have q3 : (d : Int).tmod 2 = 0 := by rw [Int.tmod_eq_emod_of_nonneg (by omega)]; omega
  have q4 : ((lo : Int) == (x : Int) && (hi : Int) == (y : Int)) = false := he
  have cc := Below.refl w.heap.size w
  go_enter Try.func78, Try.ntmps78
  go_wp2_with fail
  generalize hv_ : w.alloc (.cells #[.int .u64 (l : Int), .int .u64 (h : Int)] 109) = v1
  have bA : Below w.heap.size w v1 := by rw [← hv_]; exact ((Below.refl _ w).alloc (by simp) _)
  replace cc := bK cc bA
  clear bA
  obtain ⟨ka0, ka1⟩ : Cs2 v1 w.heap.size (.int .u64 (l : Int)) (.int .u64 (h : Int)) := by simp [Cs2, ← hv_, go_sem]
  have kal : w.heap.size < v1.heap.size := by simp [← hv_] <;> omega
  clear hv_
  refine (CP _).mono ?_
  rintro e w2 ⟨rfl, b⟩
  rewrite [cR b kal] at ka0 ka1
  replace kal := lK b kal
  replace cc := bK cc b
  clear b
  go_wp2_with fail
  generalize hv_ : w2.alloc (.cells #[.int .u64 (lo : Int), .int .u64 (hi : Int)] 109) = v3
  have bA : Below w2.heap.size w2 v3 := by rw [← hv_]; exact below_one _ _
  rewrite [cR bA kal] at ka0 ka1
  replace kal := lK bA kal
  replace cc := bK cc bA
  clear bA
  obtain ⟨kr0, kr1⟩ : Cs2 v3 w2.heap.size (.int .u64 (lo : Int)) (.int .u64 (hi : Int)) := by simp [Cs2, ← hv_, go_sem]
  have krl : w2.heap.size < v3.heap.size := by simp [← hv_]
  clear hv_
  refine (CD _).mono ?_
  rintro e w4 ⟨rfl, b⟩
  rewrite [cR b kal] at ka0 ka1
  replace kal := lK b kal
  rewrite [cR b krl] at kr0 kr1
  replace krl := lK b krl
  replace cc := bK cc b
  clear b
  go_wp2_with fail
  have bD : Below w4.heap.size w4 w4.drew := below_drewN (Below.refl _ w4) 1
  rewrite [cR bD kal] at ka0 ka1
  replace kal := lK bD kal
  rewrite [cR bD krl] at kr0 kr1
  replace krl := lK bD krl
  replace cc := bK cc bD
  clear bD
  refine wp_region_held_drew (S := fun w' => w'.cell? ⟨w.heap.size, 0, none⟩ = some (.int .u64 (l : Int)) ∧ w'.cell? ⟨w.heap.size, 1, none⟩ = some (.int .u64 (h : Int)) ∧ w'.cell? ⟨w2.heap.size, 0, none⟩ = some (.int .u64 (lo : Int)) ∧ w'.cell? ⟨w2.heap.size, 1, none⟩ = some (.int .u64 (hi : Int))) (by kernel_rfl) ?_ (fun hHeld => ?_)
  · exact ⟨ka0, ka1, kr0, kr1⟩
  refine tY (i := 0) (v := ?_) rfl ?_ hHeld ?_
  rotate_left
  · (intro w hSw; (try dsimp only at hSw); go_simp; (try with_reducible rfl))
  try simp only [Act.put, pT]
  refine tY (i := 1) (v := ?_) rfl ?_ hHeld ?_
  rotate_left
  · (intro w hSw; (try dsimp only at hSw); go_simp; (try with_reducible rfl))
  try simp only [Act.put, pT]
  refine tY (i := 2) (v := ?_) rfl ?_ hHeld ?_
  rotate_left
  · (intro w hSw; (try dsimp only at hSw); go_simp; (try with_reducible rfl))
  try simp only [Act.put, pT]
  refine tY (i := 3) (v := ?_) rfl ?_ hHeld ?_
  rotate_left
  · (intro w hSw; (try dsimp only at hSw); go_simp; (try with_reducible rfl))
  try simp only [Act.put, pT]
  refine tY (i := 4) (v := ?_) rfl ?_ hHeld ?_
  rotate_left
  · (intro w hSw; (try dsimp only at hSw); go_simp; (try with_reducible rfl))
  try simp only [Act.put, pT]
  refine tY (i := 5) (v := ?_) rfl ?_ hHeld ?_
  rotate_left
  · (intro w hSw; (try dsimp only at hSw); go_simp; (try with_reducible rfl))
  try simp only [Act.put, pT]
  refine tY (i := 6) (v := ?_) rfl ?_ hHeld ?_
  rotate_left
  · (intro w hSw; (try dsimp only at hSw); go_simp; (try with_reducible rfl))
  try simp only [Act.put, pT]
  refine wpAnyH_ready (rs := [7]) (by kernel_rfl) (by simp) ?_
  refine AllReadyH.cons rfl (fun K hK => ?_) AllReadyH.nil
  (try simp only [pT])
  rw [if_pos (by rfl)]
  go_simp
  go_at_call 79
  refine (CQ _).mono ?_
  rintro e w5 ⟨rfl, b⟩
  rewrite [cR b kal] at ka0 ka1
  replace kal := lK b kal
  rewrite [cR b krl] at kr0 kr1
  replace krl := lK b krl
  replace cc := bK cc b
  clear b
  refine hK.out _ _ ?_ (fun hHeld => ?_)
  · exact ⟨ka0, ka1, kr0, kr1⟩
  clear hK K
  try simp only [Act.put, pT]
  refine tY (i := 8) (v := ?_) rfl ?_ hHeld ?_
  rotate_left
  · (intro w hSw; (try dsimp only at hSw); go_simp; (try with_reducible rfl))
  try simp only [Act.put, pT]
  refine tY (i := 9) (v := ?_) rfl ?_ hHeld ?_
  rotate_left
  · (intro w hSw; (try dsimp only at hSw); go_simp; (try with_reducible rfl))
  try simp only [Act.put, pT]
  refine wpAnyH_done (by kernel_rfl) ?_ _
  clear hHeld
  have hb : (b = false) ∨ (b = true ∧ decide (0 < t) = false) ∨ (b = true ∧ decide (0 < t) = true) := by cases b <;> simp <;> omega
  rcases hb with rfl | ⟨rfl, ub⟩ | ⟨rfl, ub⟩
  · skip
    obtain rfl : (t : Int) = z := hz
    have HU := Lib.hid hu
    clear hu
    try clear hz
    go_wp2_with fail
    refine (of_N _ t HU.out).mono ?_
    rintro e w6 ⟨Av, nv, cv, rfl, v, b⟩
    rewrite [cR b kal] at ka0 ka1
    replace kal := lK b kal
    rewrite [cR b krl] at kr0 kr1
    replace krl := lK b krl
    replace cc := bK cc b
    clear b
    have zu := zn_nat v
    go_wp2_with fail
    refine (mant_N zu (by rw [Int.natAbs_natCast]; exact Nat.le_trans (len_one HU.out) (by omega))).mono ?_
    rintro e w7 ⟨rfl, b⟩
    replace v := v.on b
    replace zu := zu.on b
    rewrite [cR b kal] at ka0 ka1
    replace kal := lK b kal
    rewrite [cR b krl] at kr0 kr1
    replace krl := lK b krl
    replace cc := bK cc b
    clear b
    go_wp2_with fail
    go_ret2
    exact ⟨rfl, cc⟩
  · skip
    have u0 : t = 0 := by simpa using ub
    obtain rfl : (t : Int) = z := by rw [← hz]; unfold sgn; simp; omega
    have ui : decide (0 < (t : Int)) = false := by simp; omega
    clear u0
    have HU := Lib.hid hu
    clear hu
    try clear hz
    go_wp2_with fail
    refine (of_N _ t HU.out).mono ?_
    rintro e w6 ⟨Av, nv, cv, rfl, v, b⟩
    rewrite [cR b kal] at ka0 ka1
    replace kal := lK b kal
    rewrite [cR b krl] at kr0 kr1
    replace krl := lK b krl
    replace cc := bK cc b
    clear b
    have zu := zn_nat v
    go_wp2_with fail
    refine (mant_N zu (by rw [Int.natAbs_natCast]; exact Nat.le_trans (len_one HU.out) (by omega))).mono ?_
    rintro e w7 ⟨rfl, b⟩
    replace v := v.on b
    replace zu := zu.on b
    rewrite [cR b kal] at ka0 ka1
    replace kal := lK b kal
    rewrite [cR b krl] at kr0 kr1
    replace krl := lK b krl
    replace cc := bK cc b
    clear b
    go_wp2_with fail
    go_ret2
    exact ⟨rfl, cc⟩
  · skip
    have u0 : 0 < t := of_decide_eq_true ub
    obtain rfl : -(t : Int) = z := hz
    have ui : decide (0 < (t : Int)) = true := by simp; omega
    have HU := Lib.hid hu
    clear hu
    try clear hz
    have HU0 := Lib.hid u0
    clear u0
    go_wp2_with fail
    refine (of_N _ t HU.out).mono ?_
    rintro e w6 ⟨Av, nv, cv, rfl, v, b⟩
    rewrite [cR b kal] at ka0 ka1
    replace kal := lK b kal
    rewrite [cR b krl] at kr0 kr1
    replace krl := lK b krl
    replace cc := bK cc b
    clear b
    have zu := zn_less v HU0.out
    go_wp2_with fail
    refine (mant_N zu (by rw [Int.natAbs_neg, Int.natAbs_natCast]; exact Nat.le_trans (len_one HU.out) (by omega))).mono ?_
    rintro e w7 ⟨rfl, b⟩
    replace v := v.on b
    replace zu := zu.on b
    rewrite [cR b kal] at ka0 ka1
    replace kal := lK b kal
    rewrite [cR b krl] at kr0 kr1
    replace krl := lK b krl
    replace cc := bK cc b
    clear b
    go_wp2_with fail
    go_ret2
    exact ⟨rfl, cc⟩

theorem nearest_eq {w : World} {b : Bool} {l h d m lo hi t r u : Nat} {z : Int} (CP : ∀ W : World, Calls Try.prog 83 #[.agg #[.int .u64 (l : Int), .int .u64 (h : Int)], .int .u64 (m : Int)] W (GotV W (.agg #[.int .u64 (lo : Int), .int .u64 (hi : Int)]))) (CD : ∀ W : World, Calls Try.prog 84 #[.int .u64 (hi : Int), .int .u64 (lo : Int), .int .u64 (d : Int)] W (GotV W (.tuple #[.int .u64 (t : Int), .int .u64 (r : Int)]))) (k1 : IntKind.u64.wrap ((d : Int) / 2) = (m : Int)) (t1 : hi < d) (CQ : ∀ W : World, Calls Try.prog 79 #[.int .u64 (t : Int), .int .u64 (d : Int)] W (GotV W (.agg #[.int .u64 (lo : Int), .int .u64 (hi : Int)]))) (p : d % 2 = 0) (k2 : IntKind.u64.wrap ((t : Int) - (t : Int) % 2) = (u : Int)) (k3 : (t : Int).tmod 2 = (t : Int) % 2) (hz : sgn b u = z) (hu : u < B64) :
    Calls Try.prog 78 #[.bool b, .agg #[.int .u64 (l : Int), .int .u64 (h : Int)], .int .u64 (d : Int)] w (GotV w (.tuple #[.int .i64 (nI (z)), .int .i64 (nE (z))])) := by
  have q1 : ¬ (d : Int) ≤ (hi : Int) := by omega
  have q2 : (d : Int) % 2 = 0 := by omega
  have q3 : (d : Int).tmod 2 = 0 := by rw [Int.tmod_eq_emod_of_nonneg (by omega)]; omega
  have cc := Below.refl w.heap.size w
  go_enter Try.func78, Try.ntmps78
  go_wp2_with fail
  generalize hv_ : w.alloc (.cells #[.int .u64 (l : Int), .int .u64 (h : Int)] 109) = v1
  have bA : Below w.heap.size w v1 := by rw [← hv_]; exact ((Below.refl _ w).alloc (by simp) _)
  replace cc := bK cc bA
  clear bA
  obtain ⟨ka0, ka1⟩ : Cs2 v1 w.heap.size (.int .u64 (l : Int)) (.int .u64 (h : Int)) := by simp [Cs2, ← hv_, go_sem]
  have kal : w.heap.size < v1.heap.size := by simp [← hv_] <;> omega
  clear hv_
  refine (CP _).mono ?_
  rintro e w2 ⟨rfl, b⟩
  rewrite [cR b kal] at ka0 ka1
  replace kal := lK b kal
  replace cc := bK cc b
  clear b
  go_wp2_with fail
  generalize hv_ : w2.alloc (.cells #[.int .u64 (lo : Int), .int .u64 (hi : Int)] 109) = v3
  have bA : Below w2.heap.size w2 v3 := by rw [← hv_]; exact below_one _ _
  rewrite [cR bA kal] at ka0 ka1
  replace kal := lK bA kal
  replace cc := bK cc bA
  clear bA
  obtain ⟨kr0, kr1⟩ : Cs2 v3 w2.heap.size (.int .u64 (lo : Int)) (.int .u64 (hi : Int)) := by simp [Cs2, ← hv_, go_sem]
  have krl : w2.heap.size < v3.heap.size := by simp [← hv_]
  clear hv_
  refine (CD _).mono ?_
  rintro e w4 ⟨rfl, b⟩
  rewrite [cR b kal] at ka0 ka1
  replace kal := lK b kal
  rewrite [cR b krl] at kr0 kr1
  replace krl := lK b krl
  replace cc := bK cc b
  clear b
  go_wp2_with fail
  have bD : Below w4.heap.size w4 w4.drew := below_drewN (Below.refl _ w4) 1
  rewrite [cR bD kal] at ka0 ka1
  replace kal := lK bD kal
  rewrite [cR bD krl] at kr0 kr1
  replace krl := lK bD krl
  replace cc := bK cc bD
  clear bD
  refine wp_region_held_drew (S := fun w' => w'.cell? ⟨w.heap.size, 0, none⟩ = some (.int .u64 (l : Int)) ∧ w'.cell? ⟨w.heap.size, 1, none⟩ = some (.int .u64 (h : Int)) ∧ w'.cell? ⟨w2.heap.size, 0, none⟩ = some (.int .u64 (lo : Int)) ∧ w'.cell? ⟨w2.heap.size, 1, none⟩ = some (.int .u64 (hi : Int))) (by kernel_rfl) ?_ (fun hHeld => ?_)
  · exact ⟨ka0, ka1, kr0, kr1⟩
  refine tY (i := 0) (v := ?_) rfl ?_ hHeld ?_
  rotate_left
  · (intro w hSw; (try dsimp only at hSw); go_simp; (try with_reducible rfl))
  try simp only [Act.put, pT]
  refine tY (i := 1) (v := ?_) rfl ?_ hHeld ?_
  rotate_left
  · (intro w hSw; (try dsimp only at hSw); go_simp; (try with_reducible rfl))
  try simp only [Act.put, pT]
  refine tY (i := 2) (v := ?_) rfl ?_ hHeld ?_
  rotate_left
  · (intro w hSw; (try dsimp only at hSw); go_simp; (try with_reducible rfl))
  try simp only [Act.put, pT]
  refine tY (i := 3) (v := ?_) rfl ?_ hHeld ?_
  rotate_left
  · (intro w hSw; (try dsimp only at hSw); go_simp; (try with_reducible rfl))
  try simp only [Act.put, pT]
  refine tY (i := 4) (v := ?_) rfl ?_ hHeld ?_
  rotate_left
  · (intro w hSw; (try dsimp only at hSw); go_simp; (try with_reducible rfl))
  try simp only [Act.put, pT]
  refine tY (i := 5) (v := ?_) rfl ?_ hHeld ?_
  rotate_left
  · (intro w hSw; (try dsimp only at hSw); go_simp; (try with_reducible rfl))
  try simp only [Act.put, pT]
  refine tY (i := 6) (v := ?_) rfl ?_ hHeld ?_
  rotate_left
  · (intro w hSw; (try dsimp only at hSw); go_simp; (try with_reducible rfl))
  try simp only [Act.put, pT]
  refine wpAnyH_ready (rs := [7]) (by kernel_rfl) (by simp) ?_
  refine AllReadyH.cons rfl (fun K hK => ?_) AllReadyH.nil
  (try simp only [pT])
  rw [if_pos (by rfl)]
  go_simp
  go_at_call 79
  refine (CQ _).mono ?_
  rintro e w5 ⟨rfl, b⟩
  rewrite [cR b kal] at ka0 ka1
  replace kal := lK b kal
  rewrite [cR b krl] at kr0 kr1
  replace krl := lK b krl
  replace cc := bK cc b
  clear b
  refine hK.out _ _ ?_ (fun hHeld => ?_)
  · exact ⟨ka0, ka1, kr0, kr1⟩
  clear hK K
  try simp only [Act.put, pT]
  refine tY (i := 8) (v := ?_) rfl ?_ hHeld ?_
  rotate_left
  · (intro w hSw; (try dsimp only at hSw); go_simp; (try with_reducible rfl))
  try simp only [Act.put, pT]
  refine tY (i := 9) (v := ?_) rfl ?_ hHeld ?_
  rotate_left
  · (intro w hSw; (try dsimp only at hSw); go_simp; (try with_reducible rfl))
  try simp only [Act.put, pT]
  refine wpAnyH_done (by kernel_rfl) ?_ _
  clear hHeld
  have hb : (b = false) ∨ (b = true ∧ decide (0 < u) = false) ∨ (b = true ∧ decide (0 < u) = true) := by cases b <;> simp <;> omega
  rcases hb with rfl | ⟨rfl, ub⟩ | ⟨rfl, ub⟩
  · skip
    obtain rfl : (u : Int) = z := hz
    have HU := Lib.hid hu
    clear hu
    try clear hz
    go_wp2_with fail
    refine (of_N _ u HU.out).mono ?_
    rintro e w6 ⟨Av, nv, cv, rfl, v, b⟩
    rewrite [cR b kal] at ka0 ka1
    replace kal := lK b kal
    rewrite [cR b krl] at kr0 kr1
    replace krl := lK b krl
    replace cc := bK cc b
    clear b
    have zu := zn_nat v
    go_wp2_with fail
    refine (mant_N zu (by rw [Int.natAbs_natCast]; exact Nat.le_trans (len_one HU.out) (by omega))).mono ?_
    rintro e w7 ⟨rfl, b⟩
    replace v := v.on b
    replace zu := zu.on b
    rewrite [cR b kal] at ka0 ka1
    replace kal := lK b kal
    rewrite [cR b krl] at kr0 kr1
    replace krl := lK b krl
    replace cc := bK cc b
    clear b
    go_wp2_with fail
    go_ret2
    exact ⟨rfl, cc⟩
  · skip
    have u0 : u = 0 := by simpa using ub
    obtain rfl : (u : Int) = z := by rw [← hz]; unfold sgn; simp; omega
    have ui : decide (0 < (u : Int)) = false := by simp; omega
    clear u0
    have HU := Lib.hid hu
    clear hu
    try clear hz
    go_wp2_with fail
    refine (of_N _ u HU.out).mono ?_
    rintro e w6 ⟨Av, nv, cv, rfl, v, b⟩
    rewrite [cR b kal] at ka0 ka1
    replace kal := lK b kal
    rewrite [cR b krl] at kr0 kr1
    replace krl := lK b krl
    replace cc := bK cc b
    clear b
    have zu := zn_nat v
    go_wp2_with fail
    refine (mant_N zu (by rw [Int.natAbs_natCast]; exact Nat.le_trans (len_one HU.out) (by omega))).mono ?_
    rintro e w7 ⟨rfl, b⟩
    replace v := v.on b
    replace zu := zu.on b
    rewrite [cR b kal] at ka0 ka1
    replace kal := lK b kal
    rewrite [cR b krl] at kr0 kr1
    replace krl := lK b krl
    replace cc := bK cc b
    clear b
    go_wp2_with fail
    go_ret2
    exact ⟨rfl, cc⟩
  · skip
    have u0 : 0 < u := of_decide_eq_true ub
    obtain rfl : -(u : Int) = z := hz
    have ui : decide (0 < (u : Int)) = true := by simp; omega
    have HU := Lib.hid hu
    clear hu
    try clear hz
    have HU0 := Lib.hid u0
    clear u0
    go_wp2_with fail
    refine (of_N _ u HU.out).mono ?_
    rintro e w6 ⟨Av, nv, cv, rfl, v, b⟩
    rewrite [cR b kal] at ka0 ka1
    replace kal := lK b kal
    rewrite [cR b krl] at kr0 kr1
    replace krl := lK b krl
    replace cc := bK cc b
    clear b
    have zu := zn_less v HU0.out
    go_wp2_with fail
    refine (mant_N zu (by rw [Int.natAbs_neg, Int.natAbs_natCast]; exact Nat.le_trans (len_one HU.out) (by omega))).mono ?_
    rintro e w7 ⟨rfl, b⟩
    replace v := v.on b
    replace zu := zu.on b
    rewrite [cR b kal] at ka0 ka1
    replace kal := lK b kal
    rewrite [cR b krl] at kr0 kr1
    replace krl := lK b krl
    replace cc := bK cc b
    clear b
    go_wp2_with fail
    go_ret2
    exact ⟨rfl, cc⟩

end Go.Proofs.Ytckdbcngnghhiaa

/-
  The contract of the landed fix: nearest, whole.
-/
namespace Go.Proofs.Ytckdbcngnghhiaa
set_option maxRecDepth 100000
open Go.RowKit
set_option linter.unusedVariables false
set_option linter.unusedSimpArgs false

theorem wrap_half8 {d : Nat} (hd : d < B64) : IntKind.u64.wrap ((d : Int) / 2) = ((d / 2 : Nat) : Int) := by
  rw [IntKind.wrap_u64]; unfold B64 at hd; omega
theorem mul_limbs (x y : Nat) : mulLo x y + B64 * mulHi x y = x * y := by
  unfold mulLo mulHi
  rw [Nat.add_comm]
  exact Nat.div_add_mod _ _
theorem hi_small {x y : Nat} (hx : x ≤ 9223372036854775808) (hy : y ≤ 9223372036854775808) : mulHi x y + 1 < B64 := by
  have h1 : x * y ≤ 9223372036854775808 * 9223372036854775808 := Nat.mul_le_mul hx hy
  have h2 : mulHi x y ≤ 9223372036854775808 * 9223372036854775808 / B64 := Nat.div_le_div_right h1
  have h3 : (9223372036854775808 * 9223372036854775808 : Nat) / B64 ≤ 4611686018427387904 := by unfold B64; decide
  have h4 : B64 = 18446744073709551616 := rfl
  omega
theorem i64_size {a : Int} (h : I64 a) : a.natAbs ≤ 9223372036854775808 := by unfold I64 at h; omega
theorem pow_size {k : Nat} (h : k ≤ 40) : 2 ^ k ≤ 1099511627776 := Nat.le_trans (Nat.pow_le_pow_right (by omega) h) (by decide)

set_option maxHeartbeats 8000000 in
theorem nearest_N {w : World} {b : Bool} {l h d : Nat} (hl : l < B64) (hh : h + 1 < B64) (hd0 : 0 < d) (hd : d < B64) :
    Calls Try.prog 78 #[.bool b, .agg #[.int .u64 (l : Int), .int .u64 (h : Int)], .int .u64 (d : Int)] w (GotV w (.tuple #[.int .i64 (nI (rn (sgn b (l + B64 * h)) d)), .int .i64 (nE (rn (sgn b (l + B64 * h)) d))])) := by
  have hm : d / 2 < B64 := by omega
  have s1 : sumHi l (d / 2) 0 ≤ 1 := sumHi_le hl hm (by omega)
  have hv := plus_val (l := l) (h := h) (m := d / 2)
  have hlo : sumLo l (d / 2) 0 < B64 := sumLo_lt _ _ _
  have CP : ∀ W : World, Calls Try.prog 83 #[.agg #[.int .u64 (l : Int), .int .u64 (h : Int)], .int .u64 ((d / 2 : Nat) : Int)] W (GotV W (.agg #[.int .u64 (sumLo l (d / 2) 0 : Int), .int .u64 ((h + sumHi l (d / 2) 0 : Nat) : Int)])) := fun W => plus_N hl hm (by omega)
  have k1 := wrap_half8 hd
  obtain ⟨lo, elo⟩ : ∃ q, sumLo l (d / 2) 0 = q := ⟨_, rfl⟩
  obtain ⟨hi, ehi⟩ : ∃ q, h + sumHi l (d / 2) 0 = q := ⟨_, rfl⟩
  obtain ⟨Y, eY⟩ : ∃ q, l + B64 * h = q := ⟨_, rfl⟩
  rw [elo] at hv hlo CP
  rw [ehi] at hv CP
  rw [eY] at hv
  rw [eY]
  clear elo ehi eY s1
  by_cases t1 : d ≤ hi
  · have hf := near_far (b := b) (X := Y) hd0 (by rw [← hv]; have := Nat.mul_le_mul_right B64 t1; omega)
    rw [(nI_no hf).1, (nI_no hf).2]
    exact nearest_far CP k1 t1
  · have CD : ∀ W : World, Calls Try.prog 84 #[.int .u64 (hi : Int), .int .u64 (lo : Int), .int .u64 (d : Int)] W (GotV W (.tuple #[.int .u64 (((hi * B64 + lo) / d : Nat) : Int), .int .u64 (((hi * B64 + lo) % d : Nat) : Int)])) :=
      fun W => (div64_N hi lo d W (by omega) hlo hd).mono fun e w' h => got_drewn h
    rw [hv] at CD
    have ht : (Y + d / 2) / d < B64 := by
      rw [Nat.div_lt_iff_lt_mul hd0, ← hv]
      have := Nat.mul_le_mul_right B64 (show hi + 1 ≤ d by omega)
      rw [Nat.add_mul, Nat.mul_comm d] at this
      omega
    obtain ⟨t, et⟩ : ∃ q, (Y + d / 2) / d = q := ⟨_, rfl⟩
    by_cases p : d % 2 = 1
    · have hz : sgn b t = rn (sgn b Y) d := by rw [rn_sgn b Y (by omega), ← near_odd hd0 p, et]; cases b <;> rfl
      rw [et] at CD ht
      exact nearest_odd CP CD k1 (by omega) p hz ht
    · have CQ : ∀ W : World, Calls Try.prog 79 #[.int .u64 (t : Int), .int .u64 (d : Int)] W (GotV W (.agg #[.int .u64 (mulLo t d : Int), .int .u64 (mulHi t d : Int)])) := fun W => product_N (by omega) hd
      by_cases he : t * d = Y + d / 2
      · have hz : sgn b (t - t % 2) = rn (sgn b Y) d := by rw [rn_sgn b Y (by omega), ← near_eq hd0 (by omega) (by rw [et]; exact he), et]; cases b <;> rfl
        have hl2 := (limbs_eq (t := t) (d := d) (lo := lo) (hi := hi) hlo).2 (by rw [hv]; exact he)
        rw [hl2.1, hl2.2] at CQ
        rw [et] at CD ht
        obtain ⟨u, eu⟩ : ∃ q, t - t % 2 = q := ⟨_, rfl⟩
        rw [eu] at hz
        exact nearest_eq CP CD k1 (by omega) CQ (by omega) (by rw [IntKind.wrap_u64]; unfold B64 at ht; omega) (by rw [Int.tmod_eq_emod_of_nonneg (by omega)]) hz (by omega)
      · have hz : sgn b t = rn (sgn b Y) d := by rw [rn_sgn b Y (by omega), ← near_ne hd0 (by omega) (by rw [et]; exact he), et]; cases b <;> rfl
        have hl2 := limbs_eq (t := t) (d := d) (lo := lo) (hi := hi) hlo
        rw [hv] at hl2
        rw [et] at CD ht
        refine nearest_ne CP CD k1 (by omega) CQ (by omega) ?_ hz ht
        have hne : ¬ (mulLo t d = lo ∧ mulHi t d = hi) := fun k => he (hl2.1 k)
        by_cases h1 : lo = mulLo t d
        · have h2 : ¬ hi = mulHi t d := fun k => hne ⟨h1.symm, k.symm⟩
          simp
          intro _
          omega
        · simp
          intro _
          omega

end Go.Proofs.Ytckdbcngnghhiaa

/-
  The contracts of the landed fix: Add, Sub.
-/
namespace Go.Proofs.Ytckdbcngnghhiaa
set_option maxRecDepth 100000
set_option maxHeartbeats 8000000
open Go.RowKit
set_option linter.unusedVariables false
set_option linter.unusedSimpArgs false

theorem fadd_yes {w : World} {a b : Int} (ha : I64 a) (hb : I64 b) (hi : I64 (a + b)) :
    Calls Try.prog 61 #[.int .i64 a, .int .i64 b] w (GotV w (.tuple #[.int .i64 (a + b), .int .i64 (0)])) := by
  obtain ⟨s, es⟩ : ∃ s, a + b = s := ⟨_, rfl⟩
  have k1 : IntKind.i64.wrap (a + b) = s := by rw [← es]; exact IntWalk.i64_in _ (by unfold I64 at hi; omega)
  rw [es]
  by_cases hb0 : b < 0
  · skip
    have t1 : decide (b < 0) = true := decide_eq_true (by omega)
    have t2 : decide (s < a) = true := decide_eq_true (by omega)
    clear es hb0
    have cc := Below.refl w.heap.size w
    go_enter Try.func61, Try.ntmps61
    go_wp2_with fail
    go_ret2
    exact ⟨rfl, cc⟩
  · skip
    have t1 : decide (b < 0) = false := decide_eq_false (by omega)
    have t2 : decide (s < a) = false := decide_eq_false (by omega)
    clear es hb0
    have cc := Below.refl w.heap.size w
    go_enter Try.func61, Try.ntmps61
    go_wp2_with fail
    go_ret2
    exact ⟨rfl, cc⟩

theorem fadd_far {w : World} {a b : Int} (ha : I64 a) (hb : I64 b) (hi : ¬ I64 (a + b)) :
    Calls Try.prog 61 #[.int .i64 a, .int .i64 b] w (GotV w (.tuple #[.int .i64 (0), .int .i64 (2)])) := by
  obtain ⟨s, es⟩ : ∃ s, IntKind.i64.wrap (a + b) = s := ⟨_, rfl⟩
  have e2 := es
  rw [IntKind.wrap_i64] at e2
  unfold I64 at ha hb hi
  by_cases hb0 : b < 0
  · skip
    have t1 : decide (b < 0) = true := decide_eq_true (by omega)
    have t2 : decide (s < a) = false := decide_eq_false (by omega)
    clear e2 hb0 ha hb hi
    have cc := Below.refl w.heap.size w
    go_enter Try.func61, Try.ntmps61
    go_wp2_with fail
    go_ret2
    exact ⟨rfl, cc⟩
  · skip
    have t1 : decide (b < 0) = false := decide_eq_false (by omega)
    have t2 : decide (s < a) = true := decide_eq_true (by omega)
    clear e2 hb0 ha hb hi
    have cc := Below.refl w.heap.size w
    go_enter Try.func61, Try.ntmps61
    go_wp2_with fail
    go_ret2
    exact ⟨rfl, cc⟩

theorem fadd_N {w : World} {a b : Int} (ha : I64 a) (hb : I64 b) :
    Calls Try.prog 61 #[.int .i64 a, .int .i64 b] w (GotV w (.tuple #[.int .i64 (nI (a + b)), .int .i64 (nE (a + b))])) := by
  by_cases hi : I64 (a + b)
  · rw [(nI_yes hi).1, (nI_yes hi).2]; exact fadd_yes ha hb hi
  · rw [(nI_no hi).1, (nI_no hi).2]; exact fadd_far ha hb hi

theorem fsub_yes {w : World} {a b : Int} (ha : I64 a) (hb : I64 b) (hi : I64 (a - b)) :
    Calls Try.prog 63 #[.int .i64 a, .int .i64 b] w (GotV w (.tuple #[.int .i64 (a - b), .int .i64 (0)])) := by
  obtain ⟨s, es⟩ : ∃ s, a - b = s := ⟨_, rfl⟩
  have k1 : IntKind.i64.wrap (a - b) = s := by rw [← es]; exact IntWalk.i64_in _ (by unfold I64 at hi; omega)
  rw [es]
  by_cases hb0 : b < 0
  · skip
    have t1 : decide (b < 0) = true := decide_eq_true (by omega)
    have t2 : decide (a < s) = true := decide_eq_true (by omega)
    clear es hb0
    have cc := Below.refl w.heap.size w
    go_enter Try.func63, Try.ntmps63
    go_wp2_with fail
    go_ret2
    exact ⟨rfl, cc⟩
  · skip
    have t1 : decide (b < 0) = false := decide_eq_false (by omega)
    have t2 : decide (a < s) = false := decide_eq_false (by omega)
    clear es hb0
    have cc := Below.refl w.heap.size w
    go_enter Try.func63, Try.ntmps63
    go_wp2_with fail
    go_ret2
    exact ⟨rfl, cc⟩

theorem fsub_far {w : World} {a b : Int} (ha : I64 a) (hb : I64 b) (hi : ¬ I64 (a - b)) :
    Calls Try.prog 63 #[.int .i64 a, .int .i64 b] w (GotV w (.tuple #[.int .i64 (0), .int .i64 (2)])) := by
  obtain ⟨s, es⟩ : ∃ s, IntKind.i64.wrap (a - b) = s := ⟨_, rfl⟩
  have e2 := es
  rw [IntKind.wrap_i64] at e2
  unfold I64 at ha hb hi
  by_cases hb0 : b < 0
  · skip
    have t1 : decide (b < 0) = true := decide_eq_true (by omega)
    have t2 : decide (a < s) = false := decide_eq_false (by omega)
    clear e2 hb0 ha hb hi
    have cc := Below.refl w.heap.size w
    go_enter Try.func63, Try.ntmps63
    go_wp2_with fail
    go_ret2
    exact ⟨rfl, cc⟩
  · skip
    have t1 : decide (b < 0) = false := decide_eq_false (by omega)
    have t2 : decide (a < s) = true := decide_eq_true (by omega)
    clear e2 hb0 ha hb hi
    have cc := Below.refl w.heap.size w
    go_enter Try.func63, Try.ntmps63
    go_wp2_with fail
    go_ret2
    exact ⟨rfl, cc⟩

theorem fsub_N {w : World} {a b : Int} (ha : I64 a) (hb : I64 b) :
    Calls Try.prog 63 #[.int .i64 a, .int .i64 b] w (GotV w (.tuple #[.int .i64 (nI (a - b)), .int .i64 (nE (a - b))])) := by
  by_cases hi : I64 (a - b)
  · rw [(nI_yes hi).1, (nI_yes hi).2]; exact fsub_yes ha hb hi
  · rw [(nI_no hi).1, (nI_no hi).2]; exact fsub_far ha hb hi

end Go.Proofs.Ytckdbcngnghhiaa

/-
  The contracts of the landed fix: Mul, Div, Scale.
-/
namespace Go.Proofs.Ytckdbcngnghhiaa
set_option maxRecDepth 100000
open Go.RowKit
set_option linter.unusedVariables false
set_option linter.unusedSimpArgs false

theorem sgn_prod {a b : Int} {n : Bool} (hn : (decide (a < 0) != decide (b < 0)) = n) : sgn n (a.natAbs * b.natAbs) = a * b := by rw [← hn]; exact sgn_mul rfl rfl
set_option maxHeartbeats 8000000 in
theorem fmul_N {w : World} {a b j : Int} (ha : I64 a) (hb : I64 b) (j0 : 0 ≤ j) (j1 : j ≤ 40) :
    Calls Try.prog 62 #[.int .i64 a, .int .i64 b, .int .i64 j] w (GotV w (.tuple #[.int .i64 (nI (rn (a * b) (2 ^ j.toNat))), .int .i64 (nE (rn (a * b) (2 ^ j.toNat)))])) := by
  have je := to_nat j0
  obtain ⟨k, hk⟩ : ∃ k, j.toNat = k := ⟨_, rfl⟩
  rw [hk] at je ⊢
  have k40 : k ≤ 40 := by omega
  have km : min k 64 = k := by omega
  have pk := pow_size k40
  have p0 : 0 < 2 ^ k := Nat.pow_pos (by omega)
  have kw : ((2 : Int) ^ k) = ((2 ^ k : Nat) : Int) := by simp
  obtain ⟨o, eo⟩ : ∃ o, 2 ^ k = o := ⟨_, rfl⟩
  rw [eo] at pk p0 kw ⊢
  have ob : o < B64 := by unfold B64; omega
  have k1 : IntKind.u64.wrap ((2 : Int) ^ k) = (o : Int) := by rw [kw, IntKind.wrap_u64]; unfold B64 at ob; omega
  have k2 : IntKind.u64.wrap ((2 : Int) ^ j.toNat) = (o : Int) := by rw [hk]; exact k1
  clear kw k1
  obtain ⟨x, ex⟩ : ∃ x, a.natAbs = x := ⟨_, rfl⟩
  obtain ⟨y, ey⟩ : ∃ y, b.natAbs = y := ⟨_, rfl⟩
  have sa := i64_size ha
  have sb := i64_size hb
  have b64 : B64 = 18446744073709551616 := rfl
  obtain ⟨p, hp⟩ : ∃ p, decide (a < 0) = p := ⟨_, rfl⟩
  obtain ⟨q, hq⟩ : ∃ q, decide (b < 0) = q := ⟨_, rfl⟩
  obtain ⟨n, hn⟩ : ∃ n, (p != q) = n := ⟨_, rfl⟩
  have hn' : (!(p == q)) = n := hn
  have hs : sgn n (x * y) = a * b := by rw [← ex, ← ey]; exact sgn_prod (by rw [hp, hq]; exact hn)
  rw [ex] at sa
  rw [ey] at sb
  obtain ⟨l, el⟩ : ∃ l, mulLo x y = l := ⟨_, rfl⟩
  obtain ⟨h, eh⟩ : ∃ h, mulHi x y = h := ⟨_, rfl⟩
  have hl : l < B64 := by rw [← el]; exact mulLo_lt _ _
  have hh : h + 1 < B64 := by rw [← eh]; exact hi_small (by omega) (by omega)
  have hx : l + B64 * h = x * y := by rw [← el, ← eh]; exact mul_limbs _ _
  obtain ⟨z, ez⟩ : ∃ z, rn (a * b) o = z := ⟨_, rfl⟩
  rw [ez]
  have CZ : ∀ (W : World), Calls Try.prog 80 #[.int .i64 a] W (GotV W (.int .u64 (x : Int))) := fun W => by rw [← ex]; exact size_N W ha
  have CY : ∀ (W : World), Calls Try.prog 80 #[.int .i64 b] W (GotV W (.int .u64 (y : Int))) := fun W => by rw [← ey]; exact size_N W hb
  have CP : ∀ (W : World), Calls Try.prog 79 #[.int .u64 (x : Int), .int .u64 (y : Int)] W (GotV W (.agg #[.int .u64 (l : Int), .int .u64 (h : Int)])) := fun W => by rw [← el, ← eh]; exact product_N (by omega) (by omega)
  have CN : ∀ (W : World), Calls Try.prog 78 #[.bool n, .agg #[.int .u64 (l : Int), .int .u64 (h : Int)], .int .u64 (o : Int)] W (GotV W (.tuple #[.int .i64 (nI z), .int .i64 (nE z)])) := fun W => by rw [← ez]; exact by have h := nearest_N (w := W) (b := n) hl hh p0 ob; rw [hx, hs] at h; exact h
  clear hk eo pk p0 ex ey sa sb hs hx ez el eh hl hh ob hn b64
  have cc := Below.refl w.heap.size w
  go_enter Try.func62, Try.ntmps62
  go_wp2_with fail
  refine (isf_2 _ j0 j1).mono ?_
  rintro e w1 ⟨rfl, b⟩
  replace cc := bK cc b
  clear b
  go_wp2_with fail
  have bD : Below w1.heap.size w1 w1.drew := below_drewN (Below.refl _ w1) 1
  replace cc := bK cc bD
  clear bD
  refine wp_region_held_drew (S := fun w' => True) (by kernel_rfl) ?_ (fun hHeld => ?_)
  · exact ⟨⟩
  refine tY (i := 0) (v := ?_) rfl ?_ hHeld ?_
  rotate_left
  · (intro w hSw; (try dsimp only at hSw); go_simp; (try with_reducible rfl))
  try simp only [Act.put, pT]
  refine tY (i := 1) (v := ?_) rfl ?_ hHeld ?_
  rotate_left
  · (intro w hSw; (try dsimp only at hSw); go_simp; (try with_reducible rfl))
  try simp only [Act.put, pT]
  refine tY (i := 2) (v := ?_) rfl ?_ hHeld ?_
  rotate_left
  · (intro w hSw; (try dsimp only at hSw); go_simp; (try with_reducible rfl))
  try simp only [Act.put, pT]
  refine tY (i := 3) (v := ?_) rfl ?_ hHeld ?_
  rotate_left
  · (intro w hSw; (try dsimp only at hSw); go_simp; (try with_reducible rfl))
  try simp only [Act.put, pT]
  refine tY (i := 4) (v := ?_) rfl ?_ hHeld ?_
  rotate_left
  · (intro w hSw; (try dsimp only at hSw); go_simp; (try with_reducible rfl))
  try simp only [Act.put, pT]
  refine tY (i := 5) (v := ?_) rfl ?_ hHeld ?_
  rotate_left
  · (intro w hSw; (try dsimp only at hSw); go_simp; (try with_reducible rfl))
  try simp only [Act.put, pT]
  refine tY (i := 7) (v := ?_) rfl ?_ hHeld ?_
  rotate_left
  · (intro w hSw; (try dsimp only at hSw); go_simp; (try with_reducible rfl))
  try simp only [Act.put, pT]
  refine tY (i := 10) (v := ?_) rfl ?_ hHeld ?_
  rotate_left
  · (intro w hSw; (try dsimp only at hSw); go_simp; (try with_reducible rfl))
  try simp only [Act.put, pT]
  refine tY (i := 11) (v := ?_) rfl ?_ hHeld ?_
  rotate_left
  · (intro w hSw; (try dsimp only at hSw); go_simp; (try with_reducible rfl))
  try simp only [Act.put, pT]
  refine wpAnyH_ready (rs := [6]) (by kernel_rfl) (by simp) ?_
  refine AllReadyH.cons rfl (fun K hK => ?_) AllReadyH.nil
  (try simp only [pT])
  rw [if_pos (by rfl)]
  go_simp
  go_at_call 80
  refine (CZ _).mono ?_
  rintro e w2 ⟨rfl, b⟩
  replace cc := bK cc b
  clear b
  refine hK.out _ _ ?_ (fun hHeld => ?_)
  · exact ⟨⟩
  clear hK K
  try simp only [Act.put, pT]
  refine wpAnyH_ready (rs := [8]) (by kernel_rfl) (by simp) ?_
  refine AllReadyH.cons rfl (fun K hK => ?_) AllReadyH.nil
  (try simp only [pT])
  rw [if_pos (by rfl)]
  go_simp
  go_at_call 80
  refine (CY _).mono ?_
  rintro e w3 ⟨rfl, b⟩
  replace cc := bK cc b
  clear b
  refine hK.out _ _ ?_ (fun hHeld => ?_)
  · exact ⟨⟩
  clear hK K
  try simp only [Act.put, pT]
  refine wpAnyH_ready (rs := [9]) (by kernel_rfl) (by simp) ?_
  refine AllReadyH.cons rfl (fun K hK => ?_) AllReadyH.nil
  (try simp only [pT])
  rw [if_pos (by rfl)]
  go_simp
  go_at_call 79
  refine (CP _).mono ?_
  rintro e w4 ⟨rfl, b⟩
  replace cc := bK cc b
  clear b
  refine hK.out _ _ ?_ (fun hHeld => ?_)
  · exact ⟨⟩
  clear hK K
  try simp only [Act.put, pT]
  refine wpAnyH_ready (rs := [12]) (by kernel_rfl) (by simp) ?_
  refine AllReadyH.cons rfl (fun K hK => ?_) AllReadyH.nil
  (try simp only [pT])
  rw [if_pos (by rfl)]
  go_simp
  go_at_call 78
  refine (CN _).mono ?_
  rintro e w5 ⟨rfl, b⟩
  replace cc := bK cc b
  clear b
  refine hK.out _ _ ?_ (fun hHeld => ?_)
  · exact ⟨⟩
  clear hK K
  try simp only [Act.put, pT]
  refine tY (i := 13) (v := ?_) rfl ?_ hHeld ?_
  rotate_left
  · (intro w hSw; (try dsimp only at hSw); go_simp; (try with_reducible rfl))
  try simp only [Act.put, pT]
  refine tY (i := 14) (v := ?_) rfl ?_ hHeld ?_
  rotate_left
  · (intro w hSw; (try dsimp only at hSw); go_simp; (try with_reducible rfl))
  try simp only [Act.put, pT]
  refine tY (i := 15) (v := ?_) rfl ?_ hHeld ?_
  rotate_left
  · (intro w hSw; (try dsimp only at hSw); go_simp; (try with_reducible rfl))
  try simp only [Act.put, pT]
  refine tY (i := 16) (v := ?_) rfl ?_ hHeld ?_
  rotate_left
  · (intro w hSw; (try dsimp only at hSw); go_simp; (try with_reducible rfl))
  try simp only [Act.put, pT]
  refine wpAnyH_done (by kernel_rfl) ?_ _
  clear hHeld
  go_wp2_with fail
  go_ret2
  exact ⟨rfl, cc⟩

end Go.Proofs.Ytckdbcngnghhiaa

/-
  A region that draws its order, walked as a graph of states.
-/
namespace Go.Proofs.Ytckdbcngnghhiaa
open Go.RowKit
set_option linter.unusedVariables false
set_option linter.unusedSimpArgs false

/-- The operations of a function's region. -/
def regIn (n : Nat) : Code → Option (Array Oper)
  | .region id ops _ => if id = n then some ops else none
  | .seq a b => (regIn n a).or (regIn n b)
  | .cond _ a b => (regIn n a).or (regIn n b)
  | .block _ a => regIn n a
  | .loop a => regIn n a
  | _ => none
def regOf (n : Nat) (f : Func) : Array Oper := match f.body with
  | some c => (regIn n c).getD #[]
  | none => #[]
theorem wp_region_n {id n : Nat} {P : Program} {ops : Array Oper} {Q : Exit → Act → World → Prop} {S : World → Prop} {a : Act} {w : World} (hn : ops.size = n) (hm : P.follows .mixedOrders = true) (hS : S w.drew)
    (h : S w.drew → wpAnyH P .any ops Q S n (Array.replicate n false) a w.drew) : (Code.region id ops true).wp P Q a w := by
  subst hn
  exact wp_region_held_drew hm hS h
theorem one_upD (w : World) (o : Obj) : Below w.heap.size w (w.alloc o) := (Below.refl _ w).alloc (Nat.le_refl _) _
theorem heap_up {w : World} {o x : Obj} {b : Nat} (h : w.heap[b]? = some x) : (w.alloc o).heap[b]? = some x := ((one_upD w o).block b (Array.getElem?_eq_some_iff.1 h).1).trans h
theorem put_cell1 {W : World} {g k : Nat} {cs : Array Value} {c : Value} {T : TypeId} (z : W.heap[g]? = some (.cells cs T)) : (W.setCell ⟨g, k, none⟩ c).heap[g]? = some (.cells (cs.setIfInBounds k c) T) := by
  obtain ⟨hlt, hk⟩ := Array.getElem?_eq_some_iff.1 z
  show (W.heap.modify g _)[g]? = _
  rw [Array.getElem?_eq_getElem (by rw [Array.size_modify]; exact hlt), Array.getElem_modify_self, hk]
  rfl
theorem put_cells2 {W : World} {g : Nat} {a b c d : Value} {T : TypeId} (z : W.heap[g]? = some (.cells #[a, b] T)) : ((W.setCell ⟨g, 0, none⟩ c).setCell ⟨g, 1, none⟩ d).heap[g]? = some (.cells #[c, d] T) := put_cell1 (put_cell1 z)
theorem put_far2 {W : World} {g b : Nat} {c d : Value} {o : Option Obj} (z : W.heap[b]? = o) (hne : b ≠ g) : ((W.setCell ⟨g, 0, none⟩ c).setCell ⟨g, 1, none⟩ d).heap[b]? = o :=
  (heap_setCell_other _ ⟨g, 1, none⟩ b d hne).trans ((heap_setCell_other _ ⟨g, 0, none⟩ b c hne).trans z)
end Go.Proofs.Ytckdbcngnghhiaa

/-
  The landed mom: what a reckoner's box holds, and sums and products by it.
-/
namespace Go.Proofs.Ytckdbcngnghhiaa
set_option maxRecDepth 100000
set_option maxHeartbeats 8000000
open Go.RowKit
set_option linter.unusedVariables false
set_option linter.unusedSimpArgs false

/-- A code that says whether all was there. -/
def ec (q : Bool) : Int := if q = true then 0 else 2
theorem nE_ec (z : Int) : nE z = ec (decide (I64 z)) := by
  by_cases h : I64 z
  · rw [(nI_yes h).2, decide_eq_true h]; rfl
  · rw [(nI_no h).2, decide_eq_false h]; rfl
/-- What a reckoner's box holds. -/
def Rk (W : World) (g : Nat) (f lr mu wd : Int) (ne q : Bool) : Prop := W.heap[g]? = some (.cells #[.int .i64 f, .int .i64 (ec q), .int .i64 lr, .int .i64 mu, .int .i64 wd, .bool ne] 54)
theorem Rk.lt {W : World} {g : Nat} {f lr mu wd : Int} {ne q : Bool} (h : Rk W g f lr mu wd ne q) : g < W.heap.size := (Array.getElem?_eq_some_iff.1 h).1
theorem Rk.on {W W' : World} {g : Nat} {f lr mu wd : Int} {ne q : Bool} (h : Rk W g f lr mu wd ne q) (b : Below W.heap.size W W') : Rk W' g f lr mu wd ne q := (b.block g h.lt).trans h
theorem Rk.cells {W : World} {g : Nat} {f lr mu wd : Int} {ne q : Bool} (h : Rk W g f lr mu wd ne q) : W.cell? ⟨g, 0, none⟩ = some (.int .i64 f) ∧ W.cell? ⟨g, 1, none⟩ = some (.int .i64 (ec q)) ∧ W.cell? ⟨g, 2, none⟩ = some (.int .i64 lr) ∧ W.cell? ⟨g, 3, none⟩ = some (.int .i64 mu) ∧ W.cell? ⟨g, 4, none⟩ = some (.int .i64 wd) ∧ W.cell? ⟨g, 5, none⟩ = some (.bool ne) :=
  ⟨cell_of_row W g 0 _ _ _ h, cell_of_row W g 1 _ _ _ h, cell_of_row W g 2 _ _ _ h, cell_of_row W g 3 _ _ _ h, cell_of_row W g 4 _ _ _ h, cell_of_row W g 5 _ _ _ h⟩
theorem Rk.put {W : World} {g : Nat} {f lr mu wd : Int} {ne q : Bool} (h : Rk W g f lr mu wd ne q) (p : Bool) : Rk (W.setCell ⟨g, 1, none⟩ (.int .i64 (ec p))) g f lr mu wd ne p := put_cell1 h
/-- Nothing that was there is changed but the block g. -/
def Sp (g : Nat) (w w' : World) : Prop := Below g w w' ∧ ∀ b, b < w.heap.size → b ≠ g → w'.heap[b]? = w.heap[b]?
theorem Sp.trans {g : Nat} {a b c : World} (h : Sp g a b) (k : Sp g b c) : Sp g a c := ⟨h.1.trans k.1, fun x hx hn => (k.2 x (Nat.lt_of_lt_of_le hx h.1.size) hn).trans (h.2 x hx hn)⟩
theorem Sp.of {g : Nat} {w w' : World} (hg : g ≤ w.heap.size) (b : Below w.heap.size w w') : Sp g w w' := ⟨b.mono hg, fun x hx _ => b.block x hx⟩
theorem Sp.refl (g : Nat) (w : World) : Sp g w w := ⟨Below.refl g w, fun _ _ _ => rfl⟩
theorem Sp.put (g k : Nat) (w : World) (v : Value) : Sp g w (w.setCell ⟨g, k, none⟩ v) := ⟨(Below.refl g w).setCell (p := ⟨g, k, none⟩) (Nat.le_refl g) v, fun x _ hn => heap_setCell_other w ⟨g, k, none⟩ x v hn⟩
/-- A value is answered; the reckoner's box holds what it did, but for its code. -/
def GotK (W : World) (g : Nat) (f lr mu wd : Int) (ne q : Bool) (v : Value) (e : Ending) (W' : World) : Prop := e = .returned v ∧ Rk W' g f lr mu wd ne q ∧ Sp g W W'

theorem kNote_N {W : World} {g : Nat} {f lr mu wd x : Int} {ne q p : Bool} (h : Rk W g f lr mu wd ne q) :
    Calls Try.prog 60 #[.pointer (some ⟨g, 0, none⟩), .int .i64 x, .int .i64 (ec p)] W (GotK W g f lr mu wd ne (q && p) (.int .i64 x)) := by
  obtain ⟨z0, z1, -⟩ := h.cells
  have F1 : W.frozen? ⟨g, 1, none⟩ = false := frozen_of_row W g 1 _ _ h
  cases q
  · rw [show ec false = 2 from rfl] at z1
    have H := Lib.hid (h)
    obtain ⟨c, hc⟩ : ∃ c, ec p = c := ⟨_, rfl⟩
    rw [hc]
    clear hc h
    go_enter Try.func60, Try.ntmps60
    go_wp2_with fail
    go_ret
    exact ⟨rfl, H.out, Sp.refl g W⟩
  · rw [show ec true = 0 from rfl] at z1
    have H := Lib.hid (h.put p)
    have HS := Lib.hid (Sp.put g 1 W (.int .i64 (ec p)))
    obtain ⟨c, hc⟩ : ∃ c, ec p = c := ⟨_, rfl⟩
    rw [hc] at H HS ⊢
    clear hc h
    go_enter Try.func60, Try.ntmps60
    go_wp2_with fail
    go_ret
    exact ⟨rfl, H.out, HS.out⟩

theorem kAdd_N {W : World} {g : Nat} {f lr mu wd a b : Int} {ne q : Bool} (ha : I64 a) (hb : I64 b) (h : Rk W g f lr mu wd ne q) :
    Calls Try.prog 37 #[.pointer (some ⟨g, 0, none⟩), .int .i64 a, .int .i64 b] W (GotK W g f lr mu wd ne (q && decide (I64 (a + b))) (.int .i64 (nI (a + b)))) := by
  have CA : ∀ V : World, Calls Try.prog 61 #[.int .i64 a, .int .i64 b] V (GotV V (.tuple #[.int .i64 (nI (a + b)), .int .i64 (ec (decide (I64 (a + b))))])) := fun V => by rw [← nE_ec]; exact fadd_N ha hb
  generalize nI (a + b) = x at *
  generalize decide (I64 (a + b)) = p at *
  clear ha hb
  go_enter Try.func37, Try.ntmps37
  go_wp2_with fail
  refine (CA _).mono ?_
  rintro e W1 ⟨rfl, b⟩
  have h1 := h.on b
  have s1 := Sp.of (Nat.le_of_lt h.lt) b
  clear b h
  go_wp2_with fail
  refine (kNote_N h1).mono ?_
  rintro e W2 ⟨rfl, h2, s2⟩
  replace s1 := s1.trans s2
  clear s2 h1
  go_wp2_with fail
  go_ret
  exact ⟨rfl, h2, s1⟩

theorem kSub_N {W : World} {g : Nat} {f lr mu wd a b : Int} {ne q : Bool} (ha : I64 a) (hb : I64 b) (h : Rk W g f lr mu wd ne q) :
    Calls Try.prog 39 #[.pointer (some ⟨g, 0, none⟩), .int .i64 a, .int .i64 b] W (GotK W g f lr mu wd ne (q && decide (I64 (a - b))) (.int .i64 (nI (a - b)))) := by
  have CA : ∀ V : World, Calls Try.prog 63 #[.int .i64 a, .int .i64 b] V (GotV V (.tuple #[.int .i64 (nI (a - b)), .int .i64 (ec (decide (I64 (a - b))))])) := fun V => by rw [← nE_ec]; exact fsub_N ha hb
  generalize nI (a - b) = x at *
  generalize decide (I64 (a - b)) = p at *
  clear ha hb
  go_enter Try.func39, Try.ntmps39
  go_wp2_with fail
  refine (CA _).mono ?_
  rintro e W1 ⟨rfl, b⟩
  have h1 := h.on b
  have s1 := Sp.of (Nat.le_of_lt h.lt) b
  clear b h
  go_wp2_with fail
  refine (kNote_N h1).mono ?_
  rintro e W2 ⟨rfl, h2, s2⟩
  replace s1 := s1.trans s2
  clear s2 h1
  go_wp2_with fail
  go_ret
  exact ⟨rfl, h2, s1⟩

theorem kMul_N {W : World} {g : Nat} {f lr mu wd a b : Int} {ne q : Bool} (ha : I64 a) (hb : I64 b) (f0 : 0 ≤ f) (f1 : f ≤ 40) (h : Rk W g f lr mu wd ne q) :
    Calls Try.prog 38 #[.pointer (some ⟨g, 0, none⟩), .int .i64 a, .int .i64 b] W (GotK W g f lr mu wd ne (q && decide (I64 (rn (a * b) (2 ^ f.toNat)))) (.int .i64 (nI (rn (a * b) (2 ^ f.toNat))))) := by
  have CA : ∀ V : World, Calls Try.prog 62 #[.int .i64 a, .int .i64 b, .int .i64 f] V (GotV V (.tuple #[.int .i64 (nI (rn (a * b) (2 ^ f.toNat))), .int .i64 (ec (decide (I64 (rn (a * b) (2 ^ f.toNat)))))])) := fun V => by rw [← nE_ec]; exact fmul_N ha hb f0 f1
  generalize nI (rn (a * b) (2 ^ f.toNat)) = x at *
  generalize decide (I64 (rn (a * b) (2 ^ f.toNat))) = p at *
  clear ha hb f0 f1
  obtain ⟨z0, -⟩ := h.cells
  go_enter Try.func38, Try.ntmps38
  go_wp2_with fail
  refine (CA _).mono ?_
  rintro e W1 ⟨rfl, b⟩
  have h1 := h.on b
  have s1 := Sp.of (Nat.le_of_lt h.lt) b
  clear b h z0
  go_wp2_with fail
  refine (kNote_N h1).mono ?_
  rintro e W2 ⟨rfl, h2, s2⟩
  replace s1 := s1.trans s2
  clear s2 h1
  go_wp2_with fail
  go_ret
  exact ⟨rfl, h2, s1⟩

end Go.Proofs.Ytckdbcngnghhiaa
