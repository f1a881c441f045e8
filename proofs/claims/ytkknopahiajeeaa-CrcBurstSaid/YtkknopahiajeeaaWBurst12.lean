/-
  The walk of CrcBurst.
-/
import Derived.Test.YtkknopahiajeeaaA2
namespace Go.Proofs.Ytkknopahiajeeaa
set_option maxRecDepth 100000
open Go.RowKit
set_option linter.unusedVariables false
set_option linter.unusedSimpArgs false

set_option maxRecDepth 100000 in
set_option maxHeartbeats 8000000 in
theorem CrcBurst_0 {w : World} {A : Option Addr} {n c u v : Nat} {l : List Nat} (hA : BR w A n c l) (hn : n ≤ 140737488351232) {a : Int} (h0 : 2000 < n) :
    Calls Try.prog 5 #[.slice A n c, .int .i64 a, .agg #[.int .u32 (u : Int), .int .u32 (v : Int)]] w fun e w' => e = .returned (.bool true) ∧ Below w.heap.size w w' := by
  have CPut := fun {W : World} (h : BR W A n c l) => gPut_N h hn
  obtain ⟨Q, hQ⟩ : ∃ Q, n + 4 = Q := ⟨_, rfl⟩
  have k0 : IntKind.i64.wrap ((n : Int) + 4) = (Q : Int) := by rw [IntWalk.i64_in _ (by omega)]; omega
  obtain ⟨s5, hs5⟩ : ∃ s, (Q : Int) - 5 = s := ⟨_, rfl⟩
  have k5 : IntKind.i64.wrap ((Q : Int) - 5) = s5 := by rw [IntWalk.i64_in _ (by omega)]; exact hs5
  have HQ := Lib.hid hQ
  have t0 : decide (2000 < (n : Int)) = true := decide_eq_true (by omega)
  have u0 : decide (2000 < n) = true := decide_eq_true (by omega)
  clear hn hQ hs5 h0
  have cc := Below.refl w.heap.size w
  go_enter Try.func5, Try.ntmps5
  go_wp2_with fail
  have bA : Below w.heap.size w (w.alloc (.cells #[.int .u32 (u : Int), .int .u32 (v : Int)] 38)) := (Below.refl _ w).alloc (Nat.le_refl _) _
  replace hA := hA.on bA
  replace cc := cc.trans (bA.mono cc.size)
  clear bA
  have pa0 : (w.alloc (.cells #[.int .u32 (u : Int), .int .u32 (v : Int)] 38)).cell? ⟨w.heap.size, 0, none⟩ = some (.int .u32 (u : Int)) := by simp [go_sem]
  have pa1 : (w.alloc (.cells #[.int .u32 (u : Int), .int .u32 (v : Int)] 38)).cell? ⟨w.heap.size, 1, none⟩ = some (.int .u32 (v : Int)) := by simp [go_sem]
  have pal : w.heap.size < (w.alloc (.cells #[.int .u32 (u : Int), .int .u32 (v : Int)] 38)).heap.size := by simp
  generalize w.alloc (.cells #[.int .u32 (u : Int), .int .u32 (v : Int)] 38) = v0 at *
  have hw0 := pal
  go_wp2_with fail
  refine (CPut hA).mono ?_
  rintro e w1 ⟨g, q, d, rfl, hO, b⟩
  replace hA := hA.on b
  replace pa0 := (b.cell (p := ⟨w.heap.size, 0, none⟩) pal).trans pa0
  replace pa1 := (b.cell (p := ⟨w.heap.size, 1, none⟩) pal).trans pa1
  replace pal := Nat.lt_of_lt_of_le pal b.size
  replace cc := cc.trans (b.mono cc.size)
  clear b
  have hP := BR.of_own hO (putB_lt hA.2.2.1)
  have hql := hP.1
  rw [putB_len, ← hA.1] at hql
  obtain rfl : q = Q := by have := HQ.out; omega
  clear hP hql
  go_wp2_with fail
  refine (alive12_any _).mono ?_
  rintro e w2 ⟨rfl, b⟩
  replace pa0 := (b.cell (p := ⟨w.heap.size, 0, none⟩) pal).trans pa0
  replace pa1 := (b.cell (p := ⟨w.heap.size, 1, none⟩) pal).trans pa1
  replace pal := Nat.lt_of_lt_of_le pal b.size
  replace cc := cc.trans (b.mono cc.size)
  clear b
  go_wp2_with fail
  go_ret
  exact ⟨rfl, cc⟩

set_option maxRecDepth 100000 in
set_option maxHeartbeats 8000000 in
theorem CrcBurst_1 {w : World} {A : Option Addr} {n c u v : Nat} {l : List Nat} (hA : BR w A n c l) (hn : n ≤ 140737488351232) {a : Int} (h0 : ¬ 2000 < n) (h1 : a < 0) :
    Calls Try.prog 5 #[.slice A n c, .int .i64 a, .agg #[.int .u32 (u : Int), .int .u32 (v : Int)]] w fun e w' => e = .returned (.bool true) ∧ Below w.heap.size w w' := by
  have CPut := fun {W : World} (h : BR W A n c l) => gPut_N h hn
  obtain ⟨Q, hQ⟩ : ∃ Q, n + 4 = Q := ⟨_, rfl⟩
  have k0 : IntKind.i64.wrap ((n : Int) + 4) = (Q : Int) := by rw [IntWalk.i64_in _ (by omega)]; omega
  obtain ⟨s5, hs5⟩ : ∃ s, (Q : Int) - 5 = s := ⟨_, rfl⟩
  have k5 : IntKind.i64.wrap ((Q : Int) - 5) = s5 := by rw [IntWalk.i64_in _ (by omega)]; exact hs5
  have HQ := Lib.hid hQ
  have t0 : decide (2000 < (n : Int)) = false := decide_eq_false (by omega)
  have u0 : decide (2000 < n) = false := decide_eq_false (by omega)
  have t1 : decide (a < 0) = true := decide_eq_true (by omega)
  clear hn hQ hs5 h0 h1
  have cc := Below.refl w.heap.size w
  go_enter Try.func5, Try.ntmps5
  go_wp2_with fail
  have bA : Below w.heap.size w (w.alloc (.cells #[.int .u32 (u : Int), .int .u32 (v : Int)] 38)) := (Below.refl _ w).alloc (Nat.le_refl _) _
  replace hA := hA.on bA
  replace cc := cc.trans (bA.mono cc.size)
  clear bA
  have pa0 : (w.alloc (.cells #[.int .u32 (u : Int), .int .u32 (v : Int)] 38)).cell? ⟨w.heap.size, 0, none⟩ = some (.int .u32 (u : Int)) := by simp [go_sem]
  have pa1 : (w.alloc (.cells #[.int .u32 (u : Int), .int .u32 (v : Int)] 38)).cell? ⟨w.heap.size, 1, none⟩ = some (.int .u32 (v : Int)) := by simp [go_sem]
  have pal : w.heap.size < (w.alloc (.cells #[.int .u32 (u : Int), .int .u32 (v : Int)] 38)).heap.size := by simp
  generalize w.alloc (.cells #[.int .u32 (u : Int), .int .u32 (v : Int)] 38) = v0 at *
  have hw0 := pal
  go_wp2_with fail
  refine (CPut hA).mono ?_
  rintro e w1 ⟨g, q, d, rfl, hO, b⟩
  replace hA := hA.on b
  replace pa0 := (b.cell (p := ⟨w.heap.size, 0, none⟩) pal).trans pa0
  replace pa1 := (b.cell (p := ⟨w.heap.size, 1, none⟩) pal).trans pa1
  replace pal := Nat.lt_of_lt_of_le pal b.size
  replace cc := cc.trans (b.mono cc.size)
  clear b
  have hP := BR.of_own hO (putB_lt hA.2.2.1)
  have hql := hP.1
  rw [putB_len, ← hA.1] at hql
  obtain rfl : q = Q := by have := HQ.out; omega
  clear hP hql
  go_wp2_with fail
  refine (alive12_any _).mono ?_
  rintro e w2 ⟨rfl, b⟩
  replace pa0 := (b.cell (p := ⟨w.heap.size, 0, none⟩) pal).trans pa0
  replace pa1 := (b.cell (p := ⟨w.heap.size, 1, none⟩) pal).trans pa1
  replace pal := Nat.lt_of_lt_of_le pal b.size
  replace cc := cc.trans (b.mono cc.size)
  clear b
  go_wp2_with fail
  go_ret
  exact ⟨rfl, cc⟩

set_option maxRecDepth 100000 in
set_option maxHeartbeats 8000000 in
theorem CrcBurst_2 {w : World} {A : Option Addr} {n c u v : Nat} {l : List Nat} (hA : BR w A n c l) (hn : n ≤ 140737488351232) {a : Int} (h0 : ¬ 2000 < n) (h1 : ¬ a < 0) (h2 : (n : Int) - 1 < a) :
    Calls Try.prog 5 #[.slice A n c, .int .i64 a, .agg #[.int .u32 (u : Int), .int .u32 (v : Int)]] w fun e w' => e = .returned (.bool true) ∧ Below w.heap.size w w' := by
  have CPut := fun {W : World} (h : BR W A n c l) => gPut_N h hn
  obtain ⟨Q, hQ⟩ : ∃ Q, n + 4 = Q := ⟨_, rfl⟩
  have k0 : IntKind.i64.wrap ((n : Int) + 4) = (Q : Int) := by rw [IntWalk.i64_in _ (by omega)]; omega
  obtain ⟨s5, hs5⟩ : ∃ s, (Q : Int) - 5 = s := ⟨_, rfl⟩
  have k5 : IntKind.i64.wrap ((Q : Int) - 5) = s5 := by rw [IntWalk.i64_in _ (by omega)]; exact hs5
  have HQ := Lib.hid hQ
  have t0 : decide (2000 < (n : Int)) = false := decide_eq_false (by omega)
  have u0 : decide (2000 < n) = false := decide_eq_false (by omega)
  have t1 : decide (a < 0) = false := decide_eq_false (by omega)
  have t2 : decide (s5 < a) = true := decide_eq_true (by omega)
  clear hn hQ hs5 h0 h1 h2
  have cc := Below.refl w.heap.size w
  go_enter Try.func5, Try.ntmps5
  go_wp2_with fail
  have bA : Below w.heap.size w (w.alloc (.cells #[.int .u32 (u : Int), .int .u32 (v : Int)] 38)) := (Below.refl _ w).alloc (Nat.le_refl _) _
  replace hA := hA.on bA
  replace cc := cc.trans (bA.mono cc.size)
  clear bA
  have pa0 : (w.alloc (.cells #[.int .u32 (u : Int), .int .u32 (v : Int)] 38)).cell? ⟨w.heap.size, 0, none⟩ = some (.int .u32 (u : Int)) := by simp [go_sem]
  have pa1 : (w.alloc (.cells #[.int .u32 (u : Int), .int .u32 (v : Int)] 38)).cell? ⟨w.heap.size, 1, none⟩ = some (.int .u32 (v : Int)) := by simp [go_sem]
  have pal : w.heap.size < (w.alloc (.cells #[.int .u32 (u : Int), .int .u32 (v : Int)] 38)).heap.size := by simp
  generalize w.alloc (.cells #[.int .u32 (u : Int), .int .u32 (v : Int)] 38) = v0 at *
  have hw0 := pal
  go_wp2_with fail
  refine (CPut hA).mono ?_
  rintro e w1 ⟨g, q, d, rfl, hO, b⟩
  replace hA := hA.on b
  replace pa0 := (b.cell (p := ⟨w.heap.size, 0, none⟩) pal).trans pa0
  replace pa1 := (b.cell (p := ⟨w.heap.size, 1, none⟩) pal).trans pa1
  replace pal := Nat.lt_of_lt_of_le pal b.size
  replace cc := cc.trans (b.mono cc.size)
  clear b
  have hP := BR.of_own hO (putB_lt hA.2.2.1)
  have hql := hP.1
  rw [putB_len, ← hA.1] at hql
  obtain rfl : q = Q := by have := HQ.out; omega
  clear hP hql
  go_wp2_with fail
  refine (alive12_any _).mono ?_
  rintro e w2 ⟨rfl, b⟩
  replace pa0 := (b.cell (p := ⟨w.heap.size, 0, none⟩) pal).trans pa0
  replace pa1 := (b.cell (p := ⟨w.heap.size, 1, none⟩) pal).trans pa1
  replace pal := Nat.lt_of_lt_of_le pal b.size
  replace cc := cc.trans (b.mono cc.size)
  clear b
  go_wp2_with fail
  go_ret
  exact ⟨rfl, cc⟩

set_option maxRecDepth 100000 in
set_option maxHeartbeats 8000000 in
theorem CrcBurst_3 {w : World} {A : Option Addr} {n c u v : Nat} {l : List Nat} (hA : BR w A n c l) (hn : n ≤ 140737488351232) {a : Int} (h0 : ¬ 2000 < n) (h1 : ¬ a < 0) (h2 : ¬ (n : Int) - 1 < a) (h3 : u = 0) :
    Calls Try.prog 5 #[.slice A n c, .int .i64 a, .agg #[.int .u32 (u : Int), .int .u32 (v : Int)]] w fun e w' => e = .returned (.bool true) ∧ Below w.heap.size w w' := by
  have CPut := fun {W : World} (h : BR W A n c l) => gPut_N h hn
  obtain ⟨Q, hQ⟩ : ∃ Q, n + 4 = Q := ⟨_, rfl⟩
  have k0 : IntKind.i64.wrap ((n : Int) + 4) = (Q : Int) := by rw [IntWalk.i64_in _ (by omega)]; omega
  obtain ⟨s5, hs5⟩ : ∃ s, (Q : Int) - 5 = s := ⟨_, rfl⟩
  have k5 : IntKind.i64.wrap ((Q : Int) - 5) = s5 := by rw [IntWalk.i64_in _ (by omega)]; exact hs5
  have HQ := Lib.hid hQ
  have t0 : decide (2000 < (n : Int)) = false := decide_eq_false (by omega)
  have u0 : decide (2000 < n) = false := decide_eq_false (by omega)
  have t1 : decide (a < 0) = false := decide_eq_false (by omega)
  have t2 : decide (s5 < a) = false := decide_eq_false (by omega)
  subst h3
  clear hn hQ hs5 h0 h1 h2
  have cc := Below.refl w.heap.size w
  go_enter Try.func5, Try.ntmps5
  go_wp2_with fail
  have bA : Below w.heap.size w (w.alloc (.cells #[.int .u32 0, .int .u32 (v : Int)] 38)) := (Below.refl _ w).alloc (Nat.le_refl _) _
  replace hA := hA.on bA
  replace cc := cc.trans (bA.mono cc.size)
  clear bA
  have pa0 : (w.alloc (.cells #[.int .u32 0, .int .u32 (v : Int)] 38)).cell? ⟨w.heap.size, 0, none⟩ = some (.int .u32 0) := by simp [go_sem]
  have pa1 : (w.alloc (.cells #[.int .u32 0, .int .u32 (v : Int)] 38)).cell? ⟨w.heap.size, 1, none⟩ = some (.int .u32 (v : Int)) := by simp [go_sem]
  have pal : w.heap.size < (w.alloc (.cells #[.int .u32 0, .int .u32 (v : Int)] 38)).heap.size := by simp
  generalize w.alloc (.cells #[.int .u32 0, .int .u32 (v : Int)] 38) = v0 at *
  have hw0 := pal
  go_wp2_with fail
  refine (CPut hA).mono ?_
  rintro e w1 ⟨g, q, d, rfl, hO, b⟩
  replace hA := hA.on b
  replace pa0 := (b.cell (p := ⟨w.heap.size, 0, none⟩) pal).trans pa0
  replace pa1 := (b.cell (p := ⟨w.heap.size, 1, none⟩) pal).trans pa1
  replace pal := Nat.lt_of_lt_of_le pal b.size
  replace cc := cc.trans (b.mono cc.size)
  clear b
  have hP := BR.of_own hO (putB_lt hA.2.2.1)
  have hql := hP.1
  rw [putB_len, ← hA.1] at hql
  obtain rfl : q = Q := by have := HQ.out; omega
  clear hP hql
  go_wp2_with fail
  refine (alive12_any _).mono ?_
  rintro e w2 ⟨rfl, b⟩
  replace pa0 := (b.cell (p := ⟨w.heap.size, 0, none⟩) pal).trans pa0
  replace pa1 := (b.cell (p := ⟨w.heap.size, 1, none⟩) pal).trans pa1
  replace pal := Nat.lt_of_lt_of_le pal b.size
  replace cc := cc.trans (b.mono cc.size)
  clear b
  go_wp2_with fail
  go_ret
  exact ⟨rfl, cc⟩

set_option maxRecDepth 100000 in
set_option maxHeartbeats 8000000 in
theorem CrcBurst_main {w : World} {A : Option Addr} {n c u v : Nat} {l : List Nat} (hA : BR w A n c l) (hn : n ≤ 140737488351232) {p : Nat} (h : n ≤ 2000) (hp : p + 1 ≤ n) (hu0 : u ≠ 0) (hu : u < 4294967296) (hv : v < 4294967296) :
    Calls Try.prog 5 #[.slice A n c, .int .i64 (p : Int), .agg #[.int .u32 (u : Int), .int .u32 (v : Int)]] w fun e w' => e = .returned (.bool true) ∧ Below w.heap.size w w' := by
  have CPut := fun {W : World} (h : BR W A n c l) => gPut_N h hn
  obtain ⟨Q, hQ⟩ : ∃ Q, n + 4 = Q := ⟨_, rfl⟩
  have k0 : IntKind.i64.wrap ((n : Int) + 4) = (Q : Int) := by rw [IntWalk.i64_in _ (by omega)]; omega
  obtain ⟨s5, hs5⟩ : ∃ s, (Q : Int) - 5 = s := ⟨_, rfl⟩
  have k5 : IntKind.i64.wrap ((Q : Int) - 5) = s5 := by rw [IntWalk.i64_in _ (by omega)]; exact hs5
  have HQ := Lib.hid hQ
  obtain ⟨r, hr⟩ : ∃ r, l.length + 4 = p + 5 + r := ⟨n - 1 - p, by have := hA.1; omega⟩
  have t0 : decide (2000 < (n : Int)) = false := decide_eq_false (by omega)
  have u0 : decide (2000 < n) = false := decide_eq_false (by omega)
  have t1 : decide ((p : Int) < 0) = false := decide_eq_false (by omega)
  have t2 : decide (s5 < (p : Int)) = false := decide_eq_false (by omega)
  have t3 : ((u : Int) == 0) = false := beq_eq_false_iff_ne.2 (by omega)
  have t4 : (u == 0) = false := beq_eq_false_iff_ne.2 hu0
  obtain ⟨c1_, c2_⟩ := burst_cut (k := v % 8) hA.2.2.1 hr hu0 hu (by omega)
  have hll : (putB l).length = n + 4 := by rw [putB_len, ← hA.1]
  have hPlt := putB_lt hA.2.2.1
  obtain ⟨N, hN⟩ : ∃ N, 2 ^ (v % 8) * u = N := ⟨_, rfl⟩
  have hN40 : N < 1099511627776 := by rw [← hN]; have h1 : 2 ^ (v % 8) ≤ 2 ^ 7 := Nat.pow_le_pow_right (by omega) (by omega); have h2 : 2 ^ (v % 8) * u ≤ 2 ^ 7 * u := Nat.mul_le_mul_right _ h1; have h4 : (2 : Nat) ^ 7 = 128 := (by decide); omega
  rw [hN] at c1_ c2_
  have HE : Hid (IntKind.u64.wrap (IntKind.u64.wrap (u : Int) * 2 ^ (v % 8)) = (N : Int)) := Lib.hid (by
    rw [show IntKind.u64.wrap (u : Int) = (u : Int) by rw [IntKind.wrap_u64]; omega]
    have e1 : (u : Int) * 2 ^ (v % 8) = (N : Int) := by rw [← hN, Int.natCast_mul, Int.mul_comm]; simp
    rw [e1, IntKind.wrap_u64]; omega)
  obtain ⟨P, eP⟩ : ∃ P, putB l = P := ⟨_, rfl⟩
  rw [eP] at c1_ c2_ hll hPlt
  have HEP := Lib.hid eP
  have HC1 := Lib.hid c1_
  have HC2 := Lib.hid c2_
  have HPL := Lib.hid hPlt
  have HLL := Lib.hid hll
  have HNN := Lib.hid hN
  have HN40 := Lib.hid hN40
  have HUU := Lib.hid hu
  clear hn hQ hs5 c1_ c2_ hPlt hll hr hu0 hu hv hN hN40 eP
  have cc := Below.refl w.heap.size w
  go_enter Try.func5, Try.ntmps5
  go_wp2_with fail
  have bA : Below w.heap.size w (w.alloc (.cells #[.int .u32 (u : Int), .int .u32 (v : Int)] 38)) := (Below.refl _ w).alloc (Nat.le_refl _) _
  replace hA := hA.on bA
  replace cc := cc.trans (bA.mono cc.size)
  clear bA
  have pa0 : (w.alloc (.cells #[.int .u32 (u : Int), .int .u32 (v : Int)] 38)).cell? ⟨w.heap.size, 0, none⟩ = some (.int .u32 (u : Int)) := by simp [go_sem]
  have pa1 : (w.alloc (.cells #[.int .u32 (u : Int), .int .u32 (v : Int)] 38)).cell? ⟨w.heap.size, 1, none⟩ = some (.int .u32 (v : Int)) := by simp [go_sem]
  have pal : w.heap.size < (w.alloc (.cells #[.int .u32 (u : Int), .int .u32 (v : Int)] 38)).heap.size := by simp
  generalize w.alloc (.cells #[.int .u32 (u : Int), .int .u32 (v : Int)] 38) = v0 at *
  have hw0 := pal
  go_wp2_with fail
  refine (CPut hA).mono ?_
  rintro e w1 ⟨g, q, d, rfl, hO, b⟩
  replace hA := hA.on b
  replace pa0 := (b.cell (p := ⟨w.heap.size, 0, none⟩) pal).trans pa0
  replace pa1 := (b.cell (p := ⟨w.heap.size, 1, none⟩) pal).trans pa1
  replace pal := Nat.lt_of_lt_of_le pal b.size
  replace cc := cc.trans (b.mono cc.size)
  clear b
  have hP := BR.of_own hO (putB_lt hA.2.2.1)
  have hql := hP.1
  rw [putB_len, ← hA.1] at hql
  obtain rfl : q = Q := by have := HQ.out; omega
  clear hP hql
  rw [HEP.out] at hO
  obtain ⟨t, ht⟩ : ∃ t, v0.heap.size = t := ⟨_, rfl⟩
  rw [ht] at hO
  have hwt : w.heap.size ≤ t := by omega
  have CCV := Lib.hid cc
  have HO := Lib.hid hO
  go_wp2_with fail
  clear ht pa0 pa1 pal hA cc
  go_loopw [8, 9] (fun nv iv wr => ∃ i : Nat, i ≤ 5 ∧ iv = .int .i64 (i : Int) ∧ nv = .int .u64 ((N / 256 ^ i : Nat) : Int) ∧ wr.ownsRow t 5 1 (.slice (some ⟨g, 0, none⟩) q d) q ((KX P p N i).map encB) ∧ Below w.heap.size w wr) (fun _ iv _ => 5 - (intOf iv).toNat)
  case atStart => exact ⟨0, by omega, rfl, by rw [HE.out]; simp, HO.out, CCV.out⟩
  case round =>
    obtain ⟨i, hi, rfl, rfl, hO, cc⟩ := hrel
    have hgt := (hO.lt g rfl).1
    by_cases hlt : i < 5
    · obtain ⟨j, hj⟩ : ∃ j, p + i = j := ⟨_, rfl⟩
      have hjq : j < q := by have := HQ.out; omega
      have hLK : (KX P p N i).length = q := by rw [KX_len, HLL.out, HQ.out]
      have hKlt := KX_lt HPL.out p N i
      have hS : KX P p N (i + 1) = (KX P p N i).set j ((KX P p N i)[j]?.getD 0 ^^^ (N / 256 ^ i % 256)) := by rw [← hj]; rfl
      have hM : N / 256 ^ (i + 1) = N / 256 ^ i / 256 := by rw [Nat.pow_succ, Nat.div_div_eq_div_mul]
      have hM40 : N / 256 ^ i < 1099511627776 := Nat.lt_of_le_of_lt (Nat.div_le_self _ _) HN40.out
      obtain ⟨K, eK⟩ : ∃ K, KX P p N i = K := ⟨_, rfl⟩
      rw [eK] at hO hLK hKlt hS
      obtain ⟨M, eM⟩ : ∃ M, N / 256 ^ i = M := ⟨_, rfl⟩
      rw [eM] at hS hM hM40 ⊢
      have hy6 : K[j]?.getD 0 < 256 := hKlt _ (mem_at (by omega))
      have cx := hO.cellAt j (by omega)
      have fx := hO.frozenAt j
      rw [show (K.map encB)[j]? = some (.int .u8 ((K[j]?.getD 0 : Nat) : Int)) by rw [List.getElem?_map, List.getElem?_eq_getElem (by omega)]; rfl] at cx
      obtain ⟨y, ey⟩ : ∃ y, K[j]?.getD 0 = y := ⟨_, rfl⟩
      rw [ey] at hS hy6 cx
      obtain ⟨z, ez⟩ : ∃ z, y ^^^ (M % 256) = z := ⟨_, rfl⟩
      rw [ez] at hS
      have b1 : bits .xor .u8 (y : Int) ((M : Int) % 256) = (z : Int) := by rw [show (M : Int) % 256 = ((M % 256 : Nat) : Int) from rfl, u8_xor_nat y (M % 256) hy6 (Nat.mod_lt _ (by omega)), ez]
      have b2 : IntKind.u8.wrap (M : Int) = (M : Int) % 256 := by rw [IntKind.wrap_u8]
      have b3 : IntKind.i64.wrap ((p : Int) + (i : Int)) = (j : Int) := by rw [IntWalk.i64_in _ (by have := HQ.out; omega)]; omega
      have b4 : IntKind.u64.wrap ((M : Int) / 256) = (M : Int) / 256 := by rw [IntKind.wrap_u64]; omega
      have b5 : IntKind.i64.wrap ((i : Int) + 1) = ((i + 1 : Nat) : Int) := by rw [IntWalk.i64_in _ (by omega)]; omega
      have jq : (j : Int) < (q : Int) := by omega
      have y6 : (y : Int) < 256 := by omega
      obtain ⟨hO2, hg2⟩ := hO.stored j (.int .u8 (z : Int))
      have HO2 : Hid ((wr.setCell ⟨g, j, none⟩ (.int .u8 (z : Int))).ownsRow t 5 1 (.slice (some ⟨g, 0, none⟩) q d) q ((KX P p N (i + 1)).map encB)) := Lib.hid (by rw [hS, List.map_set]; exact hO2)
      have HBW : Hid (Below w.heap.size w (wr.setCell ⟨g, j, none⟩ (.int .u8 (z : Int)))) := Lib.hid (cc.setCell (p := ⟨g, j, none⟩) (by show w.heap.size ≤ g; omega) _)
      have HM := Lib.hid hM
      clear hj hLK hKlt hS hM hM40 eK eM hy6 ey ez hO hO2 hg2
      go_wp2_with fail
      go_roundw
      case rel => exact ⟨i + 1, by omega, rfl, by rw [HM.out]; rfl, HO2.out, HBW.out⟩
      case measure => simp [intOf] <;> omega
    · obtain rfl : i = 5 := by omega
      have hX := BR.of_own hO (KX_lt HPL.out p N 5)
      have CC : ∀ {W : World}, BR W (some ⟨g, 0, none⟩) q d (KX P p N 5) → Calls Try.prog 10 #[.slice (some ⟨g, 0, none⟩) q d] W (GotBr W [] 8) := fun hh => by have e := gCut_N hh (by have := HQ.out; omega); rw [HC1.out, HC2.out] at e; exact e
      clear hO
      go_wp2_with fail
      refine (CC hX).mono ?_
      rintro e w2 ⟨Ay, ny, cy, rfl, hy, b⟩
      replace hX := hX.on b
      replace cc := cc.trans (b.mono cc.size)
      clear b
      obtain rfl : ny = 0 := hy.1
      go_wp2_with fail
      refine (alive12_any _).mono ?_
      rintro e w3 ⟨rfl, b⟩
      replace hX := hX.on b
      replace hy := hy.on b
      replace cc := cc.trans (b.mono cc.size)
      clear b
      go_wp2_with fail
      go_ret
      exact ⟨rfl, cc⟩

theorem CrcBurst_walk {w : World} {A : Option Addr} {n c : Nat} {l : List Nat} (hA : BR w A n c l) (hn : n ≤ 140737488351232) (a : Int) (wa : (Lit.int .i64 a).wf = true) (u v : Int) (wu : (Lit.int .u32 u).wf = true) (wv : (Lit.int .u32 v).wf = true) : Calls Try.prog 5 #[.slice A n c, .int .i64 a, .agg #[.int .u32 u, .int .u32 v]] w fun e w' => e = .returned (.bool true) ∧ Below w.heap.size w w' := by
  obtain ⟨u, rfl, hu⟩ := u32_nat wu
  obtain ⟨v, rfl, hv⟩ := u32_nat wv
  by_cases h0 : 2000 < n
  · exact CrcBurst_0 hA hn h0
  by_cases h1 : a < 0
  · exact CrcBurst_1 hA hn h0 h1
  by_cases h2 : (n : Int) - 1 < a
  · exact CrcBurst_2 hA hn h0 h1 h2
  by_cases h3 : u = 0
  · exact CrcBurst_3 hA hn h0 h1 h2 h3
  obtain ⟨p, rfl⟩ : ∃ p : Nat, a = (p : Int) := ⟨a.toNat, by omega⟩
  exact CrcBurst_main hA hn (by omega) (by omega) h3 hu hv

end Go.Proofs.Ytkknopahiajeeaa
