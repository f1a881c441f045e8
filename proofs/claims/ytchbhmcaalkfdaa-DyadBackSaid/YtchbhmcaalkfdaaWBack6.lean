/-
  The walk of DyadBack.
-/
import Derived.Test.YtchbhmcaalkfdaaB2
import Derived.Test.YtchbhmcaalkfdaaA2
namespace Go.Proofs.Ytchbhmcaalkfdaa
open Go.RowKit
set_option linter.unusedVariables false
set_option linter.unusedSimpArgs false

set_option maxRecDepth 100000 in
set_option maxHeartbeats 8000000 in
theorem DyadBack_no0 {w : World} {b0 : Bool} {A0 : Option Addr} {n0 c0 : Nat} {j : Int} (G0 : ∀ W : World, Below w.heap.size w W → Calls Try.prog 10 #[.agg #[.bool b0, .slice A0 n0 c0], .int .i64 4] W (GotV W (.bool false))) :
    Calls Try.prog 6 #[.agg #[.bool b0, .slice A0 n0 c0], .int .i64 j] w fun e w' => e = .returned (.bool true) ∧ Below w.heap.size w w' := by
  have cc := Below.refl w.heap.size w
  go_enter Try.func6, Try.ntmps6
  go_wp2_with fail
  have bA : Below w.heap.size w (w.alloc (.cells #[.bool b0, .slice A0 n0 c0] 25)) := ((Below.refl _ w).alloc (by simp) _)
  replace cc := bK cc bA
  clear bA
  have pa0 : (w.alloc (.cells #[.bool b0, .slice A0 n0 c0] 25)).cell? ⟨w.heap.size, 0, none⟩ = some (.bool b0) := by simp [go_sem]
  have pa1 : (w.alloc (.cells #[.bool b0, .slice A0 n0 c0] 25)).cell? ⟨w.heap.size, 1, none⟩ = some (.slice A0 n0 c0) := by simp [go_sem]
  have pal : w.heap.size < (w.alloc (.cells #[.bool b0, .slice A0 n0 c0] 25)).heap.size := by simp <;> omega
  generalize w.alloc (.cells #[.bool b0, .slice A0 n0 c0] 25) = v1 at *
  refine (G0 _ cc).mono ?_
  rintro e w2 ⟨rfl, b⟩
  replace pa0 := cK b pa0 pal
  replace pa1 := cK b pa1 pal
  replace pal := lK b pal
  replace cc := bK cc b
  clear b
  go_wp2_with fail
  refine (alive6_any _).mono ?_
  rintro e w3 ⟨rfl, b⟩
  replace pa0 := cK b pa0 pal
  replace pa1 := cK b pa1 pal
  replace pal := lK b pal
  replace cc := bK cc b
  clear b
  go_wp2_with fail
  go_ret
  exact ⟨rfl, cc⟩

set_option maxRecDepth 100000 in
set_option maxHeartbeats 8000000 in
theorem DyadBack_no1 {w : World} {b0 : Bool} {A0 : Option Addr} {n0 c0 : Nat} {j : Int} (G0 : ∀ W : World, Below w.heap.size w W → Calls Try.prog 10 #[.agg #[.bool b0, .slice A0 n0 c0], .int .i64 4] W (GotV W (.bool true))) (h : j < 0) :
    Calls Try.prog 6 #[.agg #[.bool b0, .slice A0 n0 c0], .int .i64 j] w fun e w' => e = .returned (.bool true) ∧ Below w.heap.size w w' := by
  have t1 : decide (j < 0) = true := decide_eq_true h
  have cc := Below.refl w.heap.size w
  go_enter Try.func6, Try.ntmps6
  go_wp2_with fail
  have bA : Below w.heap.size w (w.alloc (.cells #[.bool b0, .slice A0 n0 c0] 25)) := ((Below.refl _ w).alloc (by simp) _)
  replace cc := bK cc bA
  clear bA
  have pa0 : (w.alloc (.cells #[.bool b0, .slice A0 n0 c0] 25)).cell? ⟨w.heap.size, 0, none⟩ = some (.bool b0) := by simp [go_sem]
  have pa1 : (w.alloc (.cells #[.bool b0, .slice A0 n0 c0] 25)).cell? ⟨w.heap.size, 1, none⟩ = some (.slice A0 n0 c0) := by simp [go_sem]
  have pal : w.heap.size < (w.alloc (.cells #[.bool b0, .slice A0 n0 c0] 25)).heap.size := by simp <;> omega
  generalize w.alloc (.cells #[.bool b0, .slice A0 n0 c0] 25) = v1 at *
  refine (G0 _ cc).mono ?_
  rintro e w2 ⟨rfl, b⟩
  replace pa0 := cK b pa0 pal
  replace pa1 := cK b pa1 pal
  replace pal := lK b pal
  replace cc := bK cc b
  clear b
  go_wp2_with fail
  refine (alive6_any _).mono ?_
  rintro e w3 ⟨rfl, b⟩
  replace pa0 := cK b pa0 pal
  replace pa1 := cK b pa1 pal
  replace pal := lK b pal
  replace cc := bK cc b
  clear b
  go_wp2_with fail
  go_ret
  exact ⟨rfl, cc⟩

set_option maxRecDepth 100000 in
set_option maxHeartbeats 8000000 in
theorem DyadBack_no2 {w : World} {b0 : Bool} {A0 : Option Addr} {n0 c0 : Nat} {j : Int} (G0 : ∀ W : World, Below w.heap.size w W → Calls Try.prog 10 #[.agg #[.bool b0, .slice A0 n0 c0], .int .i64 4] W (GotV W (.bool true))) (h : 400 < j) :
    Calls Try.prog 6 #[.agg #[.bool b0, .slice A0 n0 c0], .int .i64 j] w fun e w' => e = .returned (.bool true) ∧ Below w.heap.size w w' := by
  have t1 : decide (j < 0) = false := decide_eq_false (by omega)
  have t2 : decide (400 < j) = true := decide_eq_true h
  have cc := Below.refl w.heap.size w
  go_enter Try.func6, Try.ntmps6
  go_wp2_with fail
  have bA : Below w.heap.size w (w.alloc (.cells #[.bool b0, .slice A0 n0 c0] 25)) := ((Below.refl _ w).alloc (by simp) _)
  replace cc := bK cc bA
  clear bA
  have pa0 : (w.alloc (.cells #[.bool b0, .slice A0 n0 c0] 25)).cell? ⟨w.heap.size, 0, none⟩ = some (.bool b0) := by simp [go_sem]
  have pa1 : (w.alloc (.cells #[.bool b0, .slice A0 n0 c0] 25)).cell? ⟨w.heap.size, 1, none⟩ = some (.slice A0 n0 c0) := by simp [go_sem]
  have pal : w.heap.size < (w.alloc (.cells #[.bool b0, .slice A0 n0 c0] 25)).heap.size := by simp <;> omega
  generalize w.alloc (.cells #[.bool b0, .slice A0 n0 c0] 25) = v1 at *
  refine (G0 _ cc).mono ?_
  rintro e w2 ⟨rfl, b⟩
  replace pa0 := cK b pa0 pal
  replace pa1 := cK b pa1 pal
  replace pal := lK b pal
  replace cc := bK cc b
  clear b
  go_wp2_with fail
  refine (alive6_any _).mono ?_
  rintro e w3 ⟨rfl, b⟩
  replace pa0 := cK b pa0 pal
  replace pa1 := cK b pa1 pal
  replace pal := lK b pal
  replace cc := bK cc b
  clear b
  go_wp2_with fail
  go_ret
  exact ⟨rfl, cc⟩

set_option maxRecDepth 100000 in
set_option maxHeartbeats 8000000 in
theorem DyadBack_ok {w : World} {b0 : Bool} {A0 : Option Addr} {n0 c0 : Nat} {j : Int} {z0 : Int} (h0 : Zn w b0 A0 n0 c0 z0) (s0 : (limbs z0.natAbs).length ≤ 4) (G0 : ∀ W : World, Below w.heap.size w W → Calls Try.prog 10 #[.agg #[.bool b0, .slice A0 n0 c0], .int .i64 4] W (GotV W (.bool true))) (j0 : 0 ≤ j) (j1 : j ≤ 400) :
    Calls Try.prog 6 #[.agg #[.bool b0, .slice A0 n0 c0], .int .i64 j] w fun e w' => e = .returned (.bool true) ∧ Below w.heap.size w w' := by
  have t1 : decide (j < 0) = false := decide_eq_false (by omega)
  have t2 : decide (400 < j) = false := decide_eq_false (by omega)
  have jl : j.toNat ≤ 500 := by omega
  have e0_ : IntKind.i64.wrap (j + 1) = j + 1 := IntWalk.i64_in _ (by omega)
  have ej : (j + 1).toNat = j.toNat + 1 := by omega
  have sa : Sz (bak z0 j.toNat) 8 := bak_sz (Nat.le_trans s0 (by omega)) (by omega) jl
  obtain ⟨ra, hra⟩ : ∃ r, bak z0 j.toNat = r := ⟨_, rfl⟩
  have CB : ∀ {W : World} {b : Bool} {A : Option Addr} {n c : Nat}, Zn W b A n c z0 → Calls Try.prog 18 #[.agg #[.bool b, .slice A n c], .int .i64 j] W (GotRp W ra 0) := fun hh => by rw [← hra]; exact dback_N hh (by omega) (by omega) (by omega)
  rw [hra] at sa
  have f1_ : flo ra j.toNat = z0 := by rw [← hra, flo_bak]
  have f2_ : cei ra j.toNat = z0 := by rw [← hra, cei_bak]
  have f3_ : nea ra j.toNat = z0 := by rw [← hra, nea_bak]
  have f4_ : nea ra (j + 1).toNat = z0 + z0 := by rw [ej, ← hra, nea_fine]
  have CF : ∀ {W : World} {b : Bool} {A B : Option Addr} {n c m d : Nat}, Rt W b A n c B m d ra → Calls Try.prog 12 #[.agg #[.bool b, .slice A n c, .slice B m d], .int .i64 j] W (GotZp W z0 0) := fun hh => by rw [← f1_]; exact dfloor_N hh (sa.le (by omega)) (by omega) (by omega)
  have CC : ∀ {W : World} {b : Bool} {A B : Option Addr} {n c m d : Nat}, Rt W b A n c B m d ra → Calls Try.prog 14 #[.agg #[.bool b, .slice A n c, .slice B m d], .int .i64 j] W (GotZp W z0 0) := fun hh => by rw [← f2_]; exact dceil_N hh (sa.le (by omega)) (by omega) (by omega)
  have CN : ∀ {W : World} {b : Bool} {A B : Option Addr} {n c m d : Nat}, Rt W b A n c B m d ra → Calls Try.prog 16 #[.agg #[.bool b, .slice A n c, .slice B m d], .int .i64 j] W (GotZp W z0 0) := fun hh => by rw [← f3_]; exact dnear_N hh (sa.le (by omega)) (by omega) (by omega)
  have CM : ∀ {W : World} {b : Bool} {A B : Option Addr} {n c m d : Nat}, Rt W b A n c B m d ra → Calls Try.prog 16 #[.agg #[.bool b, .slice A n c, .slice B m d], .int .i64 (j + 1)] W (GotZp W (z0 + z0) 0) := fun hh => by rw [← f4_]; exact dnear_N hh (sa.le (by omega)) (by omega) (by omega)
  have l2 : (limbs (z0 + z0).natAbs).length ≤ 300 := Nat.le_trans (zlen_add s0 s0) (by omega)
  clear hra f1_ f2_ f3_ f4_ ej
  have cc := Below.refl w.heap.size w
  go_enter Try.func6, Try.ntmps6
  go_wp2_with fail
  have bA : Below w.heap.size w (w.alloc (.cells #[.bool b0, .slice A0 n0 c0] 25)) := ((Below.refl _ w).alloc (by simp) _)
  replace h0 := h0.on bA
  replace cc := bK cc bA
  clear bA
  have pa0 : (w.alloc (.cells #[.bool b0, .slice A0 n0 c0] 25)).cell? ⟨w.heap.size, 0, none⟩ = some (.bool b0) := by simp [go_sem]
  have pa1 : (w.alloc (.cells #[.bool b0, .slice A0 n0 c0] 25)).cell? ⟨w.heap.size, 1, none⟩ = some (.slice A0 n0 c0) := by simp [go_sem]
  have pal : w.heap.size < (w.alloc (.cells #[.bool b0, .slice A0 n0 c0] 25)).heap.size := by simp <;> omega
  generalize w.alloc (.cells #[.bool b0, .slice A0 n0 c0] 25) = v1 at *
  refine (G0 _ cc).mono ?_
  rintro e w2 ⟨rfl, b⟩
  replace h0 := h0.on b
  replace pa0 := cK b pa0 pal
  replace pa1 := cK b pa1 pal
  replace pal := lK b pal
  replace cc := bK cc b
  clear b
  go_wp2_with fail
  refine (CB h0).mono ?_
  rintro e w3 ⟨br, Ar, nr, cr, Br, mr, dr, rfl, hr, b⟩
  replace h0 := h0.on b
  replace pa0 := cK b pa0 pal
  replace pa1 := cK b pa1 pal
  replace pal := lK b pal
  replace cc := bK cc b
  clear b
  go_wp2_with fail
  have bA := below_one w3 (.cells #[.bool br, .slice Ar nr cr, .slice Br mr dr] 27)
  replace h0 := h0.on bA
  replace hr := hr.on bA
  replace pa0 := cK bA pa0 pal
  replace pa1 := cK bA pa1 pal
  replace pal := lK bA pal
  replace cc := bK cc bA
  clear bA
  have r0 : (w3.alloc (.cells #[.bool br, .slice Ar nr cr, .slice Br mr dr] 27)).cell? ⟨w3.heap.size, 0, none⟩ = some (.bool br) := by simp [go_sem]
  have r1 : (w3.alloc (.cells #[.bool br, .slice Ar nr cr, .slice Br mr dr] 27)).cell? ⟨w3.heap.size, 1, none⟩ = some (.slice Ar nr cr) := by simp [go_sem]
  have r2 : (w3.alloc (.cells #[.bool br, .slice Ar nr cr, .slice Br mr dr] 27)).cell? ⟨w3.heap.size, 2, none⟩ = some (.slice Br mr dr) := by simp [go_sem]
  have rl : w3.heap.size < (w3.alloc (.cells #[.bool br, .slice Ar nr cr, .slice Br mr dr] 27)).heap.size := by simp
  generalize w3.alloc (.cells #[.bool br, .slice Ar nr cr, .slice Br mr dr] 27) = v4 at *
  refine (rtright_N hr (sa.le (by omega))).mono ?_
  rintro e w5 ⟨rfl, b⟩
  replace h0 := h0.on b
  replace hr := hr.on b
  replace pa0 := cK b pa0 pal
  replace pa1 := cK b pa1 pal
  replace pal := lK b pal
  replace r0 := cK b r0 rl
  replace r1 := cK b r1 rl
  replace r2 := cK b r2 rl
  replace rl := lK b rl
  replace cc := bK cc b
  clear b
  go_wp2_with fail
  refine (CF hr).mono ?_
  rintro e w6 ⟨bx, Ax, nx, cx, rfl, hx, b⟩
  replace h0 := h0.on b
  replace hr := hr.on b
  replace pa0 := cK b pa0 pal
  replace pa1 := cK b pa1 pal
  replace pal := lK b pal
  replace r0 := cK b r0 rl
  replace r1 := cK b r1 rl
  replace r2 := cK b r2 rl
  replace rl := lK b rl
  replace cc := bK cc b
  clear b
  go_wp2_with fail
  have bA := below_one w6 (.cells #[.bool bx, .slice Ax nx cx] 25)
  replace h0 := h0.on bA
  replace hr := hr.on bA
  replace hx := hx.on bA
  replace pa0 := cK bA pa0 pal
  replace pa1 := cK bA pa1 pal
  replace pal := lK bA pal
  replace r0 := cK bA r0 rl
  replace r1 := cK bA r1 rl
  replace r2 := cK bA r2 rl
  replace rl := lK bA rl
  replace cc := bK cc bA
  clear bA
  have x0 : (w6.alloc (.cells #[.bool bx, .slice Ax nx cx] 25)).cell? ⟨w6.heap.size, 0, none⟩ = some (.bool bx) := by simp [go_sem]
  have x1 : (w6.alloc (.cells #[.bool bx, .slice Ax nx cx] 25)).cell? ⟨w6.heap.size, 1, none⟩ = some (.slice Ax nx cx) := by simp [go_sem]
  have xl : w6.heap.size < (w6.alloc (.cells #[.bool bx, .slice Ax nx cx] 25)).heap.size := by simp
  generalize w6.alloc (.cells #[.bool bx, .slice Ax nx cx] 25) = v7 at *
  refine (CC hr).mono ?_
  rintro e w8 ⟨bi, Ai, ni, ci, rfl, hi, b⟩
  replace h0 := h0.on b
  replace hr := hr.on b
  replace hx := hx.on b
  replace pa0 := cK b pa0 pal
  replace pa1 := cK b pa1 pal
  replace pal := lK b pal
  replace r0 := cK b r0 rl
  replace r1 := cK b r1 rl
  replace r2 := cK b r2 rl
  replace rl := lK b rl
  replace x0 := cK b x0 xl
  replace x1 := cK b x1 xl
  replace xl := lK b xl
  replace cc := bK cc b
  clear b
  go_wp2_with fail
  have bA := below_one w8 (.cells #[.bool bi, .slice Ai ni ci] 25)
  replace h0 := h0.on bA
  replace hr := hr.on bA
  replace hx := hx.on bA
  replace hi := hi.on bA
  replace pa0 := cK bA pa0 pal
  replace pa1 := cK bA pa1 pal
  replace pal := lK bA pal
  replace r0 := cK bA r0 rl
  replace r1 := cK bA r1 rl
  replace r2 := cK bA r2 rl
  replace rl := lK bA rl
  replace x0 := cK bA x0 xl
  replace x1 := cK bA x1 xl
  replace xl := lK bA xl
  replace cc := bK cc bA
  clear bA
  have i0 : (w8.alloc (.cells #[.bool bi, .slice Ai ni ci] 25)).cell? ⟨w8.heap.size, 0, none⟩ = some (.bool bi) := by simp [go_sem]
  have i1 : (w8.alloc (.cells #[.bool bi, .slice Ai ni ci] 25)).cell? ⟨w8.heap.size, 1, none⟩ = some (.slice Ai ni ci) := by simp [go_sem]
  have il : w8.heap.size < (w8.alloc (.cells #[.bool bi, .slice Ai ni ci] 25)).heap.size := by simp
  generalize w8.alloc (.cells #[.bool bi, .slice Ai ni ci] 25) = v9 at *
  refine (CN hr).mono ?_
  rintro e w10 ⟨bk, Ak, nk, ck, rfl, hk, b⟩
  replace h0 := h0.on b
  replace hr := hr.on b
  replace hx := hx.on b
  replace hi := hi.on b
  replace pa0 := cK b pa0 pal
  replace pa1 := cK b pa1 pal
  replace pal := lK b pal
  replace r0 := cK b r0 rl
  replace r1 := cK b r1 rl
  replace r2 := cK b r2 rl
  replace rl := lK b rl
  replace x0 := cK b x0 xl
  replace x1 := cK b x1 xl
  replace xl := lK b xl
  replace i0 := cK b i0 il
  replace i1 := cK b i1 il
  replace il := lK b il
  replace cc := bK cc b
  clear b
  go_wp2_with fail
  have bA := below_one w10 (.cells #[.bool bk, .slice Ak nk ck] 25)
  replace h0 := h0.on bA
  replace hr := hr.on bA
  replace hx := hx.on bA
  replace hi := hi.on bA
  replace hk := hk.on bA
  replace pa0 := cK bA pa0 pal
  replace pa1 := cK bA pa1 pal
  replace pal := lK bA pal
  replace r0 := cK bA r0 rl
  replace r1 := cK bA r1 rl
  replace r2 := cK bA r2 rl
  replace rl := lK bA rl
  replace x0 := cK bA x0 xl
  replace x1 := cK bA x1 xl
  replace xl := lK bA xl
  replace i0 := cK bA i0 il
  replace i1 := cK bA i1 il
  replace il := lK bA il
  replace cc := bK cc bA
  clear bA
  have k0 : (w10.alloc (.cells #[.bool bk, .slice Ak nk ck] 25)).cell? ⟨w10.heap.size, 0, none⟩ = some (.bool bk) := by simp [go_sem]
  have k1 : (w10.alloc (.cells #[.bool bk, .slice Ak nk ck] 25)).cell? ⟨w10.heap.size, 1, none⟩ = some (.slice Ak nk ck) := by simp [go_sem]
  have kl : w10.heap.size < (w10.alloc (.cells #[.bool bk, .slice Ak nk ck] 25)).heap.size := by simp
  generalize w10.alloc (.cells #[.bool bk, .slice Ak nk ck] 25) = v11 at *
  refine (CM hr).mono ?_
  rintro e w12 ⟨bq, Aq, nq, cq, rfl, hq, b⟩
  replace h0 := h0.on b
  replace hr := hr.on b
  replace hx := hx.on b
  replace hi := hi.on b
  replace hk := hk.on b
  replace pa0 := cK b pa0 pal
  replace pa1 := cK b pa1 pal
  replace pal := lK b pal
  replace r0 := cK b r0 rl
  replace r1 := cK b r1 rl
  replace r2 := cK b r2 rl
  replace rl := lK b rl
  replace x0 := cK b x0 xl
  replace x1 := cK b x1 xl
  replace xl := lK b xl
  replace i0 := cK b i0 il
  replace i1 := cK b i1 il
  replace il := lK b il
  replace k0 := cK b k0 kl
  replace k1 := cK b k1 kl
  replace kl := lK b kl
  replace cc := bK cc b
  clear b
  go_wp2_with fail
  have bA := below_one w12 (.cells #[.bool bq, .slice Aq nq cq] 25)
  replace h0 := h0.on bA
  replace hr := hr.on bA
  replace hx := hx.on bA
  replace hi := hi.on bA
  replace hk := hk.on bA
  replace hq := hq.on bA
  replace pa0 := cK bA pa0 pal
  replace pa1 := cK bA pa1 pal
  replace pal := lK bA pal
  replace r0 := cK bA r0 rl
  replace r1 := cK bA r1 rl
  replace r2 := cK bA r2 rl
  replace rl := lK bA rl
  replace x0 := cK bA x0 xl
  replace x1 := cK bA x1 xl
  replace xl := lK bA xl
  replace i0 := cK bA i0 il
  replace i1 := cK bA i1 il
  replace il := lK bA il
  replace k0 := cK bA k0 kl
  replace k1 := cK bA k1 kl
  replace kl := lK bA kl
  replace cc := bK cc bA
  clear bA
  have q0 : (w12.alloc (.cells #[.bool bq, .slice Aq nq cq] 25)).cell? ⟨w12.heap.size, 0, none⟩ = some (.bool bq) := by simp [go_sem]
  have q1 : (w12.alloc (.cells #[.bool bq, .slice Aq nq cq] 25)).cell? ⟨w12.heap.size, 1, none⟩ = some (.slice Aq nq cq) := by simp [go_sem]
  have ql : w12.heap.size < (w12.alloc (.cells #[.bool bq, .slice Aq nq cq] 25)).heap.size := by simp
  generalize w12.alloc (.cells #[.bool bq, .slice Aq nq cq] 25) = v13 at *
  have bD : Below v13.heap.size v13 v13.drew := below_drewN (Below.refl _ v13) 1
  replace h0 := h0.on bD
  replace hr := hr.on bD
  replace hx := hx.on bD
  replace hi := hi.on bD
  replace hk := hk.on bD
  replace hq := hq.on bD
  replace pa0 := cK bD pa0 pal
  replace pa1 := cK bD pa1 pal
  replace pal := lK bD pal
  replace r0 := cK bD r0 rl
  replace r1 := cK bD r1 rl
  replace r2 := cK bD r2 rl
  replace rl := lK bD rl
  replace x0 := cK bD x0 xl
  replace x1 := cK bD x1 xl
  replace xl := lK bD xl
  replace i0 := cK bD i0 il
  replace i1 := cK bD i1 il
  replace il := lK bD il
  replace k0 := cK bD k0 kl
  replace k1 := cK bD k1 kl
  replace kl := lK bD kl
  replace q0 := cK bD q0 ql
  replace q1 := cK bD q1 ql
  replace ql := lK bD ql
  replace cc := bK cc bD
  clear bD
  refine wp_region_held_drew (S := fun w' => w'.cell? ⟨w.heap.size, 0, none⟩ = some (.bool b0) ∧ w'.cell? ⟨w.heap.size, 1, none⟩ = some (.slice A0 n0 c0) ∧ w'.cell? ⟨w3.heap.size, 0, none⟩ = some (.bool br) ∧ w'.cell? ⟨w3.heap.size, 1, none⟩ = some (.slice Ar nr cr) ∧ w'.cell? ⟨w3.heap.size, 2, none⟩ = some (.slice Br mr dr) ∧ w'.cell? ⟨w6.heap.size, 0, none⟩ = some (.bool bx) ∧ w'.cell? ⟨w6.heap.size, 1, none⟩ = some (.slice Ax nx cx) ∧ w'.cell? ⟨w8.heap.size, 0, none⟩ = some (.bool bi) ∧ w'.cell? ⟨w8.heap.size, 1, none⟩ = some (.slice Ai ni ci) ∧ w'.cell? ⟨w10.heap.size, 0, none⟩ = some (.bool bk) ∧ w'.cell? ⟨w10.heap.size, 1, none⟩ = some (.slice Ak nk ck) ∧ w'.cell? ⟨w12.heap.size, 0, none⟩ = some (.bool bq) ∧ w'.cell? ⟨w12.heap.size, 1, none⟩ = some (.slice Aq nq cq)) (by kernel_rfl) ?_ (fun hHeld => ?_)
  · exact ⟨pa0, pa1, r0, r1, r2, x0, x1, i0, i1, k0, k1, q0, q1⟩
  refine wpAnyH_ready (rs := [0]) (by kernel_rfl) (by simp) ?_
  refine AllReadyH.cons rfl (fun K hK => ?_) AllReadyH.nil
  (try simp only [List.getElem_toArray, List.getElem_cons_zero, List.getElem_cons_succ])
  rw [if_pos (by rfl)]
  go_simp
  go_at_call 11
  refine (alive6_any _).mono ?_
  rintro e w14 ⟨rfl, b⟩
  replace h0 := h0.on b
  replace hr := hr.on b
  replace hx := hx.on b
  replace hi := hi.on b
  replace hk := hk.on b
  replace hq := hq.on b
  replace pa0 := cK b pa0 pal
  replace pa1 := cK b pa1 pal
  replace pal := lK b pal
  replace r0 := cK b r0 rl
  replace r1 := cK b r1 rl
  replace r2 := cK b r2 rl
  replace rl := lK b rl
  replace x0 := cK b x0 xl
  replace x1 := cK b x1 xl
  replace xl := lK b xl
  replace i0 := cK b i0 il
  replace i1 := cK b i1 il
  replace il := lK b il
  replace k0 := cK b k0 kl
  replace k1 := cK b k1 kl
  replace kl := lK b kl
  replace q0 := cK b q0 ql
  replace q1 := cK b q1 ql
  replace ql := lK b ql
  replace cc := bK cc b
  clear b
  refine hK.out _ _ ?_ (fun hHeld => ?_)
  · exact ⟨pa0, pa1, r0, r1, r2, x0, x1, i0, i1, k0, k1, q0, q1⟩
  clear hK K
  try simp only [Act.put, List.getElem_toArray, List.getElem_cons_zero, List.getElem_cons_succ, List.setIfInBounds_toArray, List.set_cons_zero, List.set_cons_succ]
  refine wpAnyH_take (i := 1) (v := ?_) rfl (by kernel_rfl) (by kernel_rfl) (by kernel_rfl) (fun _ _ _ h => h) (Or.inl ⟨by rfl, ?_⟩) hHeld ?_
  rotate_left
  · (intro w hSw; (try dsimp only at hSw); go_simp; (try with_reducible rfl))
  try simp only [Act.put, List.getElem_toArray, List.getElem_cons_zero, List.getElem_cons_succ, List.setIfInBounds_toArray, List.set_cons_zero, List.set_cons_succ]
  refine wpAnyH_take (i := 2) (v := ?_) rfl (by kernel_rfl) (by kernel_rfl) (by kernel_rfl) (fun _ _ _ h => h) (Or.inl ⟨by rfl, ?_⟩) hHeld ?_
  rotate_left
  · (intro w hSw; (try dsimp only at hSw); go_simp; (try with_reducible rfl))
  try simp only [Act.put, List.getElem_toArray, List.getElem_cons_zero, List.getElem_cons_succ, List.setIfInBounds_toArray, List.set_cons_zero, List.set_cons_succ]
  refine wpAnyH_take (i := 3) (v := ?_) rfl (by kernel_rfl) (by kernel_rfl) (by kernel_rfl) (fun _ _ _ h => h) (Or.inl ⟨by rfl, ?_⟩) hHeld ?_
  rotate_left
  · (intro w hSw; (try dsimp only at hSw); go_simp; (try with_reducible rfl))
  try simp only [Act.put, List.getElem_toArray, List.getElem_cons_zero, List.getElem_cons_succ, List.setIfInBounds_toArray, List.set_cons_zero, List.set_cons_succ]
  refine wpAnyH_ready (rs := [4]) (by kernel_rfl) (by simp) ?_
  refine AllReadyH.cons rfl (fun K hK => ?_) AllReadyH.nil
  (try simp only [List.getElem_toArray, List.getElem_cons_zero, List.getElem_cons_succ])
  rw [if_pos (by rfl)]
  go_simp
  go_at_call 20
  refine (zsame_self hx h0 (by omega)).mono ?_
  rintro e w15 ⟨rfl, b⟩
  replace h0 := h0.on b
  replace hr := hr.on b
  replace hx := hx.on b
  replace hi := hi.on b
  replace hk := hk.on b
  replace hq := hq.on b
  replace pa0 := cK b pa0 pal
  replace pa1 := cK b pa1 pal
  replace pal := lK b pal
  replace r0 := cK b r0 rl
  replace r1 := cK b r1 rl
  replace r2 := cK b r2 rl
  replace rl := lK b rl
  replace x0 := cK b x0 xl
  replace x1 := cK b x1 xl
  replace xl := lK b xl
  replace i0 := cK b i0 il
  replace i1 := cK b i1 il
  replace il := lK b il
  replace k0 := cK b k0 kl
  replace k1 := cK b k1 kl
  replace kl := lK b kl
  replace q0 := cK b q0 ql
  replace q1 := cK b q1 ql
  replace ql := lK b ql
  replace cc := bK cc b
  clear b
  refine hK.out _ _ ?_ (fun hHeld => ?_)
  · exact ⟨pa0, pa1, r0, r1, r2, x0, x1, i0, i1, k0, k1, q0, q1⟩
  clear hK K
  try simp only [Act.put, List.getElem_toArray, List.getElem_cons_zero, List.getElem_cons_succ, List.setIfInBounds_toArray, List.set_cons_zero, List.set_cons_succ]
  refine wpAnyH_take (i := 5) (v := ?_) rfl (by kernel_rfl) (by kernel_rfl) (by kernel_rfl) (fun _ _ _ h => h) (Or.inl ⟨by rfl, ?_⟩) hHeld ?_
  rotate_left
  · (intro w hSw; (try dsimp only at hSw); go_simp; (try with_reducible rfl))
  try simp only [Act.put, List.getElem_toArray, List.getElem_cons_zero, List.getElem_cons_succ, List.setIfInBounds_toArray, List.set_cons_zero, List.set_cons_succ]
  refine wpAnyH_take (i := 6) (v := ?_) rfl (by kernel_rfl) (by kernel_rfl) (by kernel_rfl) (fun _ _ _ h => h) (Or.inl ⟨by rfl, ?_⟩) hHeld ?_
  rotate_left
  · (intro w hSw; (try dsimp only at hSw); go_simp; (try with_reducible rfl))
  try simp only [Act.put, List.getElem_toArray, List.getElem_cons_zero, List.getElem_cons_succ, List.setIfInBounds_toArray, List.set_cons_zero, List.set_cons_succ]
  refine wpAnyH_take (i := 7) (v := ?_) rfl (by kernel_rfl) (by kernel_rfl) (by kernel_rfl) (fun _ _ _ h => h) (Or.inl ⟨by rfl, ?_⟩) hHeld ?_
  rotate_left
  · (intro w hSw; (try dsimp only at hSw); go_simp; (try with_reducible rfl))
  try simp only [Act.put, List.getElem_toArray, List.getElem_cons_zero, List.getElem_cons_succ, List.setIfInBounds_toArray, List.set_cons_zero, List.set_cons_succ]
  refine wpAnyH_take (i := 8) (v := ?_) rfl (by kernel_rfl) (by kernel_rfl) (by kernel_rfl) (fun _ _ _ h => h) (Or.inl ⟨by rfl, ?_⟩) hHeld ?_
  rotate_left
  · (intro w hSw; (try dsimp only at hSw); go_simp; (try with_reducible rfl))
  try simp only [Act.put, List.getElem_toArray, List.getElem_cons_zero, List.getElem_cons_succ, List.setIfInBounds_toArray, List.set_cons_zero, List.set_cons_succ]
  refine wpAnyH_ready (rs := [9]) (by kernel_rfl) (by simp) ?_
  refine AllReadyH.cons rfl (fun K hK => ?_) AllReadyH.nil
  (try simp only [List.getElem_toArray, List.getElem_cons_zero, List.getElem_cons_succ])
  rw [if_pos (by rfl)]
  go_simp
  go_at_call 20
  refine (zsame_self hi h0 (by omega)).mono ?_
  rintro e w16 ⟨rfl, b⟩
  replace h0 := h0.on b
  replace hr := hr.on b
  replace hx := hx.on b
  replace hi := hi.on b
  replace hk := hk.on b
  replace hq := hq.on b
  replace pa0 := cK b pa0 pal
  replace pa1 := cK b pa1 pal
  replace pal := lK b pal
  replace r0 := cK b r0 rl
  replace r1 := cK b r1 rl
  replace r2 := cK b r2 rl
  replace rl := lK b rl
  replace x0 := cK b x0 xl
  replace x1 := cK b x1 xl
  replace xl := lK b xl
  replace i0 := cK b i0 il
  replace i1 := cK b i1 il
  replace il := lK b il
  replace k0 := cK b k0 kl
  replace k1 := cK b k1 kl
  replace kl := lK b kl
  replace q0 := cK b q0 ql
  replace q1 := cK b q1 ql
  replace ql := lK b ql
  replace cc := bK cc b
  clear b
  refine hK.out _ _ ?_ (fun hHeld => ?_)
  · exact ⟨pa0, pa1, r0, r1, r2, x0, x1, i0, i1, k0, k1, q0, q1⟩
  clear hK K
  try simp only [Act.put, List.getElem_toArray, List.getElem_cons_zero, List.getElem_cons_succ, List.setIfInBounds_toArray, List.set_cons_zero, List.set_cons_succ]
  refine wpAnyH_take (i := 10) (v := ?_) rfl (by kernel_rfl) (by kernel_rfl) (by kernel_rfl) (fun _ _ _ h => h) (Or.inl ⟨by rfl, ?_⟩) hHeld ?_
  rotate_left
  · (intro w hSw; (try dsimp only at hSw); go_simp; (try with_reducible rfl))
  try simp only [Act.put, List.getElem_toArray, List.getElem_cons_zero, List.getElem_cons_succ, List.setIfInBounds_toArray, List.set_cons_zero, List.set_cons_succ]
  refine wpAnyH_take (i := 11) (v := ?_) rfl (by kernel_rfl) (by kernel_rfl) (by kernel_rfl) (fun _ _ _ h => h) (Or.inl ⟨by rfl, ?_⟩) hHeld ?_
  rotate_left
  · (intro w hSw; (try dsimp only at hSw); go_simp; (try with_reducible rfl))
  try simp only [Act.put, List.getElem_toArray, List.getElem_cons_zero, List.getElem_cons_succ, List.setIfInBounds_toArray, List.set_cons_zero, List.set_cons_succ]
  refine wpAnyH_take (i := 12) (v := ?_) rfl (by kernel_rfl) (by kernel_rfl) (by kernel_rfl) (fun _ _ _ h => h) (Or.inl ⟨by rfl, ?_⟩) hHeld ?_
  rotate_left
  · (intro w hSw; (try dsimp only at hSw); go_simp; (try with_reducible rfl))
  try simp only [Act.put, List.getElem_toArray, List.getElem_cons_zero, List.getElem_cons_succ, List.setIfInBounds_toArray, List.set_cons_zero, List.set_cons_succ]
  refine wpAnyH_take (i := 13) (v := ?_) rfl (by kernel_rfl) (by kernel_rfl) (by kernel_rfl) (fun _ _ _ h => h) (Or.inl ⟨by rfl, ?_⟩) hHeld ?_
  rotate_left
  · (intro w hSw; (try dsimp only at hSw); go_simp; (try with_reducible rfl))
  try simp only [Act.put, List.getElem_toArray, List.getElem_cons_zero, List.getElem_cons_succ, List.setIfInBounds_toArray, List.set_cons_zero, List.set_cons_succ]
  refine wpAnyH_ready (rs := [14]) (by kernel_rfl) (by simp) ?_
  refine AllReadyH.cons rfl (fun K hK => ?_) AllReadyH.nil
  (try simp only [List.getElem_toArray, List.getElem_cons_zero, List.getElem_cons_succ])
  rw [if_pos (by rfl)]
  go_simp
  go_at_call 20
  refine (zsame_self hk h0 (by omega)).mono ?_
  rintro e w17 ⟨rfl, b⟩
  replace h0 := h0.on b
  replace hr := hr.on b
  replace hx := hx.on b
  replace hi := hi.on b
  replace hk := hk.on b
  replace hq := hq.on b
  replace pa0 := cK b pa0 pal
  replace pa1 := cK b pa1 pal
  replace pal := lK b pal
  replace r0 := cK b r0 rl
  replace r1 := cK b r1 rl
  replace r2 := cK b r2 rl
  replace rl := lK b rl
  replace x0 := cK b x0 xl
  replace x1 := cK b x1 xl
  replace xl := lK b xl
  replace i0 := cK b i0 il
  replace i1 := cK b i1 il
  replace il := lK b il
  replace k0 := cK b k0 kl
  replace k1 := cK b k1 kl
  replace kl := lK b kl
  replace q0 := cK b q0 ql
  replace q1 := cK b q1 ql
  replace ql := lK b ql
  replace cc := bK cc b
  clear b
  refine hK.out _ _ ?_ (fun hHeld => ?_)
  · exact ⟨pa0, pa1, r0, r1, r2, x0, x1, i0, i1, k0, k1, q0, q1⟩
  clear hK K
  try simp only [Act.put, List.getElem_toArray, List.getElem_cons_zero, List.getElem_cons_succ, List.setIfInBounds_toArray, List.set_cons_zero, List.set_cons_succ]
  refine wpAnyH_take (i := 15) (v := ?_) rfl (by kernel_rfl) (by kernel_rfl) (by kernel_rfl) (fun _ _ _ h => h) (Or.inl ⟨by rfl, ?_⟩) hHeld ?_
  rotate_left
  · (intro w hSw; (try dsimp only at hSw); go_simp; (try with_reducible rfl))
  try simp only [Act.put, List.getElem_toArray, List.getElem_cons_zero, List.getElem_cons_succ, List.setIfInBounds_toArray, List.set_cons_zero, List.set_cons_succ]
  refine wpAnyH_take (i := 16) (v := ?_) rfl (by kernel_rfl) (by kernel_rfl) (by kernel_rfl) (fun _ _ _ h => h) (Or.inl ⟨by rfl, ?_⟩) hHeld ?_
  rotate_left
  · (intro w hSw; (try dsimp only at hSw); go_simp; (try with_reducible rfl))
  try simp only [Act.put, List.getElem_toArray, List.getElem_cons_zero, List.getElem_cons_succ, List.setIfInBounds_toArray, List.set_cons_zero, List.set_cons_succ]
  refine wpAnyH_take (i := 17) (v := ?_) rfl (by kernel_rfl) (by kernel_rfl) (by kernel_rfl) (fun _ _ _ h => h) (Or.inl ⟨by rfl, ?_⟩) hHeld ?_
  rotate_left
  · (intro w hSw; (try dsimp only at hSw); go_simp; (try with_reducible rfl))
  try simp only [Act.put, List.getElem_toArray, List.getElem_cons_zero, List.getElem_cons_succ, List.setIfInBounds_toArray, List.set_cons_zero, List.set_cons_succ]
  refine wpAnyH_take (i := 18) (v := ?_) rfl (by kernel_rfl) (by kernel_rfl) (by kernel_rfl) (fun _ _ _ h => h) (Or.inl ⟨by rfl, ?_⟩) hHeld ?_
  rotate_left
  · (intro w hSw; (try dsimp only at hSw); go_simp; (try with_reducible rfl))
  try simp only [Act.put, List.getElem_toArray, List.getElem_cons_zero, List.getElem_cons_succ, List.setIfInBounds_toArray, List.set_cons_zero, List.set_cons_succ]
  refine wpAnyH_take (i := 19) (v := ?_) rfl (by kernel_rfl) (by kernel_rfl) (by kernel_rfl) (fun _ _ _ h => h) (Or.inl ⟨by rfl, ?_⟩) hHeld ?_
  rotate_left
  · (intro w hSw; (try dsimp only at hSw); go_simp; (try with_reducible rfl))
  try simp only [Act.put, List.getElem_toArray, List.getElem_cons_zero, List.getElem_cons_succ, List.setIfInBounds_toArray, List.set_cons_zero, List.set_cons_succ]
  refine wpAnyH_ready (rs := [20]) (by kernel_rfl) (by simp) ?_
  refine AllReadyH.cons rfl (fun K hK => ?_) AllReadyH.nil
  (try simp only [List.getElem_toArray, List.getElem_cons_zero, List.getElem_cons_succ])
  rw [if_pos (by rfl)]
  go_simp
  go_at_call 31
  refine (rzadd_N h0 h0 (by omega) (by omega)).mono ?_
  rintro e w18 ⟨bu, Au, nu, cu, rfl, hu, b⟩
  replace h0 := h0.on b
  replace hr := hr.on b
  replace hx := hx.on b
  replace hi := hi.on b
  replace hk := hk.on b
  replace hq := hq.on b
  replace pa0 := cK b pa0 pal
  replace pa1 := cK b pa1 pal
  replace pal := lK b pal
  replace r0 := cK b r0 rl
  replace r1 := cK b r1 rl
  replace r2 := cK b r2 rl
  replace rl := lK b rl
  replace x0 := cK b x0 xl
  replace x1 := cK b x1 xl
  replace xl := lK b xl
  replace i0 := cK b i0 il
  replace i1 := cK b i1 il
  replace il := lK b il
  replace k0 := cK b k0 kl
  replace k1 := cK b k1 kl
  replace kl := lK b kl
  replace q0 := cK b q0 ql
  replace q1 := cK b q1 ql
  replace ql := lK b ql
  replace cc := bK cc b
  clear b
  refine hK.out _ _ ?_ (fun hHeld => ?_)
  · exact ⟨pa0, pa1, r0, r1, r2, x0, x1, i0, i1, k0, k1, q0, q1⟩
  clear hK K
  try simp only [Act.put, List.getElem_toArray, List.getElem_cons_zero, List.getElem_cons_succ, List.setIfInBounds_toArray, List.set_cons_zero, List.set_cons_succ]
  refine wpAnyH_ready (rs := [21]) (by kernel_rfl) (by simp) ?_
  refine AllReadyH.cons rfl (fun K hK => ?_) AllReadyH.nil
  (try simp only [List.getElem_toArray, List.getElem_cons_zero, List.getElem_cons_succ])
  rw [if_pos (by rfl)]
  go_simp
  go_at_call 20
  refine (zsame_self hq hu l2).mono ?_
  rintro e w19 ⟨rfl, b⟩
  replace h0 := h0.on b
  replace hr := hr.on b
  replace hx := hx.on b
  replace hi := hi.on b
  replace hk := hk.on b
  replace hq := hq.on b
  replace hu := hu.on b
  replace pa0 := cK b pa0 pal
  replace pa1 := cK b pa1 pal
  replace pal := lK b pal
  replace r0 := cK b r0 rl
  replace r1 := cK b r1 rl
  replace r2 := cK b r2 rl
  replace rl := lK b rl
  replace x0 := cK b x0 xl
  replace x1 := cK b x1 xl
  replace xl := lK b xl
  replace i0 := cK b i0 il
  replace i1 := cK b i1 il
  replace il := lK b il
  replace k0 := cK b k0 kl
  replace k1 := cK b k1 kl
  replace kl := lK b kl
  replace q0 := cK b q0 ql
  replace q1 := cK b q1 ql
  replace ql := lK b ql
  replace cc := bK cc b
  clear b
  refine hK.out _ _ ?_ (fun hHeld => ?_)
  · exact ⟨pa0, pa1, r0, r1, r2, x0, x1, i0, i1, k0, k1, q0, q1⟩
  clear hK K
  try simp only [Act.put, List.getElem_toArray, List.getElem_cons_zero, List.getElem_cons_succ, List.setIfInBounds_toArray, List.set_cons_zero, List.set_cons_succ]
  refine wpAnyH_take (i := 22) (v := ?_) rfl (by kernel_rfl) (by kernel_rfl) (by kernel_rfl) (fun _ _ _ h => h) (Or.inl ⟨by rfl, ?_⟩) hHeld ?_
  rotate_left
  · (intro w hSw; (try dsimp only at hSw); go_simp; (try with_reducible rfl))
  try simp only [Act.put, List.getElem_toArray, List.getElem_cons_zero, List.getElem_cons_succ, List.setIfInBounds_toArray, List.set_cons_zero, List.set_cons_succ]
  refine wpAnyH_take (i := 23) (v := ?_) rfl (by kernel_rfl) (by kernel_rfl) (by kernel_rfl) (fun _ _ _ h => h) (Or.inl ⟨by rfl, ?_⟩) hHeld ?_
  rotate_left
  · (intro w hSw; (try dsimp only at hSw); go_simp; (try with_reducible rfl))
  try simp only [Act.put, List.getElem_toArray, List.getElem_cons_zero, List.getElem_cons_succ, List.setIfInBounds_toArray, List.set_cons_zero, List.set_cons_succ]
  refine wpAnyH_done (by kernel_rfl) ?_ _
  clear hHeld
  go_wp2_with fail
  go_ret
  exact ⟨rfl, cc⟩

set_option maxRecDepth 100000 in
set_option maxHeartbeats 8000000 in
theorem DyadBack_walk {w : World} (b0 : Bool) {A0 : Option Addr} {n0 c0 : Nat} {l0 : List Nat} (hl0 : Lim w.heap.size w A0 n0 c0 l0) (hs0 : n0 ≤ 9223372036854775807) (j : Int) (hj : (Lit.int .i64 j).wf = true) :
    Calls Try.prog 6 #[.agg #[.bool b0, .slice A0 n0 c0], .int .i64 j] w fun e w' => e = .returned (.bool true) ∧ Below w.heap.size w w' := by
  have F : ∀ {b : Bool} {A : Option Addr} {n c : Nat} {l : List Nat} (r : Bool), Lim w.heap.size w A n c l → n ≤ 9223372036854775807 → (decide ((n : Int) ≤ 4) && okZ b n l) = r → ∀ W : World, Below w.heap.size w W → Calls Try.prog 10 #[.agg #[.bool b, .slice A n c], .int .i64 4] W (GotV W (.bool r)) := fun r hl hs hr W hW => rzfew_any 4 r (hl.on hW) hs hr
  cases e0 : (decide ((n0 : Int) ≤ 4) && okZ b0 n0 l0) with
  | false => exact DyadBack_no0  (F false hl0 hs0 e0)
  | true =>
    by_cases j0 : j < 0
    · exact DyadBack_no1 (F true hl0 hs0 e0) j0
    by_cases j1 : 400 < j
    · exact DyadBack_no2 (F true hl0 hs0 e0) j1
    obtain ⟨h0, s0⟩ := few_zn 4 hl0 e0
    exact DyadBack_ok h0 s0 (F true hl0 hs0 e0) (by omega) (by omega)

end Go.Proofs.Ytchbhmcaalkfdaa
