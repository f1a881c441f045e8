/-
  The walk of DyadFiner.
-/
import Derived.Test.YtchbhmcaalkfdaaB2
import Derived.Test.YtchbhmcaalkfdaaA2
namespace Go.Proofs.Ytchbhmcaalkfdaa
open Go.RowKit
set_option linter.unusedVariables false
set_option linter.unusedSimpArgs false

set_option maxRecDepth 100000 in
set_option maxHeartbeats 8000000 in
theorem DyadFiner_no0 {w : World} {b0 : Bool} {A0 B0 : Option Addr} {n0 c0 m0 d0 : Nat} {j : Int} {m : Int} (G0 : ∀ W : World, Below w.heap.size w W → Calls Try.prog 9 #[.agg #[.bool b0, .slice A0 n0 c0, .slice B0 m0 d0], .int .i64 4] W (GotV W (.bool false))) :
    Calls Try.prog 8 #[.agg #[.bool b0, .slice A0 n0 c0, .slice B0 m0 d0], .int .i64 j, .int .u8 m] w fun e w' => e = .returned (.bool true) ∧ Below w.heap.size w w' := by
  have cc := Below.refl w.heap.size w
  go_enter Try.func8, Try.ntmps8
  go_wp2_with fail
  have bA : Below w.heap.size w (w.alloc (.cells #[.bool b0, .slice A0 n0 c0, .slice B0 m0 d0] 27)) := ((Below.refl _ w).alloc (by simp) _)
  replace cc := bK cc bA
  clear bA
  have pa0 : (w.alloc (.cells #[.bool b0, .slice A0 n0 c0, .slice B0 m0 d0] 27)).cell? ⟨w.heap.size, 0, none⟩ = some (.bool b0) := by simp [go_sem]
  have pa1 : (w.alloc (.cells #[.bool b0, .slice A0 n0 c0, .slice B0 m0 d0] 27)).cell? ⟨w.heap.size, 1, none⟩ = some (.slice A0 n0 c0) := by simp [go_sem]
  have pa2 : (w.alloc (.cells #[.bool b0, .slice A0 n0 c0, .slice B0 m0 d0] 27)).cell? ⟨w.heap.size, 2, none⟩ = some (.slice B0 m0 d0) := by simp [go_sem]
  have pal : w.heap.size < (w.alloc (.cells #[.bool b0, .slice A0 n0 c0, .slice B0 m0 d0] 27)).heap.size := by simp <;> omega
  generalize w.alloc (.cells #[.bool b0, .slice A0 n0 c0, .slice B0 m0 d0] 27) = v1 at *
  refine (G0 _ cc).mono ?_
  rintro e w2 ⟨rfl, b⟩
  replace pa0 := cK b pa0 pal
  replace pa1 := cK b pa1 pal
  replace pa2 := cK b pa2 pal
  replace pal := lK b pal
  replace cc := bK cc b
  clear b
  go_wp2_with fail
  refine (alive6_any _).mono ?_
  rintro e w3 ⟨rfl, b⟩
  replace pa0 := cK b pa0 pal
  replace pa1 := cK b pa1 pal
  replace pa2 := cK b pa2 pal
  replace pal := lK b pal
  replace cc := bK cc b
  clear b
  go_wp2_with fail
  go_ret
  exact ⟨rfl, cc⟩

set_option maxRecDepth 100000 in
set_option maxHeartbeats 8000000 in
theorem DyadFiner_no1 {w : World} {b0 : Bool} {A0 B0 : Option Addr} {n0 c0 m0 d0 : Nat} {j : Int} {m : Int} (G0 : ∀ W : World, Below w.heap.size w W → Calls Try.prog 9 #[.agg #[.bool b0, .slice A0 n0 c0, .slice B0 m0 d0], .int .i64 4] W (GotV W (.bool true))) (h : j < 0) :
    Calls Try.prog 8 #[.agg #[.bool b0, .slice A0 n0 c0, .slice B0 m0 d0], .int .i64 j, .int .u8 m] w fun e w' => e = .returned (.bool true) ∧ Below w.heap.size w w' := by
  have t1 : decide (j < 0) = true := decide_eq_true h
  have cc := Below.refl w.heap.size w
  go_enter Try.func8, Try.ntmps8
  go_wp2_with fail
  have bA : Below w.heap.size w (w.alloc (.cells #[.bool b0, .slice A0 n0 c0, .slice B0 m0 d0] 27)) := ((Below.refl _ w).alloc (by simp) _)
  replace cc := bK cc bA
  clear bA
  have pa0 : (w.alloc (.cells #[.bool b0, .slice A0 n0 c0, .slice B0 m0 d0] 27)).cell? ⟨w.heap.size, 0, none⟩ = some (.bool b0) := by simp [go_sem]
  have pa1 : (w.alloc (.cells #[.bool b0, .slice A0 n0 c0, .slice B0 m0 d0] 27)).cell? ⟨w.heap.size, 1, none⟩ = some (.slice A0 n0 c0) := by simp [go_sem]
  have pa2 : (w.alloc (.cells #[.bool b0, .slice A0 n0 c0, .slice B0 m0 d0] 27)).cell? ⟨w.heap.size, 2, none⟩ = some (.slice B0 m0 d0) := by simp [go_sem]
  have pal : w.heap.size < (w.alloc (.cells #[.bool b0, .slice A0 n0 c0, .slice B0 m0 d0] 27)).heap.size := by simp <;> omega
  generalize w.alloc (.cells #[.bool b0, .slice A0 n0 c0, .slice B0 m0 d0] 27) = v1 at *
  refine (G0 _ cc).mono ?_
  rintro e w2 ⟨rfl, b⟩
  replace pa0 := cK b pa0 pal
  replace pa1 := cK b pa1 pal
  replace pa2 := cK b pa2 pal
  replace pal := lK b pal
  replace cc := bK cc b
  clear b
  go_wp2_with fail
  refine (alive6_any _).mono ?_
  rintro e w3 ⟨rfl, b⟩
  replace pa0 := cK b pa0 pal
  replace pa1 := cK b pa1 pal
  replace pa2 := cK b pa2 pal
  replace pal := lK b pal
  replace cc := bK cc b
  clear b
  go_wp2_with fail
  go_ret
  exact ⟨rfl, cc⟩

set_option maxRecDepth 100000 in
set_option maxHeartbeats 8000000 in
theorem DyadFiner_no2 {w : World} {b0 : Bool} {A0 B0 : Option Addr} {n0 c0 m0 d0 : Nat} {j : Int} {m : Int} (G0 : ∀ W : World, Below w.heap.size w W → Calls Try.prog 9 #[.agg #[.bool b0, .slice A0 n0 c0, .slice B0 m0 d0], .int .i64 4] W (GotV W (.bool true))) (h : 300 < j) :
    Calls Try.prog 8 #[.agg #[.bool b0, .slice A0 n0 c0, .slice B0 m0 d0], .int .i64 j, .int .u8 m] w fun e w' => e = .returned (.bool true) ∧ Below w.heap.size w w' := by
  have t1 : decide (j < 0) = false := decide_eq_false (by omega)
  have t2 : decide (300 < j) = true := decide_eq_true h
  have cc := Below.refl w.heap.size w
  go_enter Try.func8, Try.ntmps8
  go_wp2_with fail
  have bA : Below w.heap.size w (w.alloc (.cells #[.bool b0, .slice A0 n0 c0, .slice B0 m0 d0] 27)) := ((Below.refl _ w).alloc (by simp) _)
  replace cc := bK cc bA
  clear bA
  have pa0 : (w.alloc (.cells #[.bool b0, .slice A0 n0 c0, .slice B0 m0 d0] 27)).cell? ⟨w.heap.size, 0, none⟩ = some (.bool b0) := by simp [go_sem]
  have pa1 : (w.alloc (.cells #[.bool b0, .slice A0 n0 c0, .slice B0 m0 d0] 27)).cell? ⟨w.heap.size, 1, none⟩ = some (.slice A0 n0 c0) := by simp [go_sem]
  have pa2 : (w.alloc (.cells #[.bool b0, .slice A0 n0 c0, .slice B0 m0 d0] 27)).cell? ⟨w.heap.size, 2, none⟩ = some (.slice B0 m0 d0) := by simp [go_sem]
  have pal : w.heap.size < (w.alloc (.cells #[.bool b0, .slice A0 n0 c0, .slice B0 m0 d0] 27)).heap.size := by simp <;> omega
  generalize w.alloc (.cells #[.bool b0, .slice A0 n0 c0, .slice B0 m0 d0] 27) = v1 at *
  refine (G0 _ cc).mono ?_
  rintro e w2 ⟨rfl, b⟩
  replace pa0 := cK b pa0 pal
  replace pa1 := cK b pa1 pal
  replace pa2 := cK b pa2 pal
  replace pal := lK b pal
  replace cc := bK cc b
  clear b
  go_wp2_with fail
  refine (alive6_any _).mono ?_
  rintro e w3 ⟨rfl, b⟩
  replace pa0 := cK b pa0 pal
  replace pa1 := cK b pa1 pal
  replace pa2 := cK b pa2 pal
  replace pal := lK b pal
  replace cc := bK cc b
  clear b
  go_wp2_with fail
  go_ret
  exact ⟨rfl, cc⟩

set_option maxRecDepth 100000 in
set_option maxHeartbeats 8000000 in
theorem DyadFiner_pos {w : World} {b0 : Bool} {A0 B0 : Option Addr} {n0 c0 m0 d0 : Nat} {j : Int} {mm : Nat} (hmm : mm < 256) {x0 : Rat} (h0 : Rt w b0 A0 n0 c0 B0 m0 d0 x0) (s0 : Sz x0 4) (G0 : ∀ W : World, Below w.heap.size w W → Calls Try.prog 9 #[.agg #[.bool b0, .slice A0 n0 c0, .slice B0 m0 d0], .int .i64 4] W (GotV W (.bool true))) (j0 : 0 ≤ j) (j1 : j ≤ 300) (hs : ¬ flo x0 (j.toNat + mm % 64) < 0) :
    Calls Try.prog 8 #[.agg #[.bool b0, .slice A0 n0 c0, .slice B0 m0 d0], .int .i64 j, .int .u8 (mm : Int)] w fun e w' => e = .returned (.bool true) ∧ Below w.heap.size w w' := by
  have t1 : decide (j < 0) = false := decide_eq_false (by omega)
  have t2 : decide (300 < j) = false := decide_eq_false (by omega)
  have jl : j.toNat ≤ 500 := by omega
  obtain ⟨nn, hnn⟩ : ∃ n, mm % 64 = n := ⟨_, rfl⟩
  have hn64 : nn < 64 := by omega
  have er : (mm : Int) % 64 = (nn : Int) := by omega
  have ew : IntKind.i64.wrap (nn : Int) = (nn : Int) := IntWalk.i64_in _ (by omega)
  have ev : IntKind.u8.wrap (nn : Int) = (nn : Int) := by rw [IntKind.wrap_u8]; omega
  obtain ⟨jj, hjj⟩ : ∃ i, j + (nn : Int) = i := ⟨_, rfl⟩
  have ej : IntKind.i64.wrap jj = jj := IntWalk.i64_in _ (by omega)
  have et : jj.toNat = j.toNat + nn := by omega
  have jl2 : jj.toNat ≤ 500 := by omega
  rw [hnn, ← et] at hs
  have g1 := flo_finer x0 j.toNat nn
  have g2 := cei_finer x0 j.toNat nn
  have g3 := flo_shr x0 j.toNat nn
  rw [← et] at g1 g2 g3
  have lf := flo_len s0 jl2
  have lu := cei_len s0 jl2
  have ll := flo_len s0 jl
  have lh := cei_len s0 jl
  obtain ⟨ff, e1⟩ : ∃ v, flo x0 jj.toNat = v := ⟨_, rfl⟩
  obtain ⟨uu, e2⟩ : ∃ v, cei x0 jj.toNat = v := ⟨_, rfl⟩
  obtain ⟨fl_, e3⟩ : ∃ v, flo x0 j.toNat = v := ⟨_, rfl⟩
  obtain ⟨ch, e4⟩ : ∃ v, cei x0 j.toNat = v := ⟨_, rfl⟩
  rw [e1] at g1 g3 lf hs
  rw [e2] at g2 lu
  rw [e3] at g1 g3 ll
  rw [e4] at g2 lh
  have sat := bak_sz lf (by omega) jl2
  have sov := bak_sz lu (by omega) jl2
  obtain ⟨ra, e5⟩ : ∃ v, bak ff jj.toNat = v := ⟨_, rfl⟩
  obtain ⟨ro, e6⟩ : ∃ v, bak uu jj.toNat = v := ⟨_, rfl⟩
  rw [e5] at sat g1
  rw [e6] at sov g2
  have CF : ∀ {W : World} {b : Bool} {A B : Option Addr} {n c m d : Nat}, Rt W b A n c B m d x0 → Calls Try.prog 12 #[.agg #[.bool b, .slice A n c, .slice B m d], .int .i64 jj] W (GotZp W ff 0) := fun hh => by rw [← e1]; exact dfloor_N hh (s0.le (by omega)) (by omega) (by omega)
  have CU : ∀ {W : World} {b : Bool} {A B : Option Addr} {n c m d : Nat}, Rt W b A n c B m d x0 → Calls Try.prog 14 #[.agg #[.bool b, .slice A n c, .slice B m d], .int .i64 jj] W (GotZp W uu 0) := fun hh => by rw [← e2]; exact dceil_N hh (s0.le (by omega)) (by omega) (by omega)
  have CL : ∀ {W : World} {b : Bool} {A B : Option Addr} {n c m d : Nat}, Rt W b A n c B m d x0 → Calls Try.prog 12 #[.agg #[.bool b, .slice A n c, .slice B m d], .int .i64 j] W (GotZp W fl_ 0) := fun hh => by rw [← e3]; exact dfloor_N hh (s0.le (by omega)) (by omega) (by omega)
  have CH : ∀ {W : World} {b : Bool} {A B : Option Addr} {n c m d : Nat}, Rt W b A n c B m d x0 → Calls Try.prog 14 #[.agg #[.bool b, .slice A n c, .slice B m d], .int .i64 j] W (GotZp W ch 0) := fun hh => by rw [← e4]; exact dceil_N hh (s0.le (by omega)) (by omega) (by omega)
  have CA : ∀ {W : World} {b : Bool} {A : Option Addr} {n c : Nat}, Zn W b A n c ff → Calls Try.prog 18 #[.agg #[.bool b, .slice A n c], .int .i64 jj] W (GotRp W ra 0) := fun hh => by rw [← e5]; exact dback_N hh (by omega) (by omega) (by omega)
  have CO : ∀ {W : World} {b : Bool} {A : Option Addr} {n c : Nat}, Zn W b A n c uu → Calls Try.prog 18 #[.agg #[.bool b, .slice A n c], .int .i64 jj] W (GotRp W ro 0) := fun hh => by rw [← e6]; exact dback_N hh (by omega) (by omega) (by omega)
  have CR : ∀ {W : World} {b : Bool} {A B : Option Addr} {n c m d : Nat}, Rt W b A n c B m d ra → Calls Try.prog 12 #[.agg #[.bool b, .slice A n c, .slice B m d], .int .i64 j] W (GotZp W fl_ 0) := fun hh => by rw [← g1]; exact dfloor_N hh (sat.le (by omega)) (by omega) (by omega)
  have CS : ∀ {W : World} {b : Bool} {A B : Option Addr} {n c m d : Nat}, Rt W b A n c B m d ro → Calls Try.prog 14 #[.agg #[.bool b, .slice A n c, .slice B m d], .int .i64 j] W (GotZp W ch 0) := fun hh => by rw [← g2]; exact dceil_N hh (sov.le (by omega)) (by omega) (by omega)
  have hsh : Hid (fl_ = ((ff.natAbs / 2 ^ nn : Nat) : Int)) := Lib.hid (shr_pos g3 hs)
  have hsg : Hid (decide (ff < 0) = false) := Lib.hid (decide_eq_false hs)
  clear e1 e2 e3 e4 e5 e6 g1 g2 g3 hnn et hs
  have cc := Below.refl w.heap.size w
  go_enter Try.func8, Try.ntmps8
  go_wp2_with fail
  have bA : Below w.heap.size w (w.alloc (.cells #[.bool b0, .slice A0 n0 c0, .slice B0 m0 d0] 27)) := ((Below.refl _ w).alloc (by simp) _)
  replace h0 := h0.on bA
  replace cc := bK cc bA
  clear bA
  have pa0 : (w.alloc (.cells #[.bool b0, .slice A0 n0 c0, .slice B0 m0 d0] 27)).cell? ⟨w.heap.size, 0, none⟩ = some (.bool b0) := by simp [go_sem]
  have pa1 : (w.alloc (.cells #[.bool b0, .slice A0 n0 c0, .slice B0 m0 d0] 27)).cell? ⟨w.heap.size, 1, none⟩ = some (.slice A0 n0 c0) := by simp [go_sem]
  have pa2 : (w.alloc (.cells #[.bool b0, .slice A0 n0 c0, .slice B0 m0 d0] 27)).cell? ⟨w.heap.size, 2, none⟩ = some (.slice B0 m0 d0) := by simp [go_sem]
  have pal : w.heap.size < (w.alloc (.cells #[.bool b0, .slice A0 n0 c0, .slice B0 m0 d0] 27)).heap.size := by simp <;> omega
  generalize w.alloc (.cells #[.bool b0, .slice A0 n0 c0, .slice B0 m0 d0] 27) = v1 at *
  refine (G0 _ cc).mono ?_
  rintro e w2 ⟨rfl, b⟩
  replace h0 := h0.on b
  replace pa0 := cK b pa0 pal
  replace pa1 := cK b pa1 pal
  replace pa2 := cK b pa2 pal
  replace pal := lK b pal
  replace cc := bK cc b
  clear b
  go_wp2_with fail
  refine (CF h0).mono ?_
  rintro e w3 ⟨bx, Ax, nx, cx, rfl, hx, b⟩
  obtain rfl : bx = false := hx.2.trans hsg.out
  replace h0 := h0.on b
  replace pa0 := cK b pa0 pal
  replace pa1 := cK b pa1 pal
  replace pa2 := cK b pa2 pal
  replace pal := lK b pal
  replace cc := bK cc b
  clear b
  go_wp2_with fail
  have bA := below_one w3 (.cells #[.bool false, .slice Ax nx cx] 25)
  replace h0 := h0.on bA
  replace hx := hx.on bA
  replace pa0 := cK bA pa0 pal
  replace pa1 := cK bA pa1 pal
  replace pa2 := cK bA pa2 pal
  replace pal := lK bA pal
  replace cc := bK cc bA
  clear bA
  have x0 : (w3.alloc (.cells #[.bool false, .slice Ax nx cx] 25)).cell? ⟨w3.heap.size, 0, none⟩ = some (.bool false) := by simp [go_sem]
  have x1 : (w3.alloc (.cells #[.bool false, .slice Ax nx cx] 25)).cell? ⟨w3.heap.size, 1, none⟩ = some (.slice Ax nx cx) := by simp [go_sem]
  have xl : w3.heap.size < (w3.alloc (.cells #[.bool false, .slice Ax nx cx] 25)).heap.size := by simp
  generalize w3.alloc (.cells #[.bool false, .slice Ax nx cx] 25) = v4 at *
  refine (CA hx).mono ?_
  rintro e w5 ⟨braq, Araq, nraq, craq, Braq, mraq, draq, rfl, hraq, b⟩
  replace h0 := h0.on b
  replace hx := hx.on b
  replace pa0 := cK b pa0 pal
  replace pa1 := cK b pa1 pal
  replace pa2 := cK b pa2 pal
  replace pal := lK b pal
  replace x0 := cK b x0 xl
  replace x1 := cK b x1 xl
  replace xl := lK b xl
  replace cc := bK cc b
  clear b
  go_wp2_with fail
  have bA := below_one w5 (.cells #[.bool braq, .slice Araq nraq craq, .slice Braq mraq draq] 27)
  replace h0 := h0.on bA
  replace hx := hx.on bA
  replace hraq := hraq.on bA
  replace pa0 := cK bA pa0 pal
  replace pa1 := cK bA pa1 pal
  replace pa2 := cK bA pa2 pal
  replace pal := lK bA pal
  replace x0 := cK bA x0 xl
  replace x1 := cK bA x1 xl
  replace xl := lK bA xl
  replace cc := bK cc bA
  clear bA
  have raq0 : (w5.alloc (.cells #[.bool braq, .slice Araq nraq craq, .slice Braq mraq draq] 27)).cell? ⟨w5.heap.size, 0, none⟩ = some (.bool braq) := by simp [go_sem]
  have raq1 : (w5.alloc (.cells #[.bool braq, .slice Araq nraq craq, .slice Braq mraq draq] 27)).cell? ⟨w5.heap.size, 1, none⟩ = some (.slice Araq nraq craq) := by simp [go_sem]
  have raq2 : (w5.alloc (.cells #[.bool braq, .slice Araq nraq craq, .slice Braq mraq draq] 27)).cell? ⟨w5.heap.size, 2, none⟩ = some (.slice Braq mraq draq) := by simp [go_sem]
  have raql : w5.heap.size < (w5.alloc (.cells #[.bool braq, .slice Araq nraq craq, .slice Braq mraq draq] 27)).heap.size := by simp
  generalize w5.alloc (.cells #[.bool braq, .slice Araq nraq craq, .slice Braq mraq draq] 27) = v6 at *
  refine (CL h0).mono ?_
  rintro e w7 ⟨bbl, Abl, nbl, cbl, rfl, hbl, b⟩
  replace h0 := h0.on b
  replace hx := hx.on b
  replace hraq := hraq.on b
  replace pa0 := cK b pa0 pal
  replace pa1 := cK b pa1 pal
  replace pa2 := cK b pa2 pal
  replace pal := lK b pal
  replace x0 := cK b x0 xl
  replace x1 := cK b x1 xl
  replace xl := lK b xl
  replace raq0 := cK b raq0 raql
  replace raq1 := cK b raq1 raql
  replace raq2 := cK b raq2 raql
  replace raql := lK b raql
  replace cc := bK cc b
  clear b
  go_wp2_with fail
  have bA := below_one w7 (.cells #[.bool bbl, .slice Abl nbl cbl] 25)
  replace h0 := h0.on bA
  replace hx := hx.on bA
  replace hraq := hraq.on bA
  replace hbl := hbl.on bA
  replace pa0 := cK bA pa0 pal
  replace pa1 := cK bA pa1 pal
  replace pa2 := cK bA pa2 pal
  replace pal := lK bA pal
  replace x0 := cK bA x0 xl
  replace x1 := cK bA x1 xl
  replace xl := lK bA xl
  replace raq0 := cK bA raq0 raql
  replace raq1 := cK bA raq1 raql
  replace raq2 := cK bA raq2 raql
  replace raql := lK bA raql
  replace cc := bK cc bA
  clear bA
  have bl0 : (w7.alloc (.cells #[.bool bbl, .slice Abl nbl cbl] 25)).cell? ⟨w7.heap.size, 0, none⟩ = some (.bool bbl) := by simp [go_sem]
  have bl1 : (w7.alloc (.cells #[.bool bbl, .slice Abl nbl cbl] 25)).cell? ⟨w7.heap.size, 1, none⟩ = some (.slice Abl nbl cbl) := by simp [go_sem]
  have bll : w7.heap.size < (w7.alloc (.cells #[.bool bbl, .slice Abl nbl cbl] 25)).heap.size := by simp
  generalize w7.alloc (.cells #[.bool bbl, .slice Abl nbl cbl] 25) = v8 at *
  refine (CR hraq).mono ?_
  rintro e w9 ⟨bbm, Abm, nbm, cbm, rfl, hbm, b⟩
  replace h0 := h0.on b
  replace hx := hx.on b
  replace hraq := hraq.on b
  replace hbl := hbl.on b
  replace pa0 := cK b pa0 pal
  replace pa1 := cK b pa1 pal
  replace pa2 := cK b pa2 pal
  replace pal := lK b pal
  replace x0 := cK b x0 xl
  replace x1 := cK b x1 xl
  replace xl := lK b xl
  replace raq0 := cK b raq0 raql
  replace raq1 := cK b raq1 raql
  replace raq2 := cK b raq2 raql
  replace raql := lK b raql
  replace bl0 := cK b bl0 bll
  replace bl1 := cK b bl1 bll
  replace bll := lK b bll
  replace cc := bK cc b
  clear b
  go_wp2_with fail
  have bA := below_one w9 (.cells #[.bool bbm, .slice Abm nbm cbm] 25)
  replace h0 := h0.on bA
  replace hx := hx.on bA
  replace hraq := hraq.on bA
  replace hbl := hbl.on bA
  replace hbm := hbm.on bA
  replace pa0 := cK bA pa0 pal
  replace pa1 := cK bA pa1 pal
  replace pa2 := cK bA pa2 pal
  replace pal := lK bA pal
  replace x0 := cK bA x0 xl
  replace x1 := cK bA x1 xl
  replace xl := lK bA xl
  replace raq0 := cK bA raq0 raql
  replace raq1 := cK bA raq1 raql
  replace raq2 := cK bA raq2 raql
  replace raql := lK bA raql
  replace bl0 := cK bA bl0 bll
  replace bl1 := cK bA bl1 bll
  replace bll := lK bA bll
  replace cc := bK cc bA
  clear bA
  have bm0 : (w9.alloc (.cells #[.bool bbm, .slice Abm nbm cbm] 25)).cell? ⟨w9.heap.size, 0, none⟩ = some (.bool bbm) := by simp [go_sem]
  have bm1 : (w9.alloc (.cells #[.bool bbm, .slice Abm nbm cbm] 25)).cell? ⟨w9.heap.size, 1, none⟩ = some (.slice Abm nbm cbm) := by simp [go_sem]
  have bml : w9.heap.size < (w9.alloc (.cells #[.bool bbm, .slice Abm nbm cbm] 25)).heap.size := by simp
  generalize w9.alloc (.cells #[.bool bbm, .slice Abm nbm cbm] 25) = v10 at *
  refine (CU h0).mono ?_
  rintro e w11 ⟨bbu, Abu, nbu, cbu, rfl, hbu, b⟩
  replace h0 := h0.on b
  replace hx := hx.on b
  replace hraq := hraq.on b
  replace hbl := hbl.on b
  replace hbm := hbm.on b
  replace pa0 := cK b pa0 pal
  replace pa1 := cK b pa1 pal
  replace pa2 := cK b pa2 pal
  replace pal := lK b pal
  replace x0 := cK b x0 xl
  replace x1 := cK b x1 xl
  replace xl := lK b xl
  replace raq0 := cK b raq0 raql
  replace raq1 := cK b raq1 raql
  replace raq2 := cK b raq2 raql
  replace raql := lK b raql
  replace bl0 := cK b bl0 bll
  replace bl1 := cK b bl1 bll
  replace bll := lK b bll
  replace bm0 := cK b bm0 bml
  replace bm1 := cK b bm1 bml
  replace bml := lK b bml
  replace cc := bK cc b
  clear b
  go_wp2_with fail
  have bA := below_one w11 (.cells #[.bool bbu, .slice Abu nbu cbu] 25)
  replace h0 := h0.on bA
  replace hx := hx.on bA
  replace hraq := hraq.on bA
  replace hbl := hbl.on bA
  replace hbm := hbm.on bA
  replace hbu := hbu.on bA
  replace pa0 := cK bA pa0 pal
  replace pa1 := cK bA pa1 pal
  replace pa2 := cK bA pa2 pal
  replace pal := lK bA pal
  replace x0 := cK bA x0 xl
  replace x1 := cK bA x1 xl
  replace xl := lK bA xl
  replace raq0 := cK bA raq0 raql
  replace raq1 := cK bA raq1 raql
  replace raq2 := cK bA raq2 raql
  replace raql := lK bA raql
  replace bl0 := cK bA bl0 bll
  replace bl1 := cK bA bl1 bll
  replace bll := lK bA bll
  replace bm0 := cK bA bm0 bml
  replace bm1 := cK bA bm1 bml
  replace bml := lK bA bml
  replace cc := bK cc bA
  clear bA
  have bu0 : (w11.alloc (.cells #[.bool bbu, .slice Abu nbu cbu] 25)).cell? ⟨w11.heap.size, 0, none⟩ = some (.bool bbu) := by simp [go_sem]
  have bu1 : (w11.alloc (.cells #[.bool bbu, .slice Abu nbu cbu] 25)).cell? ⟨w11.heap.size, 1, none⟩ = some (.slice Abu nbu cbu) := by simp [go_sem]
  have bul : w11.heap.size < (w11.alloc (.cells #[.bool bbu, .slice Abu nbu cbu] 25)).heap.size := by simp
  generalize w11.alloc (.cells #[.bool bbu, .slice Abu nbu cbu] 25) = v12 at *
  refine (CO hbu).mono ?_
  rintro e w13 ⟨brov, Arov, nrov, crov, Brov, mrov, drov, rfl, hrov, b⟩
  replace h0 := h0.on b
  replace hx := hx.on b
  replace hraq := hraq.on b
  replace hbl := hbl.on b
  replace hbm := hbm.on b
  replace hbu := hbu.on b
  replace pa0 := cK b pa0 pal
  replace pa1 := cK b pa1 pal
  replace pa2 := cK b pa2 pal
  replace pal := lK b pal
  replace x0 := cK b x0 xl
  replace x1 := cK b x1 xl
  replace xl := lK b xl
  replace raq0 := cK b raq0 raql
  replace raq1 := cK b raq1 raql
  replace raq2 := cK b raq2 raql
  replace raql := lK b raql
  replace bl0 := cK b bl0 bll
  replace bl1 := cK b bl1 bll
  replace bll := lK b bll
  replace bm0 := cK b bm0 bml
  replace bm1 := cK b bm1 bml
  replace bml := lK b bml
  replace bu0 := cK b bu0 bul
  replace bu1 := cK b bu1 bul
  replace bul := lK b bul
  replace cc := bK cc b
  clear b
  go_wp2_with fail
  have bA := below_one w13 (.cells #[.bool brov, .slice Arov nrov crov, .slice Brov mrov drov] 27)
  replace h0 := h0.on bA
  replace hx := hx.on bA
  replace hraq := hraq.on bA
  replace hbl := hbl.on bA
  replace hbm := hbm.on bA
  replace hbu := hbu.on bA
  replace hrov := hrov.on bA
  replace pa0 := cK bA pa0 pal
  replace pa1 := cK bA pa1 pal
  replace pa2 := cK bA pa2 pal
  replace pal := lK bA pal
  replace x0 := cK bA x0 xl
  replace x1 := cK bA x1 xl
  replace xl := lK bA xl
  replace raq0 := cK bA raq0 raql
  replace raq1 := cK bA raq1 raql
  replace raq2 := cK bA raq2 raql
  replace raql := lK bA raql
  replace bl0 := cK bA bl0 bll
  replace bl1 := cK bA bl1 bll
  replace bll := lK bA bll
  replace bm0 := cK bA bm0 bml
  replace bm1 := cK bA bm1 bml
  replace bml := lK bA bml
  replace bu0 := cK bA bu0 bul
  replace bu1 := cK bA bu1 bul
  replace bul := lK bA bul
  replace cc := bK cc bA
  clear bA
  have rov0 : (w13.alloc (.cells #[.bool brov, .slice Arov nrov crov, .slice Brov mrov drov] 27)).cell? ⟨w13.heap.size, 0, none⟩ = some (.bool brov) := by simp [go_sem]
  have rov1 : (w13.alloc (.cells #[.bool brov, .slice Arov nrov crov, .slice Brov mrov drov] 27)).cell? ⟨w13.heap.size, 1, none⟩ = some (.slice Arov nrov crov) := by simp [go_sem]
  have rov2 : (w13.alloc (.cells #[.bool brov, .slice Arov nrov crov, .slice Brov mrov drov] 27)).cell? ⟨w13.heap.size, 2, none⟩ = some (.slice Brov mrov drov) := by simp [go_sem]
  have rovl : w13.heap.size < (w13.alloc (.cells #[.bool brov, .slice Arov nrov crov, .slice Brov mrov drov] 27)).heap.size := by simp
  generalize w13.alloc (.cells #[.bool brov, .slice Arov nrov crov, .slice Brov mrov drov] 27) = v14 at *
  refine (CH h0).mono ?_
  rintro e w15 ⟨bbh, Abh, nbh, cbh, rfl, hbh, b⟩
  replace h0 := h0.on b
  replace hx := hx.on b
  replace hraq := hraq.on b
  replace hbl := hbl.on b
  replace hbm := hbm.on b
  replace hbu := hbu.on b
  replace hrov := hrov.on b
  replace pa0 := cK b pa0 pal
  replace pa1 := cK b pa1 pal
  replace pa2 := cK b pa2 pal
  replace pal := lK b pal
  replace x0 := cK b x0 xl
  replace x1 := cK b x1 xl
  replace xl := lK b xl
  replace raq0 := cK b raq0 raql
  replace raq1 := cK b raq1 raql
  replace raq2 := cK b raq2 raql
  replace raql := lK b raql
  replace bl0 := cK b bl0 bll
  replace bl1 := cK b bl1 bll
  replace bll := lK b bll
  replace bm0 := cK b bm0 bml
  replace bm1 := cK b bm1 bml
  replace bml := lK b bml
  replace bu0 := cK b bu0 bul
  replace bu1 := cK b bu1 bul
  replace bul := lK b bul
  replace rov0 := cK b rov0 rovl
  replace rov1 := cK b rov1 rovl
  replace rov2 := cK b rov2 rovl
  replace rovl := lK b rovl
  replace cc := bK cc b
  clear b
  go_wp2_with fail
  have bA := below_one w15 (.cells #[.bool bbh, .slice Abh nbh cbh] 25)
  replace h0 := h0.on bA
  replace hx := hx.on bA
  replace hraq := hraq.on bA
  replace hbl := hbl.on bA
  replace hbm := hbm.on bA
  replace hbu := hbu.on bA
  replace hrov := hrov.on bA
  replace hbh := hbh.on bA
  replace pa0 := cK bA pa0 pal
  replace pa1 := cK bA pa1 pal
  replace pa2 := cK bA pa2 pal
  replace pal := lK bA pal
  replace x0 := cK bA x0 xl
  replace x1 := cK bA x1 xl
  replace xl := lK bA xl
  replace raq0 := cK bA raq0 raql
  replace raq1 := cK bA raq1 raql
  replace raq2 := cK bA raq2 raql
  replace raql := lK bA raql
  replace bl0 := cK bA bl0 bll
  replace bl1 := cK bA bl1 bll
  replace bll := lK bA bll
  replace bm0 := cK bA bm0 bml
  replace bm1 := cK bA bm1 bml
  replace bml := lK bA bml
  replace bu0 := cK bA bu0 bul
  replace bu1 := cK bA bu1 bul
  replace bul := lK bA bul
  replace rov0 := cK bA rov0 rovl
  replace rov1 := cK bA rov1 rovl
  replace rov2 := cK bA rov2 rovl
  replace rovl := lK bA rovl
  replace cc := bK cc bA
  clear bA
  have bh0 : (w15.alloc (.cells #[.bool bbh, .slice Abh nbh cbh] 25)).cell? ⟨w15.heap.size, 0, none⟩ = some (.bool bbh) := by simp [go_sem]
  have bh1 : (w15.alloc (.cells #[.bool bbh, .slice Abh nbh cbh] 25)).cell? ⟨w15.heap.size, 1, none⟩ = some (.slice Abh nbh cbh) := by simp [go_sem]
  have bhl : w15.heap.size < (w15.alloc (.cells #[.bool bbh, .slice Abh nbh cbh] 25)).heap.size := by simp
  generalize w15.alloc (.cells #[.bool bbh, .slice Abh nbh cbh] 25) = v16 at *
  refine (CS hrov).mono ?_
  rintro e w17 ⟨bbk, Abk, nbk, cbk, rfl, hbk, b⟩
  replace h0 := h0.on b
  replace hx := hx.on b
  replace hraq := hraq.on b
  replace hbl := hbl.on b
  replace hbm := hbm.on b
  replace hbu := hbu.on b
  replace hrov := hrov.on b
  replace hbh := hbh.on b
  replace pa0 := cK b pa0 pal
  replace pa1 := cK b pa1 pal
  replace pa2 := cK b pa2 pal
  replace pal := lK b pal
  replace x0 := cK b x0 xl
  replace x1 := cK b x1 xl
  replace xl := lK b xl
  replace raq0 := cK b raq0 raql
  replace raq1 := cK b raq1 raql
  replace raq2 := cK b raq2 raql
  replace raql := lK b raql
  replace bl0 := cK b bl0 bll
  replace bl1 := cK b bl1 bll
  replace bll := lK b bll
  replace bm0 := cK b bm0 bml
  replace bm1 := cK b bm1 bml
  replace bml := lK b bml
  replace bu0 := cK b bu0 bul
  replace bu1 := cK b bu1 bul
  replace bul := lK b bul
  replace rov0 := cK b rov0 rovl
  replace rov1 := cK b rov1 rovl
  replace rov2 := cK b rov2 rovl
  replace rovl := lK b rovl
  replace bh0 := cK b bh0 bhl
  replace bh1 := cK b bh1 bhl
  replace bhl := lK b bhl
  replace cc := bK cc b
  clear b
  go_wp2_with fail
  have bA := below_one w17 (.cells #[.bool bbk, .slice Abk nbk cbk] 25)
  replace h0 := h0.on bA
  replace hx := hx.on bA
  replace hraq := hraq.on bA
  replace hbl := hbl.on bA
  replace hbm := hbm.on bA
  replace hbu := hbu.on bA
  replace hrov := hrov.on bA
  replace hbh := hbh.on bA
  replace hbk := hbk.on bA
  replace pa0 := cK bA pa0 pal
  replace pa1 := cK bA pa1 pal
  replace pa2 := cK bA pa2 pal
  replace pal := lK bA pal
  replace x0 := cK bA x0 xl
  replace x1 := cK bA x1 xl
  replace xl := lK bA xl
  replace raq0 := cK bA raq0 raql
  replace raq1 := cK bA raq1 raql
  replace raq2 := cK bA raq2 raql
  replace raql := lK bA raql
  replace bl0 := cK bA bl0 bll
  replace bl1 := cK bA bl1 bll
  replace bll := lK bA bll
  replace bm0 := cK bA bm0 bml
  replace bm1 := cK bA bm1 bml
  replace bml := lK bA bml
  replace bu0 := cK bA bu0 bul
  replace bu1 := cK bA bu1 bul
  replace bul := lK bA bul
  replace rov0 := cK bA rov0 rovl
  replace rov1 := cK bA rov1 rovl
  replace rov2 := cK bA rov2 rovl
  replace rovl := lK bA rovl
  replace bh0 := cK bA bh0 bhl
  replace bh1 := cK bA bh1 bhl
  replace bhl := lK bA bhl
  replace cc := bK cc bA
  clear bA
  have bk0 : (w17.alloc (.cells #[.bool bbk, .slice Abk nbk cbk] 25)).cell? ⟨w17.heap.size, 0, none⟩ = some (.bool bbk) := by simp [go_sem]
  have bk1 : (w17.alloc (.cells #[.bool bbk, .slice Abk nbk cbk] 25)).cell? ⟨w17.heap.size, 1, none⟩ = some (.slice Abk nbk cbk) := by simp [go_sem]
  have bkl : w17.heap.size < (w17.alloc (.cells #[.bool bbk, .slice Abk nbk cbk] 25)).heap.size := by simp
  generalize w17.alloc (.cells #[.bool bbk, .slice Abk nbk cbk] 25) = v18 at *
  have hxn := hx.1
  refine (rshr_N hxn (by omega) (by omega)).mono ?_
  rintro e w19 ⟨At, nt, ct, rfl, t, b⟩
  replace h0 := h0.on b
  replace hx := hx.on b
  replace hraq := hraq.on b
  replace hbl := hbl.on b
  replace hbm := hbm.on b
  replace hbu := hbu.on b
  replace hrov := hrov.on b
  replace hbh := hbh.on b
  replace hbk := hbk.on b
  replace hxn := hxn.on b
  replace pa0 := cK b pa0 pal
  replace pa1 := cK b pa1 pal
  replace pa2 := cK b pa2 pal
  replace pal := lK b pal
  replace x0 := cK b x0 xl
  replace x1 := cK b x1 xl
  replace xl := lK b xl
  replace raq0 := cK b raq0 raql
  replace raq1 := cK b raq1 raql
  replace raq2 := cK b raq2 raql
  replace raql := lK b raql
  replace bl0 := cK b bl0 bll
  replace bl1 := cK b bl1 bll
  replace bll := lK b bll
  replace bm0 := cK b bm0 bml
  replace bm1 := cK b bm1 bml
  replace bml := lK b bml
  replace bu0 := cK b bu0 bul
  replace bu1 := cK b bu1 bul
  replace bul := lK b bul
  replace rov0 := cK b rov0 rovl
  replace rov1 := cK b rov1 rovl
  replace rov2 := cK b rov2 rovl
  replace rovl := lK b rovl
  replace bh0 := cK b bh0 bhl
  replace bh1 := cK b bh1 bhl
  replace bhl := lK b bhl
  replace bk0 := cK b bk0 bkl
  replace bk1 := cK b bk1 bkl
  replace bkl := lK b bkl
  replace cc := bK cc b
  clear b
  have ht := zn_nat t
  go_wp2_with fail
  refine (zsame_eq hbl ht (by omega) hsh).mono ?_
  rintro e w20 ⟨rfl, b⟩
  replace h0 := h0.on b
  replace hx := hx.on b
  replace hraq := hraq.on b
  replace hbl := hbl.on b
  replace hbm := hbm.on b
  replace hbu := hbu.on b
  replace hrov := hrov.on b
  replace hbh := hbh.on b
  replace hbk := hbk.on b
  replace hxn := hxn.on b
  replace t := t.on b
  replace ht := ht.on b
  replace pa0 := cK b pa0 pal
  replace pa1 := cK b pa1 pal
  replace pa2 := cK b pa2 pal
  replace pal := lK b pal
  replace x0 := cK b x0 xl
  replace x1 := cK b x1 xl
  replace xl := lK b xl
  replace raq0 := cK b raq0 raql
  replace raq1 := cK b raq1 raql
  replace raq2 := cK b raq2 raql
  replace raql := lK b raql
  replace bl0 := cK b bl0 bll
  replace bl1 := cK b bl1 bll
  replace bll := lK b bll
  replace bm0 := cK b bm0 bml
  replace bm1 := cK b bm1 bml
  replace bml := lK b bml
  replace bu0 := cK b bu0 bul
  replace bu1 := cK b bu1 bul
  replace bul := lK b bul
  replace rov0 := cK b rov0 rovl
  replace rov1 := cK b rov1 rovl
  replace rov2 := cK b rov2 rovl
  replace rovl := lK b rovl
  replace bh0 := cK b bh0 bhl
  replace bh1 := cK b bh1 bhl
  replace bhl := lK b bhl
  replace bk0 := cK b bk0 bkl
  replace bk1 := cK b bk1 bkl
  replace bkl := lK b bkl
  replace cc := bK cc b
  clear b
  go_wp2_with fail
  refine (alive6_any _).mono ?_
  rintro e w21 ⟨rfl, b⟩
  replace h0 := h0.on b
  replace hx := hx.on b
  replace hraq := hraq.on b
  replace hbl := hbl.on b
  replace hbm := hbm.on b
  replace hbu := hbu.on b
  replace hrov := hrov.on b
  replace hbh := hbh.on b
  replace hbk := hbk.on b
  replace hxn := hxn.on b
  replace t := t.on b
  replace ht := ht.on b
  replace pa0 := cK b pa0 pal
  replace pa1 := cK b pa1 pal
  replace pa2 := cK b pa2 pal
  replace pal := lK b pal
  replace x0 := cK b x0 xl
  replace x1 := cK b x1 xl
  replace xl := lK b xl
  replace raq0 := cK b raq0 raql
  replace raq1 := cK b raq1 raql
  replace raq2 := cK b raq2 raql
  replace raql := lK b raql
  replace bl0 := cK b bl0 bll
  replace bl1 := cK b bl1 bll
  replace bll := lK b bll
  replace bm0 := cK b bm0 bml
  replace bm1 := cK b bm1 bml
  replace bml := lK b bml
  replace bu0 := cK b bu0 bul
  replace bu1 := cK b bu1 bul
  replace bul := lK b bul
  replace rov0 := cK b rov0 rovl
  replace rov1 := cK b rov1 rovl
  replace rov2 := cK b rov2 rovl
  replace rovl := lK b rovl
  replace bh0 := cK b bh0 bhl
  replace bh1 := cK b bh1 bhl
  replace bhl := lK b bhl
  replace bk0 := cK b bk0 bkl
  replace bk1 := cK b bk1 bkl
  replace bkl := lK b bkl
  replace cc := bK cc b
  clear b
  go_wp2_with fail
  refine (zsame_self hbl hbm (by omega)).mono ?_
  rintro e w22 ⟨rfl, b⟩
  replace h0 := h0.on b
  replace hx := hx.on b
  replace hraq := hraq.on b
  replace hbl := hbl.on b
  replace hbm := hbm.on b
  replace hbu := hbu.on b
  replace hrov := hrov.on b
  replace hbh := hbh.on b
  replace hbk := hbk.on b
  replace hxn := hxn.on b
  replace t := t.on b
  replace ht := ht.on b
  replace pa0 := cK b pa0 pal
  replace pa1 := cK b pa1 pal
  replace pa2 := cK b pa2 pal
  replace pal := lK b pal
  replace x0 := cK b x0 xl
  replace x1 := cK b x1 xl
  replace xl := lK b xl
  replace raq0 := cK b raq0 raql
  replace raq1 := cK b raq1 raql
  replace raq2 := cK b raq2 raql
  replace raql := lK b raql
  replace bl0 := cK b bl0 bll
  replace bl1 := cK b bl1 bll
  replace bll := lK b bll
  replace bm0 := cK b bm0 bml
  replace bm1 := cK b bm1 bml
  replace bml := lK b bml
  replace bu0 := cK b bu0 bul
  replace bu1 := cK b bu1 bul
  replace bul := lK b bul
  replace rov0 := cK b rov0 rovl
  replace rov1 := cK b rov1 rovl
  replace rov2 := cK b rov2 rovl
  replace rovl := lK b rovl
  replace bh0 := cK b bh0 bhl
  replace bh1 := cK b bh1 bhl
  replace bhl := lK b bhl
  replace bk0 := cK b bk0 bkl
  replace bk1 := cK b bk1 bkl
  replace bkl := lK b bkl
  replace cc := bK cc b
  clear b
  go_wp2_with fail
  refine (zsame_self hbh hbk (by omega)).mono ?_
  rintro e w23 ⟨rfl, b⟩
  replace h0 := h0.on b
  replace hx := hx.on b
  replace hraq := hraq.on b
  replace hbl := hbl.on b
  replace hbm := hbm.on b
  replace hbu := hbu.on b
  replace hrov := hrov.on b
  replace hbh := hbh.on b
  replace hbk := hbk.on b
  replace hxn := hxn.on b
  replace t := t.on b
  replace ht := ht.on b
  replace pa0 := cK b pa0 pal
  replace pa1 := cK b pa1 pal
  replace pa2 := cK b pa2 pal
  replace pal := lK b pal
  replace x0 := cK b x0 xl
  replace x1 := cK b x1 xl
  replace xl := lK b xl
  replace raq0 := cK b raq0 raql
  replace raq1 := cK b raq1 raql
  replace raq2 := cK b raq2 raql
  replace raql := lK b raql
  replace bl0 := cK b bl0 bll
  replace bl1 := cK b bl1 bll
  replace bll := lK b bll
  replace bm0 := cK b bm0 bml
  replace bm1 := cK b bm1 bml
  replace bml := lK b bml
  replace bu0 := cK b bu0 bul
  replace bu1 := cK b bu1 bul
  replace bul := lK b bul
  replace rov0 := cK b rov0 rovl
  replace rov1 := cK b rov1 rovl
  replace rov2 := cK b rov2 rovl
  replace rovl := lK b rovl
  replace bh0 := cK b bh0 bhl
  replace bh1 := cK b bh1 bhl
  replace bhl := lK b bhl
  replace bk0 := cK b bk0 bkl
  replace bk1 := cK b bk1 bkl
  replace bkl := lK b bkl
  replace cc := bK cc b
  clear b
  go_wp2_with fail
  go_ret
  exact ⟨rfl, cc⟩

set_option maxRecDepth 100000 in
set_option maxHeartbeats 8000000 in
theorem DyadFiner_neg {w : World} {b0 : Bool} {A0 B0 : Option Addr} {n0 c0 m0 d0 : Nat} {j : Int} {mm : Nat} (hmm : mm < 256) {x0 : Rat} (h0 : Rt w b0 A0 n0 c0 B0 m0 d0 x0) (s0 : Sz x0 4) (G0 : ∀ W : World, Below w.heap.size w W → Calls Try.prog 9 #[.agg #[.bool b0, .slice A0 n0 c0, .slice B0 m0 d0], .int .i64 4] W (GotV W (.bool true))) (j0 : 0 ≤ j) (j1 : j ≤ 300) (hs : flo x0 (j.toNat + mm % 64) < 0) :
    Calls Try.prog 8 #[.agg #[.bool b0, .slice A0 n0 c0, .slice B0 m0 d0], .int .i64 j, .int .u8 (mm : Int)] w fun e w' => e = .returned (.bool true) ∧ Below w.heap.size w w' := by
  have t1 : decide (j < 0) = false := decide_eq_false (by omega)
  have t2 : decide (300 < j) = false := decide_eq_false (by omega)
  have jl : j.toNat ≤ 500 := by omega
  obtain ⟨nn, hnn⟩ : ∃ n, mm % 64 = n := ⟨_, rfl⟩
  have hn64 : nn < 64 := by omega
  have er : (mm : Int) % 64 = (nn : Int) := by omega
  have ew : IntKind.i64.wrap (nn : Int) = (nn : Int) := IntWalk.i64_in _ (by omega)
  have ev : IntKind.u8.wrap (nn : Int) = (nn : Int) := by rw [IntKind.wrap_u8]; omega
  obtain ⟨jj, hjj⟩ : ∃ i, j + (nn : Int) = i := ⟨_, rfl⟩
  have ej : IntKind.i64.wrap jj = jj := IntWalk.i64_in _ (by omega)
  have et : jj.toNat = j.toNat + nn := by omega
  have jl2 : jj.toNat ≤ 500 := by omega
  rw [hnn, ← et] at hs
  have g1 := flo_finer x0 j.toNat nn
  have g2 := cei_finer x0 j.toNat nn
  have g3 := flo_shr x0 j.toNat nn
  rw [← et] at g1 g2 g3
  have lf := flo_len s0 jl2
  have lu := cei_len s0 jl2
  have ll := flo_len s0 jl
  have lh := cei_len s0 jl
  obtain ⟨ff, e1⟩ : ∃ v, flo x0 jj.toNat = v := ⟨_, rfl⟩
  obtain ⟨uu, e2⟩ : ∃ v, cei x0 jj.toNat = v := ⟨_, rfl⟩
  obtain ⟨fl_, e3⟩ : ∃ v, flo x0 j.toNat = v := ⟨_, rfl⟩
  obtain ⟨ch, e4⟩ : ∃ v, cei x0 j.toNat = v := ⟨_, rfl⟩
  rw [e1] at g1 g3 lf hs
  rw [e2] at g2 lu
  rw [e3] at g1 g3 ll
  rw [e4] at g2 lh
  have sat := bak_sz lf (by omega) jl2
  have sov := bak_sz lu (by omega) jl2
  obtain ⟨ra, e5⟩ : ∃ v, bak ff jj.toNat = v := ⟨_, rfl⟩
  obtain ⟨ro, e6⟩ : ∃ v, bak uu jj.toNat = v := ⟨_, rfl⟩
  rw [e5] at sat g1
  rw [e6] at sov g2
  have CF : ∀ {W : World} {b : Bool} {A B : Option Addr} {n c m d : Nat}, Rt W b A n c B m d x0 → Calls Try.prog 12 #[.agg #[.bool b, .slice A n c, .slice B m d], .int .i64 jj] W (GotZp W ff 0) := fun hh => by rw [← e1]; exact dfloor_N hh (s0.le (by omega)) (by omega) (by omega)
  have CU : ∀ {W : World} {b : Bool} {A B : Option Addr} {n c m d : Nat}, Rt W b A n c B m d x0 → Calls Try.prog 14 #[.agg #[.bool b, .slice A n c, .slice B m d], .int .i64 jj] W (GotZp W uu 0) := fun hh => by rw [← e2]; exact dceil_N hh (s0.le (by omega)) (by omega) (by omega)
  have CL : ∀ {W : World} {b : Bool} {A B : Option Addr} {n c m d : Nat}, Rt W b A n c B m d x0 → Calls Try.prog 12 #[.agg #[.bool b, .slice A n c, .slice B m d], .int .i64 j] W (GotZp W fl_ 0) := fun hh => by rw [← e3]; exact dfloor_N hh (s0.le (by omega)) (by omega) (by omega)
  have CH : ∀ {W : World} {b : Bool} {A B : Option Addr} {n c m d : Nat}, Rt W b A n c B m d x0 → Calls Try.prog 14 #[.agg #[.bool b, .slice A n c, .slice B m d], .int .i64 j] W (GotZp W ch 0) := fun hh => by rw [← e4]; exact dceil_N hh (s0.le (by omega)) (by omega) (by omega)
  have CA : ∀ {W : World} {b : Bool} {A : Option Addr} {n c : Nat}, Zn W b A n c ff → Calls Try.prog 18 #[.agg #[.bool b, .slice A n c], .int .i64 jj] W (GotRp W ra 0) := fun hh => by rw [← e5]; exact dback_N hh (by omega) (by omega) (by omega)
  have CO : ∀ {W : World} {b : Bool} {A : Option Addr} {n c : Nat}, Zn W b A n c uu → Calls Try.prog 18 #[.agg #[.bool b, .slice A n c], .int .i64 jj] W (GotRp W ro 0) := fun hh => by rw [← e6]; exact dback_N hh (by omega) (by omega) (by omega)
  have CR : ∀ {W : World} {b : Bool} {A B : Option Addr} {n c m d : Nat}, Rt W b A n c B m d ra → Calls Try.prog 12 #[.agg #[.bool b, .slice A n c, .slice B m d], .int .i64 j] W (GotZp W fl_ 0) := fun hh => by rw [← g1]; exact dfloor_N hh (sat.le (by omega)) (by omega) (by omega)
  have CS : ∀ {W : World} {b : Bool} {A B : Option Addr} {n c m d : Nat}, Rt W b A n c B m d ro → Calls Try.prog 14 #[.agg #[.bool b, .slice A n c, .slice B m d], .int .i64 j] W (GotZp W ch 0) := fun hh => by rw [← g2]; exact dceil_N hh (sov.le (by omega)) (by omega) (by omega)
  have hsg : Hid (decide (ff < 0) = true) := Lib.hid (decide_eq_true hs)
  clear e1 e2 e3 e4 e5 e6 g1 g2 g3 hnn et hs
  have cc := Below.refl w.heap.size w
  go_enter Try.func8, Try.ntmps8
  go_wp2_with fail
  have bA : Below w.heap.size w (w.alloc (.cells #[.bool b0, .slice A0 n0 c0, .slice B0 m0 d0] 27)) := ((Below.refl _ w).alloc (by simp) _)
  replace h0 := h0.on bA
  replace cc := bK cc bA
  clear bA
  have pa0 : (w.alloc (.cells #[.bool b0, .slice A0 n0 c0, .slice B0 m0 d0] 27)).cell? ⟨w.heap.size, 0, none⟩ = some (.bool b0) := by simp [go_sem]
  have pa1 : (w.alloc (.cells #[.bool b0, .slice A0 n0 c0, .slice B0 m0 d0] 27)).cell? ⟨w.heap.size, 1, none⟩ = some (.slice A0 n0 c0) := by simp [go_sem]
  have pa2 : (w.alloc (.cells #[.bool b0, .slice A0 n0 c0, .slice B0 m0 d0] 27)).cell? ⟨w.heap.size, 2, none⟩ = some (.slice B0 m0 d0) := by simp [go_sem]
  have pal : w.heap.size < (w.alloc (.cells #[.bool b0, .slice A0 n0 c0, .slice B0 m0 d0] 27)).heap.size := by simp <;> omega
  generalize w.alloc (.cells #[.bool b0, .slice A0 n0 c0, .slice B0 m0 d0] 27) = v1 at *
  refine (G0 _ cc).mono ?_
  rintro e w2 ⟨rfl, b⟩
  replace h0 := h0.on b
  replace pa0 := cK b pa0 pal
  replace pa1 := cK b pa1 pal
  replace pa2 := cK b pa2 pal
  replace pal := lK b pal
  replace cc := bK cc b
  clear b
  go_wp2_with fail
  refine (CF h0).mono ?_
  rintro e w3 ⟨bx, Ax, nx, cx, rfl, hx, b⟩
  obtain rfl : bx = true := hx.2.trans hsg.out
  replace h0 := h0.on b
  replace pa0 := cK b pa0 pal
  replace pa1 := cK b pa1 pal
  replace pa2 := cK b pa2 pal
  replace pal := lK b pal
  replace cc := bK cc b
  clear b
  go_wp2_with fail
  have bA := below_one w3 (.cells #[.bool true, .slice Ax nx cx] 25)
  replace h0 := h0.on bA
  replace hx := hx.on bA
  replace pa0 := cK bA pa0 pal
  replace pa1 := cK bA pa1 pal
  replace pa2 := cK bA pa2 pal
  replace pal := lK bA pal
  replace cc := bK cc bA
  clear bA
  have x0 : (w3.alloc (.cells #[.bool true, .slice Ax nx cx] 25)).cell? ⟨w3.heap.size, 0, none⟩ = some (.bool true) := by simp [go_sem]
  have x1 : (w3.alloc (.cells #[.bool true, .slice Ax nx cx] 25)).cell? ⟨w3.heap.size, 1, none⟩ = some (.slice Ax nx cx) := by simp [go_sem]
  have xl : w3.heap.size < (w3.alloc (.cells #[.bool true, .slice Ax nx cx] 25)).heap.size := by simp
  generalize w3.alloc (.cells #[.bool true, .slice Ax nx cx] 25) = v4 at *
  refine (CA hx).mono ?_
  rintro e w5 ⟨braq, Araq, nraq, craq, Braq, mraq, draq, rfl, hraq, b⟩
  replace h0 := h0.on b
  replace hx := hx.on b
  replace pa0 := cK b pa0 pal
  replace pa1 := cK b pa1 pal
  replace pa2 := cK b pa2 pal
  replace pal := lK b pal
  replace x0 := cK b x0 xl
  replace x1 := cK b x1 xl
  replace xl := lK b xl
  replace cc := bK cc b
  clear b
  go_wp2_with fail
  have bA := below_one w5 (.cells #[.bool braq, .slice Araq nraq craq, .slice Braq mraq draq] 27)
  replace h0 := h0.on bA
  replace hx := hx.on bA
  replace hraq := hraq.on bA
  replace pa0 := cK bA pa0 pal
  replace pa1 := cK bA pa1 pal
  replace pa2 := cK bA pa2 pal
  replace pal := lK bA pal
  replace x0 := cK bA x0 xl
  replace x1 := cK bA x1 xl
  replace xl := lK bA xl
  replace cc := bK cc bA
  clear bA
  have raq0 : (w5.alloc (.cells #[.bool braq, .slice Araq nraq craq, .slice Braq mraq draq] 27)).cell? ⟨w5.heap.size, 0, none⟩ = some (.bool braq) := by simp [go_sem]
  have raq1 : (w5.alloc (.cells #[.bool braq, .slice Araq nraq craq, .slice Braq mraq draq] 27)).cell? ⟨w5.heap.size, 1, none⟩ = some (.slice Araq nraq craq) := by simp [go_sem]
  have raq2 : (w5.alloc (.cells #[.bool braq, .slice Araq nraq craq, .slice Braq mraq draq] 27)).cell? ⟨w5.heap.size, 2, none⟩ = some (.slice Braq mraq draq) := by simp [go_sem]
  have raql : w5.heap.size < (w5.alloc (.cells #[.bool braq, .slice Araq nraq craq, .slice Braq mraq draq] 27)).heap.size := by simp
  generalize w5.alloc (.cells #[.bool braq, .slice Araq nraq craq, .slice Braq mraq draq] 27) = v6 at *
  refine (CL h0).mono ?_
  rintro e w7 ⟨bbl, Abl, nbl, cbl, rfl, hbl, b⟩
  replace h0 := h0.on b
  replace hx := hx.on b
  replace hraq := hraq.on b
  replace pa0 := cK b pa0 pal
  replace pa1 := cK b pa1 pal
  replace pa2 := cK b pa2 pal
  replace pal := lK b pal
  replace x0 := cK b x0 xl
  replace x1 := cK b x1 xl
  replace xl := lK b xl
  replace raq0 := cK b raq0 raql
  replace raq1 := cK b raq1 raql
  replace raq2 := cK b raq2 raql
  replace raql := lK b raql
  replace cc := bK cc b
  clear b
  go_wp2_with fail
  have bA := below_one w7 (.cells #[.bool bbl, .slice Abl nbl cbl] 25)
  replace h0 := h0.on bA
  replace hx := hx.on bA
  replace hraq := hraq.on bA
  replace hbl := hbl.on bA
  replace pa0 := cK bA pa0 pal
  replace pa1 := cK bA pa1 pal
  replace pa2 := cK bA pa2 pal
  replace pal := lK bA pal
  replace x0 := cK bA x0 xl
  replace x1 := cK bA x1 xl
  replace xl := lK bA xl
  replace raq0 := cK bA raq0 raql
  replace raq1 := cK bA raq1 raql
  replace raq2 := cK bA raq2 raql
  replace raql := lK bA raql
  replace cc := bK cc bA
  clear bA
  have bl0 : (w7.alloc (.cells #[.bool bbl, .slice Abl nbl cbl] 25)).cell? ⟨w7.heap.size, 0, none⟩ = some (.bool bbl) := by simp [go_sem]
  have bl1 : (w7.alloc (.cells #[.bool bbl, .slice Abl nbl cbl] 25)).cell? ⟨w7.heap.size, 1, none⟩ = some (.slice Abl nbl cbl) := by simp [go_sem]
  have bll : w7.heap.size < (w7.alloc (.cells #[.bool bbl, .slice Abl nbl cbl] 25)).heap.size := by simp
  generalize w7.alloc (.cells #[.bool bbl, .slice Abl nbl cbl] 25) = v8 at *
  refine (CR hraq).mono ?_
  rintro e w9 ⟨bbm, Abm, nbm, cbm, rfl, hbm, b⟩
  replace h0 := h0.on b
  replace hx := hx.on b
  replace hraq := hraq.on b
  replace hbl := hbl.on b
  replace pa0 := cK b pa0 pal
  replace pa1 := cK b pa1 pal
  replace pa2 := cK b pa2 pal
  replace pal := lK b pal
  replace x0 := cK b x0 xl
  replace x1 := cK b x1 xl
  replace xl := lK b xl
  replace raq0 := cK b raq0 raql
  replace raq1 := cK b raq1 raql
  replace raq2 := cK b raq2 raql
  replace raql := lK b raql
  replace bl0 := cK b bl0 bll
  replace bl1 := cK b bl1 bll
  replace bll := lK b bll
  replace cc := bK cc b
  clear b
  go_wp2_with fail
  have bA := below_one w9 (.cells #[.bool bbm, .slice Abm nbm cbm] 25)
  replace h0 := h0.on bA
  replace hx := hx.on bA
  replace hraq := hraq.on bA
  replace hbl := hbl.on bA
  replace hbm := hbm.on bA
  replace pa0 := cK bA pa0 pal
  replace pa1 := cK bA pa1 pal
  replace pa2 := cK bA pa2 pal
  replace pal := lK bA pal
  replace x0 := cK bA x0 xl
  replace x1 := cK bA x1 xl
  replace xl := lK bA xl
  replace raq0 := cK bA raq0 raql
  replace raq1 := cK bA raq1 raql
  replace raq2 := cK bA raq2 raql
  replace raql := lK bA raql
  replace bl0 := cK bA bl0 bll
  replace bl1 := cK bA bl1 bll
  replace bll := lK bA bll
  replace cc := bK cc bA
  clear bA
  have bm0 : (w9.alloc (.cells #[.bool bbm, .slice Abm nbm cbm] 25)).cell? ⟨w9.heap.size, 0, none⟩ = some (.bool bbm) := by simp [go_sem]
  have bm1 : (w9.alloc (.cells #[.bool bbm, .slice Abm nbm cbm] 25)).cell? ⟨w9.heap.size, 1, none⟩ = some (.slice Abm nbm cbm) := by simp [go_sem]
  have bml : w9.heap.size < (w9.alloc (.cells #[.bool bbm, .slice Abm nbm cbm] 25)).heap.size := by simp
  generalize w9.alloc (.cells #[.bool bbm, .slice Abm nbm cbm] 25) = v10 at *
  refine (CU h0).mono ?_
  rintro e w11 ⟨bbu, Abu, nbu, cbu, rfl, hbu, b⟩
  replace h0 := h0.on b
  replace hx := hx.on b
  replace hraq := hraq.on b
  replace hbl := hbl.on b
  replace hbm := hbm.on b
  replace pa0 := cK b pa0 pal
  replace pa1 := cK b pa1 pal
  replace pa2 := cK b pa2 pal
  replace pal := lK b pal
  replace x0 := cK b x0 xl
  replace x1 := cK b x1 xl
  replace xl := lK b xl
  replace raq0 := cK b raq0 raql
  replace raq1 := cK b raq1 raql
  replace raq2 := cK b raq2 raql
  replace raql := lK b raql
  replace bl0 := cK b bl0 bll
  replace bl1 := cK b bl1 bll
  replace bll := lK b bll
  replace bm0 := cK b bm0 bml
  replace bm1 := cK b bm1 bml
  replace bml := lK b bml
  replace cc := bK cc b
  clear b
  go_wp2_with fail
  have bA := below_one w11 (.cells #[.bool bbu, .slice Abu nbu cbu] 25)
  replace h0 := h0.on bA
  replace hx := hx.on bA
  replace hraq := hraq.on bA
  replace hbl := hbl.on bA
  replace hbm := hbm.on bA
  replace hbu := hbu.on bA
  replace pa0 := cK bA pa0 pal
  replace pa1 := cK bA pa1 pal
  replace pa2 := cK bA pa2 pal
  replace pal := lK bA pal
  replace x0 := cK bA x0 xl
  replace x1 := cK bA x1 xl
  replace xl := lK bA xl
  replace raq0 := cK bA raq0 raql
  replace raq1 := cK bA raq1 raql
  replace raq2 := cK bA raq2 raql
  replace raql := lK bA raql
  replace bl0 := cK bA bl0 bll
  replace bl1 := cK bA bl1 bll
  replace bll := lK bA bll
  replace bm0 := cK bA bm0 bml
  replace bm1 := cK bA bm1 bml
  replace bml := lK bA bml
  replace cc := bK cc bA
  clear bA
  have bu0 : (w11.alloc (.cells #[.bool bbu, .slice Abu nbu cbu] 25)).cell? ⟨w11.heap.size, 0, none⟩ = some (.bool bbu) := by simp [go_sem]
  have bu1 : (w11.alloc (.cells #[.bool bbu, .slice Abu nbu cbu] 25)).cell? ⟨w11.heap.size, 1, none⟩ = some (.slice Abu nbu cbu) := by simp [go_sem]
  have bul : w11.heap.size < (w11.alloc (.cells #[.bool bbu, .slice Abu nbu cbu] 25)).heap.size := by simp
  generalize w11.alloc (.cells #[.bool bbu, .slice Abu nbu cbu] 25) = v12 at *
  refine (CO hbu).mono ?_
  rintro e w13 ⟨brov, Arov, nrov, crov, Brov, mrov, drov, rfl, hrov, b⟩
  replace h0 := h0.on b
  replace hx := hx.on b
  replace hraq := hraq.on b
  replace hbl := hbl.on b
  replace hbm := hbm.on b
  replace hbu := hbu.on b
  replace pa0 := cK b pa0 pal
  replace pa1 := cK b pa1 pal
  replace pa2 := cK b pa2 pal
  replace pal := lK b pal
  replace x0 := cK b x0 xl
  replace x1 := cK b x1 xl
  replace xl := lK b xl
  replace raq0 := cK b raq0 raql
  replace raq1 := cK b raq1 raql
  replace raq2 := cK b raq2 raql
  replace raql := lK b raql
  replace bl0 := cK b bl0 bll
  replace bl1 := cK b bl1 bll
  replace bll := lK b bll
  replace bm0 := cK b bm0 bml
  replace bm1 := cK b bm1 bml
  replace bml := lK b bml
  replace bu0 := cK b bu0 bul
  replace bu1 := cK b bu1 bul
  replace bul := lK b bul
  replace cc := bK cc b
  clear b
  go_wp2_with fail
  have bA := below_one w13 (.cells #[.bool brov, .slice Arov nrov crov, .slice Brov mrov drov] 27)
  replace h0 := h0.on bA
  replace hx := hx.on bA
  replace hraq := hraq.on bA
  replace hbl := hbl.on bA
  replace hbm := hbm.on bA
  replace hbu := hbu.on bA
  replace hrov := hrov.on bA
  replace pa0 := cK bA pa0 pal
  replace pa1 := cK bA pa1 pal
  replace pa2 := cK bA pa2 pal
  replace pal := lK bA pal
  replace x0 := cK bA x0 xl
  replace x1 := cK bA x1 xl
  replace xl := lK bA xl
  replace raq0 := cK bA raq0 raql
  replace raq1 := cK bA raq1 raql
  replace raq2 := cK bA raq2 raql
  replace raql := lK bA raql
  replace bl0 := cK bA bl0 bll
  replace bl1 := cK bA bl1 bll
  replace bll := lK bA bll
  replace bm0 := cK bA bm0 bml
  replace bm1 := cK bA bm1 bml
  replace bml := lK bA bml
  replace bu0 := cK bA bu0 bul
  replace bu1 := cK bA bu1 bul
  replace bul := lK bA bul
  replace cc := bK cc bA
  clear bA
  have rov0 : (w13.alloc (.cells #[.bool brov, .slice Arov nrov crov, .slice Brov mrov drov] 27)).cell? ⟨w13.heap.size, 0, none⟩ = some (.bool brov) := by simp [go_sem]
  have rov1 : (w13.alloc (.cells #[.bool brov, .slice Arov nrov crov, .slice Brov mrov drov] 27)).cell? ⟨w13.heap.size, 1, none⟩ = some (.slice Arov nrov crov) := by simp [go_sem]
  have rov2 : (w13.alloc (.cells #[.bool brov, .slice Arov nrov crov, .slice Brov mrov drov] 27)).cell? ⟨w13.heap.size, 2, none⟩ = some (.slice Brov mrov drov) := by simp [go_sem]
  have rovl : w13.heap.size < (w13.alloc (.cells #[.bool brov, .slice Arov nrov crov, .slice Brov mrov drov] 27)).heap.size := by simp
  generalize w13.alloc (.cells #[.bool brov, .slice Arov nrov crov, .slice Brov mrov drov] 27) = v14 at *
  refine (CH h0).mono ?_
  rintro e w15 ⟨bbh, Abh, nbh, cbh, rfl, hbh, b⟩
  replace h0 := h0.on b
  replace hx := hx.on b
  replace hraq := hraq.on b
  replace hbl := hbl.on b
  replace hbm := hbm.on b
  replace hbu := hbu.on b
  replace hrov := hrov.on b
  replace pa0 := cK b pa0 pal
  replace pa1 := cK b pa1 pal
  replace pa2 := cK b pa2 pal
  replace pal := lK b pal
  replace x0 := cK b x0 xl
  replace x1 := cK b x1 xl
  replace xl := lK b xl
  replace raq0 := cK b raq0 raql
  replace raq1 := cK b raq1 raql
  replace raq2 := cK b raq2 raql
  replace raql := lK b raql
  replace bl0 := cK b bl0 bll
  replace bl1 := cK b bl1 bll
  replace bll := lK b bll
  replace bm0 := cK b bm0 bml
  replace bm1 := cK b bm1 bml
  replace bml := lK b bml
  replace bu0 := cK b bu0 bul
  replace bu1 := cK b bu1 bul
  replace bul := lK b bul
  replace rov0 := cK b rov0 rovl
  replace rov1 := cK b rov1 rovl
  replace rov2 := cK b rov2 rovl
  replace rovl := lK b rovl
  replace cc := bK cc b
  clear b
  go_wp2_with fail
  have bA := below_one w15 (.cells #[.bool bbh, .slice Abh nbh cbh] 25)
  replace h0 := h0.on bA
  replace hx := hx.on bA
  replace hraq := hraq.on bA
  replace hbl := hbl.on bA
  replace hbm := hbm.on bA
  replace hbu := hbu.on bA
  replace hrov := hrov.on bA
  replace hbh := hbh.on bA
  replace pa0 := cK bA pa0 pal
  replace pa1 := cK bA pa1 pal
  replace pa2 := cK bA pa2 pal
  replace pal := lK bA pal
  replace x0 := cK bA x0 xl
  replace x1 := cK bA x1 xl
  replace xl := lK bA xl
  replace raq0 := cK bA raq0 raql
  replace raq1 := cK bA raq1 raql
  replace raq2 := cK bA raq2 raql
  replace raql := lK bA raql
  replace bl0 := cK bA bl0 bll
  replace bl1 := cK bA bl1 bll
  replace bll := lK bA bll
  replace bm0 := cK bA bm0 bml
  replace bm1 := cK bA bm1 bml
  replace bml := lK bA bml
  replace bu0 := cK bA bu0 bul
  replace bu1 := cK bA bu1 bul
  replace bul := lK bA bul
  replace rov0 := cK bA rov0 rovl
  replace rov1 := cK bA rov1 rovl
  replace rov2 := cK bA rov2 rovl
  replace rovl := lK bA rovl
  replace cc := bK cc bA
  clear bA
  have bh0 : (w15.alloc (.cells #[.bool bbh, .slice Abh nbh cbh] 25)).cell? ⟨w15.heap.size, 0, none⟩ = some (.bool bbh) := by simp [go_sem]
  have bh1 : (w15.alloc (.cells #[.bool bbh, .slice Abh nbh cbh] 25)).cell? ⟨w15.heap.size, 1, none⟩ = some (.slice Abh nbh cbh) := by simp [go_sem]
  have bhl : w15.heap.size < (w15.alloc (.cells #[.bool bbh, .slice Abh nbh cbh] 25)).heap.size := by simp
  generalize w15.alloc (.cells #[.bool bbh, .slice Abh nbh cbh] 25) = v16 at *
  refine (CS hrov).mono ?_
  rintro e w17 ⟨bbk, Abk, nbk, cbk, rfl, hbk, b⟩
  replace h0 := h0.on b
  replace hx := hx.on b
  replace hraq := hraq.on b
  replace hbl := hbl.on b
  replace hbm := hbm.on b
  replace hbu := hbu.on b
  replace hrov := hrov.on b
  replace hbh := hbh.on b
  replace pa0 := cK b pa0 pal
  replace pa1 := cK b pa1 pal
  replace pa2 := cK b pa2 pal
  replace pal := lK b pal
  replace x0 := cK b x0 xl
  replace x1 := cK b x1 xl
  replace xl := lK b xl
  replace raq0 := cK b raq0 raql
  replace raq1 := cK b raq1 raql
  replace raq2 := cK b raq2 raql
  replace raql := lK b raql
  replace bl0 := cK b bl0 bll
  replace bl1 := cK b bl1 bll
  replace bll := lK b bll
  replace bm0 := cK b bm0 bml
  replace bm1 := cK b bm1 bml
  replace bml := lK b bml
  replace bu0 := cK b bu0 bul
  replace bu1 := cK b bu1 bul
  replace bul := lK b bul
  replace rov0 := cK b rov0 rovl
  replace rov1 := cK b rov1 rovl
  replace rov2 := cK b rov2 rovl
  replace rovl := lK b rovl
  replace bh0 := cK b bh0 bhl
  replace bh1 := cK b bh1 bhl
  replace bhl := lK b bhl
  replace cc := bK cc b
  clear b
  go_wp2_with fail
  have bA := below_one w17 (.cells #[.bool bbk, .slice Abk nbk cbk] 25)
  replace h0 := h0.on bA
  replace hx := hx.on bA
  replace hraq := hraq.on bA
  replace hbl := hbl.on bA
  replace hbm := hbm.on bA
  replace hbu := hbu.on bA
  replace hrov := hrov.on bA
  replace hbh := hbh.on bA
  replace hbk := hbk.on bA
  replace pa0 := cK bA pa0 pal
  replace pa1 := cK bA pa1 pal
  replace pa2 := cK bA pa2 pal
  replace pal := lK bA pal
  replace x0 := cK bA x0 xl
  replace x1 := cK bA x1 xl
  replace xl := lK bA xl
  replace raq0 := cK bA raq0 raql
  replace raq1 := cK bA raq1 raql
  replace raq2 := cK bA raq2 raql
  replace raql := lK bA raql
  replace bl0 := cK bA bl0 bll
  replace bl1 := cK bA bl1 bll
  replace bll := lK bA bll
  replace bm0 := cK bA bm0 bml
  replace bm1 := cK bA bm1 bml
  replace bml := lK bA bml
  replace bu0 := cK bA bu0 bul
  replace bu1 := cK bA bu1 bul
  replace bul := lK bA bul
  replace rov0 := cK bA rov0 rovl
  replace rov1 := cK bA rov1 rovl
  replace rov2 := cK bA rov2 rovl
  replace rovl := lK bA rovl
  replace bh0 := cK bA bh0 bhl
  replace bh1 := cK bA bh1 bhl
  replace bhl := lK bA bhl
  replace cc := bK cc bA
  clear bA
  have bk0 : (w17.alloc (.cells #[.bool bbk, .slice Abk nbk cbk] 25)).cell? ⟨w17.heap.size, 0, none⟩ = some (.bool bbk) := by simp [go_sem]
  have bk1 : (w17.alloc (.cells #[.bool bbk, .slice Abk nbk cbk] 25)).cell? ⟨w17.heap.size, 1, none⟩ = some (.slice Abk nbk cbk) := by simp [go_sem]
  have bkl : w17.heap.size < (w17.alloc (.cells #[.bool bbk, .slice Abk nbk cbk] 25)).heap.size := by simp
  generalize w17.alloc (.cells #[.bool bbk, .slice Abk nbk cbk] 25) = v18 at *
  have hxn := hx.1
  refine (rshr_N hxn (by omega) (by omega)).mono ?_
  rintro e w19 ⟨At, nt, ct, rfl, t, b⟩
  replace h0 := h0.on b
  replace hx := hx.on b
  replace hraq := hraq.on b
  replace hbl := hbl.on b
  replace hbm := hbm.on b
  replace hbu := hbu.on b
  replace hrov := hrov.on b
  replace hbh := hbh.on b
  replace hbk := hbk.on b
  replace hxn := hxn.on b
  replace pa0 := cK b pa0 pal
  replace pa1 := cK b pa1 pal
  replace pa2 := cK b pa2 pal
  replace pal := lK b pal
  replace x0 := cK b x0 xl
  replace x1 := cK b x1 xl
  replace xl := lK b xl
  replace raq0 := cK b raq0 raql
  replace raq1 := cK b raq1 raql
  replace raq2 := cK b raq2 raql
  replace raql := lK b raql
  replace bl0 := cK b bl0 bll
  replace bl1 := cK b bl1 bll
  replace bll := lK b bll
  replace bm0 := cK b bm0 bml
  replace bm1 := cK b bm1 bml
  replace bml := lK b bml
  replace bu0 := cK b bu0 bul
  replace bu1 := cK b bu1 bul
  replace bul := lK b bul
  replace rov0 := cK b rov0 rovl
  replace rov1 := cK b rov1 rovl
  replace rov2 := cK b rov2 rovl
  replace rovl := lK b rovl
  replace bh0 := cK b bh0 bhl
  replace bh1 := cK b bh1 bhl
  replace bhl := lK b bhl
  replace bk0 := cK b bk0 bkl
  replace bk1 := cK b bk1 bkl
  replace bkl := lK b bkl
  replace cc := bK cc b
  clear b
  go_wp2_with fail
  refine (alive6_any _).mono ?_
  rintro e w20 ⟨rfl, b⟩
  replace h0 := h0.on b
  replace hx := hx.on b
  replace hraq := hraq.on b
  replace hbl := hbl.on b
  replace hbm := hbm.on b
  replace hbu := hbu.on b
  replace hrov := hrov.on b
  replace hbh := hbh.on b
  replace hbk := hbk.on b
  replace hxn := hxn.on b
  replace t := t.on b
  replace pa0 := cK b pa0 pal
  replace pa1 := cK b pa1 pal
  replace pa2 := cK b pa2 pal
  replace pal := lK b pal
  replace x0 := cK b x0 xl
  replace x1 := cK b x1 xl
  replace xl := lK b xl
  replace raq0 := cK b raq0 raql
  replace raq1 := cK b raq1 raql
  replace raq2 := cK b raq2 raql
  replace raql := lK b raql
  replace bl0 := cK b bl0 bll
  replace bl1 := cK b bl1 bll
  replace bll := lK b bll
  replace bm0 := cK b bm0 bml
  replace bm1 := cK b bm1 bml
  replace bml := lK b bml
  replace bu0 := cK b bu0 bul
  replace bu1 := cK b bu1 bul
  replace bul := lK b bul
  replace rov0 := cK b rov0 rovl
  replace rov1 := cK b rov1 rovl
  replace rov2 := cK b rov2 rovl
  replace rovl := lK b rovl
  replace bh0 := cK b bh0 bhl
  replace bh1 := cK b bh1 bhl
  replace bhl := lK b bhl
  replace bk0 := cK b bk0 bkl
  replace bk1 := cK b bk1 bkl
  replace bkl := lK b bkl
  replace cc := bK cc b
  clear b
  go_wp2_with fail
  refine (zsame_self hbl hbm (by omega)).mono ?_
  rintro e w21 ⟨rfl, b⟩
  replace h0 := h0.on b
  replace hx := hx.on b
  replace hraq := hraq.on b
  replace hbl := hbl.on b
  replace hbm := hbm.on b
  replace hbu := hbu.on b
  replace hrov := hrov.on b
  replace hbh := hbh.on b
  replace hbk := hbk.on b
  replace hxn := hxn.on b
  replace t := t.on b
  replace pa0 := cK b pa0 pal
  replace pa1 := cK b pa1 pal
  replace pa2 := cK b pa2 pal
  replace pal := lK b pal
  replace x0 := cK b x0 xl
  replace x1 := cK b x1 xl
  replace xl := lK b xl
  replace raq0 := cK b raq0 raql
  replace raq1 := cK b raq1 raql
  replace raq2 := cK b raq2 raql
  replace raql := lK b raql
  replace bl0 := cK b bl0 bll
  replace bl1 := cK b bl1 bll
  replace bll := lK b bll
  replace bm0 := cK b bm0 bml
  replace bm1 := cK b bm1 bml
  replace bml := lK b bml
  replace bu0 := cK b bu0 bul
  replace bu1 := cK b bu1 bul
  replace bul := lK b bul
  replace rov0 := cK b rov0 rovl
  replace rov1 := cK b rov1 rovl
  replace rov2 := cK b rov2 rovl
  replace rovl := lK b rovl
  replace bh0 := cK b bh0 bhl
  replace bh1 := cK b bh1 bhl
  replace bhl := lK b bhl
  replace bk0 := cK b bk0 bkl
  replace bk1 := cK b bk1 bkl
  replace bkl := lK b bkl
  replace cc := bK cc b
  clear b
  go_wp2_with fail
  refine (zsame_self hbh hbk (by omega)).mono ?_
  rintro e w22 ⟨rfl, b⟩
  replace h0 := h0.on b
  replace hx := hx.on b
  replace hraq := hraq.on b
  replace hbl := hbl.on b
  replace hbm := hbm.on b
  replace hbu := hbu.on b
  replace hrov := hrov.on b
  replace hbh := hbh.on b
  replace hbk := hbk.on b
  replace hxn := hxn.on b
  replace t := t.on b
  replace pa0 := cK b pa0 pal
  replace pa1 := cK b pa1 pal
  replace pa2 := cK b pa2 pal
  replace pal := lK b pal
  replace x0 := cK b x0 xl
  replace x1 := cK b x1 xl
  replace xl := lK b xl
  replace raq0 := cK b raq0 raql
  replace raq1 := cK b raq1 raql
  replace raq2 := cK b raq2 raql
  replace raql := lK b raql
  replace bl0 := cK b bl0 bll
  replace bl1 := cK b bl1 bll
  replace bll := lK b bll
  replace bm0 := cK b bm0 bml
  replace bm1 := cK b bm1 bml
  replace bml := lK b bml
  replace bu0 := cK b bu0 bul
  replace bu1 := cK b bu1 bul
  replace bul := lK b bul
  replace rov0 := cK b rov0 rovl
  replace rov1 := cK b rov1 rovl
  replace rov2 := cK b rov2 rovl
  replace rovl := lK b rovl
  replace bh0 := cK b bh0 bhl
  replace bh1 := cK b bh1 bhl
  replace bhl := lK b bhl
  replace bk0 := cK b bk0 bkl
  replace bk1 := cK b bk1 bkl
  replace bkl := lK b bkl
  replace cc := bK cc b
  clear b
  go_wp2_with fail
  go_ret
  exact ⟨rfl, cc⟩

set_option maxRecDepth 100000 in
set_option maxHeartbeats 8000000 in
theorem DyadFiner_walk {w : World} (b0 : Bool) {A0 : Option Addr} {n0 c0 : Nat} {l0 : List Nat} (hl0 : Lim w.heap.size w A0 n0 c0 l0) (hs0 : n0 ≤ 9223372036854775807) {B0 : Option Addr} {m0 d0 : Nat} {k0 : List Nat} (hk0 : Lim w.heap.size w B0 m0 d0 k0) (ht0 : m0 ≤ 9223372036854775807) (j : Int) (hj : (Lit.int .i64 j).wf = true) (m : Int) (hm : (Lit.int .u8 m).wf = true) :
    Calls Try.prog 8 #[.agg #[.bool b0, .slice A0 n0 c0, .slice B0 m0 d0], .int .i64 j, .int .u8 m] w fun e w' => e = .returned (.bool true) ∧ Below w.heap.size w w' := by
  have G : ∀ {b : Bool} {A B : Option Addr} {n c m d : Nat} {l k : List Nat} (r : Bool), Lim w.heap.size w A n c l → Lim w.heap.size w B m d k → (decide ((n : Int) ≤ 4) && (decide ((m : Int) ≤ 4) && okR b n l m k)) = r → ∀ W : World, Below w.heap.size w W → Calls Try.prog 9 #[.agg #[.bool b, .slice A n c, .slice B m d], .int .i64 4] W (GotV W (.bool r)) := fun r hl hk hr W hW => rtfew_any (hl.on hW) (hk.on hW) 4 (by omega) r hr
  cases e0 : (decide ((n0 : Int) ≤ 4) && (decide ((m0 : Int) ≤ 4) && okR b0 n0 l0 m0 k0)) with
  | false => exact DyadFiner_no0  (G false hl0 hk0 e0)
  | true =>
    by_cases j0 : j < 0
    · exact DyadFiner_no1 (G true hl0 hk0 e0) j0
    by_cases j1 : 300 < j
    · exact DyadFiner_no2 (G true hl0 hk0 e0) j1
    obtain ⟨x0, h0, s0⟩ := few_rt 4 hl0 hk0 e0
    obtain ⟨b1, b2⟩ := bounds_u8 hm
    obtain ⟨mm, rfl⟩ : ∃ mm : Nat, m = (mm : Int) := ⟨m.toNat, by omega⟩
    by_cases hs : flo x0 (j.toNat + mm % 64) < 0
    · exact DyadFiner_neg (by omega) h0 s0 (G true hl0 hk0 e0) (by omega) (by omega) hs
    · exact DyadFiner_pos (by omega) h0 s0 (G true hl0 hk0 e0) (by omega) (by omega) hs

end Go.Proofs.Ytchbhmcaalkfdaa
