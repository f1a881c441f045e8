/-
  The walk of BookFine.
-/
import Derived.Test.YtcbchofjaegdgaaPRises9
namespace Go.Proofs.Ytcbchofjaegdgaa
set_option maxRecDepth 100000
open Go.RowKit
set_option linter.unusedVariables false
set_option linter.unusedSimpArgs false

def lineOk (L : List Int) : Bool := (List.range 254).all fun j => decide (L[j + 1]?.getD 0 - L[j]?.getD 0 = L[j + 2]?.getD 0 - L[j + 1]?.getD 0)
def treeOk (L : List Int) (g : Int) : Bool := (List.range 254).all fun j => decide (0 < L[j + 1]?.getD 0 - L[j]?.getD 0 ∧ 0 < L[j + 2]?.getD 0 - L[j + 1]?.getD 0 ∧ L[j + 2]?.getD 0 - L[j + 1]?.getD 0 ≤ 10 * (L[j + 1]?.getD 0 - L[j]?.getD 0) ∧ L[j + 1]?.getD 0 - L[j]?.getD 0 ≤ 10 * (L[j + 2]?.getD 0 - L[j + 1]?.getD 0) ∧ L[j + 2]?.getD 0 - L[j + 1]?.getD 0 ≤ g)
theorem line_at {L : List Int} (h : lineOk L = true) {j : Nat} (hj : j < 254) : L[j + 1]?.getD 0 - L[j]?.getD 0 = L[j + 2]?.getD 0 - L[j + 1]?.getD 0 := of_decide_eq_true (List.all_eq_true.1 h j (List.mem_range.2 hj))
theorem tree_at {L : List Int} {g : Int} (h : treeOk L g = true) {j : Nat} (hj : j < 254) : 0 < L[j + 1]?.getD 0 - L[j]?.getD 0 ∧ 0 < L[j + 2]?.getD 0 - L[j + 1]?.getD 0 ∧ L[j + 2]?.getD 0 - L[j + 1]?.getD 0 ≤ 10 * (L[j + 1]?.getD 0 - L[j]?.getD 0) ∧ L[j + 1]?.getD 0 - L[j]?.getD 0 ≤ 10 * (L[j + 2]?.getD 0 - L[j + 1]?.getD 0) ∧ L[j + 2]?.getD 0 - L[j + 1]?.getD 0 ≤ g := of_decide_eq_true (List.all_eq_true.1 h j (List.mem_range.2 hj))
theorem ffacts9 : lineOk (book9 2) = true ∧ lineOk (book9 3) = true ∧ treeOk (book9 0) (gap9 0) = true ∧ treeOk (book9 1) (gap9 1) = true := by decide +kernel

set_option maxRecDepth 100000 in
set_option maxHeartbeats 8000000 in
theorem Fine_no {w : World} {k : Int} (a : Nat) (CB : ∀ W : World, Calls Try.prog 8 #[.int .i64 k] W (GotIp W [] 1)) :
    Calls Try.prog 7 #[.int .i64 k, .int .u8 (a : Int)] w (GotV w (.bool true)) := by
  have cc := Below.refl w.heap.size w
  go_enter Try.func7, Try.ntmps7
  go_wp2_with fail
  refine (CB _).mono ?_
  rintro e w1 ⟨Ax, nx, cx, rfl, hx, b⟩
  replace cc := cc.trans (b.mono cc.size)
  clear b
  go_wp2_with fail
  refine (alive9_any _).mono ?_
  rintro e w2 ⟨rfl, b⟩
  replace hx := hx.on b
  replace cc := cc.trans (b.mono cc.size)
  clear b
  go_wp2_with fail
  go_ret
  exact ⟨rfl, cc⟩

set_option maxRecDepth 100000 in
set_option maxHeartbeats 8000000 in
theorem Fine_0 {w : World} {k : Int} {L : List Int} (CB : ∀ W : World, Calls Try.prog 8 #[.int .i64 k] W (GotIp W L 0)) (hlen : L.length = 256) :
    Calls Try.prog 7 #[.int .i64 k, .int .u8 0] w (GotV w (.bool true)) := by
  have HL := Lib.hid hlen
  clear hlen
  have cc := Below.refl w.heap.size w
  go_enter Try.func7, Try.ntmps7
  go_wp2_with fail
  refine (CB _).mono ?_
  rintro e w1 ⟨Ax, nx, cx, rfl, hx, b⟩
  replace cc := cc.trans (b.mono cc.size)
  clear b
  have hn : nx = 256 := by rw [hx.1, HL.out]
  subst hn
  go_wp2_with fail
  refine (alive9_any _).mono ?_
  rintro e w2 ⟨rfl, b⟩
  replace hx := hx.on b
  replace cc := cc.trans (b.mono cc.size)
  clear b
  go_wp2_with fail
  go_ret
  exact ⟨rfl, cc⟩

set_option maxRecDepth 100000 in
set_option maxHeartbeats 8000000 in
theorem Fine_255 {w : World} {k : Int} {L : List Int} (CB : ∀ W : World, Calls Try.prog 8 #[.int .i64 k] W (GotIp W L 0)) (hlen : L.length = 256) :
    Calls Try.prog 7 #[.int .i64 k, .int .u8 255] w (GotV w (.bool true)) := by
  have HL := Lib.hid hlen
  clear hlen
  have cc := Below.refl w.heap.size w
  go_enter Try.func7, Try.ntmps7
  go_wp2_with fail
  refine (CB _).mono ?_
  rintro e w1 ⟨Ax, nx, cx, rfl, hx, b⟩
  replace cc := cc.trans (b.mono cc.size)
  clear b
  have hn : nx = 256 := by rw [hx.1, HL.out]
  subst hn
  go_wp2_with fail
  refine (alive9_any _).mono ?_
  rintro e w2 ⟨rfl, b⟩
  replace hx := hx.on b
  replace cc := cc.trans (b.mono cc.size)
  clear b
  go_wp2_with fail
  go_ret
  exact ⟨rfl, cc⟩

set_option maxRecDepth 100000 in
set_option maxHeartbeats 8000000 in
theorem Fine_k0 {w : World} {a p q : Nat} {L : List Int} {g : Int} (CB : ∀ W : World, Calls Try.prog 8 #[.int .i64 0] W (GotIp W L 0)) (CG : ∀ W : World, Calls Try.prog 14 #[.int .i64 0] W (GotV W (.int .i64 g))) (hlen : L.length = 256) (hp : a = p + 1) (hq : q = a + 1) (h1 : 1 ≤ a) (h2 : a ≤ 254) (hat : ∀ j : Nat, -400000000000 ≤ L[j]?.getD 0 ∧ L[j]?.getD 0 ≤ 400000000000) (hf : 0 < L[a]?.getD 0 - L[p]?.getD 0 ∧ 0 < L[q]?.getD 0 - L[a]?.getD 0 ∧ L[q]?.getD 0 - L[a]?.getD 0 ≤ 10 * (L[a]?.getD 0 - L[p]?.getD 0) ∧ L[a]?.getD 0 - L[p]?.getD 0 ≤ 10 * (L[q]?.getD 0 - L[a]?.getD 0) ∧ L[q]?.getD 0 - L[a]?.getD 0 ≤ g) :
    Calls Try.prog 7 #[.int .i64 0, .int .u8 (a : Int)] w (GotV w (.bool true)) := by
  have HL := Lib.hid hlen
  clear hlen
  have xb := hat a
  have yb := hat p
  have zb := hat q
  obtain ⟨x, ex⟩ : ∃ x, L[a]?.getD 0 = x := ⟨_, rfl⟩
  obtain ⟨y, ey⟩ : ∃ x, L[p]?.getD 0 = x := ⟨_, rfl⟩
  obtain ⟨z, ez⟩ : ∃ x, L[q]?.getD 0 = x := ⟨_, rfl⟩
  rw [ex] at xb hf
  rw [ey] at yb hf
  rw [ez] at zb hf
  obtain ⟨u, eu⟩ : ∃ u, x - y = u := ⟨_, rfl⟩
  obtain ⟨v, ev⟩ : ∃ u, z - x = u := ⟨_, rfl⟩
  rw [eu, ev] at hf
  have k1 : IntKind.i64.wrap (x - y) = u := by rw [eu]; exact IntWalk.i64_in _ (by omega)
  have k2 : IntKind.i64.wrap (z - x) = v := by rw [ev]; exact IntWalk.i64_in _ (by omega)
  have ub : -800000000000 ≤ u ∧ u ≤ 800000000000 := by omega
  have vb : -800000000000 ≤ v ∧ v ≤ 800000000000 := by omega
  have k3 : IntKind.u8.wrap ((a : Int) - 1) = (p : Int) := by rw [IntKind.wrap_u8]; omega
  have k4 : IntKind.i64.wrap (a : Int) = (a : Int) := IntWalk.i64_in _ (by omega)
  have k5 : IntKind.i64.wrap ((a : Int) + 1) = (q : Int) := by rw [IntWalk.i64_in _ (by omega)]; omega
  have s1 : decide ((a : Int) < 1) = false := decide_eq_false (by omega)
  have s2 : decide ((254 : Int) < (a : Int)) = false := decide_eq_false (by omega)
  have s3 : decide (a < 1) = false := decide_eq_false (by omega)
  have s4 : decide (254 < a) = false := decide_eq_false (by omega)
  have ai : (a : Int) < 256 := by omega
  have pi : (p : Int) < 256 := by omega
  have qi : (q : Int) < 256 := by omega
  have an : a < 256 := by omega
  have pn : p < 256 := by omega
  have qn : q < 256 := by omega
  obtain ⟨f1, f2, f3, f4, f5⟩ := hf
  obtain ⟨m, em⟩ : ∃ m, 10 * u = m := ⟨_, rfl⟩
  obtain ⟨o, eo⟩ : ∃ m, 10 * v = m := ⟨_, rfl⟩
  rw [em] at f3
  rw [eo] at f4
  have k6 : IntKind.i64.wrap (10 * u) = m := by rw [em]; exact IntWalk.i64_in _ (by omega)
  have k7 : IntKind.i64.wrap (10 * v) = o := by rw [eo]; exact IntWalk.i64_in _ (by omega)
  have t1 : decide (0 < u) = true := decide_eq_true f1
  have t2 : decide (0 < v) = true := decide_eq_true f2
  have t3 : decide (v ≤ m) = true := decide_eq_true f3
  have t4 : decide (u ≤ o) = true := decide_eq_true f4
  have t5 : decide (v ≤ g) = true := decide_eq_true f5
  clear em eo
  have EX := Lib.hid ex
  have EY := Lib.hid ey
  have EZ := Lib.hid ez
  clear ex ey ez eu ev xb yb zb ub vb hp hq h1 h2 hat f1 f2 f3 f4 f5
  have cc := Below.refl w.heap.size w
  go_enter Try.func7, Try.ntmps7
  go_wp2_with fail
  refine (CB _).mono ?_
  rintro e w1 ⟨Ax, nx, cx, rfl, hx, b⟩
  replace cc := cc.trans (b.mono cc.size)
  clear b
  have hn : nx = 256 := by rw [hx.1, HL.out]
  subst hn
  obtain ⟨bb, off, rfl, hb⟩ := hx.some (by omega)
  have ca := hx.cell (j := a) (by omega)
  have cp := hx.cell (j := p) (by omega)
  have cq := hx.cell (j := q) (by omega)
  rw [EX.out] at ca
  rw [EY.out] at cp
  rw [EZ.out] at cq
  go_wp2_with fail
  go_region_held3 (fun w' => w'.cell? ⟨bb, off + a, none⟩ = some (.int .i64 x) ∧ w'.cell? ⟨bb, off + p, none⟩ = some (.int .i64 y) ∧ w'.cell? ⟨bb, off + q, none⟩ = some (.int .i64 z)) (exact ⟨ca, cp, cq⟩) (fail)
  have bD : Below w1.heap.size w1 w1.drew := below_drewN (Below.refl _ _) 1
  replace cc := cc.trans (bD.mono cc.size)
  clear bD
  go_wp2_with fail
  refine (alive9_any _).mono ?_
  rintro e w2 ⟨rfl, b⟩
  replace cc := cc.trans (b.mono cc.size)
  clear b
  go_wp2_with fail
  refine (CG _).mono ?_
  rintro e w3 ⟨rfl, b⟩
  replace cc := cc.trans (b.mono cc.size)
  clear b
  go_wp2_with fail
  go_ret
  exact ⟨rfl, cc⟩

set_option maxRecDepth 100000 in
set_option maxHeartbeats 8000000 in
theorem Fine_k1 {w : World} {a p q : Nat} {L : List Int} {g : Int} (CB : ∀ W : World, Calls Try.prog 8 #[.int .i64 1] W (GotIp W L 0)) (CG : ∀ W : World, Calls Try.prog 14 #[.int .i64 1] W (GotV W (.int .i64 g))) (hlen : L.length = 256) (hp : a = p + 1) (hq : q = a + 1) (h1 : 1 ≤ a) (h2 : a ≤ 254) (hat : ∀ j : Nat, -400000000000 ≤ L[j]?.getD 0 ∧ L[j]?.getD 0 ≤ 400000000000) (hf : 0 < L[a]?.getD 0 - L[p]?.getD 0 ∧ 0 < L[q]?.getD 0 - L[a]?.getD 0 ∧ L[q]?.getD 0 - L[a]?.getD 0 ≤ 10 * (L[a]?.getD 0 - L[p]?.getD 0) ∧ L[a]?.getD 0 - L[p]?.getD 0 ≤ 10 * (L[q]?.getD 0 - L[a]?.getD 0) ∧ L[q]?.getD 0 - L[a]?.getD 0 ≤ g) :
    Calls Try.prog 7 #[.int .i64 1, .int .u8 (a : Int)] w (GotV w (.bool true)) := by
  have HL := Lib.hid hlen
  clear hlen
  have xb := hat a
  have yb := hat p
  have zb := hat q
  obtain ⟨x, ex⟩ : ∃ x, L[a]?.getD 0 = x := ⟨_, rfl⟩
  obtain ⟨y, ey⟩ : ∃ x, L[p]?.getD 0 = x := ⟨_, rfl⟩
  obtain ⟨z, ez⟩ : ∃ x, L[q]?.getD 0 = x := ⟨_, rfl⟩
  rw [ex] at xb hf
  rw [ey] at yb hf
  rw [ez] at zb hf
  obtain ⟨u, eu⟩ : ∃ u, x - y = u := ⟨_, rfl⟩
  obtain ⟨v, ev⟩ : ∃ u, z - x = u := ⟨_, rfl⟩
  rw [eu, ev] at hf
  have k1 : IntKind.i64.wrap (x - y) = u := by rw [eu]; exact IntWalk.i64_in _ (by omega)
  have k2 : IntKind.i64.wrap (z - x) = v := by rw [ev]; exact IntWalk.i64_in _ (by omega)
  have ub : -800000000000 ≤ u ∧ u ≤ 800000000000 := by omega
  have vb : -800000000000 ≤ v ∧ v ≤ 800000000000 := by omega
  have k3 : IntKind.u8.wrap ((a : Int) - 1) = (p : Int) := by rw [IntKind.wrap_u8]; omega
  have k4 : IntKind.i64.wrap (a : Int) = (a : Int) := IntWalk.i64_in _ (by omega)
  have k5 : IntKind.i64.wrap ((a : Int) + 1) = (q : Int) := by rw [IntWalk.i64_in _ (by omega)]; omega
  have s1 : decide ((a : Int) < 1) = false := decide_eq_false (by omega)
  have s2 : decide ((254 : Int) < (a : Int)) = false := decide_eq_false (by omega)
  have s3 : decide (a < 1) = false := decide_eq_false (by omega)
  have s4 : decide (254 < a) = false := decide_eq_false (by omega)
  have ai : (a : Int) < 256 := by omega
  have pi : (p : Int) < 256 := by omega
  have qi : (q : Int) < 256 := by omega
  have an : a < 256 := by omega
  have pn : p < 256 := by omega
  have qn : q < 256 := by omega
  obtain ⟨f1, f2, f3, f4, f5⟩ := hf
  obtain ⟨m, em⟩ : ∃ m, 10 * u = m := ⟨_, rfl⟩
  obtain ⟨o, eo⟩ : ∃ m, 10 * v = m := ⟨_, rfl⟩
  rw [em] at f3
  rw [eo] at f4
  have k6 : IntKind.i64.wrap (10 * u) = m := by rw [em]; exact IntWalk.i64_in _ (by omega)
  have k7 : IntKind.i64.wrap (10 * v) = o := by rw [eo]; exact IntWalk.i64_in _ (by omega)
  have t1 : decide (0 < u) = true := decide_eq_true f1
  have t2 : decide (0 < v) = true := decide_eq_true f2
  have t3 : decide (v ≤ m) = true := decide_eq_true f3
  have t4 : decide (u ≤ o) = true := decide_eq_true f4
  have t5 : decide (v ≤ g) = true := decide_eq_true f5
  clear em eo
  have EX := Lib.hid ex
  have EY := Lib.hid ey
  have EZ := Lib.hid ez
  clear ex ey ez eu ev xb yb zb ub vb hp hq h1 h2 hat f1 f2 f3 f4 f5
  have cc := Below.refl w.heap.size w
  go_enter Try.func7, Try.ntmps7
  go_wp2_with fail
  refine (CB _).mono ?_
  rintro e w1 ⟨Ax, nx, cx, rfl, hx, b⟩
  replace cc := cc.trans (b.mono cc.size)
  clear b
  have hn : nx = 256 := by rw [hx.1, HL.out]
  subst hn
  obtain ⟨bb, off, rfl, hb⟩ := hx.some (by omega)
  have ca := hx.cell (j := a) (by omega)
  have cp := hx.cell (j := p) (by omega)
  have cq := hx.cell (j := q) (by omega)
  rw [EX.out] at ca
  rw [EY.out] at cp
  rw [EZ.out] at cq
  go_wp2_with fail
  go_region_held3 (fun w' => w'.cell? ⟨bb, off + a, none⟩ = some (.int .i64 x) ∧ w'.cell? ⟨bb, off + p, none⟩ = some (.int .i64 y) ∧ w'.cell? ⟨bb, off + q, none⟩ = some (.int .i64 z)) (exact ⟨ca, cp, cq⟩) (fail)
  have bD : Below w1.heap.size w1 w1.drew := below_drewN (Below.refl _ _) 1
  replace cc := cc.trans (bD.mono cc.size)
  clear bD
  go_wp2_with fail
  refine (alive9_any _).mono ?_
  rintro e w2 ⟨rfl, b⟩
  replace cc := cc.trans (b.mono cc.size)
  clear b
  go_wp2_with fail
  refine (CG _).mono ?_
  rintro e w3 ⟨rfl, b⟩
  replace cc := cc.trans (b.mono cc.size)
  clear b
  go_wp2_with fail
  go_ret
  exact ⟨rfl, cc⟩

set_option maxRecDepth 100000 in
set_option maxHeartbeats 8000000 in
theorem Fine_k2 {w : World} {a p q : Nat} {L : List Int} (CB : ∀ W : World, Calls Try.prog 8 #[.int .i64 2] W (GotIp W L 0)) (hlen : L.length = 256) (hp : a = p + 1) (hq : q = a + 1) (h1 : 1 ≤ a) (h2 : a ≤ 254) (hat : ∀ j : Nat, -400000000000 ≤ L[j]?.getD 0 ∧ L[j]?.getD 0 ≤ 400000000000) (hf : L[a]?.getD 0 - L[p]?.getD 0 = L[q]?.getD 0 - L[a]?.getD 0) :
    Calls Try.prog 7 #[.int .i64 2, .int .u8 (a : Int)] w (GotV w (.bool true)) := by
  have HL := Lib.hid hlen
  clear hlen
  have xb := hat a
  have yb := hat p
  have zb := hat q
  obtain ⟨x, ex⟩ : ∃ x, L[a]?.getD 0 = x := ⟨_, rfl⟩
  obtain ⟨y, ey⟩ : ∃ x, L[p]?.getD 0 = x := ⟨_, rfl⟩
  obtain ⟨z, ez⟩ : ∃ x, L[q]?.getD 0 = x := ⟨_, rfl⟩
  rw [ex] at xb hf
  rw [ey] at yb hf
  rw [ez] at zb hf
  obtain ⟨u, eu⟩ : ∃ u, x - y = u := ⟨_, rfl⟩
  obtain ⟨v, ev⟩ : ∃ u, z - x = u := ⟨_, rfl⟩
  rw [eu, ev] at hf
  have k1 : IntKind.i64.wrap (x - y) = u := by rw [eu]; exact IntWalk.i64_in _ (by omega)
  have k2 : IntKind.i64.wrap (z - x) = v := by rw [ev]; exact IntWalk.i64_in _ (by omega)
  have ub : -800000000000 ≤ u ∧ u ≤ 800000000000 := by omega
  have vb : -800000000000 ≤ v ∧ v ≤ 800000000000 := by omega
  have k3 : IntKind.u8.wrap ((a : Int) - 1) = (p : Int) := by rw [IntKind.wrap_u8]; omega
  have k4 : IntKind.i64.wrap (a : Int) = (a : Int) := IntWalk.i64_in _ (by omega)
  have k5 : IntKind.i64.wrap ((a : Int) + 1) = (q : Int) := by rw [IntWalk.i64_in _ (by omega)]; omega
  have s1 : decide ((a : Int) < 1) = false := decide_eq_false (by omega)
  have s2 : decide ((254 : Int) < (a : Int)) = false := decide_eq_false (by omega)
  have s3 : decide (a < 1) = false := decide_eq_false (by omega)
  have s4 : decide (254 < a) = false := decide_eq_false (by omega)
  have ai : (a : Int) < 256 := by omega
  have pi : (p : Int) < 256 := by omega
  have qi : (q : Int) < 256 := by omega
  have an : a < 256 := by omega
  have pn : p < 256 := by omega
  have qn : q < 256 := by omega
  have t1 : (u == v) = true := by simp; exact hf
  have EX := Lib.hid ex
  have EY := Lib.hid ey
  have EZ := Lib.hid ez
  clear ex ey ez eu ev xb yb zb ub vb hp hq h1 h2 hat hf
  have cc := Below.refl w.heap.size w
  go_enter Try.func7, Try.ntmps7
  go_wp2_with fail
  refine (CB _).mono ?_
  rintro e w1 ⟨Ax, nx, cx, rfl, hx, b⟩
  replace cc := cc.trans (b.mono cc.size)
  clear b
  have hn : nx = 256 := by rw [hx.1, HL.out]
  subst hn
  obtain ⟨bb, off, rfl, hb⟩ := hx.some (by omega)
  have ca := hx.cell (j := a) (by omega)
  have cp := hx.cell (j := p) (by omega)
  have cq := hx.cell (j := q) (by omega)
  rw [EX.out] at ca
  rw [EY.out] at cp
  rw [EZ.out] at cq
  go_wp2_with fail
  go_region_held3 (fun w' => w'.cell? ⟨bb, off + a, none⟩ = some (.int .i64 x) ∧ w'.cell? ⟨bb, off + p, none⟩ = some (.int .i64 y) ∧ w'.cell? ⟨bb, off + q, none⟩ = some (.int .i64 z)) (exact ⟨ca, cp, cq⟩) (fail)
  have bD : Below w1.heap.size w1 w1.drew := below_drewN (Below.refl _ _) 1
  replace cc := cc.trans (bD.mono cc.size)
  clear bD
  go_wp2_with fail
  refine (alive9_any _).mono ?_
  rintro e w2 ⟨rfl, b⟩
  replace cc := cc.trans (b.mono cc.size)
  clear b
  go_wp2_with fail
  go_ret
  exact ⟨rfl, cc⟩

set_option maxRecDepth 100000 in
set_option maxHeartbeats 8000000 in
theorem Fine_k3 {w : World} {a p q : Nat} {L : List Int} (CB : ∀ W : World, Calls Try.prog 8 #[.int .i64 3] W (GotIp W L 0)) (hlen : L.length = 256) (hp : a = p + 1) (hq : q = a + 1) (h1 : 1 ≤ a) (h2 : a ≤ 254) (hat : ∀ j : Nat, -400000000000 ≤ L[j]?.getD 0 ∧ L[j]?.getD 0 ≤ 400000000000) (hf : L[a]?.getD 0 - L[p]?.getD 0 = L[q]?.getD 0 - L[a]?.getD 0) :
    Calls Try.prog 7 #[.int .i64 3, .int .u8 (a : Int)] w (GotV w (.bool true)) := by
  have HL := Lib.hid hlen
  clear hlen
  have xb := hat a
  have yb := hat p
  have zb := hat q
  obtain ⟨x, ex⟩ : ∃ x, L[a]?.getD 0 = x := ⟨_, rfl⟩
  obtain ⟨y, ey⟩ : ∃ x, L[p]?.getD 0 = x := ⟨_, rfl⟩
  obtain ⟨z, ez⟩ : ∃ x, L[q]?.getD 0 = x := ⟨_, rfl⟩
  rw [ex] at xb hf
  rw [ey] at yb hf
  rw [ez] at zb hf
  obtain ⟨u, eu⟩ : ∃ u, x - y = u := ⟨_, rfl⟩
  obtain ⟨v, ev⟩ : ∃ u, z - x = u := ⟨_, rfl⟩
  rw [eu, ev] at hf
  have k1 : IntKind.i64.wrap (x - y) = u := by rw [eu]; exact IntWalk.i64_in _ (by omega)
  have k2 : IntKind.i64.wrap (z - x) = v := by rw [ev]; exact IntWalk.i64_in _ (by omega)
  have ub : -800000000000 ≤ u ∧ u ≤ 800000000000 := by omega
  have vb : -800000000000 ≤ v ∧ v ≤ 800000000000 := by omega
  have k3 : IntKind.u8.wrap ((a : Int) - 1) = (p : Int) := by rw [IntKind.wrap_u8]; omega
  have k4 : IntKind.i64.wrap (a : Int) = (a : Int) := IntWalk.i64_in _ (by omega)
  have k5 : IntKind.i64.wrap ((a : Int) + 1) = (q : Int) := by rw [IntWalk.i64_in _ (by omega)]; omega
  have s1 : decide ((a : Int) < 1) = false := decide_eq_false (by omega)
  have s2 : decide ((254 : Int) < (a : Int)) = false := decide_eq_false (by omega)
  have s3 : decide (a < 1) = false := decide_eq_false (by omega)
  have s4 : decide (254 < a) = false := decide_eq_false (by omega)
  have ai : (a : Int) < 256 := by omega
  have pi : (p : Int) < 256 := by omega
  have qi : (q : Int) < 256 := by omega
  have an : a < 256 := by omega
  have pn : p < 256 := by omega
  have qn : q < 256 := by omega
  have t1 : (u == v) = true := by simp; exact hf
  have EX := Lib.hid ex
  have EY := Lib.hid ey
  have EZ := Lib.hid ez
  clear ex ey ez eu ev xb yb zb ub vb hp hq h1 h2 hat hf
  have cc := Below.refl w.heap.size w
  go_enter Try.func7, Try.ntmps7
  go_wp2_with fail
  refine (CB _).mono ?_
  rintro e w1 ⟨Ax, nx, cx, rfl, hx, b⟩
  replace cc := cc.trans (b.mono cc.size)
  clear b
  have hn : nx = 256 := by rw [hx.1, HL.out]
  subst hn
  obtain ⟨bb, off, rfl, hb⟩ := hx.some (by omega)
  have ca := hx.cell (j := a) (by omega)
  have cp := hx.cell (j := p) (by omega)
  have cq := hx.cell (j := q) (by omega)
  rw [EX.out] at ca
  rw [EY.out] at cp
  rw [EZ.out] at cq
  go_wp2_with fail
  go_region_held3 (fun w' => w'.cell? ⟨bb, off + a, none⟩ = some (.int .i64 x) ∧ w'.cell? ⟨bb, off + p, none⟩ = some (.int .i64 y) ∧ w'.cell? ⟨bb, off + q, none⟩ = some (.int .i64 z)) (exact ⟨ca, cp, cq⟩) (fail)
  have bD : Below w1.heap.size w1 w1.drew := below_drewN (Below.refl _ _) 1
  replace cc := cc.trans (bD.mono cc.size)
  clear bD
  go_wp2_with fail
  refine (alive9_any _).mono ?_
  rintro e w2 ⟨rfl, b⟩
  replace cc := cc.trans (b.mono cc.size)
  clear b
  go_wp2_with fail
  go_ret
  exact ⟨rfl, cc⟩

theorem BookFine_walk {w : World} (k : Int) (wk : (Lit.int .i64 k).wf = true) (a : Int) (wa : (Lit.int .u8 a).wf = true) :
    Calls Try.prog 7 #[.int .i64 k, .int .u8 a] w (fun e w' => e = .returned (.bool true) ∧ Below w.heap.size w w') := by
  obtain ⟨q, rfl, hq⟩ := u8_nat wa
  by_cases h : Kind9 k
  · obtain ⟨f1, f2, f3, f4, f5⟩ := facts9 h
    obtain ⟨l2, l3, t0, t1⟩ := ffacts9
    have CB := book_ok h
    have CG := fun W => bgap_N W k
    by_cases q0 : q = 0
    · subst q0; exact Fine_0 CB f1
    by_cases q5 : q = 255
    · subst q5; exact Fine_255 CB f1
    obtain ⟨p, rfl⟩ : ∃ p, q = p + 1 := ⟨q - 1, by omega⟩
    rcases h with rfl | rfl | rfl | rfl
    · exact Fine_k0 CB CG f1 rfl rfl (by omega) (by omega) (book9_at 0) (tree_at t0 (by omega))
    · exact Fine_k1 CB CG f1 rfl rfl (by omega) (by omega) (book9_at 1) (tree_at t1 (by omega))
    · exact Fine_k2 CB f1 rfl rfl (by omega) (by omega) (book9_at 2) (line_at l2 (by omega))
    · exact Fine_k3 CB f1 rfl rfl (by omega) (by omega) (book9_at 3) (line_at l3 (by omega))
  · exact Fine_no q (book_no h)

end Go.Proofs.Ytcbchofjaegdgaa
