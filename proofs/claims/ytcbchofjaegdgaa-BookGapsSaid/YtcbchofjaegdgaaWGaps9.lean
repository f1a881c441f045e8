/-
  The walk of BookGaps.
-/
import Derived.Test.YtcbchofjaegdgaaPRises9
namespace Go.Proofs.Ytcbchofjaegdgaa
set_option maxRecDepth 100000
open Go.RowKit
set_option linter.unusedVariables false
set_option linter.unusedSimpArgs false

/-- Is one of the first m gaps g? -/
def sk (L : List Int) (g : Int) : Nat → Bool
  | 0 => false
  | m + 1 => sk L g m || (L[m + 1]?.getD 0 - L[m]?.getD 0 == g)
def gapsOk (L : List Int) (g : Int) : Bool := (List.range 255).all fun j => decide (L[j + 1]?.getD 0 - L[j]?.getD 0 ≤ g)
theorem gaps_at {L : List Int} {g : Int} (h : gapsOk L g = true) {j : Nat} (hj : j < 255) : L[j + 1]?.getD 0 - L[j]?.getD 0 ≤ g := of_decide_eq_true (List.all_eq_true.1 h j (List.mem_range.2 hj))
def least9 (k : Int) : Int := if sig9 k then -den9 k else 0
theorem gfacts9 {k : Int} (h : Kind9 k) : gapsOk (book9 k) (gap9 k) = true ∧ sk (book9 k) (gap9 k) 255 = true ∧ (decide (least9 k ≤ (book9 k)[0]?.getD 0) && decide (2 * ((book9 k)[0]?.getD 0 - least9 k) ≤ gap9 k) && decide (0 ≤ den9 k ∧ den9 k ≤ 2560000000)) = true := by
  rcases h with rfl | rfl | rfl | rfl <;> decide +kernel

set_option maxRecDepth 100000 in
set_option maxHeartbeats 8000000 in
theorem Gaps_no {w : World} {k : Int} (CB : ∀ W : World, Calls Try.prog 8 #[.int .i64 k] W (GotIp W [] 1)) :
    Calls Try.prog 5 #[.int .i64 k] w (GotV w (.bool true)) := by
  have cc := Below.refl w.heap.size w
  go_enter Try.func5, Try.ntmps5
  go_wp2_with fail
  refine (CB _).mono ?_
  rintro e w1 ⟨Ax, nx, cx, rfl, hx, b⟩
  replace cc := cc.trans (b.mono cc.size)
  clear b
  go_wp2_with fail
  refine (alive9_any _).mono ?_
  rintro e w2 ⟨rfl, b⟩
  replace hx := hx.on b
  replace cc := cc.trans (b.mono cc.size)
  clear b
  go_wp2_with fail
  go_ret
  exact ⟨rfl, cc⟩

set_option maxRecDepth 100000 in
set_option maxHeartbeats 8000000 in
theorem Gaps_t {w : World} {k : Int} {L : List Int} {d g z e_ : Int} (CB : ∀ W : World, Calls Try.prog 8 #[.int .i64 k] W (GotIp W L 0)) (CG : ∀ W : World, Calls Try.prog 14 #[.int .i64 k] W (GotV W (.int .i64 g))) (CD : ∀ W : World, Calls Try.prog 12 #[.int .i64 k] W (GotV W (.int .i64 d))) (CS : ∀ W : World, Calls Try.prog 16 #[.int .i64 k] W (GotV W (.bool true))) (hlen : L.length = 256) (hg : gapsOk L g = true) (hk : sk L g 255 = true) (h0 : L[0]?.getD 0 = z) (he : e_ = -d) (h1 : e_ ≤ z) (h2 : 2 * (z - e_) ≤ g) (hd : 0 ≤ d ∧ d ≤ 2560000000) (hat : ∀ j : Nat, -400000000000 ≤ L[j]?.getD 0 ∧ L[j]?.getD 0 ≤ 400000000000) :
    Calls Try.prog 5 #[.int .i64 k] w (GotV w (.bool true)) := by
  have HL := Lib.hid hlen
  have kd : IntKind.i64.wrap (-d) = e_ := by rw [he]; exact IntWalk.i64_in _ (by omega)
  have t1 : decide (e_ ≤ z) = true := decide_eq_true h1
  obtain ⟨u, eu⟩ : ∃ u, z - e_ = u := ⟨_, rfl⟩
  rw [eu] at h2
  obtain ⟨x2, ex2⟩ : ∃ x, 2 * u = x := ⟨_, rfl⟩
  rw [ex2] at h2
  have t2 : decide (x2 ≤ g) = true := decide_eq_true h2
  have zb := hat 0
  rw [h0] at zb
  have k1 : IntKind.i64.wrap (z - e_) = u := by rw [eu]; exact IntWalk.i64_in _ (by omega)
  have k2 : IntKind.i64.wrap (2 * u) = x2 := by rw [ex2]; exact IntWalk.i64_in _ (by omega)
  have Hz := Lib.hid h0
  clear h0 zb h1 h2
  have HE := Lib.hid he
  clear he
  have HU := Lib.hid eu
  have HX2 := Lib.hid ex2
  clear eu ex2
  have cc := Below.refl w.heap.size w
  go_enter Try.func5, Try.ntmps5
  go_wp2_with fail
  refine (CB _).mono ?_
  rintro e w1 ⟨Ax, nx, cx, rfl, hx, b⟩
  replace cc := cc.trans (b.mono cc.size)
  clear b
  have hn : nx = 256 := by rw [hx.1, HL.out]
  subst hn
  go_wp2_with fail
  refine (CG _).mono ?_
  rintro e w2 ⟨rfl, b⟩
  replace hx := hx.on b
  replace cc := cc.trans (b.mono cc.size)
  clear b
  obtain ⟨bb, off, rfl, hb⟩ := hx.some (by omega)
  go_wp2_with fail
  go_loopw [6, 7] (fun bv iv wr => ∃ m i : Nat, i = m + 1 ∧ i ≤ 256 ∧ iv = .int .i64 (i : Int) ∧ bv = .bool (sk L g m) ∧ Below w2.heap.size w2 wr) (fun _ iv _ => 257 - (intOf iv).toNat)
  case atStart => exact ⟨0, 1, rfl, by omega, rfl, rfl, Below.refl _ _⟩
  case round =>
    obtain ⟨m, i, hi, hor, rfl, rfl, hbl⟩ := hrel
    have hx2 := hx.on hbl
    by_cases hlt : i < 256
    · have ci := hx2.cell (j := i) (by omega)
      have cm := hx2.cell (j := m) (by omega)
      have hG := gaps_at hg (j := m) (by omega)
      have hN : sk L g (m + 1) = (sk L g m || (L[m + 1]?.getD 0 - L[m]?.getD 0 == g)) := rfl
      rw [← hi] at hG hN
      have a1 := hat i
      have a0 := hat m
      obtain ⟨x, ex⟩ : ∃ x, L[i]?.getD 0 = x := ⟨_, rfl⟩
      obtain ⟨y, ey⟩ : ∃ y, L[m]?.getD 0 = y := ⟨_, rfl⟩
      rw [ex] at ci a1 hG hN
      rw [ey] at cm a0 hG hN
      obtain ⟨v, ev⟩ : ∃ v, x - y = v := ⟨_, rfl⟩
      rw [ev] at hG hN
      have q1 : IntKind.i64.wrap (x - y) = v := by rw [← ev]; exact IntWalk.i64_in _ (by omega)
      have q2 : IntKind.i64.wrap ((i : Int) - 1) = (m : Int) := by rw [IntWalk.i64_in _ (by omega)]; omega
      have q3 : decide (g < v) = false := decide_eq_false (by omega)
      have q4 : ¬ g < v := by omega
      have hm : m < 256 := by omega
      have hmi : (m : Int) < 256 := by omega
      have HI := Lib.hid hi
      have hbw : bb < wr.heap.size := Nat.lt_of_lt_of_le hb hbl.size
      clear ex ey ev hi hor a1 a0 hG
      go_wp2_with fail
      go_region_held3 (fun w' => w'.cell? ⟨bb, off + i, none⟩ = some (.int .i64 x) ∧ w'.cell? ⟨bb, off + m, none⟩ = some (.int .i64 y)) (exact ⟨ci, cm⟩) (fail)
      go_wp2_with fail
      cases hs : sk L g m with
      | true =>
        rw [hs] at hN
        have HN := Lib.hid hN
        clear hN hs
        have hb := hbw
        have cc2 := (below_drewN hbl 1 : Below w2.heap.size w2 wr.drew)
        go_wp2_with fail
        have bD : Below wr.drew.heap.size wr.drew wr.drew.drew := below_drewN (Below.refl _ wr.drew) 1
        replace ci := (bD.cell (p := ⟨bb, off + i, none⟩) hb).trans ci
        replace cm := (bD.cell (p := ⟨bb, off + m, none⟩) hb).trans cm
        replace hb := Nat.lt_of_lt_of_le hb bD.size
        skip
        clear bD
        refine wp_region_held_drew (S := fun w' => w'.cell? ⟨bb, off + i, none⟩ = some (.int .i64 x) ∧ w'.cell? ⟨bb, off + m, none⟩ = some (.int .i64 y)) (by kernel_rfl) ?_ (fun hHeld => ?_)
        · exact ⟨ci, cm⟩
        refine wpAnyH_take (i := 0) (v := ?_) rfl (by kernel_rfl) (by kernel_rfl) (by kernel_rfl) (fun _ _ _ h => h) (Or.inl ⟨by rfl, ?_⟩) hHeld ?_
        rotate_left
        · (intro w hSw; (try dsimp only at hSw); go_simp; (try with_reducible rfl))
        try simp only [Act.put, List.getElem_toArray, List.getElem_cons_zero, List.getElem_cons_succ, List.setIfInBounds_toArray, List.set_cons_zero, List.set_cons_succ]
        refine wpAnyH_take (i := 1) (v := ?_) rfl (by kernel_rfl) (by kernel_rfl) (by kernel_rfl) (fun _ _ _ h => h) (Or.inl ⟨by rfl, ?_⟩) hHeld ?_
        rotate_left
        · (intro w hSw; (try dsimp only at hSw); go_simp; (try with_reducible rfl))
        try simp only [Act.put, List.getElem_toArray, List.getElem_cons_zero, List.getElem_cons_succ, List.setIfInBounds_toArray, List.set_cons_zero, List.set_cons_succ]
        refine wpAnyH_take (i := 2) (v := undef) rfl (by kernel_rfl) (by kernel_rfl) (by kernel_rfl) (fun _ _ _ h => h) (Or.inr ⟨by rfl, rfl⟩) hHeld ?_
        try simp only [Act.put, List.getElem_toArray, List.getElem_cons_zero, List.getElem_cons_succ, List.setIfInBounds_toArray, List.set_cons_zero, List.set_cons_succ]
        refine wpAnyH_take (i := 3) (v := undef) rfl (by kernel_rfl) (by kernel_rfl) (by kernel_rfl) (fun _ _ _ h => h) (Or.inr ⟨by rfl, rfl⟩) hHeld ?_
        try simp only [Act.put, List.getElem_toArray, List.getElem_cons_zero, List.getElem_cons_succ, List.setIfInBounds_toArray, List.set_cons_zero, List.set_cons_succ]
        refine wpAnyH_take (i := 4) (v := undef) rfl (by kernel_rfl) (by kernel_rfl) (by kernel_rfl) (fun _ _ _ h => h) (Or.inr ⟨by rfl, rfl⟩) hHeld ?_
        try simp only [Act.put, List.getElem_toArray, List.getElem_cons_zero, List.getElem_cons_succ, List.setIfInBounds_toArray, List.set_cons_zero, List.set_cons_succ]
        refine wpAnyH_take (i := 5) (v := undef) rfl (by kernel_rfl) (by kernel_rfl) (by kernel_rfl) (fun _ _ _ h => h) (Or.inr ⟨by rfl, rfl⟩) hHeld ?_
        try simp only [Act.put, List.getElem_toArray, List.getElem_cons_zero, List.getElem_cons_succ, List.setIfInBounds_toArray, List.set_cons_zero, List.set_cons_succ]
        refine wpAnyH_take (i := 6) (v := undef) rfl (by kernel_rfl) (by kernel_rfl) (by kernel_rfl) (fun _ _ _ h => h) (Or.inr ⟨by rfl, rfl⟩) hHeld ?_
        try simp only [Act.put, List.getElem_toArray, List.getElem_cons_zero, List.getElem_cons_succ, List.setIfInBounds_toArray, List.set_cons_zero, List.set_cons_succ]
        refine wpAnyH_take (i := 7) (v := undef) rfl (by kernel_rfl) (by kernel_rfl) (by kernel_rfl) (fun _ _ _ h => h) (Or.inr ⟨by rfl, rfl⟩) hHeld ?_
        try simp only [Act.put, List.getElem_toArray, List.getElem_cons_zero, List.getElem_cons_succ, List.setIfInBounds_toArray, List.set_cons_zero, List.set_cons_succ]
        refine wpAnyH_take (i := 8) (v := undef) rfl (by kernel_rfl) (by kernel_rfl) (by kernel_rfl) (fun _ _ _ h => h) (Or.inr ⟨by rfl, rfl⟩) hHeld ?_
        try simp only [Act.put, List.getElem_toArray, List.getElem_cons_zero, List.getElem_cons_succ, List.setIfInBounds_toArray, List.set_cons_zero, List.set_cons_succ]
        refine wpAnyH_take (i := 9) (v := undef) rfl (by kernel_rfl) (by kernel_rfl) (by kernel_rfl) (fun _ _ _ h => h) (Or.inr ⟨by rfl, rfl⟩) hHeld ?_
        try simp only [Act.put, List.getElem_toArray, List.getElem_cons_zero, List.getElem_cons_succ, List.setIfInBounds_toArray, List.set_cons_zero, List.set_cons_succ]
        refine wpAnyH_take (i := 10) (v := undef) rfl (by kernel_rfl) (by kernel_rfl) (by kernel_rfl) (fun _ _ _ h => h) (Or.inr ⟨by rfl, rfl⟩) hHeld ?_
        try simp only [Act.put, List.getElem_toArray, List.getElem_cons_zero, List.getElem_cons_succ, List.setIfInBounds_toArray, List.set_cons_zero, List.set_cons_succ]
        refine wpAnyH_take (i := 11) (v := undef) rfl (by kernel_rfl) (by kernel_rfl) (by kernel_rfl) (fun _ _ _ h => h) (Or.inr ⟨by rfl, rfl⟩) hHeld ?_
        try simp only [Act.put, List.getElem_toArray, List.getElem_cons_zero, List.getElem_cons_succ, List.setIfInBounds_toArray, List.set_cons_zero, List.set_cons_succ]
        refine wpAnyH_take (i := 12) (v := undef) rfl (by kernel_rfl) (by kernel_rfl) (by kernel_rfl) (fun _ _ _ h => h) (Or.inr ⟨by rfl, rfl⟩) hHeld ?_
        try simp only [Act.put, List.getElem_toArray, List.getElem_cons_zero, List.getElem_cons_succ, List.setIfInBounds_toArray, List.set_cons_zero, List.set_cons_succ]
        refine wpAnyH_take (i := 13) (v := undef) rfl (by kernel_rfl) (by kernel_rfl) (by kernel_rfl) (fun _ _ _ h => h) (Or.inr ⟨by rfl, rfl⟩) hHeld ?_
        try simp only [Act.put, List.getElem_toArray, List.getElem_cons_zero, List.getElem_cons_succ, List.setIfInBounds_toArray, List.set_cons_zero, List.set_cons_succ]
        refine wpAnyH_take (i := 14) (v := ?_) rfl (by kernel_rfl) (by kernel_rfl) (by kernel_rfl) (fun _ _ _ h => h) (Or.inl ⟨by rfl, ?_⟩) hHeld ?_
        rotate_left
        · (intro w hSw; (try dsimp only at hSw); go_simp; (try with_reducible rfl))
        try simp only [Act.put, List.getElem_toArray, List.getElem_cons_zero, List.getElem_cons_succ, List.setIfInBounds_toArray, List.set_cons_zero, List.set_cons_succ]
        refine wpAnyH_take (i := 15) (v := ?_) rfl (by kernel_rfl) (by kernel_rfl) (by kernel_rfl) (fun _ _ _ h => h) (Or.inl ⟨by rfl, ?_⟩) hHeld ?_
        rotate_left
        · (intro w hSw; (try dsimp only at hSw); go_simp; (try with_reducible rfl))
        try simp only [Act.put, List.getElem_toArray, List.getElem_cons_zero, List.getElem_cons_succ, List.setIfInBounds_toArray, List.set_cons_zero, List.set_cons_succ]
        refine wpAnyH_done (by kernel_rfl) ?_ _
        clear hHeld
        go_wp2_with fail
        go_roundw
        case rel => exact ⟨i, i + 1, rfl, by omega, by go_num, by rw [HI.out] at HN ⊢; rw [HN.out]; simp, below_drewN cc2 1⟩
        case measure => simp [intOf] <;> omega
      | false =>
        rw [hs] at hN
        have HN := Lib.hid hN
        clear hN hs
        have hb := hbw
        have cc2 := (below_drewN hbl 1 : Below w2.heap.size w2 wr.drew)
        go_wp2_with fail
        have bD : Below wr.drew.heap.size wr.drew wr.drew.drew := below_drewN (Below.refl _ wr.drew) 1
        replace ci := (bD.cell (p := ⟨bb, off + i, none⟩) hb).trans ci
        replace cm := (bD.cell (p := ⟨bb, off + m, none⟩) hb).trans cm
        replace hb := Nat.lt_of_lt_of_le hb bD.size
        skip
        clear bD
        refine wp_region_held_drew (S := fun w' => w'.cell? ⟨bb, off + i, none⟩ = some (.int .i64 x) ∧ w'.cell? ⟨bb, off + m, none⟩ = some (.int .i64 y)) (by kernel_rfl) ?_ (fun hHeld => ?_)
        · exact ⟨ci, cm⟩
        refine wpAnyH_take (i := 0) (v := ?_) rfl (by kernel_rfl) (by kernel_rfl) (by kernel_rfl) (fun _ _ _ h => h) (Or.inl ⟨by rfl, ?_⟩) hHeld ?_
        rotate_left
        · (intro w hSw; (try dsimp only at hSw); go_simp; (try with_reducible rfl))
        try simp only [Act.put, List.getElem_toArray, List.getElem_cons_zero, List.getElem_cons_succ, List.setIfInBounds_toArray, List.set_cons_zero, List.set_cons_succ]
        refine wpAnyH_take (i := 1) (v := ?_) rfl (by kernel_rfl) (by kernel_rfl) (by kernel_rfl) (fun _ _ _ h => h) (Or.inl ⟨by rfl, ?_⟩) hHeld ?_
        rotate_left
        · (intro w hSw; (try dsimp only at hSw); go_simp; (try with_reducible rfl))
        try simp only [Act.put, List.getElem_toArray, List.getElem_cons_zero, List.getElem_cons_succ, List.setIfInBounds_toArray, List.set_cons_zero, List.set_cons_succ]
        refine wpAnyH_take (i := 2) (v := ?_) rfl (by kernel_rfl) (by kernel_rfl) (by kernel_rfl) (fun _ _ _ h => h) (Or.inl ⟨by rfl, ?_⟩) hHeld ?_
        rotate_left
        · (intro w hSw; (try dsimp only at hSw); go_simp; (try with_reducible rfl))
        try simp only [Act.put, List.getElem_toArray, List.getElem_cons_zero, List.getElem_cons_succ, List.setIfInBounds_toArray, List.set_cons_zero, List.set_cons_succ]
        refine wpAnyH_take (i := 3) (v := ?_) rfl (by kernel_rfl) (by kernel_rfl) (by kernel_rfl) (fun _ _ _ h => h) (Or.inl ⟨by rfl, ?_⟩) hHeld ?_
        rotate_left
        · (intro w hSw; (try dsimp only at hSw); go_simp; (try with_reducible rfl))
        try simp only [Act.put, List.getElem_toArray, List.getElem_cons_zero, List.getElem_cons_succ, List.setIfInBounds_toArray, List.set_cons_zero, List.set_cons_succ]
        refine wpAnyH_take (i := 4) (v := ?_) rfl (by kernel_rfl) (by kernel_rfl) (by kernel_rfl) (fun _ _ _ h => h) (Or.inl ⟨by rfl, ?_⟩) hHeld ?_
        rotate_left
        · (intro w hSw; (try dsimp only at hSw); go_simp; (try with_reducible rfl))
        try simp only [Act.put, List.getElem_toArray, List.getElem_cons_zero, List.getElem_cons_succ, List.setIfInBounds_toArray, List.set_cons_zero, List.set_cons_succ]
        refine wpAnyH_take (i := 5) (v := ?_) rfl (by kernel_rfl) (by kernel_rfl) (by kernel_rfl) (fun _ _ _ h => h) (Or.inl ⟨by rfl, ?_⟩) hHeld ?_
        rotate_left
        · (intro w hSw; (try dsimp only at hSw); go_simp; (try with_reducible rfl))
        try simp only [Act.put, List.getElem_toArray, List.getElem_cons_zero, List.getElem_cons_succ, List.setIfInBounds_toArray, List.set_cons_zero, List.set_cons_succ]
        refine wpAnyH_take (i := 6) (v := ?_) rfl (by kernel_rfl) (by kernel_rfl) (by kernel_rfl) (fun _ _ _ h => h) (Or.inl ⟨by rfl, ?_⟩) hHeld ?_
        rotate_left
        · (intro w hSw; (try dsimp only at hSw); go_simp; (try with_reducible rfl))
        try simp only [Act.put, List.getElem_toArray, List.getElem_cons_zero, List.getElem_cons_succ, List.setIfInBounds_toArray, List.set_cons_zero, List.set_cons_succ]
        refine wpAnyH_take (i := 7) (v := ?_) rfl (by kernel_rfl) (by kernel_rfl) (by kernel_rfl) (fun _ _ _ h => h) (Or.inl ⟨by rfl, ?_⟩) hHeld ?_
        rotate_left
        · (intro w hSw; (try dsimp only at hSw); go_simp; (try with_reducible rfl))
        try simp only [Act.put, List.getElem_toArray, List.getElem_cons_zero, List.getElem_cons_succ, List.setIfInBounds_toArray, List.set_cons_zero, List.set_cons_succ]
        refine wpAnyH_take (i := 8) (v := ?_) rfl (by kernel_rfl) (by kernel_rfl) (by kernel_rfl) (fun _ _ _ h => h) (Or.inl ⟨by rfl, ?_⟩) hHeld ?_
        rotate_left
        · (intro w hSw; (try dsimp only at hSw); go_simp; (try with_reducible rfl))
        try simp only [Act.put, List.getElem_toArray, List.getElem_cons_zero, List.getElem_cons_succ, List.setIfInBounds_toArray, List.set_cons_zero, List.set_cons_succ]
        refine wpAnyH_take (i := 9) (v := ?_) rfl (by kernel_rfl) (by kernel_rfl) (by kernel_rfl) (fun _ _ _ h => h) (Or.inl ⟨by rfl, ?_⟩) hHeld ?_
        rotate_left
        · (intro w hSw; (try dsimp only at hSw); go_simp; (try with_reducible rfl))
        try simp only [Act.put, List.getElem_toArray, List.getElem_cons_zero, List.getElem_cons_succ, List.setIfInBounds_toArray, List.set_cons_zero, List.set_cons_succ]
        refine wpAnyH_take (i := 10) (v := ?_) rfl (by kernel_rfl) (by kernel_rfl) (by kernel_rfl) (fun _ _ _ h => h) (Or.inl ⟨by rfl, ?_⟩) hHeld ?_
        rotate_left
        · (intro w hSw; (try dsimp only at hSw); go_simp; (try with_reducible rfl))
        try simp only [Act.put, List.getElem_toArray, List.getElem_cons_zero, List.getElem_cons_succ, List.setIfInBounds_toArray, List.set_cons_zero, List.set_cons_succ]
        refine wpAnyH_take (i := 11) (v := ?_) rfl (by kernel_rfl) (by kernel_rfl) (by kernel_rfl) (fun _ _ _ h => h) (Or.inl ⟨by rfl, ?_⟩) hHeld ?_
        rotate_left
        · (intro w hSw; (try dsimp only at hSw); go_simp; (try with_reducible rfl))
        try simp only [Act.put, List.getElem_toArray, List.getElem_cons_zero, List.getElem_cons_succ, List.setIfInBounds_toArray, List.set_cons_zero, List.set_cons_succ]
        refine wpAnyH_take (i := 12) (v := ?_) rfl (by kernel_rfl) (by kernel_rfl) (by kernel_rfl) (fun _ _ _ h => h) (Or.inl ⟨by rfl, ?_⟩) hHeld ?_
        rotate_left
        · (intro w hSw; (try dsimp only at hSw); go_simp; (try with_reducible rfl))
        try simp only [Act.put, List.getElem_toArray, List.getElem_cons_zero, List.getElem_cons_succ, List.setIfInBounds_toArray, List.set_cons_zero, List.set_cons_succ]
        refine wpAnyH_take (i := 13) (v := ?_) rfl (by kernel_rfl) (by kernel_rfl) (by kernel_rfl) (fun _ _ _ h => h) (Or.inl ⟨by rfl, ?_⟩) hHeld ?_
        rotate_left
        · (intro w hSw; (try dsimp only at hSw); go_simp; (try with_reducible rfl))
        try simp only [Act.put, List.getElem_toArray, List.getElem_cons_zero, List.getElem_cons_succ, List.setIfInBounds_toArray, List.set_cons_zero, List.set_cons_succ]
        refine wpAnyH_take (i := 14) (v := ?_) rfl (by kernel_rfl) (by kernel_rfl) (by kernel_rfl) (fun _ _ _ h => h) (Or.inl ⟨by rfl, ?_⟩) hHeld ?_
        rotate_left
        · (intro w hSw; (try dsimp only at hSw); go_simp; (try with_reducible rfl))
        try simp only [Act.put, List.getElem_toArray, List.getElem_cons_zero, List.getElem_cons_succ, List.setIfInBounds_toArray, List.set_cons_zero, List.set_cons_succ]
        refine wpAnyH_take (i := 15) (v := ?_) rfl (by kernel_rfl) (by kernel_rfl) (by kernel_rfl) (fun _ _ _ h => h) (Or.inl ⟨by rfl, ?_⟩) hHeld ?_
        rotate_left
        · (intro w hSw; (try dsimp only at hSw); go_simp; (try with_reducible rfl))
        try simp only [Act.put, List.getElem_toArray, List.getElem_cons_zero, List.getElem_cons_succ, List.setIfInBounds_toArray, List.set_cons_zero, List.set_cons_succ]
        refine wpAnyH_done (by kernel_rfl) ?_ _
        clear hHeld
        go_wp2_with fail
        go_roundw
        case rel => exact ⟨i, i + 1, rfl, by omega, by go_num, by rw [HI.out] at HN ⊢; rw [HN.out]; simp, below_drewN cc2 1⟩
        case measure => simp [intOf] <;> omega
    · have hm : m = 255 := by omega
      subst hm
      rw [hk]
      have c0 : wr.cell? ⟨bb, off, none⟩ = some (.int .i64 (L[0]?.getD 0)) := hx2.cell (j := 0) (by omega)
      rw [Hz.out] at c0
      replace cc := cc.trans (hbl.mono cc.size)
      replace hb := Nat.lt_of_lt_of_le hb hbl.size
      clear hx hbl
      go_wp2_with fail
      refine (CS _).mono ?_
      rintro e w3 ⟨rfl, b⟩
      replace c0 := (b.cell (p := ⟨bb, off, none⟩) hb).trans c0
      replace hb := Nat.lt_of_lt_of_le hb b.size
      replace hx2 := hx2.on b
      replace cc := cc.trans (b.mono cc.size)
      clear b
      go_wp2_with fail
      refine (CD _).mono ?_
      rintro e w4 ⟨rfl, b⟩
      replace c0 := (b.cell (p := ⟨bb, off, none⟩) hb).trans c0
      replace hb := Nat.lt_of_lt_of_le hb b.size
      replace hx2 := hx2.on b
      replace cc := cc.trans (b.mono cc.size)
      clear b
      go_wp2_with fail
      refine (alive9_any _).mono ?_
      rintro e w5 ⟨rfl, b⟩
      replace c0 := (b.cell (p := ⟨bb, off, none⟩) hb).trans c0
      replace hb := Nat.lt_of_lt_of_le hb b.size
      replace hx2 := hx2.on b
      replace cc := cc.trans (b.mono cc.size)
      clear b
      go_wp2_with fail
      go_ret
      exact ⟨rfl, cc⟩
      

set_option maxRecDepth 100000 in
set_option maxHeartbeats 8000000 in
theorem Gaps_f {w : World} {k : Int} {L : List Int} {d g z e_ : Int} (CB : ∀ W : World, Calls Try.prog 8 #[.int .i64 k] W (GotIp W L 0)) (CG : ∀ W : World, Calls Try.prog 14 #[.int .i64 k] W (GotV W (.int .i64 g))) (CD : ∀ W : World, Calls Try.prog 12 #[.int .i64 k] W (GotV W (.int .i64 d))) (CS : ∀ W : World, Calls Try.prog 16 #[.int .i64 k] W (GotV W (.bool false))) (hlen : L.length = 256) (hg : gapsOk L g = true) (hk : sk L g 255 = true) (h0 : L[0]?.getD 0 = z) (he : e_ = 0) (h1 : e_ ≤ z) (h2 : 2 * (z - e_) ≤ g) (hd : 0 ≤ d ∧ d ≤ 2560000000) (hat : ∀ j : Nat, -400000000000 ≤ L[j]?.getD 0 ∧ L[j]?.getD 0 ≤ 400000000000) :
    Calls Try.prog 5 #[.int .i64 k] w (GotV w (.bool true)) := by
  have HL := Lib.hid hlen
  subst he
  have t1 : decide (0 ≤ z) = true := decide_eq_true h1
  obtain ⟨u, eu⟩ : ∃ u, z - 0 = u := ⟨_, rfl⟩
  rw [eu] at h2
  obtain ⟨x2, ex2⟩ : ∃ x, 2 * u = x := ⟨_, rfl⟩
  rw [ex2] at h2
  have t2 : decide (x2 ≤ g) = true := decide_eq_true h2
  have zb := hat 0
  rw [h0] at zb
  have k1 : IntKind.i64.wrap z = u := by rw [← eu]; simp; exact IntWalk.i64_in _ (by omega)
  have k2 : IntKind.i64.wrap (2 * u) = x2 := by rw [ex2]; exact IntWalk.i64_in _ (by omega)
  have Hz := Lib.hid h0
  clear h0 zb h1 h2
  have HU := Lib.hid eu
  have HX2 := Lib.hid ex2
  clear eu ex2
  have cc := Below.refl w.heap.size w
  go_enter Try.func5, Try.ntmps5
  go_wp2_with fail
  refine (CB _).mono ?_
  rintro e w1 ⟨Ax, nx, cx, rfl, hx, b⟩
  replace cc := cc.trans (b.mono cc.size)
  clear b
  have hn : nx = 256 := by rw [hx.1, HL.out]
  subst hn
  go_wp2_with fail
  refine (CG _).mono ?_
  rintro e w2 ⟨rfl, b⟩
  replace hx := hx.on b
  replace cc := cc.trans (b.mono cc.size)
  clear b
  obtain ⟨bb, off, rfl, hb⟩ := hx.some (by omega)
  go_wp2_with fail
  go_loopw [6, 7] (fun bv iv wr => ∃ m i : Nat, i = m + 1 ∧ i ≤ 256 ∧ iv = .int .i64 (i : Int) ∧ bv = .bool (sk L g m) ∧ Below w2.heap.size w2 wr) (fun _ iv _ => 257 - (intOf iv).toNat)
  case atStart => exact ⟨0, 1, rfl, by omega, rfl, rfl, Below.refl _ _⟩
  case round =>
    obtain ⟨m, i, hi, hor, rfl, rfl, hbl⟩ := hrel
    have hx2 := hx.on hbl
    by_cases hlt : i < 256
    · have ci := hx2.cell (j := i) (by omega)
      have cm := hx2.cell (j := m) (by omega)
      have hG := gaps_at hg (j := m) (by omega)
      have hN : sk L g (m + 1) = (sk L g m || (L[m + 1]?.getD 0 - L[m]?.getD 0 == g)) := rfl
      rw [← hi] at hG hN
      have a1 := hat i
      have a0 := hat m
      obtain ⟨x, ex⟩ : ∃ x, L[i]?.getD 0 = x := ⟨_, rfl⟩
      obtain ⟨y, ey⟩ : ∃ y, L[m]?.getD 0 = y := ⟨_, rfl⟩
      rw [ex] at ci a1 hG hN
      rw [ey] at cm a0 hG hN
      obtain ⟨v, ev⟩ : ∃ v, x - y = v := ⟨_, rfl⟩
      rw [ev] at hG hN
      have q1 : IntKind.i64.wrap (x - y) = v := by rw [← ev]; exact IntWalk.i64_in _ (by omega)
      have q2 : IntKind.i64.wrap ((i : Int) - 1) = (m : Int) := by rw [IntWalk.i64_in _ (by omega)]; omega
      have q3 : decide (g < v) = false := decide_eq_false (by omega)
      have q4 : ¬ g < v := by omega
      have hm : m < 256 := by omega
      have hmi : (m : Int) < 256 := by omega
      have HI := Lib.hid hi
      have hbw : bb < wr.heap.size := Nat.lt_of_lt_of_le hb hbl.size
      clear ex ey ev hi hor a1 a0 hG
      go_wp2_with fail
      go_region_held3 (fun w' => w'.cell? ⟨bb, off + i, none⟩ = some (.int .i64 x) ∧ w'.cell? ⟨bb, off + m, none⟩ = some (.int .i64 y)) (exact ⟨ci, cm⟩) (fail)
      go_wp2_with fail
      cases hs : sk L g m with
      | true =>
        rw [hs] at hN
        have HN := Lib.hid hN
        clear hN hs
        have hb := hbw
        have cc2 := (below_drewN hbl 1 : Below w2.heap.size w2 wr.drew)
        go_wp2_with fail
        have bD : Below wr.drew.heap.size wr.drew wr.drew.drew := below_drewN (Below.refl _ wr.drew) 1
        replace ci := (bD.cell (p := ⟨bb, off + i, none⟩) hb).trans ci
        replace cm := (bD.cell (p := ⟨bb, off + m, none⟩) hb).trans cm
        replace hb := Nat.lt_of_lt_of_le hb bD.size
        skip
        clear bD
        refine wp_region_held_drew (S := fun w' => w'.cell? ⟨bb, off + i, none⟩ = some (.int .i64 x) ∧ w'.cell? ⟨bb, off + m, none⟩ = some (.int .i64 y)) (by kernel_rfl) ?_ (fun hHeld => ?_)
        · exact ⟨ci, cm⟩
        refine wpAnyH_take (i := 0) (v := ?_) rfl (by kernel_rfl) (by kernel_rfl) (by kernel_rfl) (fun _ _ _ h => h) (Or.inl ⟨by rfl, ?_⟩) hHeld ?_
        rotate_left
        · (intro w hSw; (try dsimp only at hSw); go_simp; (try with_reducible rfl))
        try simp only [Act.put, List.getElem_toArray, List.getElem_cons_zero, List.getElem_cons_succ, List.setIfInBounds_toArray, List.set_cons_zero, List.set_cons_succ]
        refine wpAnyH_take (i := 1) (v := ?_) rfl (by kernel_rfl) (by kernel_rfl) (by kernel_rfl) (fun _ _ _ h => h) (Or.inl ⟨by rfl, ?_⟩) hHeld ?_
        rotate_left
        · (intro w hSw; (try dsimp only at hSw); go_simp; (try with_reducible rfl))
        try simp only [Act.put, List.getElem_toArray, List.getElem_cons_zero, List.getElem_cons_succ, List.setIfInBounds_toArray, List.set_cons_zero, List.set_cons_succ]
        refine wpAnyH_take (i := 2) (v := undef) rfl (by kernel_rfl) (by kernel_rfl) (by kernel_rfl) (fun _ _ _ h => h) (Or.inr ⟨by rfl, rfl⟩) hHeld ?_
        try simp only [Act.put, List.getElem_toArray, List.getElem_cons_zero, List.getElem_cons_succ, List.setIfInBounds_toArray, List.set_cons_zero, List.set_cons_succ]
        refine wpAnyH_take (i := 3) (v := undef) rfl (by kernel_rfl) (by kernel_rfl) (by kernel_rfl) (fun _ _ _ h => h) (Or.inr ⟨by rfl, rfl⟩) hHeld ?_
        try simp only [Act.put, List.getElem_toArray, List.getElem_cons_zero, List.getElem_cons_succ, List.setIfInBounds_toArray, List.set_cons_zero, List.set_cons_succ]
        refine wpAnyH_take (i := 4) (v := undef) rfl (by kernel_rfl) (by kernel_rfl) (by kernel_rfl) (fun _ _ _ h => h) (Or.inr ⟨by rfl, rfl⟩) hHeld ?_
        try simp only [Act.put, List.getElem_toArray, List.getElem_cons_zero, List.getElem_cons_succ, List.setIfInBounds_toArray, List.set_cons_zero, List.set_cons_succ]
        refine wpAnyH_take (i := 5) (v := undef) rfl (by kernel_rfl) (by kernel_rfl) (by kernel_rfl) (fun _ _ _ h => h) (Or.inr ⟨by rfl, rfl⟩) hHeld ?_
        try simp only [Act.put, List.getElem_toArray, List.getElem_cons_zero, List.getElem_cons_succ, List.setIfInBounds_toArray, List.set_cons_zero, List.set_cons_succ]
        refine wpAnyH_take (i := 6) (v := undef) rfl (by kernel_rfl) (by kernel_rfl) (by kernel_rfl) (fun _ _ _ h => h) (Or.inr ⟨by rfl, rfl⟩) hHeld ?_
        try simp only [Act.put, List.getElem_toArray, List.getElem_cons_zero, List.getElem_cons_succ, List.setIfInBounds_toArray, List.set_cons_zero, List.set_cons_succ]
        refine wpAnyH_take (i := 7) (v := undef) rfl (by kernel_rfl) (by kernel_rfl) (by kernel_rfl) (fun _ _ _ h => h) (Or.inr ⟨by rfl, rfl⟩) hHeld ?_
        try simp only [Act.put, List.getElem_toArray, List.getElem_cons_zero, List.getElem_cons_succ, List.setIfInBounds_toArray, List.set_cons_zero, List.set_cons_succ]
        refine wpAnyH_take (i := 8) (v := undef) rfl (by kernel_rfl) (by kernel_rfl) (by kernel_rfl) (fun _ _ _ h => h) (Or.inr ⟨by rfl, rfl⟩) hHeld ?_
        try simp only [Act.put, List.getElem_toArray, List.getElem_cons_zero, List.getElem_cons_succ, List.setIfInBounds_toArray, List.set_cons_zero, List.set_cons_succ]
        refine wpAnyH_take (i := 9) (v := undef) rfl (by kernel_rfl) (by kernel_rfl) (by kernel_rfl) (fun _ _ _ h => h) (Or.inr ⟨by rfl, rfl⟩) hHeld ?_
        try simp only [Act.put, List.getElem_toArray, List.getElem_cons_zero, List.getElem_cons_succ, List.setIfInBounds_toArray, List.set_cons_zero, List.set_cons_succ]
        refine wpAnyH_take (i := 10) (v := undef) rfl (by kernel_rfl) (by kernel_rfl) (by kernel_rfl) (fun _ _ _ h => h) (Or.inr ⟨by rfl, rfl⟩) hHeld ?_
        try simp only [Act.put, List.getElem_toArray, List.getElem_cons_zero, List.getElem_cons_succ, List.setIfInBounds_toArray, List.set_cons_zero, List.set_cons_succ]
        refine wpAnyH_take (i := 11) (v := undef) rfl (by kernel_rfl) (by kernel_rfl) (by kernel_rfl) (fun _ _ _ h => h) (Or.inr ⟨by rfl, rfl⟩) hHeld ?_
        try simp only [Act.put, List.getElem_toArray, List.getElem_cons_zero, List.getElem_cons_succ, List.setIfInBounds_toArray, List.set_cons_zero, List.set_cons_succ]
        refine wpAnyH_take (i := 12) (v := undef) rfl (by kernel_rfl) (by kernel_rfl) (by kernel_rfl) (fun _ _ _ h => h) (Or.inr ⟨by rfl, rfl⟩) hHeld ?_
        try simp only [Act.put, List.getElem_toArray, List.getElem_cons_zero, List.getElem_cons_succ, List.setIfInBounds_toArray, List.set_cons_zero, List.set_cons_succ]
        refine wpAnyH_take (i := 13) (v := undef) rfl (by kernel_rfl) (by kernel_rfl) (by kernel_rfl) (fun _ _ _ h => h) (Or.inr ⟨by rfl, rfl⟩) hHeld ?_
        try simp only [Act.put, List.getElem_toArray, List.getElem_cons_zero, List.getElem_cons_succ, List.setIfInBounds_toArray, List.set_cons_zero, List.set_cons_succ]
        refine wpAnyH_take (i := 14) (v := ?_) rfl (by kernel_rfl) (by kernel_rfl) (by kernel_rfl) (fun _ _ _ h => h) (Or.inl ⟨by rfl, ?_⟩) hHeld ?_
        rotate_left
        · (intro w hSw; (try dsimp only at hSw); go_simp; (try with_reducible rfl))
        try simp only [Act.put, List.getElem_toArray, List.getElem_cons_zero, List.getElem_cons_succ, List.setIfInBounds_toArray, List.set_cons_zero, List.set_cons_succ]
        refine wpAnyH_take (i := 15) (v := ?_) rfl (by kernel_rfl) (by kernel_rfl) (by kernel_rfl) (fun _ _ _ h => h) (Or.inl ⟨by rfl, ?_⟩) hHeld ?_
        rotate_left
        · (intro w hSw; (try dsimp only at hSw); go_simp; (try with_reducible rfl))
        try simp only [Act.put, List.getElem_toArray, List.getElem_cons_zero, List.getElem_cons_succ, List.setIfInBounds_toArray, List.set_cons_zero, List.set_cons_succ]
        refine wpAnyH_done (by kernel_rfl) ?_ _
        clear hHeld
        go_wp2_with fail
        go_roundw
        case rel => exact ⟨i, i + 1, rfl, by omega, by go_num, by rw [HI.out] at HN ⊢; rw [HN.out]; simp, below_drewN cc2 1⟩
        case measure => simp [intOf] <;> omega
      | false =>
        rw [hs] at hN
        have HN := Lib.hid hN
        clear hN hs
        have hb := hbw
        have cc2 := (below_drewN hbl 1 : Below w2.heap.size w2 wr.drew)
        go_wp2_with fail
        have bD : Below wr.drew.heap.size wr.drew wr.drew.drew := below_drewN (Below.refl _ wr.drew) 1
        replace ci := (bD.cell (p := ⟨bb, off + i, none⟩) hb).trans ci
        replace cm := (bD.cell (p := ⟨bb, off + m, none⟩) hb).trans cm
        replace hb := Nat.lt_of_lt_of_le hb bD.size
        skip
        clear bD
        refine wp_region_held_drew (S := fun w' => w'.cell? ⟨bb, off + i, none⟩ = some (.int .i64 x) ∧ w'.cell? ⟨bb, off + m, none⟩ = some (.int .i64 y)) (by kernel_rfl) ?_ (fun hHeld => ?_)
        · exact ⟨ci, cm⟩
        refine wpAnyH_take (i := 0) (v := ?_) rfl (by kernel_rfl) (by kernel_rfl) (by kernel_rfl) (fun _ _ _ h => h) (Or.inl ⟨by rfl, ?_⟩) hHeld ?_
        rotate_left
        · (intro w hSw; (try dsimp only at hSw); go_simp; (try with_reducible rfl))
        try simp only [Act.put, List.getElem_toArray, List.getElem_cons_zero, List.getElem_cons_succ, List.setIfInBounds_toArray, List.set_cons_zero, List.set_cons_succ]
        refine wpAnyH_take (i := 1) (v := ?_) rfl (by kernel_rfl) (by kernel_rfl) (by kernel_rfl) (fun _ _ _ h => h) (Or.inl ⟨by rfl, ?_⟩) hHeld ?_
        rotate_left
        · (intro w hSw; (try dsimp only at hSw); go_simp; (try with_reducible rfl))
        try simp only [Act.put, List.getElem_toArray, List.getElem_cons_zero, List.getElem_cons_succ, List.setIfInBounds_toArray, List.set_cons_zero, List.set_cons_succ]
        refine wpAnyH_take (i := 2) (v := ?_) rfl (by kernel_rfl) (by kernel_rfl) (by kernel_rfl) (fun _ _ _ h => h) (Or.inl ⟨by rfl, ?_⟩) hHeld ?_
        rotate_left
        · (intro w hSw; (try dsimp only at hSw); go_simp; (try with_reducible rfl))
        try simp only [Act.put, List.getElem_toArray, List.getElem_cons_zero, List.getElem_cons_succ, List.setIfInBounds_toArray, List.set_cons_zero, List.set_cons_succ]
        refine wpAnyH_take (i := 3) (v := ?_) rfl (by kernel_rfl) (by kernel_rfl) (by kernel_rfl) (fun _ _ _ h => h) (Or.inl ⟨by rfl, ?_⟩) hHeld ?_
        rotate_left
        · (intro w hSw; (try dsimp only at hSw); go_simp; (try with_reducible rfl))
        try simp only [Act.put, List.getElem_toArray, List.getElem_cons_zero, List.getElem_cons_succ, List.setIfInBounds_toArray, List.set_cons_zero, List.set_cons_succ]
        refine wpAnyH_take (i := 4) (v := ?_) rfl (by kernel_rfl) (by kernel_rfl) (by kernel_rfl) (fun _ _ _ h => h) (Or.inl ⟨by rfl, ?_⟩) hHeld ?_
        rotate_left
        · (intro w hSw; (try dsimp only at hSw); go_simp; (try with_reducible rfl))
        try simp only [Act.put, List.getElem_toArray, List.getElem_cons_zero, List.getElem_cons_succ, List.setIfInBounds_toArray, List.set_cons_zero, List.set_cons_succ]
        refine wpAnyH_take (i := 5) (v := ?_) rfl (by kernel_rfl) (by kernel_rfl) (by kernel_rfl) (fun _ _ _ h => h) (Or.inl ⟨by rfl, ?_⟩) hHeld ?_
        rotate_left
        · (intro w hSw; (try dsimp only at hSw); go_simp; (try with_reducible rfl))
        try simp only [Act.put, List.getElem_toArray, List.getElem_cons_zero, List.getElem_cons_succ, List.setIfInBounds_toArray, List.set_cons_zero, List.set_cons_succ]
        refine wpAnyH_take (i := 6) (v := ?_) rfl (by kernel_rfl) (by kernel_rfl) (by kernel_rfl) (fun _ _ _ h => h) (Or.inl ⟨by rfl, ?_⟩) hHeld ?_
        rotate_left
        · (intro w hSw; (try dsimp only at hSw); go_simp; (try with_reducible rfl))
        try simp only [Act.put, List.getElem_toArray, List.getElem_cons_zero, List.getElem_cons_succ, List.setIfInBounds_toArray, List.set_cons_zero, List.set_cons_succ]
        refine wpAnyH_take (i := 7) (v := ?_) rfl (by kernel_rfl) (by kernel_rfl) (by kernel_rfl) (fun _ _ _ h => h) (Or.inl ⟨by rfl, ?_⟩) hHeld ?_
        rotate_left
        · (intro w hSw; (try dsimp only at hSw); go_simp; (try with_reducible rfl))
        try simp only [Act.put, List.getElem_toArray, List.getElem_cons_zero, List.getElem_cons_succ, List.setIfInBounds_toArray, List.set_cons_zero, List.set_cons_succ]
        refine wpAnyH_take (i := 8) (v := ?_) rfl (by kernel_rfl) (by kernel_rfl) (by kernel_rfl) (fun _ _ _ h => h) (Or.inl ⟨by rfl, ?_⟩) hHeld ?_
        rotate_left
        · (intro w hSw; (try dsimp only at hSw); go_simp; (try with_reducible rfl))
        try simp only [Act.put, List.getElem_toArray, List.getElem_cons_zero, List.getElem_cons_succ, List.setIfInBounds_toArray, List.set_cons_zero, List.set_cons_succ]
        refine wpAnyH_take (i := 9) (v := ?_) rfl (by kernel_rfl) (by kernel_rfl) (by kernel_rfl) (fun _ _ _ h => h) (Or.inl ⟨by rfl, ?_⟩) hHeld ?_
        rotate_left
        · (intro w hSw; (try dsimp only at hSw); go_simp; (try with_reducible rfl))
        try simp only [Act.put, List.getElem_toArray, List.getElem_cons_zero, List.getElem_cons_succ, List.setIfInBounds_toArray, List.set_cons_zero, List.set_cons_succ]
        refine wpAnyH_take (i := 10) (v := ?_) rfl (by kernel_rfl) (by kernel_rfl) (by kernel_rfl) (fun _ _ _ h => h) (Or.inl ⟨by rfl, ?_⟩) hHeld ?_
        rotate_left
        · (intro w hSw; (try dsimp only at hSw); go_simp; (try with_reducible rfl))
        try simp only [Act.put, List.getElem_toArray, List.getElem_cons_zero, List.getElem_cons_succ, List.setIfInBounds_toArray, List.set_cons_zero, List.set_cons_succ]
        refine wpAnyH_take (i := 11) (v := ?_) rfl (by kernel_rfl) (by kernel_rfl) (by kernel_rfl) (fun _ _ _ h => h) (Or.inl ⟨by rfl, ?_⟩) hHeld ?_
        rotate_left
        · (intro w hSw; (try dsimp only at hSw); go_simp; (try with_reducible rfl))
        try simp only [Act.put, List.getElem_toArray, List.getElem_cons_zero, List.getElem_cons_succ, List.setIfInBounds_toArray, List.set_cons_zero, List.set_cons_succ]
        refine wpAnyH_take (i := 12) (v := ?_) rfl (by kernel_rfl) (by kernel_rfl) (by kernel_rfl) (fun _ _ _ h => h) (Or.inl ⟨by rfl, ?_⟩) hHeld ?_
        rotate_left
        · (intro w hSw; (try dsimp only at hSw); go_simp; (try with_reducible rfl))
        try simp only [Act.put, List.getElem_toArray, List.getElem_cons_zero, List.getElem_cons_succ, List.setIfInBounds_toArray, List.set_cons_zero, List.set_cons_succ]
        refine wpAnyH_take (i := 13) (v := ?_) rfl (by kernel_rfl) (by kernel_rfl) (by kernel_rfl) (fun _ _ _ h => h) (Or.inl ⟨by rfl, ?_⟩) hHeld ?_
        rotate_left
        · (intro w hSw; (try dsimp only at hSw); go_simp; (try with_reducible rfl))
        try simp only [Act.put, List.getElem_toArray, List.getElem_cons_zero, List.getElem_cons_succ, List.setIfInBounds_toArray, List.set_cons_zero, List.set_cons_succ]
        refine wpAnyH_take (i := 14) (v := ?_) rfl (by kernel_rfl) (by kernel_rfl) (by kernel_rfl) (fun _ _ _ h => h) (Or.inl ⟨by rfl, ?_⟩) hHeld ?_
        rotate_left
        · (intro w hSw; (try dsimp only at hSw); go_simp; (try with_reducible rfl))
        try simp only [Act.put, List.getElem_toArray, List.getElem_cons_zero, List.getElem_cons_succ, List.setIfInBounds_toArray, List.set_cons_zero, List.set_cons_succ]
        refine wpAnyH_take (i := 15) (v := ?_) rfl (by kernel_rfl) (by kernel_rfl) (by kernel_rfl) (fun _ _ _ h => h) (Or.inl ⟨by rfl, ?_⟩) hHeld ?_
        rotate_left
        · (intro w hSw; (try dsimp only at hSw); go_simp; (try with_reducible rfl))
        try simp only [Act.put, List.getElem_toArray, List.getElem_cons_zero, List.getElem_cons_succ, List.setIfInBounds_toArray, List.set_cons_zero, List.set_cons_succ]
        refine wpAnyH_done (by kernel_rfl) ?_ _
        clear hHeld
        go_wp2_with fail
        go_roundw
        case rel => exact ⟨i, i + 1, rfl, by omega, by go_num, by rw [HI.out] at HN ⊢; rw [HN.out]; simp, below_drewN cc2 1⟩
        case measure => simp [intOf] <;> omega
    · have hm : m = 255 := by omega
      subst hm
      rw [hk]
      have c0 : wr.cell? ⟨bb, off, none⟩ = some (.int .i64 (L[0]?.getD 0)) := hx2.cell (j := 0) (by omega)
      rw [Hz.out] at c0
      replace cc := cc.trans (hbl.mono cc.size)
      replace hb := Nat.lt_of_lt_of_le hb hbl.size
      clear hx hbl
      go_wp2_with fail
      refine (CS _).mono ?_
      rintro e w3 ⟨rfl, b⟩
      replace c0 := (b.cell (p := ⟨bb, off, none⟩) hb).trans c0
      replace hb := Nat.lt_of_lt_of_le hb b.size
      replace hx2 := hx2.on b
      replace cc := cc.trans (b.mono cc.size)
      clear b
      go_wp2_with fail
      refine (alive9_any _).mono ?_
      rintro e w4 ⟨rfl, b⟩
      replace c0 := (b.cell (p := ⟨bb, off, none⟩) hb).trans c0
      replace hb := Nat.lt_of_lt_of_le hb b.size
      replace hx2 := hx2.on b
      replace cc := cc.trans (b.mono cc.size)
      clear b
      go_wp2_with fail
      go_ret
      exact ⟨rfl, cc⟩
      

end Go.Proofs.Ytcbchofjaegdgaa
