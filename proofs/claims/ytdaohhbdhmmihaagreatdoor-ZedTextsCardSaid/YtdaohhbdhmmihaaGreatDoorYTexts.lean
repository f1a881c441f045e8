/-
  The walk of ZedTexts.
-/
import Derived.Test.YtdaohhbdhmmihaaGreatDoorA6
namespace Go.Proofs.YtdaohhbdhmmihaaGreatDoor
open Go.RowKit
set_option linter.unusedVariables false

theorem zprint_v {w : World} {b : Bool} {A : Option Addr} {n c : Nat} {z : Int} (t : ByteArray) (ha : Zn w b A n c z) (hx : (limbs z.natAbs).length ≤ 300) (ht : Tab w) (h : (⟨(textZ z).toArray⟩ : ByteArray) = t) : Calls Tryz.prog 8 #[.agg #[.bool b, .slice A n c]] w (GotV w (.string t)) := by
  refine (zprint_N ha hx ht).mono ?_
  rintro e w1 ⟨s, rfl, hs, b1⟩
  exact ⟨by rw [str_of hs, h], b1⟩
theorem rzprint_v {w : World} {b : Bool} {A : Option Addr} {n c : Nat} {z : Int} (t : ByteArray) (ha : Zn w b A n c z) (hx : (limbs z.natAbs).length ≤ 300) (h : (⟨(textZ z).toArray⟩ : ByteArray) = t) : Calls Tryz.prog 9 #[.agg #[.bool b, .slice A n c]] w (GotV w (.string t)) := by
  refine (rzprint_N ha hx).mono ?_
  rintro e w1 ⟨s, rfl, hs, b1⟩
  exact ⟨by rw [str_of hs, h], b1⟩

set_option maxRecDepth 100000 in
set_option maxHeartbeats 8000000 in
theorem ZedTexts_no {w : World} {b0 : Bool} {a0 : Option Addr} {len0 cap0 : Nat} (ht : Tab w) (s : ByteArray) (G0 : ∀ W : World, Below w.heap.size w W → Calls Tryz.prog 4 #[.agg #[.bool b0, .slice a0 len0 cap0], .int .i64 10] W (GotV W (.bool false))) :
    Calls Tryz.prog 3 #[.agg #[.bool b0, .slice a0 len0 cap0], .string s] w fun e w' => e = .returned (.bool true) ∧ Below w.heap.size w w' := by
  have cc := Below.refl w.heap.size w
  go_enter Tryz.func3, Tryz.ntmps3
  go_wp2_with fail
  have bA : Below w.heap.size w (w.alloc (.cells #[.bool b0, .slice a0 len0 cap0] 25)) := ((Below.refl _ w).alloc (by simp) _)
  replace cc := cc.trans (bA.mono cc.size)
  clear bA
  have p0 : (w.alloc (.cells #[.bool b0, .slice a0 len0 cap0] 25)).cell? ⟨w.heap.size, 0, none⟩ = some (.bool b0) := by simp [go_sem]
  have p1 : (w.alloc (.cells #[.bool b0, .slice a0 len0 cap0] 25)).cell? ⟨w.heap.size, 1, none⟩ = some (.slice a0 len0 cap0) := by simp [go_sem]
  have pl : w.heap.size < (w.alloc (.cells #[.bool b0, .slice a0 len0 cap0] 25)).heap.size := by simp <;> omega
  generalize w.alloc (.cells #[.bool b0, .slice a0 len0 cap0] 25) = v1 at *
  refine (G0 _ cc).mono ?_
  rintro e w2 ⟨rfl, b⟩
  replace p0 := (b.cell (p := ⟨w.heap.size, 0, none⟩) pl).trans p0
  replace p1 := (b.cell (p := ⟨w.heap.size, 1, none⟩) pl).trans p1
  replace pl := Nat.lt_of_lt_of_le pl b.size
  replace cc := cc.trans (b.mono cc.size)
  clear b
  go_wp2_with fail
  refine (alive_any _ (ht.on cc)).mono ?_
  rintro e w3 ⟨rfl, b⟩
  replace p0 := (b.cell (p := ⟨w.heap.size, 0, none⟩) pl).trans p0
  replace p1 := (b.cell (p := ⟨w.heap.size, 1, none⟩) pl).trans p1
  replace pl := Nat.lt_of_lt_of_le pl b.size
  replace cc := cc.trans (b.mono cc.size)
  clear b
  go_wp2_with fail
  go_ret
  exact ⟨rfl, cc⟩

set_option maxRecDepth 100000 in
set_option maxHeartbeats 8000000 in
theorem ZedTexts_long {w : World} {b0 : Bool} {a0 : Option Addr} {len0 cap0 : Nat} (ht : Tab w) (s : ByteArray) (hs : s.size ≤ 9223372036854775807) (hl : 500 < s.size) (G0 : ∀ W : World, Below w.heap.size w W → Calls Tryz.prog 4 #[.agg #[.bool b0, .slice a0 len0 cap0], .int .i64 10] W (GotV W (.bool true))) :
    Calls Tryz.prog 3 #[.agg #[.bool b0, .slice a0 len0 cap0], .string s] w fun e w' => e = .returned (.bool true) ∧ Below w.heap.size w w' := by
  have hi : (500 : Int) < (s.size : Int) := by omega
  have cc := Below.refl w.heap.size w
  go_enter Tryz.func3, Tryz.ntmps3
  go_wp2_with fail
  have bA : Below w.heap.size w (w.alloc (.cells #[.bool b0, .slice a0 len0 cap0] 25)) := ((Below.refl _ w).alloc (by simp) _)
  replace cc := cc.trans (bA.mono cc.size)
  clear bA
  have p0 : (w.alloc (.cells #[.bool b0, .slice a0 len0 cap0] 25)).cell? ⟨w.heap.size, 0, none⟩ = some (.bool b0) := by simp [go_sem]
  have p1 : (w.alloc (.cells #[.bool b0, .slice a0 len0 cap0] 25)).cell? ⟨w.heap.size, 1, none⟩ = some (.slice a0 len0 cap0) := by simp [go_sem]
  have pl : w.heap.size < (w.alloc (.cells #[.bool b0, .slice a0 len0 cap0] 25)).heap.size := by simp <;> omega
  generalize w.alloc (.cells #[.bool b0, .slice a0 len0 cap0] 25) = v1 at *
  refine (G0 _ cc).mono ?_
  rintro e w2 ⟨rfl, b⟩
  replace p0 := (b.cell (p := ⟨w.heap.size, 0, none⟩) pl).trans p0
  replace p1 := (b.cell (p := ⟨w.heap.size, 1, none⟩) pl).trans p1
  replace pl := Nat.lt_of_lt_of_le pl b.size
  replace cc := cc.trans (b.mono cc.size)
  clear b
  go_wp2_with fail
  refine (alive_any _ (ht.on cc)).mono ?_
  rintro e w3 ⟨rfl, b⟩
  replace p0 := (b.cell (p := ⟨w.heap.size, 0, none⟩) pl).trans p0
  replace p1 := (b.cell (p := ⟨w.heap.size, 1, none⟩) pl).trans p1
  replace pl := Nat.lt_of_lt_of_le pl b.size
  replace cc := cc.trans (b.mono cc.size)
  clear b
  go_wp2_with fail
  go_ret
  exact ⟨rfl, cc⟩

set_option maxRecDepth 100000 in
set_option maxHeartbeats 8000000 in
theorem ZedTexts_ok {w : World} {b0 : Bool} {a0 : Option Addr} {len0 cap0 : Nat} {z0 : Int} (h0 : Zn w b0 a0 len0 cap0 z0) (ht : Tab w) (s : ByteArray) (hs : s.size ≤ 500) (l0 : (limbs z0.natAbs).length ≤ 10) (zr : Int) (i : Nat) (er : Int) (lz : (limbs zr.natAbs).length ≤ 300) (HR : Hid (readT s.data.toList = (zr, i, er))) (G0 : ∀ W : World, Below w.heap.size w W → Calls Tryz.prog 4 #[.agg #[.bool b0, .slice a0 len0 cap0], .int .i64 10] W (GotV W (.bool true))) :
    Calls Tryz.prog 3 #[.agg #[.bool b0, .slice a0 len0 cap0], .string s] w fun e w' => e = .returned (.bool true) ∧ Below w.heap.size w w' := by
  have hi : ¬ (500 : Int) < (s.size : Int) := by omega
  have k0 : (limbs z0.natAbs).length ≤ 300 := by omega
  have cc := Below.refl w.heap.size w
  go_enter Tryz.func3, Tryz.ntmps3
  go_wp2_with fail
  have bA : Below w.heap.size w (w.alloc (.cells #[.bool b0, .slice a0 len0 cap0] 25)) := ((Below.refl _ w).alloc (by simp) _)
  replace h0 := h0.on bA
  replace cc := cc.trans (bA.mono cc.size)
  clear bA
  have p0 : (w.alloc (.cells #[.bool b0, .slice a0 len0 cap0] 25)).cell? ⟨w.heap.size, 0, none⟩ = some (.bool b0) := by simp [go_sem]
  have p1 : (w.alloc (.cells #[.bool b0, .slice a0 len0 cap0] 25)).cell? ⟨w.heap.size, 1, none⟩ = some (.slice a0 len0 cap0) := by simp [go_sem]
  have pl : w.heap.size < (w.alloc (.cells #[.bool b0, .slice a0 len0 cap0] 25)).heap.size := by simp <;> omega
  generalize w.alloc (.cells #[.bool b0, .slice a0 len0 cap0] 25) = v1 at *
  refine (G0 _ cc).mono ?_
  rintro e w2 ⟨rfl, b⟩
  replace h0 := h0.on b
  replace p0 := (b.cell (p := ⟨w.heap.size, 0, none⟩) pl).trans p0
  replace p1 := (b.cell (p := ⟨w.heap.size, 1, none⟩) pl).trans p1
  replace pl := Nat.lt_of_lt_of_le pl b.size
  replace cc := cc.trans (b.mono cc.size)
  clear b
  go_wp2_with fail
  refine (zread_N s _ (by omega)).mono ?_
  intro e w3 hr
  obtain ⟨b1, A1, n1, k1, rfl, hx, b⟩ := GotR_of hr HR.out
  clear hr
  simp only at hx
  replace h0 := h0.on b
  replace p0 := (b.cell (p := ⟨w.heap.size, 0, none⟩) pl).trans p0
  replace p1 := (b.cell (p := ⟨w.heap.size, 1, none⟩) pl).trans p1
  replace pl := Nat.lt_of_lt_of_le pl b.size
  replace cc := cc.trans (b.mono cc.size)
  clear b
  go_wp2_with fail
  have bA : Below w3.heap.size w3 (w3.alloc (.cells #[.bool b1, .slice A1 n1 k1] 25)) := ((Below.refl _ w3).alloc (by simp) _)
  replace h0 := h0.on bA
  replace hx := hx.on bA
  replace p0 := (bA.cell (p := ⟨w.heap.size, 0, none⟩) pl).trans p0
  replace p1 := (bA.cell (p := ⟨w.heap.size, 1, none⟩) pl).trans p1
  replace pl := Nat.lt_of_lt_of_le pl bA.size
  replace cc := cc.trans (bA.mono cc.size)
  clear bA
  have x0 : (w3.alloc (.cells #[.bool b1, .slice A1 n1 k1] 25)).cell? ⟨w3.heap.size, 0, none⟩ = some (.bool b1) := by simp [go_sem]
  have x1 : (w3.alloc (.cells #[.bool b1, .slice A1 n1 k1] 25)).cell? ⟨w3.heap.size, 1, none⟩ = some (.slice A1 n1 k1) := by simp [go_sem]
  have xl : w3.heap.size < (w3.alloc (.cells #[.bool b1, .slice A1 n1 k1] 25)).heap.size := by simp <;> omega
  generalize w3.alloc (.cells #[.bool b1, .slice A1 n1 k1] 25) = v4 at *
  go_wp2_with fail
  refine (rzread_N s _ (by omega)).mono ?_
  intro e w5 hr
  obtain ⟨b2, A2, n2, k2, rfl, hy, b⟩ := GotR_of hr HR.out
  clear hr
  simp only at hy
  replace h0 := h0.on b
  replace hx := hx.on b
  replace p0 := (b.cell (p := ⟨w.heap.size, 0, none⟩) pl).trans p0
  replace p1 := (b.cell (p := ⟨w.heap.size, 1, none⟩) pl).trans p1
  replace pl := Nat.lt_of_lt_of_le pl b.size
  replace x0 := (b.cell (p := ⟨w3.heap.size, 0, none⟩) xl).trans x0
  replace x1 := (b.cell (p := ⟨w3.heap.size, 1, none⟩) xl).trans x1
  replace xl := Nat.lt_of_lt_of_le xl b.size
  replace cc := cc.trans (b.mono cc.size)
  clear b
  go_wp2_with fail
  have bA : Below w5.heap.size w5 (w5.alloc (.cells #[.bool b2, .slice A2 n2 k2] 25)) := ((Below.refl _ w5).alloc (by simp) _)
  replace h0 := h0.on bA
  replace hx := hx.on bA
  replace hy := hy.on bA
  replace p0 := (bA.cell (p := ⟨w.heap.size, 0, none⟩) pl).trans p0
  replace p1 := (bA.cell (p := ⟨w.heap.size, 1, none⟩) pl).trans p1
  replace pl := Nat.lt_of_lt_of_le pl bA.size
  replace x0 := (bA.cell (p := ⟨w3.heap.size, 0, none⟩) xl).trans x0
  replace x1 := (bA.cell (p := ⟨w3.heap.size, 1, none⟩) xl).trans x1
  replace xl := Nat.lt_of_lt_of_le xl bA.size
  replace cc := cc.trans (bA.mono cc.size)
  clear bA
  have y0 : (w5.alloc (.cells #[.bool b2, .slice A2 n2 k2] 25)).cell? ⟨w5.heap.size, 0, none⟩ = some (.bool b2) := by simp [go_sem]
  have y1 : (w5.alloc (.cells #[.bool b2, .slice A2 n2 k2] 25)).cell? ⟨w5.heap.size, 1, none⟩ = some (.slice A2 n2 k2) := by simp [go_sem]
  have yl : w5.heap.size < (w5.alloc (.cells #[.bool b2, .slice A2 n2 k2] 25)).heap.size := by simp <;> omega
  generalize w5.alloc (.cells #[.bool b2, .slice A2 n2 k2] 25) = v6 at *
  obtain ⟨t, htt⟩ : ∃ t : ByteArray, (⟨(textZ z0).toArray⟩ : ByteArray) = t := ⟨_, rfl⟩
  have HTT := Lib.hid htt
  clear htt
  have qq : Below v6.heap.size v6 v6.drew := below_drewN (Below.refl _ v6) 1
  have h0' := h0.on qq
  have hx' := hx.on qq
  have hy' := hy.on qq
  have hT := (ht.on cc).on qq
  go_region_held3 (fun w' => w'.cell? ⟨w.heap.size, 0, none⟩ = some (.bool b0) ∧ w'.cell? ⟨w.heap.size, 1, none⟩ = some (.slice a0 len0 cap0) ∧ w'.cell? ⟨w3.heap.size, 0, none⟩ = some (.bool b1) ∧ w'.cell? ⟨w3.heap.size, 1, none⟩ = some (.slice A1 n1 k1) ∧ w'.cell? ⟨w5.heap.size, 0, none⟩ = some (.bool b2) ∧ w'.cell? ⟨w5.heap.size, 1, none⟩ = some (.slice A2 n2 k2))
    (first | with_reducible exact ⟨(qq.cell (p := ⟨w.heap.size, 0, none⟩) pl).trans p0, (qq.cell (p := ⟨w.heap.size, 1, none⟩) pl).trans p1, (qq.cell (p := ⟨w3.heap.size, 0, none⟩) xl).trans x0, (qq.cell (p := ⟨w3.heap.size, 1, none⟩) xl).trans x1, (qq.cell (p := ⟨w5.heap.size, 0, none⟩) yl).trans y0, (qq.cell (p := ⟨w5.heap.size, 1, none⟩) yl).trans y1⟩ | go_keep)
    (first
      | (go_at_call 5; (with_reducible refine (alive_any _ hT).mono ?_); rintro e wz ⟨rfl, q⟩; replace qq := qq.trans (q.mono qq.size); (try replace h0' := h0'.on q); (try replace hx' := hx'.on q); (try replace hy' := hy'.on q); (try replace hT := hT.on q); clear q)
      | (go_at_call 8; (with_reducible refine (zprint_v t h0' k0 hT HTT.out).mono ?_); rintro e wz ⟨rfl, q⟩; replace qq := qq.trans (q.mono qq.size); (try replace h0' := h0'.on q); (try replace hx' := hx'.on q); (try replace hy' := hy'.on q); (try replace hT := hT.on q); clear q)
      | (go_at_call 9; (with_reducible refine (rzprint_v t h0' k0 HTT.out).mono ?_); rintro e wz ⟨rfl, q⟩; replace qq := qq.trans (q.mono qq.size); (try replace h0' := h0'.on q); (try replace hx' := hx'.on q); (try replace hy' := hy'.on q); (try replace hT := hT.on q); clear q)
      | (go_at_call 10; (with_reducible refine (zsame_self hx' hy' lz).mono ?_); rintro e wz ⟨rfl, q⟩; replace qq := qq.trans (q.mono qq.size); (try replace h0' := h0'.on q); (try replace hx' := hx'.on q); (try replace hy' := hy'.on q); (try replace hT := hT.on q); clear q))
  clear h0
  have h0 := h0'
  clear h0'
  clear hx
  have hx := hx'
  clear hx'
  clear hy
  have hy := hy'
  clear hy'
  replace p0 := (qq.cell (p := ⟨w.heap.size, 0, none⟩) pl).trans p0
  replace p1 := (qq.cell (p := ⟨w.heap.size, 1, none⟩) pl).trans p1
  replace pl := Nat.lt_of_lt_of_le pl qq.size
  replace x0 := (qq.cell (p := ⟨w3.heap.size, 0, none⟩) xl).trans x0
  replace x1 := (qq.cell (p := ⟨w3.heap.size, 1, none⟩) xl).trans x1
  replace xl := Nat.lt_of_lt_of_le xl qq.size
  replace y0 := (qq.cell (p := ⟨w5.heap.size, 0, none⟩) yl).trans y0
  replace y1 := (qq.cell (p := ⟨w5.heap.size, 1, none⟩) yl).trans y1
  replace yl := Nat.lt_of_lt_of_le yl qq.size
  replace cc := cc.trans (qq.mono cc.size)
  clear qq
  go_wp2_with fail
  go_ret
  exact ⟨rfl, cc⟩

theorem ZedTexts_walk {w : World} (ht : Tab w) (b0 : Bool) {a0 : Option Addr} {len0 cap0 : Nat} {l0 : List Nat} (hl0 : Lim w.heap.size w a0 len0 cap0 l0) (hs0 : len0 ≤ 9223372036854775807) (s : ByteArray) (hs : s.size ≤ maxLen) :
    Calls Tryz.prog 3 #[.agg #[.bool b0, .slice a0 len0 cap0], .string s] w fun e w' => e = .returned (.bool true) ∧ Below w.heap.size w w' := by
  unfold maxLen at hs
  have G : ∀ (r : Bool), (decide ((len0 : Int) ≤ 10) && okZ b0 len0 l0) = r → ∀ W : World, Below w.heap.size w W → Calls Tryz.prog 4 #[.agg #[.bool b0, .slice a0 len0 cap0], .int .i64 10] W (GotV W (.bool r)) := fun r hr W hW => rzfew_any 10 r (hl0.on hW) hs0 hr
  cases h0 : (decide ((len0 : Int) ≤ 10) && okZ b0 len0 l0) with
  | false => exact ZedTexts_no ht s (G false h0)
  | true =>
    rcases Nat.lt_or_ge 500 s.size with h | h
    · exact ZedTexts_long ht s (by omega) h (G true h0)
    · obtain ⟨n0, t0⟩ := few_zn 10 hl0 h0
      obtain ⟨zr, i, er, hr, hz⟩ : ∃ (zr : Int) (i : Nat) (er : Int), readT s.data.toList = (zr, i, er) ∧ (limbs zr.natAbs).length ≤ 300 := by
        rcases Nat.lt_or_ge 400 s.data.toList.length with h4 | h4
        · exact ⟨0, 0, 6, readT_large h4, by rw [show (0 : Int).natAbs = 0 from rfl, limbs_zero]; simp⟩
        · rcases text_read (by omega : ¬ 400 < s.data.toList.length) with ⟨z', h1, h2⟩ | ⟨i, h1, _⟩
          · exact ⟨z', 0, 0, h1, Nat.le_trans (textZ_limbs (k := 25) (by rw [h2]; exact h4)) (by omega)⟩
          · exact ⟨0, i, 3, h1, by rw [show (0 : Int).natAbs = 0 from rfl, limbs_zero]; simp⟩
      exact ZedTexts_ok n0 ht s h t0 zr i er hz (Lib.hid hr) (G true h0)

end Go.Proofs.YtdaohhbdhmmihaaGreatDoor
