/-
  Several texts in one: YTells1, YTells.
-/
import Derived.Test.YtdaohhbdhmmihaaDoorA6

/-
  The ways through ZedTells.
-/
namespace Go.Proofs.YtdaohhbdhmmihaaDoor
open Go.RowKit
set_option linter.unusedVariables false

set_option maxRecDepth 100000 in
set_option maxHeartbeats 8000000 in
theorem ZedTells_long0 {w : World} {b0 b1 : Bool} {a0 a1 : Option Addr} {len0 cap0 len1 cap1 : Nat} {n : Int} (ht : Tab w) (hl : 10 < len0) :
    Calls Tryd.prog 3 #[.agg #[.bool b0, .slice a0 len0 cap0], .agg #[.bool b1, .slice a1 len1 cap1], .int .i64 n] w fun e w' => e = .returned (.bool true) ∧ Below w.heap.size w w' := by
  have cc := Below.refl w.heap.size w
  have hi : (10 : Int) < (len0 : Int) := by omega
  go_enter Tryd.func3, Tryd.ntmps3
  go_wp2_with fail
  have bA : Below w.heap.size w ((w.alloc (.cells #[.bool b0, .slice a0 len0 cap0] 25)).alloc (.cells #[.bool b1, .slice a1 len1 cap1] 25)) := (((Below.refl _ w).alloc (by simp) _).alloc (by simp) _)
  replace cc := cc.trans (bA.mono cc.size)
  clear bA
  have p0 : ((w.alloc (.cells #[.bool b0, .slice a0 len0 cap0] 25)).alloc (.cells #[.bool b1, .slice a1 len1 cap1] 25)).cell? ⟨w.heap.size, 0, none⟩ = some (.bool b0) := by simp [go_sem]
  have p1 : ((w.alloc (.cells #[.bool b0, .slice a0 len0 cap0] 25)).alloc (.cells #[.bool b1, .slice a1 len1 cap1] 25)).cell? ⟨w.heap.size, 1, none⟩ = some (.slice a0 len0 cap0) := by simp [go_sem]
  have pl : w.heap.size < ((w.alloc (.cells #[.bool b0, .slice a0 len0 cap0] 25)).alloc (.cells #[.bool b1, .slice a1 len1 cap1] 25)).heap.size := by simp <;> omega
  have q0 : ((w.alloc (.cells #[.bool b0, .slice a0 len0 cap0] 25)).alloc (.cells #[.bool b1, .slice a1 len1 cap1] 25)).cell? ⟨w.heap.size + 1, 0, none⟩ = some (.bool b1) := by simp [go_sem]
  have q1 : ((w.alloc (.cells #[.bool b0, .slice a0 len0 cap0] 25)).alloc (.cells #[.bool b1, .slice a1 len1 cap1] 25)).cell? ⟨w.heap.size + 1, 1, none⟩ = some (.slice a1 len1 cap1) := by simp [go_sem]
  have ql : w.heap.size + 1 < ((w.alloc (.cells #[.bool b0, .slice a0 len0 cap0] 25)).alloc (.cells #[.bool b1, .slice a1 len1 cap1] 25)).heap.size := by simp <;> omega
  generalize (w.alloc (.cells #[.bool b0, .slice a0 len0 cap0] 25)).alloc (.cells #[.bool b1, .slice a1 len1 cap1] 25) = v1 at *
  refine (alive_any _ (ht.on cc)).mono ?_
  rintro e w2 ⟨rfl, b⟩
  replace p0 := (b.cell (p := ⟨w.heap.size, 0, none⟩) pl).trans p0
  replace p1 := (b.cell (p := ⟨w.heap.size, 1, none⟩) pl).trans p1
  replace pl := Nat.lt_of_lt_of_le pl b.size
  replace q0 := (b.cell (p := ⟨w.heap.size + 1, 0, none⟩) ql).trans q0
  replace q1 := (b.cell (p := ⟨w.heap.size + 1, 1, none⟩) ql).trans q1
  replace ql := Nat.lt_of_lt_of_le ql b.size
  replace cc := cc.trans (b.mono cc.size)
  clear b
  go_wp2_with fail
  go_ret
  exact ⟨rfl, cc⟩

set_option maxRecDepth 100000 in
set_option maxHeartbeats 8000000 in
theorem ZedTells_long1 {w : World} {b0 b1 : Bool} {a0 a1 : Option Addr} {len0 cap0 len1 cap1 : Nat} {n : Int} (ht : Tab w) (hl : ¬ 10 < len0) (hm : 10 < len1) :
    Calls Tryd.prog 3 #[.agg #[.bool b0, .slice a0 len0 cap0], .agg #[.bool b1, .slice a1 len1 cap1], .int .i64 n] w fun e w' => e = .returned (.bool true) ∧ Below w.heap.size w w' := by
  have cc := Below.refl w.heap.size w
  have hi : ¬ (10 : Int) < (len0 : Int) := by omega
  have hj : (10 : Int) < (len1 : Int) := by omega
  go_enter Tryd.func3, Tryd.ntmps3
  go_wp2_with fail
  have bA : Below w.heap.size w ((w.alloc (.cells #[.bool b0, .slice a0 len0 cap0] 25)).alloc (.cells #[.bool b1, .slice a1 len1 cap1] 25)) := (((Below.refl _ w).alloc (by simp) _).alloc (by simp) _)
  replace cc := cc.trans (bA.mono cc.size)
  clear bA
  have p0 : ((w.alloc (.cells #[.bool b0, .slice a0 len0 cap0] 25)).alloc (.cells #[.bool b1, .slice a1 len1 cap1] 25)).cell? ⟨w.heap.size, 0, none⟩ = some (.bool b0) := by simp [go_sem]
  have p1 : ((w.alloc (.cells #[.bool b0, .slice a0 len0 cap0] 25)).alloc (.cells #[.bool b1, .slice a1 len1 cap1] 25)).cell? ⟨w.heap.size, 1, none⟩ = some (.slice a0 len0 cap0) := by simp [go_sem]
  have pl : w.heap.size < ((w.alloc (.cells #[.bool b0, .slice a0 len0 cap0] 25)).alloc (.cells #[.bool b1, .slice a1 len1 cap1] 25)).heap.size := by simp <;> omega
  have q0 : ((w.alloc (.cells #[.bool b0, .slice a0 len0 cap0] 25)).alloc (.cells #[.bool b1, .slice a1 len1 cap1] 25)).cell? ⟨w.heap.size + 1, 0, none⟩ = some (.bool b1) := by simp [go_sem]
  have q1 : ((w.alloc (.cells #[.bool b0, .slice a0 len0 cap0] 25)).alloc (.cells #[.bool b1, .slice a1 len1 cap1] 25)).cell? ⟨w.heap.size + 1, 1, none⟩ = some (.slice a1 len1 cap1) := by simp [go_sem]
  have ql : w.heap.size + 1 < ((w.alloc (.cells #[.bool b0, .slice a0 len0 cap0] 25)).alloc (.cells #[.bool b1, .slice a1 len1 cap1] 25)).heap.size := by simp <;> omega
  generalize (w.alloc (.cells #[.bool b0, .slice a0 len0 cap0] 25)).alloc (.cells #[.bool b1, .slice a1 len1 cap1] 25) = v1 at *
  refine (alive_any _ (ht.on cc)).mono ?_
  rintro e w2 ⟨rfl, b⟩
  replace p0 := (b.cell (p := ⟨w.heap.size, 0, none⟩) pl).trans p0
  replace p1 := (b.cell (p := ⟨w.heap.size, 1, none⟩) pl).trans p1
  replace pl := Nat.lt_of_lt_of_le pl b.size
  replace q0 := (b.cell (p := ⟨w.heap.size + 1, 0, none⟩) ql).trans q0
  replace q1 := (b.cell (p := ⟨w.heap.size + 1, 1, none⟩) ql).trans q1
  replace ql := Nat.lt_of_lt_of_le ql b.size
  replace cc := cc.trans (b.mono cc.size)
  clear b
  go_wp2_with fail
  go_ret
  exact ⟨rfl, cc⟩

set_option maxRecDepth 100000 in
set_option maxHeartbeats 8000000 in
theorem ZedTells_no0 {w : World} {b0 b1 : Bool} {a0 a1 : Option Addr} {len0 cap0 len1 cap1 : Nat} {n : Int} (ht : Tab w) (hl : ¬ 10 < len0) (hm : ¬ 10 < len1) (hI : I64 n) (GA : ∀ W : World, Below w.heap.size w W → Calls Tryd.prog 9 #[.agg #[.bool b0, .slice a0 len0 cap0]] W (GotV W (.bool false))) (GB : ∀ W : World, Below w.heap.size w W → Calls Tryd.prog 10 #[.agg #[.bool b0, .slice a0 len0 cap0]] W (GotV W (.bool false))) :
    Calls Tryd.prog 3 #[.agg #[.bool b0, .slice a0 len0 cap0], .agg #[.bool b1, .slice a1 len1 cap1], .int .i64 n] w fun e w' => e = .returned (.bool true) ∧ Below w.heap.size w w' := by
  have cc := Below.refl w.heap.size w
  have hi : ¬ (10 : Int) < (len0 : Int) := by omega
  have hj : ¬ (10 : Int) < (len1 : Int) := by omega
  have hn := len_z hI.abs
  go_enter Tryd.func3, Tryd.ntmps3
  go_wp2_with fail
  have bA : Below w.heap.size w ((w.alloc (.cells #[.bool b0, .slice a0 len0 cap0] 25)).alloc (.cells #[.bool b1, .slice a1 len1 cap1] 25)) := (((Below.refl _ w).alloc (by simp) _).alloc (by simp) _)
  replace cc := cc.trans (bA.mono cc.size)
  clear bA
  have p0 : ((w.alloc (.cells #[.bool b0, .slice a0 len0 cap0] 25)).alloc (.cells #[.bool b1, .slice a1 len1 cap1] 25)).cell? ⟨w.heap.size, 0, none⟩ = some (.bool b0) := by simp [go_sem]
  have p1 : ((w.alloc (.cells #[.bool b0, .slice a0 len0 cap0] 25)).alloc (.cells #[.bool b1, .slice a1 len1 cap1] 25)).cell? ⟨w.heap.size, 1, none⟩ = some (.slice a0 len0 cap0) := by simp [go_sem]
  have pl : w.heap.size < ((w.alloc (.cells #[.bool b0, .slice a0 len0 cap0] 25)).alloc (.cells #[.bool b1, .slice a1 len1 cap1] 25)).heap.size := by simp <;> omega
  have q0 : ((w.alloc (.cells #[.bool b0, .slice a0 len0 cap0] 25)).alloc (.cells #[.bool b1, .slice a1 len1 cap1] 25)).cell? ⟨w.heap.size + 1, 0, none⟩ = some (.bool b1) := by simp [go_sem]
  have q1 : ((w.alloc (.cells #[.bool b0, .slice a0 len0 cap0] 25)).alloc (.cells #[.bool b1, .slice a1 len1 cap1] 25)).cell? ⟨w.heap.size + 1, 1, none⟩ = some (.slice a1 len1 cap1) := by simp [go_sem]
  have ql : w.heap.size + 1 < ((w.alloc (.cells #[.bool b0, .slice a0 len0 cap0] 25)).alloc (.cells #[.bool b1, .slice a1 len1 cap1] 25)).heap.size := by simp <;> omega
  generalize (w.alloc (.cells #[.bool b0, .slice a0 len0 cap0] 25)).alloc (.cells #[.bool b1, .slice a1 len1 cap1] 25) = v1 at *
  have qq : Below v1.heap.size v1 v1.drew := below_drewN (Below.refl _ v1) 1
  go_region_held3 (fun w' => w'.cell? ⟨w.heap.size, 0, none⟩ = some (.bool b0) ∧ w'.cell? ⟨w.heap.size, 1, none⟩ = some (.slice a0 len0 cap0) ∧ w'.cell? ⟨w.heap.size + 1, 0, none⟩ = some (.bool b1) ∧ w'.cell? ⟨w.heap.size + 1, 1, none⟩ = some (.slice a1 len1 cap1))
    (first | with_reducible exact ⟨(qq.cell (p := ⟨w.heap.size, 0, none⟩) pl).trans p0, (qq.cell (p := ⟨w.heap.size, 1, none⟩) pl).trans p1, (qq.cell (p := ⟨w.heap.size + 1, 0, none⟩) ql).trans q0, (qq.cell (p := ⟨w.heap.size + 1, 1, none⟩) ql).trans q1⟩ | go_keep)
    (first
      | (go_at_call 9; (with_reducible refine (GA _ (cc.trans (qq.mono cc.size))).mono ?_); rintro e wz ⟨rfl, q⟩; replace qq := qq.trans (q.mono qq.size); (try replace ga := ga.on q); (try replace gb := gb.on q); clear q)
      | (go_at_call 10; (with_reducible refine (GB _ (cc.trans (qq.mono cc.size))).mono ?_); rintro e wz ⟨rfl, q⟩; replace qq := qq.trans (q.mono qq.size); (try replace ga := ga.on q); (try replace gb := gb.on q); clear q)
      | (go_at_call 12; (with_reducible refine (zof_N _ n hI).mono ?_); rintro e wz ⟨bga, Aga, nga, cga, rfl, ga, q⟩; replace qq := qq.trans (q.mono qq.size); (try replace gb := gb.on q); clear q)
      | (go_at_call 13; (with_reducible refine (rzof_N _ n hI).mono ?_); rintro e wz ⟨bgb, Agb, ngb, cgb, rfl, gb, q⟩; replace qq := qq.trans (q.mono qq.size); (try replace ga := ga.on q); clear q)
      | (go_at_call 11; (with_reducible refine (zsame_self ga gb hn).mono ?_); rintro e wz ⟨rfl, q⟩; replace qq := qq.trans (q.mono qq.size); (try replace ga := ga.on q); (try replace gb := gb.on q); clear q))
  replace p0 := (qq.cell (p := ⟨w.heap.size, 0, none⟩) pl).trans p0
  replace p1 := (qq.cell (p := ⟨w.heap.size, 1, none⟩) pl).trans p1
  replace pl := Nat.lt_of_lt_of_le pl qq.size
  replace q0 := (qq.cell (p := ⟨w.heap.size + 1, 0, none⟩) ql).trans q0
  replace q1 := (qq.cell (p := ⟨w.heap.size + 1, 1, none⟩) ql).trans q1
  replace ql := Nat.lt_of_lt_of_le ql qq.size
  replace cc := cc.trans (qq.mono cc.size)
  clear qq
  go_wp2_with fail
  refine (GB _ cc).mono ?_
  rintro e w7 ⟨rfl, b⟩
  replace p0 := (b.cell (p := ⟨w.heap.size, 0, none⟩) pl).trans p0
  replace p1 := (b.cell (p := ⟨w.heap.size, 1, none⟩) pl).trans p1
  replace pl := Nat.lt_of_lt_of_le pl b.size
  replace q0 := (b.cell (p := ⟨w.heap.size + 1, 0, none⟩) ql).trans q0
  replace q1 := (b.cell (p := ⟨w.heap.size + 1, 1, none⟩) ql).trans q1
  replace ql := Nat.lt_of_lt_of_le ql b.size
  replace cc := cc.trans (b.mono cc.size)
  clear b
  go_wp2_with fail
  refine (alive_any _ (ht.on cc)).mono ?_
  rintro e w8 ⟨rfl, b⟩
  replace p0 := (b.cell (p := ⟨w.heap.size, 0, none⟩) pl).trans p0
  replace p1 := (b.cell (p := ⟨w.heap.size, 1, none⟩) pl).trans p1
  replace pl := Nat.lt_of_lt_of_le pl b.size
  replace q0 := (b.cell (p := ⟨w.heap.size + 1, 0, none⟩) ql).trans q0
  replace q1 := (b.cell (p := ⟨w.heap.size + 1, 1, none⟩) ql).trans q1
  replace ql := Nat.lt_of_lt_of_le ql b.size
  replace cc := cc.trans (b.mono cc.size)
  clear b
  go_wp2_with fail
  go_ret
  exact ⟨rfl, cc⟩

set_option maxRecDepth 100000 in
set_option maxHeartbeats 8000000 in
theorem ZedTells_no1 {w : World} {b0 b1 : Bool} {a0 a1 : Option Addr} {len0 cap0 len1 cap1 : Nat} {n : Int} (ht : Tab w) (hl : ¬ 10 < len0) (hm : ¬ 10 < len1) (hI : I64 n) (GA : ∀ W : World, Below w.heap.size w W → Calls Tryd.prog 9 #[.agg #[.bool b0, .slice a0 len0 cap0]] W (GotV W (.bool true))) (GB : ∀ W : World, Below w.heap.size w W → Calls Tryd.prog 10 #[.agg #[.bool b0, .slice a0 len0 cap0]] W (GotV W (.bool true))) (GC : ∀ W : World, Below w.heap.size w W → Calls Tryd.prog 10 #[.agg #[.bool b1, .slice a1 len1 cap1]] W (GotV W (.bool false))) :
    Calls Tryd.prog 3 #[.agg #[.bool b0, .slice a0 len0 cap0], .agg #[.bool b1, .slice a1 len1 cap1], .int .i64 n] w fun e w' => e = .returned (.bool true) ∧ Below w.heap.size w w' := by
  have cc := Below.refl w.heap.size w
  have hi : ¬ (10 : Int) < (len0 : Int) := by omega
  have hj : ¬ (10 : Int) < (len1 : Int) := by omega
  have hn := len_z hI.abs
  go_enter Tryd.func3, Tryd.ntmps3
  go_wp2_with fail
  have bA : Below w.heap.size w ((w.alloc (.cells #[.bool b0, .slice a0 len0 cap0] 25)).alloc (.cells #[.bool b1, .slice a1 len1 cap1] 25)) := (((Below.refl _ w).alloc (by simp) _).alloc (by simp) _)
  replace cc := cc.trans (bA.mono cc.size)
  clear bA
  have p0 : ((w.alloc (.cells #[.bool b0, .slice a0 len0 cap0] 25)).alloc (.cells #[.bool b1, .slice a1 len1 cap1] 25)).cell? ⟨w.heap.size, 0, none⟩ = some (.bool b0) := by simp [go_sem]
  have p1 : ((w.alloc (.cells #[.bool b0, .slice a0 len0 cap0] 25)).alloc (.cells #[.bool b1, .slice a1 len1 cap1] 25)).cell? ⟨w.heap.size, 1, none⟩ = some (.slice a0 len0 cap0) := by simp [go_sem]
  have pl : w.heap.size < ((w.alloc (.cells #[.bool b0, .slice a0 len0 cap0] 25)).alloc (.cells #[.bool b1, .slice a1 len1 cap1] 25)).heap.size := by simp <;> omega
  have q0 : ((w.alloc (.cells #[.bool b0, .slice a0 len0 cap0] 25)).alloc (.cells #[.bool b1, .slice a1 len1 cap1] 25)).cell? ⟨w.heap.size + 1, 0, none⟩ = some (.bool b1) := by simp [go_sem]
  have q1 : ((w.alloc (.cells #[.bool b0, .slice a0 len0 cap0] 25)).alloc (.cells #[.bool b1, .slice a1 len1 cap1] 25)).cell? ⟨w.heap.size + 1, 1, none⟩ = some (.slice a1 len1 cap1) := by simp [go_sem]
  have ql : w.heap.size + 1 < ((w.alloc (.cells #[.bool b0, .slice a0 len0 cap0] 25)).alloc (.cells #[.bool b1, .slice a1 len1 cap1] 25)).heap.size := by simp <;> omega
  generalize (w.alloc (.cells #[.bool b0, .slice a0 len0 cap0] 25)).alloc (.cells #[.bool b1, .slice a1 len1 cap1] 25) = v1 at *
  have qq : Below v1.heap.size v1 v1.drew := below_drewN (Below.refl _ v1) 1
  go_region_held3 (fun w' => w'.cell? ⟨w.heap.size, 0, none⟩ = some (.bool b0) ∧ w'.cell? ⟨w.heap.size, 1, none⟩ = some (.slice a0 len0 cap0) ∧ w'.cell? ⟨w.heap.size + 1, 0, none⟩ = some (.bool b1) ∧ w'.cell? ⟨w.heap.size + 1, 1, none⟩ = some (.slice a1 len1 cap1))
    (first | with_reducible exact ⟨(qq.cell (p := ⟨w.heap.size, 0, none⟩) pl).trans p0, (qq.cell (p := ⟨w.heap.size, 1, none⟩) pl).trans p1, (qq.cell (p := ⟨w.heap.size + 1, 0, none⟩) ql).trans q0, (qq.cell (p := ⟨w.heap.size + 1, 1, none⟩) ql).trans q1⟩ | go_keep)
    (first
      | (go_at_call 9; (with_reducible refine (GA _ (cc.trans (qq.mono cc.size))).mono ?_); rintro e wz ⟨rfl, q⟩; replace qq := qq.trans (q.mono qq.size); (try replace ga := ga.on q); (try replace gb := gb.on q); clear q)
      | (go_at_call 10; (with_reducible refine (GB _ (cc.trans (qq.mono cc.size))).mono ?_); rintro e wz ⟨rfl, q⟩; replace qq := qq.trans (q.mono qq.size); (try replace ga := ga.on q); (try replace gb := gb.on q); clear q)
      | (go_at_call 12; (with_reducible refine (zof_N _ n hI).mono ?_); rintro e wz ⟨bga, Aga, nga, cga, rfl, ga, q⟩; replace qq := qq.trans (q.mono qq.size); (try replace gb := gb.on q); clear q)
      | (go_at_call 13; (with_reducible refine (rzof_N _ n hI).mono ?_); rintro e wz ⟨bgb, Agb, ngb, cgb, rfl, gb, q⟩; replace qq := qq.trans (q.mono qq.size); (try replace ga := ga.on q); clear q)
      | (go_at_call 11; (with_reducible refine (zsame_self ga gb hn).mono ?_); rintro e wz ⟨rfl, q⟩; replace qq := qq.trans (q.mono qq.size); (try replace ga := ga.on q); (try replace gb := gb.on q); clear q))
  replace p0 := (qq.cell (p := ⟨w.heap.size, 0, none⟩) pl).trans p0
  replace p1 := (qq.cell (p := ⟨w.heap.size, 1, none⟩) pl).trans p1
  replace pl := Nat.lt_of_lt_of_le pl qq.size
  replace q0 := (qq.cell (p := ⟨w.heap.size + 1, 0, none⟩) ql).trans q0
  replace q1 := (qq.cell (p := ⟨w.heap.size + 1, 1, none⟩) ql).trans q1
  replace ql := Nat.lt_of_lt_of_le ql qq.size
  replace cc := cc.trans (qq.mono cc.size)
  clear qq
  go_wp2_with fail
  refine (GB _ cc).mono ?_
  rintro e w7 ⟨rfl, b⟩
  replace p0 := (b.cell (p := ⟨w.heap.size, 0, none⟩) pl).trans p0
  replace p1 := (b.cell (p := ⟨w.heap.size, 1, none⟩) pl).trans p1
  replace pl := Nat.lt_of_lt_of_le pl b.size
  replace q0 := (b.cell (p := ⟨w.heap.size + 1, 0, none⟩) ql).trans q0
  replace q1 := (b.cell (p := ⟨w.heap.size + 1, 1, none⟩) ql).trans q1
  replace ql := Nat.lt_of_lt_of_le ql b.size
  replace cc := cc.trans (b.mono cc.size)
  clear b
  go_wp2_with fail
  refine (GC _ cc).mono ?_
  rintro e w8 ⟨rfl, b⟩
  replace p0 := (b.cell (p := ⟨w.heap.size, 0, none⟩) pl).trans p0
  replace p1 := (b.cell (p := ⟨w.heap.size, 1, none⟩) pl).trans p1
  replace pl := Nat.lt_of_lt_of_le pl b.size
  replace q0 := (b.cell (p := ⟨w.heap.size + 1, 0, none⟩) ql).trans q0
  replace q1 := (b.cell (p := ⟨w.heap.size + 1, 1, none⟩) ql).trans q1
  replace ql := Nat.lt_of_lt_of_le ql b.size
  replace cc := cc.trans (b.mono cc.size)
  clear b
  go_wp2_with fail
  refine (alive_any _ (ht.on cc)).mono ?_
  rintro e w9 ⟨rfl, b⟩
  replace p0 := (b.cell (p := ⟨w.heap.size, 0, none⟩) pl).trans p0
  replace p1 := (b.cell (p := ⟨w.heap.size, 1, none⟩) pl).trans p1
  replace pl := Nat.lt_of_lt_of_le pl b.size
  replace q0 := (b.cell (p := ⟨w.heap.size + 1, 0, none⟩) ql).trans q0
  replace q1 := (b.cell (p := ⟨w.heap.size + 1, 1, none⟩) ql).trans q1
  replace ql := Nat.lt_of_lt_of_le ql b.size
  replace cc := cc.trans (b.mono cc.size)
  clear b
  go_wp2_with fail
  go_ret
  exact ⟨rfl, cc⟩

set_option maxRecDepth 100000 in
set_option maxHeartbeats 8000000 in
theorem ZedTells_yes {w : World} {b0 b1 : Bool} {a0 a1 : Option Addr} {len0 cap0 len1 cap1 : Nat} {n : Int} (ht : Tab w) {z0 : Int} (h0 : Zn w b0 a0 len0 cap0 z0) {z1 : Int} (h1 : Zn w b1 a1 len1 cap1 z1) (l0 : (limbs z0.natAbs).length ≤ 10) (l1 : (limbs z1.natAbs).length ≤ 10) (hl : ¬ 10 < len0) (hm : ¬ 10 < len1) (hI : I64 n) (hz : I64 z0) (GA : ∀ W : World, Below w.heap.size w W → Calls Tryd.prog 9 #[.agg #[.bool b0, .slice a0 len0 cap0]] W (GotV W (.bool true))) (GB : ∀ W : World, Below w.heap.size w W → Calls Tryd.prog 10 #[.agg #[.bool b0, .slice a0 len0 cap0]] W (GotV W (.bool true))) (GC : ∀ W : World, Below w.heap.size w W → Calls Tryd.prog 10 #[.agg #[.bool b1, .slice a1 len1 cap1]] W (GotV W (.bool true))) :
    Calls Tryd.prog 3 #[.agg #[.bool b0, .slice a0 len0 cap0], .agg #[.bool b1, .slice a1 len1 cap1], .int .i64 n] w fun e w' => e = .returned (.bool true) ∧ Below w.heap.size w w' := by
  have k0 : (limbs z0.natAbs).length ≤ 300 := by omega
  have k1 : (limbs z1.natAbs).length ≤ 300 := by omega
  have s01 : (limbs (z0 + z1).natAbs).length ≤ 300 := Nat.le_trans (zlen_add (k := 10) l0 l1) (by omega)
  have p01 : (limbs (z0 * z1).natAbs).length ≤ 300 := Nat.le_trans (zlen_mul l0 l1) (by omega)
  have g0 : (limbs (-z0).natAbs).length ≤ 300 := Nat.le_trans (zlen_neg l0) (by omega)
  have cc := Below.refl w.heap.size w
  have hi : ¬ (10 : Int) < (len0 : Int) := by omega
  have hj : ¬ (10 : Int) < (len1 : Int) := by omega
  have hn := len_z hI.abs
  go_enter Tryd.func3, Tryd.ntmps3
  go_wp2_with fail
  have bA : Below w.heap.size w ((w.alloc (.cells #[.bool b0, .slice a0 len0 cap0] 25)).alloc (.cells #[.bool b1, .slice a1 len1 cap1] 25)) := (((Below.refl _ w).alloc (by simp) _).alloc (by simp) _)
  replace h0 := h0.on bA
  replace h1 := h1.on bA
  replace cc := cc.trans (bA.mono cc.size)
  clear bA
  have p0 : ((w.alloc (.cells #[.bool b0, .slice a0 len0 cap0] 25)).alloc (.cells #[.bool b1, .slice a1 len1 cap1] 25)).cell? ⟨w.heap.size, 0, none⟩ = some (.bool b0) := by simp [go_sem]
  have p1 : ((w.alloc (.cells #[.bool b0, .slice a0 len0 cap0] 25)).alloc (.cells #[.bool b1, .slice a1 len1 cap1] 25)).cell? ⟨w.heap.size, 1, none⟩ = some (.slice a0 len0 cap0) := by simp [go_sem]
  have pl : w.heap.size < ((w.alloc (.cells #[.bool b0, .slice a0 len0 cap0] 25)).alloc (.cells #[.bool b1, .slice a1 len1 cap1] 25)).heap.size := by simp <;> omega
  have q0 : ((w.alloc (.cells #[.bool b0, .slice a0 len0 cap0] 25)).alloc (.cells #[.bool b1, .slice a1 len1 cap1] 25)).cell? ⟨w.heap.size + 1, 0, none⟩ = some (.bool b1) := by simp [go_sem]
  have q1 : ((w.alloc (.cells #[.bool b0, .slice a0 len0 cap0] 25)).alloc (.cells #[.bool b1, .slice a1 len1 cap1] 25)).cell? ⟨w.heap.size + 1, 1, none⟩ = some (.slice a1 len1 cap1) := by simp [go_sem]
  have ql : w.heap.size + 1 < ((w.alloc (.cells #[.bool b0, .slice a0 len0 cap0] 25)).alloc (.cells #[.bool b1, .slice a1 len1 cap1] 25)).heap.size := by simp <;> omega
  generalize (w.alloc (.cells #[.bool b0, .slice a0 len0 cap0] 25)).alloc (.cells #[.bool b1, .slice a1 len1 cap1] 25) = v1 at *
  have qq : Below v1.heap.size v1 v1.drew := below_drewN (Below.refl _ v1) 1
  have h0' := h0.on qq
  have h1' := h1.on qq
  go_region_held3 (fun w' => w'.cell? ⟨w.heap.size, 0, none⟩ = some (.bool b0) ∧ w'.cell? ⟨w.heap.size, 1, none⟩ = some (.slice a0 len0 cap0) ∧ w'.cell? ⟨w.heap.size + 1, 0, none⟩ = some (.bool b1) ∧ w'.cell? ⟨w.heap.size + 1, 1, none⟩ = some (.slice a1 len1 cap1))
    (first | with_reducible exact ⟨(qq.cell (p := ⟨w.heap.size, 0, none⟩) pl).trans p0, (qq.cell (p := ⟨w.heap.size, 1, none⟩) pl).trans p1, (qq.cell (p := ⟨w.heap.size + 1, 0, none⟩) ql).trans q0, (qq.cell (p := ⟨w.heap.size + 1, 1, none⟩) ql).trans q1⟩ | go_keep)
    (first
      | (go_at_call 9; (with_reducible refine (GA _ (cc.trans (qq.mono cc.size))).mono ?_); rintro e wz ⟨rfl, q⟩; replace qq := qq.trans (q.mono qq.size); (try replace h0' := h0'.on q); (try replace h1' := h1'.on q); (try replace ga := ga.on q); (try replace gb := gb.on q); clear q)
      | (go_at_call 10; (with_reducible refine (GB _ (cc.trans (qq.mono cc.size))).mono ?_); rintro e wz ⟨rfl, q⟩; replace qq := qq.trans (q.mono qq.size); (try replace h0' := h0'.on q); (try replace h1' := h1'.on q); (try replace ga := ga.on q); (try replace gb := gb.on q); clear q)
      | (go_at_call 12; (with_reducible refine (zof_N _ n hI).mono ?_); rintro e wz ⟨bga, Aga, nga, cga, rfl, ga, q⟩; replace qq := qq.trans (q.mono qq.size); (try replace h0' := h0'.on q); (try replace h1' := h1'.on q); (try replace gb := gb.on q); clear q)
      | (go_at_call 13; (with_reducible refine (rzof_N _ n hI).mono ?_); rintro e wz ⟨bgb, Agb, ngb, cgb, rfl, gb, q⟩; replace qq := qq.trans (q.mono qq.size); (try replace h0' := h0'.on q); (try replace h1' := h1'.on q); (try replace ga := ga.on q); clear q)
      | (go_at_call 11; (with_reducible refine (zsame_self ga gb hn).mono ?_); rintro e wz ⟨rfl, q⟩; replace qq := qq.trans (q.mono qq.size); (try replace h0' := h0'.on q); (try replace h1' := h1'.on q); (try replace ga := ga.on q); (try replace gb := gb.on q); clear q))
  clear h0
  have h0 := h0'
  clear h0'
  clear h1
  have h1 := h1'
  clear h1'
  replace p0 := (qq.cell (p := ⟨w.heap.size, 0, none⟩) pl).trans p0
  replace p1 := (qq.cell (p := ⟨w.heap.size, 1, none⟩) pl).trans p1
  replace pl := Nat.lt_of_lt_of_le pl qq.size
  replace q0 := (qq.cell (p := ⟨w.heap.size + 1, 0, none⟩) ql).trans q0
  replace q1 := (qq.cell (p := ⟨w.heap.size + 1, 1, none⟩) ql).trans q1
  replace ql := Nat.lt_of_lt_of_le ql qq.size
  replace cc := cc.trans (qq.mono cc.size)
  clear qq
  go_wp2_with fail
  refine (GB _ cc).mono ?_
  rintro e w7 ⟨rfl, b⟩
  replace h0 := h0.on b
  replace h1 := h1.on b
  replace p0 := (b.cell (p := ⟨w.heap.size, 0, none⟩) pl).trans p0
  replace p1 := (b.cell (p := ⟨w.heap.size, 1, none⟩) pl).trans p1
  replace pl := Nat.lt_of_lt_of_le pl b.size
  replace q0 := (b.cell (p := ⟨w.heap.size + 1, 0, none⟩) ql).trans q0
  replace q1 := (b.cell (p := ⟨w.heap.size + 1, 1, none⟩) ql).trans q1
  replace ql := Nat.lt_of_lt_of_le ql b.size
  replace cc := cc.trans (b.mono cc.size)
  clear b
  go_wp2_with fail
  refine (GC _ cc).mono ?_
  rintro e w8 ⟨rfl, b⟩
  replace h0 := h0.on b
  replace h1 := h1.on b
  replace p0 := (b.cell (p := ⟨w.heap.size, 0, none⟩) pl).trans p0
  replace p1 := (b.cell (p := ⟨w.heap.size, 1, none⟩) pl).trans p1
  replace pl := Nat.lt_of_lt_of_le pl b.size
  replace q0 := (b.cell (p := ⟨w.heap.size + 1, 0, none⟩) ql).trans q0
  replace q1 := (b.cell (p := ⟨w.heap.size + 1, 1, none⟩) ql).trans q1
  replace ql := Nat.lt_of_lt_of_le ql b.size
  replace cc := cc.trans (b.mono cc.size)
  clear b
  go_wp2_with fail
  refine (zint_yes h0 hz).mono ?_
  rintro e w9 ⟨rfl, b⟩
  replace h0 := h0.on b
  replace h1 := h1.on b
  replace p0 := (b.cell (p := ⟨w.heap.size, 0, none⟩) pl).trans p0
  replace p1 := (b.cell (p := ⟨w.heap.size, 1, none⟩) pl).trans p1
  replace pl := Nat.lt_of_lt_of_le pl b.size
  replace q0 := (b.cell (p := ⟨w.heap.size + 1, 0, none⟩) ql).trans q0
  replace q1 := (b.cell (p := ⟨w.heap.size + 1, 1, none⟩) ql).trans q1
  replace ql := Nat.lt_of_lt_of_le ql b.size
  replace cc := cc.trans (b.mono cc.size)
  clear b
  go_wp2_with fail
  refine (rzint_yes h0 hz).mono ?_
  rintro e w10 ⟨rfl, b⟩
  replace h0 := h0.on b
  replace h1 := h1.on b
  replace p0 := (b.cell (p := ⟨w.heap.size, 0, none⟩) pl).trans p0
  replace p1 := (b.cell (p := ⟨w.heap.size, 1, none⟩) pl).trans p1
  replace pl := Nat.lt_of_lt_of_le pl b.size
  replace q0 := (b.cell (p := ⟨w.heap.size + 1, 0, none⟩) ql).trans q0
  replace q1 := (b.cell (p := ⟨w.heap.size + 1, 1, none⟩) ql).trans q1
  replace ql := Nat.lt_of_lt_of_le ql b.size
  replace cc := cc.trans (b.mono cc.size)
  clear b
  go_wp2_with fail
  have qq : Below w10.heap.size w10 w10.drew := below_drewN (Below.refl _ w10) 1
  have h0' := h0.on qq
  have h1' := h1.on qq
  go_region_held3 (fun w' => w'.cell? ⟨w.heap.size, 0, none⟩ = some (.bool b0) ∧ w'.cell? ⟨w.heap.size, 1, none⟩ = some (.slice a0 len0 cap0) ∧ w'.cell? ⟨w.heap.size + 1, 0, none⟩ = some (.bool b1) ∧ w'.cell? ⟨w.heap.size + 1, 1, none⟩ = some (.slice a1 len1 cap1))
    (first | with_reducible exact ⟨(qq.cell (p := ⟨w.heap.size, 0, none⟩) pl).trans p0, (qq.cell (p := ⟨w.heap.size, 1, none⟩) pl).trans p1, (qq.cell (p := ⟨w.heap.size + 1, 0, none⟩) ql).trans q0, (qq.cell (p := ⟨w.heap.size + 1, 1, none⟩) ql).trans q1⟩ | go_keep)
    (first
      | (go_at_call 16; (with_reducible refine (zadd_N h0' h1' k0 k1).mono ?_); rintro e wz ⟨bga, Aga, nga, cga, rfl, ga, q⟩; replace qq := qq.trans (q.mono qq.size); (try replace h0' := h0'.on q); (try replace h1' := h1'.on q); (try replace gb := gb.on q); (try replace gc := gc.on q); (try replace gd := gd.on q); (try replace ge := ge.on q); (try replace gf := gf.on q); clear q)
      | (go_at_call 17; (with_reducible refine (rzadd_N h0' h1' (Nat.le_trans k0 (by omega)) (Nat.le_trans k1 (by omega))).mono ?_); rintro e wz ⟨bgb, Agb, ngb, cgb, rfl, gb, q⟩; replace qq := qq.trans (q.mono qq.size); (try replace h0' := h0'.on q); (try replace h1' := h1'.on q); (try replace ga := ga.on q); (try replace gc := gc.on q); (try replace gd := gd.on q); (try replace ge := ge.on q); (try replace gf := gf.on q); clear q)
      | (go_at_call 11; (with_reducible refine (zsame_self ga gb s01).mono ?_); rintro e wz ⟨rfl, q⟩; replace qq := qq.trans (q.mono qq.size); (try replace h0' := h0'.on q); (try replace h1' := h1'.on q); (try replace ga := ga.on q); (try replace gb := gb.on q); (try replace gc := gc.on q); (try replace gd := gd.on q); (try replace ge := ge.on q); (try replace gf := gf.on q); clear q)
      | (go_at_call 18; (with_reducible refine (zmul_N h0' h1' (Nat.le_trans k0 (by omega)) (Nat.le_trans k1 (by omega))).mono ?_); rintro e wz ⟨bgc, Agc, ngc, cgc, rfl, gc, q⟩; replace qq := qq.trans (q.mono qq.size); (try replace h0' := h0'.on q); (try replace h1' := h1'.on q); (try replace ga := ga.on q); (try replace gb := gb.on q); (try replace gd := gd.on q); (try replace ge := ge.on q); (try replace gf := gf.on q); clear q)
      | (go_at_call 19; (with_reducible refine (rzmul_N h0' h1' (Nat.le_trans k0 (by omega)) (Nat.le_trans k1 (by omega))).mono ?_); rintro e wz ⟨bgd, Agd, ngd, cgd, rfl, gd, q⟩; replace qq := qq.trans (q.mono qq.size); (try replace h0' := h0'.on q); (try replace h1' := h1'.on q); (try replace ga := ga.on q); (try replace gb := gb.on q); (try replace gc := gc.on q); (try replace ge := ge.on q); (try replace gf := gf.on q); clear q)
      | (go_at_call 11; (with_reducible refine (zsame_self gc gd p01).mono ?_); rintro e wz ⟨rfl, q⟩; replace qq := qq.trans (q.mono qq.size); (try replace h0' := h0'.on q); (try replace h1' := h1'.on q); (try replace ga := ga.on q); (try replace gb := gb.on q); (try replace gc := gc.on q); (try replace gd := gd.on q); (try replace ge := ge.on q); (try replace gf := gf.on q); clear q)
      | (go_at_call 20; (with_reducible refine (zneg_N h0' k0).mono ?_); rintro e wz ⟨bge, Age, nge, cge, rfl, ge, q⟩; replace qq := qq.trans (q.mono qq.size); (try replace h0' := h0'.on q); (try replace h1' := h1'.on q); (try replace ga := ga.on q); (try replace gb := gb.on q); (try replace gc := gc.on q); (try replace gd := gd.on q); (try replace gf := gf.on q); clear q)
      | (go_at_call 21; (with_reducible refine (rzneg_N h0' (Nat.le_trans k0 (by omega))).mono ?_); rintro e wz ⟨bgf, Agf, ngf, cgf, rfl, gf, q⟩; replace qq := qq.trans (q.mono qq.size); (try replace h0' := h0'.on q); (try replace h1' := h1'.on q); (try replace ga := ga.on q); (try replace gb := gb.on q); (try replace gc := gc.on q); (try replace gd := gd.on q); (try replace ge := ge.on q); clear q)
      | (go_at_call 11; (with_reducible refine (zsame_self ge gf g0).mono ?_); rintro e wz ⟨rfl, q⟩; replace qq := qq.trans (q.mono qq.size); (try replace h0' := h0'.on q); (try replace h1' := h1'.on q); (try replace ga := ga.on q); (try replace gb := gb.on q); (try replace gc := gc.on q); (try replace gd := gd.on q); (try replace ge := ge.on q); (try replace gf := gf.on q); clear q))
  clear h0
  have h0 := h0'
  clear h0'
  clear h1
  have h1 := h1'
  clear h1'
  replace p0 := (qq.cell (p := ⟨w.heap.size, 0, none⟩) pl).trans p0
  replace p1 := (qq.cell (p := ⟨w.heap.size, 1, none⟩) pl).trans p1
  replace pl := Nat.lt_of_lt_of_le pl qq.size
  replace q0 := (qq.cell (p := ⟨w.heap.size + 1, 0, none⟩) ql).trans q0
  replace q1 := (qq.cell (p := ⟨w.heap.size + 1, 1, none⟩) ql).trans q1
  replace ql := Nat.lt_of_lt_of_le ql qq.size
  replace cc := cc.trans (qq.mono cc.size)
  clear qq
  go_wp2_with fail
  have qq : Below wz.heap.size wz wz.drew := below_drewN (Below.refl _ wz) 1
  have h0' := h0.on qq
  have h1' := h1.on qq
  have hT := (ht.on cc).on qq
  go_region_held3 (fun w' => w'.cell? ⟨w.heap.size, 0, none⟩ = some (.bool b0) ∧ w'.cell? ⟨w.heap.size, 1, none⟩ = some (.slice a0 len0 cap0) ∧ w'.cell? ⟨w.heap.size + 1, 0, none⟩ = some (.bool b1) ∧ w'.cell? ⟨w.heap.size + 1, 1, none⟩ = some (.slice a1 len1 cap1))
    (first | with_reducible exact ⟨(qq.cell (p := ⟨w.heap.size, 0, none⟩) pl).trans p0, (qq.cell (p := ⟨w.heap.size, 1, none⟩) pl).trans p1, (qq.cell (p := ⟨w.heap.size + 1, 0, none⟩) ql).trans q0, (qq.cell (p := ⟨w.heap.size + 1, 1, none⟩) ql).trans q1⟩ | go_keep)
    (first
      | (go_at_call 8; (with_reducible refine (alive_any _ hT).mono ?_); rintro e wz ⟨rfl, q⟩; replace qq := qq.trans (q.mono qq.size); (try replace h0' := h0'.on q); (try replace h1' := h1'.on q); (try replace hT := hT.on q); clear q)
      | (go_at_call 22; (with_reducible refine (zcmp_N h0' h1' k0 k1).mono ?_); rintro e wz ⟨rfl, q⟩; replace qq := qq.trans (q.mono qq.size); (try replace h0' := h0'.on q); (try replace h1' := h1'.on q); (try replace hT := hT.on q); clear q)
      | (go_at_call 23; (with_reducible refine (rzcmp_N h0' h1' (Nat.le_trans k0 (by omega)) (Nat.le_trans k1 (by omega))).mono ?_); rintro e wz ⟨rfl, q⟩; replace qq := qq.trans (q.mono qq.size); (try replace h0' := h0'.on q); (try replace h1' := h1'.on q); (try replace hT := hT.on q); clear q))
  clear h0
  have h0 := h0'
  clear h0'
  clear h1
  have h1 := h1'
  clear h1'
  replace p0 := (qq.cell (p := ⟨w.heap.size, 0, none⟩) pl).trans p0
  replace p1 := (qq.cell (p := ⟨w.heap.size, 1, none⟩) pl).trans p1
  replace pl := Nat.lt_of_lt_of_le pl qq.size
  replace q0 := (qq.cell (p := ⟨w.heap.size + 1, 0, none⟩) ql).trans q0
  replace q1 := (qq.cell (p := ⟨w.heap.size + 1, 1, none⟩) ql).trans q1
  replace ql := Nat.lt_of_lt_of_le ql qq.size
  replace cc := cc.trans (qq.mono cc.size)
  clear qq
  go_wp2_with fail
  go_ret
  exact ⟨rfl, cc⟩

set_option maxRecDepth 100000 in
set_option maxHeartbeats 8000000 in
theorem ZedTells_great {w : World} {b0 b1 : Bool} {a0 a1 : Option Addr} {len0 cap0 len1 cap1 : Nat} {n : Int} (ht : Tab w) {z0 : Int} (h0 : Zn w b0 a0 len0 cap0 z0) {z1 : Int} (h1 : Zn w b1 a1 len1 cap1 z1) (l0 : (limbs z0.natAbs).length ≤ 10) (l1 : (limbs z1.natAbs).length ≤ 10) (hl : ¬ 10 < len0) (hm : ¬ 10 < len1) (hI : I64 n) (hz : ¬ I64 z0) (GA : ∀ W : World, Below w.heap.size w W → Calls Tryd.prog 9 #[.agg #[.bool b0, .slice a0 len0 cap0]] W (GotV W (.bool true))) (GB : ∀ W : World, Below w.heap.size w W → Calls Tryd.prog 10 #[.agg #[.bool b0, .slice a0 len0 cap0]] W (GotV W (.bool true))) (GC : ∀ W : World, Below w.heap.size w W → Calls Tryd.prog 10 #[.agg #[.bool b1, .slice a1 len1 cap1]] W (GotV W (.bool true))) :
    Calls Tryd.prog 3 #[.agg #[.bool b0, .slice a0 len0 cap0], .agg #[.bool b1, .slice a1 len1 cap1], .int .i64 n] w fun e w' => e = .returned (.bool true) ∧ Below w.heap.size w w' := by
  have k0 : (limbs z0.natAbs).length ≤ 300 := by omega
  have k1 : (limbs z1.natAbs).length ≤ 300 := by omega
  have s01 : (limbs (z0 + z1).natAbs).length ≤ 300 := Nat.le_trans (zlen_add (k := 10) l0 l1) (by omega)
  have p01 : (limbs (z0 * z1).natAbs).length ≤ 300 := Nat.le_trans (zlen_mul l0 l1) (by omega)
  have g0 : (limbs (-z0).natAbs).length ≤ 300 := Nat.le_trans (zlen_neg l0) (by omega)
  have cc := Below.refl w.heap.size w
  have hi : ¬ (10 : Int) < (len0 : Int) := by omega
  have hj : ¬ (10 : Int) < (len1 : Int) := by omega
  have hn := len_z hI.abs
  go_enter Tryd.func3, Tryd.ntmps3
  go_wp2_with fail
  have bA : Below w.heap.size w ((w.alloc (.cells #[.bool b0, .slice a0 len0 cap0] 25)).alloc (.cells #[.bool b1, .slice a1 len1 cap1] 25)) := (((Below.refl _ w).alloc (by simp) _).alloc (by simp) _)
  replace h0 := h0.on bA
  replace h1 := h1.on bA
  replace cc := cc.trans (bA.mono cc.size)
  clear bA
  have p0 : ((w.alloc (.cells #[.bool b0, .slice a0 len0 cap0] 25)).alloc (.cells #[.bool b1, .slice a1 len1 cap1] 25)).cell? ⟨w.heap.size, 0, none⟩ = some (.bool b0) := by simp [go_sem]
  have p1 : ((w.alloc (.cells #[.bool b0, .slice a0 len0 cap0] 25)).alloc (.cells #[.bool b1, .slice a1 len1 cap1] 25)).cell? ⟨w.heap.size, 1, none⟩ = some (.slice a0 len0 cap0) := by simp [go_sem]
  have pl : w.heap.size < ((w.alloc (.cells #[.bool b0, .slice a0 len0 cap0] 25)).alloc (.cells #[.bool b1, .slice a1 len1 cap1] 25)).heap.size := by simp <;> omega
  have q0 : ((w.alloc (.cells #[.bool b0, .slice a0 len0 cap0] 25)).alloc (.cells #[.bool b1, .slice a1 len1 cap1] 25)).cell? ⟨w.heap.size + 1, 0, none⟩ = some (.bool b1) := by simp [go_sem]
  have q1 : ((w.alloc (.cells #[.bool b0, .slice a0 len0 cap0] 25)).alloc (.cells #[.bool b1, .slice a1 len1 cap1] 25)).cell? ⟨w.heap.size + 1, 1, none⟩ = some (.slice a1 len1 cap1) := by simp [go_sem]
  have ql : w.heap.size + 1 < ((w.alloc (.cells #[.bool b0, .slice a0 len0 cap0] 25)).alloc (.cells #[.bool b1, .slice a1 len1 cap1] 25)).heap.size := by simp <;> omega
  generalize (w.alloc (.cells #[.bool b0, .slice a0 len0 cap0] 25)).alloc (.cells #[.bool b1, .slice a1 len1 cap1] 25) = v1 at *
  have qq : Below v1.heap.size v1 v1.drew := below_drewN (Below.refl _ v1) 1
  have h0' := h0.on qq
  have h1' := h1.on qq
  go_region_held3 (fun w' => w'.cell? ⟨w.heap.size, 0, none⟩ = some (.bool b0) ∧ w'.cell? ⟨w.heap.size, 1, none⟩ = some (.slice a0 len0 cap0) ∧ w'.cell? ⟨w.heap.size + 1, 0, none⟩ = some (.bool b1) ∧ w'.cell? ⟨w.heap.size + 1, 1, none⟩ = some (.slice a1 len1 cap1))
    (first | with_reducible exact ⟨(qq.cell (p := ⟨w.heap.size, 0, none⟩) pl).trans p0, (qq.cell (p := ⟨w.heap.size, 1, none⟩) pl).trans p1, (qq.cell (p := ⟨w.heap.size + 1, 0, none⟩) ql).trans q0, (qq.cell (p := ⟨w.heap.size + 1, 1, none⟩) ql).trans q1⟩ | go_keep)
    (first
      | (go_at_call 9; (with_reducible refine (GA _ (cc.trans (qq.mono cc.size))).mono ?_); rintro e wz ⟨rfl, q⟩; replace qq := qq.trans (q.mono qq.size); (try replace h0' := h0'.on q); (try replace h1' := h1'.on q); (try replace ga := ga.on q); (try replace gb := gb.on q); clear q)
      | (go_at_call 10; (with_reducible refine (GB _ (cc.trans (qq.mono cc.size))).mono ?_); rintro e wz ⟨rfl, q⟩; replace qq := qq.trans (q.mono qq.size); (try replace h0' := h0'.on q); (try replace h1' := h1'.on q); (try replace ga := ga.on q); (try replace gb := gb.on q); clear q)
      | (go_at_call 12; (with_reducible refine (zof_N _ n hI).mono ?_); rintro e wz ⟨bga, Aga, nga, cga, rfl, ga, q⟩; replace qq := qq.trans (q.mono qq.size); (try replace h0' := h0'.on q); (try replace h1' := h1'.on q); (try replace gb := gb.on q); clear q)
      | (go_at_call 13; (with_reducible refine (rzof_N _ n hI).mono ?_); rintro e wz ⟨bgb, Agb, ngb, cgb, rfl, gb, q⟩; replace qq := qq.trans (q.mono qq.size); (try replace h0' := h0'.on q); (try replace h1' := h1'.on q); (try replace ga := ga.on q); clear q)
      | (go_at_call 11; (with_reducible refine (zsame_self ga gb hn).mono ?_); rintro e wz ⟨rfl, q⟩; replace qq := qq.trans (q.mono qq.size); (try replace h0' := h0'.on q); (try replace h1' := h1'.on q); (try replace ga := ga.on q); (try replace gb := gb.on q); clear q))
  clear h0
  have h0 := h0'
  clear h0'
  clear h1
  have h1 := h1'
  clear h1'
  replace p0 := (qq.cell (p := ⟨w.heap.size, 0, none⟩) pl).trans p0
  replace p1 := (qq.cell (p := ⟨w.heap.size, 1, none⟩) pl).trans p1
  replace pl := Nat.lt_of_lt_of_le pl qq.size
  replace q0 := (qq.cell (p := ⟨w.heap.size + 1, 0, none⟩) ql).trans q0
  replace q1 := (qq.cell (p := ⟨w.heap.size + 1, 1, none⟩) ql).trans q1
  replace ql := Nat.lt_of_lt_of_le ql qq.size
  replace cc := cc.trans (qq.mono cc.size)
  clear qq
  go_wp2_with fail
  refine (GB _ cc).mono ?_
  rintro e w7 ⟨rfl, b⟩
  replace h0 := h0.on b
  replace h1 := h1.on b
  replace p0 := (b.cell (p := ⟨w.heap.size, 0, none⟩) pl).trans p0
  replace p1 := (b.cell (p := ⟨w.heap.size, 1, none⟩) pl).trans p1
  replace pl := Nat.lt_of_lt_of_le pl b.size
  replace q0 := (b.cell (p := ⟨w.heap.size + 1, 0, none⟩) ql).trans q0
  replace q1 := (b.cell (p := ⟨w.heap.size + 1, 1, none⟩) ql).trans q1
  replace ql := Nat.lt_of_lt_of_le ql b.size
  replace cc := cc.trans (b.mono cc.size)
  clear b
  go_wp2_with fail
  refine (GC _ cc).mono ?_
  rintro e w8 ⟨rfl, b⟩
  replace h0 := h0.on b
  replace h1 := h1.on b
  replace p0 := (b.cell (p := ⟨w.heap.size, 0, none⟩) pl).trans p0
  replace p1 := (b.cell (p := ⟨w.heap.size, 1, none⟩) pl).trans p1
  replace pl := Nat.lt_of_lt_of_le pl b.size
  replace q0 := (b.cell (p := ⟨w.heap.size + 1, 0, none⟩) ql).trans q0
  replace q1 := (b.cell (p := ⟨w.heap.size + 1, 1, none⟩) ql).trans q1
  replace ql := Nat.lt_of_lt_of_le ql b.size
  replace cc := cc.trans (b.mono cc.size)
  clear b
  go_wp2_with fail
  refine (zint_no h0 k0 hz).mono ?_
  rintro e w9 ⟨rfl, b⟩
  replace h0 := h0.on b
  replace h1 := h1.on b
  replace p0 := (b.cell (p := ⟨w.heap.size, 0, none⟩) pl).trans p0
  replace p1 := (b.cell (p := ⟨w.heap.size, 1, none⟩) pl).trans p1
  replace pl := Nat.lt_of_lt_of_le pl b.size
  replace q0 := (b.cell (p := ⟨w.heap.size + 1, 0, none⟩) ql).trans q0
  replace q1 := (b.cell (p := ⟨w.heap.size + 1, 1, none⟩) ql).trans q1
  replace ql := Nat.lt_of_lt_of_le ql b.size
  replace cc := cc.trans (b.mono cc.size)
  clear b
  go_wp2_with fail
  refine (rzint_no h0 (Nat.le_trans k0 (by omega)) hz).mono ?_
  rintro e w10 ⟨rfl, b⟩
  replace h0 := h0.on b
  replace h1 := h1.on b
  replace p0 := (b.cell (p := ⟨w.heap.size, 0, none⟩) pl).trans p0
  replace p1 := (b.cell (p := ⟨w.heap.size, 1, none⟩) pl).trans p1
  replace pl := Nat.lt_of_lt_of_le pl b.size
  replace q0 := (b.cell (p := ⟨w.heap.size + 1, 0, none⟩) ql).trans q0
  replace q1 := (b.cell (p := ⟨w.heap.size + 1, 1, none⟩) ql).trans q1
  replace ql := Nat.lt_of_lt_of_le ql b.size
  replace cc := cc.trans (b.mono cc.size)
  clear b
  go_wp2_with fail
  have qq : Below w10.heap.size w10 w10.drew := below_drewN (Below.refl _ w10) 1
  have h0' := h0.on qq
  have h1' := h1.on qq
  go_region_held3 (fun w' => w'.cell? ⟨w.heap.size, 0, none⟩ = some (.bool b0) ∧ w'.cell? ⟨w.heap.size, 1, none⟩ = some (.slice a0 len0 cap0) ∧ w'.cell? ⟨w.heap.size + 1, 0, none⟩ = some (.bool b1) ∧ w'.cell? ⟨w.heap.size + 1, 1, none⟩ = some (.slice a1 len1 cap1))
    (first | with_reducible exact ⟨(qq.cell (p := ⟨w.heap.size, 0, none⟩) pl).trans p0, (qq.cell (p := ⟨w.heap.size, 1, none⟩) pl).trans p1, (qq.cell (p := ⟨w.heap.size + 1, 0, none⟩) ql).trans q0, (qq.cell (p := ⟨w.heap.size + 1, 1, none⟩) ql).trans q1⟩ | go_keep)
    (first
      | (go_at_call 16; (with_reducible refine (zadd_N h0' h1' k0 k1).mono ?_); rintro e wz ⟨bga, Aga, nga, cga, rfl, ga, q⟩; replace qq := qq.trans (q.mono qq.size); (try replace h0' := h0'.on q); (try replace h1' := h1'.on q); (try replace gb := gb.on q); (try replace gc := gc.on q); (try replace gd := gd.on q); (try replace ge := ge.on q); (try replace gf := gf.on q); clear q)
      | (go_at_call 17; (with_reducible refine (rzadd_N h0' h1' (Nat.le_trans k0 (by omega)) (Nat.le_trans k1 (by omega))).mono ?_); rintro e wz ⟨bgb, Agb, ngb, cgb, rfl, gb, q⟩; replace qq := qq.trans (q.mono qq.size); (try replace h0' := h0'.on q); (try replace h1' := h1'.on q); (try replace ga := ga.on q); (try replace gc := gc.on q); (try replace gd := gd.on q); (try replace ge := ge.on q); (try replace gf := gf.on q); clear q)
      | (go_at_call 11; (with_reducible refine (zsame_self ga gb s01).mono ?_); rintro e wz ⟨rfl, q⟩; replace qq := qq.trans (q.mono qq.size); (try replace h0' := h0'.on q); (try replace h1' := h1'.on q); (try replace ga := ga.on q); (try replace gb := gb.on q); (try replace gc := gc.on q); (try replace gd := gd.on q); (try replace ge := ge.on q); (try replace gf := gf.on q); clear q)
      | (go_at_call 18; (with_reducible refine (zmul_N h0' h1' (Nat.le_trans k0 (by omega)) (Nat.le_trans k1 (by omega))).mono ?_); rintro e wz ⟨bgc, Agc, ngc, cgc, rfl, gc, q⟩; replace qq := qq.trans (q.mono qq.size); (try replace h0' := h0'.on q); (try replace h1' := h1'.on q); (try replace ga := ga.on q); (try replace gb := gb.on q); (try replace gd := gd.on q); (try replace ge := ge.on q); (try replace gf := gf.on q); clear q)
      | (go_at_call 19; (with_reducible refine (rzmul_N h0' h1' (Nat.le_trans k0 (by omega)) (Nat.le_trans k1 (by omega))).mono ?_); rintro e wz ⟨bgd, Agd, ngd, cgd, rfl, gd, q⟩; replace qq := qq.trans (q.mono qq.size); (try replace h0' := h0'.on q); (try replace h1' := h1'.on q); (try replace ga := ga.on q); (try replace gb := gb.on q); (try replace gc := gc.on q); (try replace ge := ge.on q); (try replace gf := gf.on q); clear q)
      | (go_at_call 11; (with_reducible refine (zsame_self gc gd p01).mono ?_); rintro e wz ⟨rfl, q⟩; replace qq := qq.trans (q.mono qq.size); (try replace h0' := h0'.on q); (try replace h1' := h1'.on q); (try replace ga := ga.on q); (try replace gb := gb.on q); (try replace gc := gc.on q); (try replace gd := gd.on q); (try replace ge := ge.on q); (try replace gf := gf.on q); clear q)
      | (go_at_call 20; (with_reducible refine (zneg_N h0' k0).mono ?_); rintro e wz ⟨bge, Age, nge, cge, rfl, ge, q⟩; replace qq := qq.trans (q.mono qq.size); (try replace h0' := h0'.on q); (try replace h1' := h1'.on q); (try replace ga := ga.on q); (try replace gb := gb.on q); (try replace gc := gc.on q); (try replace gd := gd.on q); (try replace gf := gf.on q); clear q)
      | (go_at_call 21; (with_reducible refine (rzneg_N h0' (Nat.le_trans k0 (by omega))).mono ?_); rintro e wz ⟨bgf, Agf, ngf, cgf, rfl, gf, q⟩; replace qq := qq.trans (q.mono qq.size); (try replace h0' := h0'.on q); (try replace h1' := h1'.on q); (try replace ga := ga.on q); (try replace gb := gb.on q); (try replace gc := gc.on q); (try replace gd := gd.on q); (try replace ge := ge.on q); clear q)
      | (go_at_call 11; (with_reducible refine (zsame_self ge gf g0).mono ?_); rintro e wz ⟨rfl, q⟩; replace qq := qq.trans (q.mono qq.size); (try replace h0' := h0'.on q); (try replace h1' := h1'.on q); (try replace ga := ga.on q); (try replace gb := gb.on q); (try replace gc := gc.on q); (try replace gd := gd.on q); (try replace ge := ge.on q); (try replace gf := gf.on q); clear q))
  clear h0
  have h0 := h0'
  clear h0'
  clear h1
  have h1 := h1'
  clear h1'
  replace p0 := (qq.cell (p := ⟨w.heap.size, 0, none⟩) pl).trans p0
  replace p1 := (qq.cell (p := ⟨w.heap.size, 1, none⟩) pl).trans p1
  replace pl := Nat.lt_of_lt_of_le pl qq.size
  replace q0 := (qq.cell (p := ⟨w.heap.size + 1, 0, none⟩) ql).trans q0
  replace q1 := (qq.cell (p := ⟨w.heap.size + 1, 1, none⟩) ql).trans q1
  replace ql := Nat.lt_of_lt_of_le ql qq.size
  replace cc := cc.trans (qq.mono cc.size)
  clear qq
  go_wp2_with fail
  have qq : Below wz.heap.size wz wz.drew := below_drewN (Below.refl _ wz) 1
  have h0' := h0.on qq
  have h1' := h1.on qq
  have hT := (ht.on cc).on qq
  go_region_held3 (fun w' => w'.cell? ⟨w.heap.size, 0, none⟩ = some (.bool b0) ∧ w'.cell? ⟨w.heap.size, 1, none⟩ = some (.slice a0 len0 cap0) ∧ w'.cell? ⟨w.heap.size + 1, 0, none⟩ = some (.bool b1) ∧ w'.cell? ⟨w.heap.size + 1, 1, none⟩ = some (.slice a1 len1 cap1))
    (first | with_reducible exact ⟨(qq.cell (p := ⟨w.heap.size, 0, none⟩) pl).trans p0, (qq.cell (p := ⟨w.heap.size, 1, none⟩) pl).trans p1, (qq.cell (p := ⟨w.heap.size + 1, 0, none⟩) ql).trans q0, (qq.cell (p := ⟨w.heap.size + 1, 1, none⟩) ql).trans q1⟩ | go_keep)
    (first
      | (go_at_call 8; (with_reducible refine (alive_any _ hT).mono ?_); rintro e wz ⟨rfl, q⟩; replace qq := qq.trans (q.mono qq.size); (try replace h0' := h0'.on q); (try replace h1' := h1'.on q); (try replace hT := hT.on q); clear q)
      | (go_at_call 22; (with_reducible refine (zcmp_N h0' h1' k0 k1).mono ?_); rintro e wz ⟨rfl, q⟩; replace qq := qq.trans (q.mono qq.size); (try replace h0' := h0'.on q); (try replace h1' := h1'.on q); (try replace hT := hT.on q); clear q)
      | (go_at_call 23; (with_reducible refine (rzcmp_N h0' h1' (Nat.le_trans k0 (by omega)) (Nat.le_trans k1 (by omega))).mono ?_); rintro e wz ⟨rfl, q⟩; replace qq := qq.trans (q.mono qq.size); (try replace h0' := h0'.on q); (try replace h1' := h1'.on q); (try replace hT := hT.on q); clear q))
  clear h0
  have h0 := h0'
  clear h0'
  clear h1
  have h1 := h1'
  clear h1'
  replace p0 := (qq.cell (p := ⟨w.heap.size, 0, none⟩) pl).trans p0
  replace p1 := (qq.cell (p := ⟨w.heap.size, 1, none⟩) pl).trans p1
  replace pl := Nat.lt_of_lt_of_le pl qq.size
  replace q0 := (qq.cell (p := ⟨w.heap.size + 1, 0, none⟩) ql).trans q0
  replace q1 := (qq.cell (p := ⟨w.heap.size + 1, 1, none⟩) ql).trans q1
  replace ql := Nat.lt_of_lt_of_le ql qq.size
  replace cc := cc.trans (qq.mono cc.size)
  clear qq
  go_wp2_with fail
  go_ret
  exact ⟨rfl, cc⟩

end Go.Proofs.YtdaohhbdhmmihaaDoor

/-
  The walk of ZedTells.
-/
namespace Go.Proofs.YtdaohhbdhmmihaaDoor
open Go.RowKit
set_option linter.unusedVariables false

theorem ZedTells_walk {w : World} (ht : Tab w) (b0 : Bool) {a0 : Option Addr} {len0 cap0 : Nat} {l0 : List Nat} (hl0 : Lim w.heap.size w a0 len0 cap0 l0) (hs0 : len0 ≤ 9223372036854775807) (b1 : Bool) {a1 : Option Addr} {len1 cap1 : Nat} {l1 : List Nat} (hl1 : Lim w.heap.size w a1 len1 cap1 l1) (hs1 : len1 ≤ 9223372036854775807) (n : Int) (hn : (Lit.int .i64 n).wf = true) :
    Calls Tryd.prog 3 #[.agg #[.bool b0, .slice a0 len0 cap0], .agg #[.bool b1, .slice a1 len1 cap1], .int .i64 n] w fun e w' => e = .returned (.bool true) ∧ Below w.heap.size w w' := by
  have hI : I64 n := i64_wf hn
  by_cases h10 : 10 < len0
  · exact ZedTells_long0 ht h10
  by_cases h11 : 10 < len1
  · exact ZedTells_long1 ht h10 h11
  have GA : ∀ r, okZ b0 len0 l0 = r → ∀ W : World, Below w.heap.size w W → Calls Tryd.prog 9 #[.agg #[.bool b0, .slice a0 len0 cap0]] W (GotV W (.bool r)) := fun r hr W hW => zright_any r (hl0.on hW) hs0 hr
  have GB : ∀ r, okZ b0 len0 l0 = r → ∀ W : World, Below w.heap.size w W → Calls Tryd.prog 10 #[.agg #[.bool b0, .slice a0 len0 cap0]] W (GotV W (.bool r)) := fun r hr W hW => rzright_any r (hl0.on hW) hs0 hr
  have GC : ∀ r, okZ b1 len1 l1 = r → ∀ W : World, Below w.heap.size w W → Calls Tryd.prog 10 #[.agg #[.bool b1, .slice a1 len1 cap1]] W (GotV W (.bool r)) := fun r hr W hW => rzright_any r (hl1.on hW) hs1 hr
  cases h0 : okZ b0 len0 l0 with
  | false => exact ZedTells_no0 ht h10 h11 hI (GA _ h0) (GB _ h0)
  | true =>
    cases h1 : okZ b1 len1 l1 with
    | false => exact ZedTells_no1 ht h10 h11 hI (GA _ h0) (GB _ h0) (GC _ h1)
    | true =>
      have n0 := okZ_zn hl0 h0
      have n1 := okZ_zn hl1 h1
      have t0 : (limbs (sgn b0 (val l0)).natAbs).length ≤ 10 := by rw [← n0.1.len]; omega
      have t1 : (limbs (sgn b1 (val l1)).natAbs).length ≤ 10 := by rw [← n1.1.len]; omega
      by_cases hz : I64 (sgn b0 (val l0))
      · exact ZedTells_yes ht n0 n1 t0 t1 h10 h11 hI hz (GA _ h0) (GB _ h0) (GC _ h1)
      · exact ZedTells_great ht n0 n1 t0 t1 h10 h11 hI hz (GA _ h0) (GB _ h0) (GC _ h1)

end Go.Proofs.YtdaohhbdhmmihaaDoor
