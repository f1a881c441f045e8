/-
  The walk of BlockTells.
-/
import Derived.Test.YtlmcpgahjfepjaaGreatA15
namespace Go.Proofs.YtlmcpgahjfepjaaGreat
set_option maxRecDepth 100000
open Go.RowKit
set_option linter.unusedVariables false
set_option linter.unusedSimpArgs false

set_option maxRecDepth 100000 in
set_option maxHeartbeats 8000000 in
theorem BlockTells_fa {w : World} {ka sa : Int} {Aa Ba : Option Addr} {na ca ma da : Nat} {kb sb : Int} {Ab Bb : Option Addr} {nb cb mb db : Nat} (F0 : ∀ W : World, Calls Tryz.prog 5 #[.agg #[.int .i64 ka, .int .i64 sa, .slice Aa na ca, .slice Ba ma da], .int .i64 20] W (GotV W (.bool false))) :
    Calls Tryz.prog 3 #[.agg #[.int .i64 ka, .int .i64 sa, .slice Aa na ca, .slice Ba ma da], .agg #[.int .i64 kb, .int .i64 sb, .slice Ab nb cb, .slice Bb mb db]] w fun e w' => e = .returned (.bool true) ∧ Below w.heap.size w w' := by
  have cc := Below.refl w.heap.size w
  go_enter Tryz.func3, Tryz.ntmps3
  go_wp2_with fail
  have bA : Below w.heap.size w ((w.alloc (.cells #[.int .i64 ka, .int .i64 sa, .slice Aa na ca, .slice Ba ma da] 25)).alloc (.cells #[.int .i64 kb, .int .i64 sb, .slice Ab nb cb, .slice Bb mb db] 25)) := (((Below.refl _ w).alloc (by simp) _).alloc (by simp) _)
  replace cc := cc.trans (bA.mono cc.size)
  clear bA
  have xa0 : ((w.alloc (.cells #[.int .i64 ka, .int .i64 sa, .slice Aa na ca, .slice Ba ma da] 25)).alloc (.cells #[.int .i64 kb, .int .i64 sb, .slice Ab nb cb, .slice Bb mb db] 25)).cell? ⟨w.heap.size, 0, none⟩ = some (.int .i64 ka) := by simp [go_sem]
  have xa1 : ((w.alloc (.cells #[.int .i64 ka, .int .i64 sa, .slice Aa na ca, .slice Ba ma da] 25)).alloc (.cells #[.int .i64 kb, .int .i64 sb, .slice Ab nb cb, .slice Bb mb db] 25)).cell? ⟨w.heap.size, 1, none⟩ = some (.int .i64 sa) := by simp [go_sem]
  have xa2 : ((w.alloc (.cells #[.int .i64 ka, .int .i64 sa, .slice Aa na ca, .slice Ba ma da] 25)).alloc (.cells #[.int .i64 kb, .int .i64 sb, .slice Ab nb cb, .slice Bb mb db] 25)).cell? ⟨w.heap.size, 2, none⟩ = some (.slice Aa na ca) := by simp [go_sem]
  have xa3 : ((w.alloc (.cells #[.int .i64 ka, .int .i64 sa, .slice Aa na ca, .slice Ba ma da] 25)).alloc (.cells #[.int .i64 kb, .int .i64 sb, .slice Ab nb cb, .slice Bb mb db] 25)).cell? ⟨w.heap.size, 3, none⟩ = some (.slice Ba ma da) := by simp [go_sem]
  have xal : w.heap.size < ((w.alloc (.cells #[.int .i64 ka, .int .i64 sa, .slice Aa na ca, .slice Ba ma da] 25)).alloc (.cells #[.int .i64 kb, .int .i64 sb, .slice Ab nb cb, .slice Bb mb db] 25)).heap.size := by simp <;> omega
  have xb0 : ((w.alloc (.cells #[.int .i64 ka, .int .i64 sa, .slice Aa na ca, .slice Ba ma da] 25)).alloc (.cells #[.int .i64 kb, .int .i64 sb, .slice Ab nb cb, .slice Bb mb db] 25)).cell? ⟨w.heap.size + 1, 0, none⟩ = some (.int .i64 kb) := by simp [go_sem]
  have xb1 : ((w.alloc (.cells #[.int .i64 ka, .int .i64 sa, .slice Aa na ca, .slice Ba ma da] 25)).alloc (.cells #[.int .i64 kb, .int .i64 sb, .slice Ab nb cb, .slice Bb mb db] 25)).cell? ⟨w.heap.size + 1, 1, none⟩ = some (.int .i64 sb) := by simp [go_sem]
  have xb2 : ((w.alloc (.cells #[.int .i64 ka, .int .i64 sa, .slice Aa na ca, .slice Ba ma da] 25)).alloc (.cells #[.int .i64 kb, .int .i64 sb, .slice Ab nb cb, .slice Bb mb db] 25)).cell? ⟨w.heap.size + 1, 2, none⟩ = some (.slice Ab nb cb) := by simp [go_sem]
  have xb3 : ((w.alloc (.cells #[.int .i64 ka, .int .i64 sa, .slice Aa na ca, .slice Ba ma da] 25)).alloc (.cells #[.int .i64 kb, .int .i64 sb, .slice Ab nb cb, .slice Bb mb db] 25)).cell? ⟨w.heap.size + 1, 3, none⟩ = some (.slice Bb mb db) := by simp [go_sem]
  have xbl : w.heap.size + 1 < ((w.alloc (.cells #[.int .i64 ka, .int .i64 sa, .slice Aa na ca, .slice Ba ma da] 25)).alloc (.cells #[.int .i64 kb, .int .i64 sb, .slice Ab nb cb, .slice Bb mb db] 25)).heap.size := by simp <;> omega
  generalize (w.alloc (.cells #[.int .i64 ka, .int .i64 sa, .slice Aa na ca, .slice Ba ma da] 25)).alloc (.cells #[.int .i64 kb, .int .i64 sb, .slice Ab nb cb, .slice Bb mb db] 25) = v1 at *
  go_wp2_with fail
  refine (F0 _).mono ?_
  rintro e w2 ⟨rfl, b⟩
  replace xa0 := (b.cell (p := ⟨w.heap.size, 0, none⟩) xal).trans xa0
  replace xa1 := (b.cell (p := ⟨w.heap.size, 1, none⟩) xal).trans xa1
  replace xa2 := (b.cell (p := ⟨w.heap.size, 2, none⟩) xal).trans xa2
  replace xa3 := (b.cell (p := ⟨w.heap.size, 3, none⟩) xal).trans xa3
  replace xal := Nat.lt_of_lt_of_le xal b.size
  replace xb0 := (b.cell (p := ⟨w.heap.size + 1, 0, none⟩) xbl).trans xb0
  replace xb1 := (b.cell (p := ⟨w.heap.size + 1, 1, none⟩) xbl).trans xb1
  replace xb2 := (b.cell (p := ⟨w.heap.size + 1, 2, none⟩) xbl).trans xb2
  replace xb3 := (b.cell (p := ⟨w.heap.size + 1, 3, none⟩) xbl).trans xb3
  replace xbl := Nat.lt_of_lt_of_le xbl b.size
  replace cc := cc.trans (b.mono cc.size)
  clear b
  go_wp2_with fail
  refine (alive11_any _).mono ?_
  rintro e w3 ⟨rfl, b⟩
  replace xa0 := (b.cell (p := ⟨w.heap.size, 0, none⟩) xal).trans xa0
  replace xa1 := (b.cell (p := ⟨w.heap.size, 1, none⟩) xal).trans xa1
  replace xa2 := (b.cell (p := ⟨w.heap.size, 2, none⟩) xal).trans xa2
  replace xa3 := (b.cell (p := ⟨w.heap.size, 3, none⟩) xal).trans xa3
  replace xal := Nat.lt_of_lt_of_le xal b.size
  replace xb0 := (b.cell (p := ⟨w.heap.size + 1, 0, none⟩) xbl).trans xb0
  replace xb1 := (b.cell (p := ⟨w.heap.size + 1, 1, none⟩) xbl).trans xb1
  replace xb2 := (b.cell (p := ⟨w.heap.size + 1, 2, none⟩) xbl).trans xb2
  replace xb3 := (b.cell (p := ⟨w.heap.size + 1, 3, none⟩) xbl).trans xb3
  replace xbl := Nat.lt_of_lt_of_le xbl b.size
  replace cc := cc.trans (b.mono cc.size)
  clear b
  go_wp2_with fail
  go_ret
  exact ⟨rfl, cc⟩

set_option maxRecDepth 100000 in
set_option maxHeartbeats 8000000 in
theorem BlockTells_fb {w : World} {ka sa : Int} {Aa Ba : Option Addr} {na ca ma da : Nat} {kb sb : Int} {Ab Bb : Option Addr} {nb cb mb db : Nat} (F0 : ∀ W : World, Calls Tryz.prog 5 #[.agg #[.int .i64 ka, .int .i64 sa, .slice Aa na ca, .slice Ba ma da], .int .i64 20] W (GotV W (.bool true))) (F1 : ∀ W : World, Calls Tryz.prog 5 #[.agg #[.int .i64 kb, .int .i64 sb, .slice Ab nb cb, .slice Bb mb db], .int .i64 20] W (GotV W (.bool false))) :
    Calls Tryz.prog 3 #[.agg #[.int .i64 ka, .int .i64 sa, .slice Aa na ca, .slice Ba ma da], .agg #[.int .i64 kb, .int .i64 sb, .slice Ab nb cb, .slice Bb mb db]] w fun e w' => e = .returned (.bool true) ∧ Below w.heap.size w w' := by
  have cc := Below.refl w.heap.size w
  go_enter Tryz.func3, Tryz.ntmps3
  go_wp2_with fail
  have bA : Below w.heap.size w ((w.alloc (.cells #[.int .i64 ka, .int .i64 sa, .slice Aa na ca, .slice Ba ma da] 25)).alloc (.cells #[.int .i64 kb, .int .i64 sb, .slice Ab nb cb, .slice Bb mb db] 25)) := (((Below.refl _ w).alloc (by simp) _).alloc (by simp) _)
  replace cc := cc.trans (bA.mono cc.size)
  clear bA
  have xa0 : ((w.alloc (.cells #[.int .i64 ka, .int .i64 sa, .slice Aa na ca, .slice Ba ma da] 25)).alloc (.cells #[.int .i64 kb, .int .i64 sb, .slice Ab nb cb, .slice Bb mb db] 25)).cell? ⟨w.heap.size, 0, none⟩ = some (.int .i64 ka) := by simp [go_sem]
  have xa1 : ((w.alloc (.cells #[.int .i64 ka, .int .i64 sa, .slice Aa na ca, .slice Ba ma da] 25)).alloc (.cells #[.int .i64 kb, .int .i64 sb, .slice Ab nb cb, .slice Bb mb db] 25)).cell? ⟨w.heap.size, 1, none⟩ = some (.int .i64 sa) := by simp [go_sem]
  have xa2 : ((w.alloc (.cells #[.int .i64 ka, .int .i64 sa, .slice Aa na ca, .slice Ba ma da] 25)).alloc (.cells #[.int .i64 kb, .int .i64 sb, .slice Ab nb cb, .slice Bb mb db] 25)).cell? ⟨w.heap.size, 2, none⟩ = some (.slice Aa na ca) := by simp [go_sem]
  have xa3 : ((w.alloc (.cells #[.int .i64 ka, .int .i64 sa, .slice Aa na ca, .slice Ba ma da] 25)).alloc (.cells #[.int .i64 kb, .int .i64 sb, .slice Ab nb cb, .slice Bb mb db] 25)).cell? ⟨w.heap.size, 3, none⟩ = some (.slice Ba ma da) := by simp [go_sem]
  have xal : w.heap.size < ((w.alloc (.cells #[.int .i64 ka, .int .i64 sa, .slice Aa na ca, .slice Ba ma da] 25)).alloc (.cells #[.int .i64 kb, .int .i64 sb, .slice Ab nb cb, .slice Bb mb db] 25)).heap.size := by simp <;> omega
  have xb0 : ((w.alloc (.cells #[.int .i64 ka, .int .i64 sa, .slice Aa na ca, .slice Ba ma da] 25)).alloc (.cells #[.int .i64 kb, .int .i64 sb, .slice Ab nb cb, .slice Bb mb db] 25)).cell? ⟨w.heap.size + 1, 0, none⟩ = some (.int .i64 kb) := by simp [go_sem]
  have xb1 : ((w.alloc (.cells #[.int .i64 ka, .int .i64 sa, .slice Aa na ca, .slice Ba ma da] 25)).alloc (.cells #[.int .i64 kb, .int .i64 sb, .slice Ab nb cb, .slice Bb mb db] 25)).cell? ⟨w.heap.size + 1, 1, none⟩ = some (.int .i64 sb) := by simp [go_sem]
  have xb2 : ((w.alloc (.cells #[.int .i64 ka, .int .i64 sa, .slice Aa na ca, .slice Ba ma da] 25)).alloc (.cells #[.int .i64 kb, .int .i64 sb, .slice Ab nb cb, .slice Bb mb db] 25)).cell? ⟨w.heap.size + 1, 2, none⟩ = some (.slice Ab nb cb) := by simp [go_sem]
  have xb3 : ((w.alloc (.cells #[.int .i64 ka, .int .i64 sa, .slice Aa na ca, .slice Ba ma da] 25)).alloc (.cells #[.int .i64 kb, .int .i64 sb, .slice Ab nb cb, .slice Bb mb db] 25)).cell? ⟨w.heap.size + 1, 3, none⟩ = some (.slice Bb mb db) := by simp [go_sem]
  have xbl : w.heap.size + 1 < ((w.alloc (.cells #[.int .i64 ka, .int .i64 sa, .slice Aa na ca, .slice Ba ma da] 25)).alloc (.cells #[.int .i64 kb, .int .i64 sb, .slice Ab nb cb, .slice Bb mb db] 25)).heap.size := by simp <;> omega
  generalize (w.alloc (.cells #[.int .i64 ka, .int .i64 sa, .slice Aa na ca, .slice Ba ma da] 25)).alloc (.cells #[.int .i64 kb, .int .i64 sb, .slice Ab nb cb, .slice Bb mb db] 25) = v1 at *
  go_wp2_with fail
  refine (F0 _).mono ?_
  rintro e w2 ⟨rfl, b⟩
  replace xa0 := (b.cell (p := ⟨w.heap.size, 0, none⟩) xal).trans xa0
  replace xa1 := (b.cell (p := ⟨w.heap.size, 1, none⟩) xal).trans xa1
  replace xa2 := (b.cell (p := ⟨w.heap.size, 2, none⟩) xal).trans xa2
  replace xa3 := (b.cell (p := ⟨w.heap.size, 3, none⟩) xal).trans xa3
  replace xal := Nat.lt_of_lt_of_le xal b.size
  replace xb0 := (b.cell (p := ⟨w.heap.size + 1, 0, none⟩) xbl).trans xb0
  replace xb1 := (b.cell (p := ⟨w.heap.size + 1, 1, none⟩) xbl).trans xb1
  replace xb2 := (b.cell (p := ⟨w.heap.size + 1, 2, none⟩) xbl).trans xb2
  replace xb3 := (b.cell (p := ⟨w.heap.size + 1, 3, none⟩) xbl).trans xb3
  replace xbl := Nat.lt_of_lt_of_le xbl b.size
  replace cc := cc.trans (b.mono cc.size)
  clear b
  go_wp2_with fail
  refine (F1 _).mono ?_
  rintro e w3 ⟨rfl, b⟩
  replace xa0 := (b.cell (p := ⟨w.heap.size, 0, none⟩) xal).trans xa0
  replace xa1 := (b.cell (p := ⟨w.heap.size, 1, none⟩) xal).trans xa1
  replace xa2 := (b.cell (p := ⟨w.heap.size, 2, none⟩) xal).trans xa2
  replace xa3 := (b.cell (p := ⟨w.heap.size, 3, none⟩) xal).trans xa3
  replace xal := Nat.lt_of_lt_of_le xal b.size
  replace xb0 := (b.cell (p := ⟨w.heap.size + 1, 0, none⟩) xbl).trans xb0
  replace xb1 := (b.cell (p := ⟨w.heap.size + 1, 1, none⟩) xbl).trans xb1
  replace xb2 := (b.cell (p := ⟨w.heap.size + 1, 2, none⟩) xbl).trans xb2
  replace xb3 := (b.cell (p := ⟨w.heap.size + 1, 3, none⟩) xbl).trans xb3
  replace xbl := Nat.lt_of_lt_of_le xbl b.size
  replace cc := cc.trans (b.mono cc.size)
  clear b
  go_wp2_with fail
  refine (alive11_any _).mono ?_
  rintro e w4 ⟨rfl, b⟩
  replace xa0 := (b.cell (p := ⟨w.heap.size, 0, none⟩) xal).trans xa0
  replace xa1 := (b.cell (p := ⟨w.heap.size, 1, none⟩) xal).trans xa1
  replace xa2 := (b.cell (p := ⟨w.heap.size, 2, none⟩) xal).trans xa2
  replace xa3 := (b.cell (p := ⟨w.heap.size, 3, none⟩) xal).trans xa3
  replace xal := Nat.lt_of_lt_of_le xal b.size
  replace xb0 := (b.cell (p := ⟨w.heap.size + 1, 0, none⟩) xbl).trans xb0
  replace xb1 := (b.cell (p := ⟨w.heap.size + 1, 1, none⟩) xbl).trans xb1
  replace xb2 := (b.cell (p := ⟨w.heap.size + 1, 2, none⟩) xbl).trans xb2
  replace xb3 := (b.cell (p := ⟨w.heap.size + 1, 3, none⟩) xbl).trans xb3
  replace xbl := Nat.lt_of_lt_of_le xbl b.size
  replace cc := cc.trans (b.mono cc.size)
  clear b
  go_wp2_with fail
  go_ret
  exact ⟨rfl, cc⟩

set_option maxRecDepth 100000 in
set_option maxHeartbeats 8000000 in
theorem BlockTells_no {w : World} {ka sa : Int} {Aa Ba : Option Addr} {na ca ma da : Nat} {kb sb : Int} {Ab Bb : Option Addr} {nb cb mb db : Nat} {Ca : List Nat} {Wa : List Int} (hCa : BR w Aa na ca Ca) (hWa : IR w Ba ma da Wa) {Cb : List Nat} {Wb : List Int} (hCb : BR w Ab nb cb Cb) (hWb : IR w Bb mb db Wb) {v : Bool} {q : Int} (F0 : ∀ W : World, Calls Tryz.prog 5 #[.agg #[.int .i64 ka, .int .i64 sa, .slice Aa na ca, .slice Ba ma da], .int .i64 20] W (GotV W (.bool true))) (F1 : ∀ W : World, Calls Tryz.prog 5 #[.agg #[.int .i64 kb, .int .i64 sb, .slice Ab nb cb, .slice Bb mb db], .int .i64 20] W (GotV W (.bool true))) (R0 : ∀ {W : World}, BR W Aa na ca Ca → IR W Ba ma da Wa → Calls Tryz.prog 7 #[.agg #[.int .i64 ka, .int .i64 sa, .slice Aa na ca, .slice Ba ma da]] W (GotV W (.bool false))) (R1 : ∀ {W : World}, BR W Aa na ca Ca → IR W Ba ma da Wa → Calls Tryz.prog 8 #[.agg #[.int .i64 ka, .int .i64 sa, .slice Aa na ca, .slice Ba ma da]] W (GotV W (.bool false))) (S0 : ∀ {W : World}, BR W Aa na ca Ca → IR W Ba ma da Wa → BR W Ab nb cb Cb → IR W Bb mb db Wb → Calls Tryz.prog 9 #[.agg #[.int .i64 ka, .int .i64 sa, .slice Aa na ca, .slice Ba ma da], .agg #[.int .i64 kb, .int .i64 sb, .slice Ab nb cb, .slice Bb mb db]] W (GotV W (.bool v))) (S1 : ∀ {W : World}, BR W Aa na ca Ca → IR W Ba ma da Wa → BR W Ab nb cb Cb → IR W Bb mb db Wb → Calls Tryz.prog 10 #[.agg #[.int .i64 ka, .int .i64 sa, .slice Aa na ca, .slice Ba ma da], .agg #[.int .i64 kb, .int .i64 sb, .slice Ab nb cb, .slice Bb mb db]] W (GotV W (.bool v))) (L0 : ∀ W : World, Calls Tryz.prog 11 #[.agg #[.int .i64 ka, .int .i64 sa, .slice Aa na ca, .slice Ba ma da]] W (GotV W (.int .i64 q))) (L1 : ∀ W : World, Calls Tryz.prog 12 #[.agg #[.int .i64 ka, .int .i64 sa, .slice Aa na ca, .slice Ba ma da]] W (GotV W (.int .i64 q))) :
    Calls Tryz.prog 3 #[.agg #[.int .i64 ka, .int .i64 sa, .slice Aa na ca, .slice Ba ma da], .agg #[.int .i64 kb, .int .i64 sb, .slice Ab nb cb, .slice Bb mb db]] w fun e w' => e = .returned (.bool true) ∧ Below w.heap.size w w' := by
  have cc := Below.refl w.heap.size w
  go_enter Tryz.func3, Tryz.ntmps3
  go_wp2_with fail
  have bA : Below w.heap.size w ((w.alloc (.cells #[.int .i64 ka, .int .i64 sa, .slice Aa na ca, .slice Ba ma da] 25)).alloc (.cells #[.int .i64 kb, .int .i64 sb, .slice Ab nb cb, .slice Bb mb db] 25)) := (((Below.refl _ w).alloc (by simp) _).alloc (by simp) _)
  replace hCa := hCa.on bA
  replace hWa := hWa.on bA
  replace hCb := hCb.on bA
  replace hWb := hWb.on bA
  replace cc := cc.trans (bA.mono cc.size)
  clear bA
  have xa0 : ((w.alloc (.cells #[.int .i64 ka, .int .i64 sa, .slice Aa na ca, .slice Ba ma da] 25)).alloc (.cells #[.int .i64 kb, .int .i64 sb, .slice Ab nb cb, .slice Bb mb db] 25)).cell? ⟨w.heap.size, 0, none⟩ = some (.int .i64 ka) := by simp [go_sem]
  have xa1 : ((w.alloc (.cells #[.int .i64 ka, .int .i64 sa, .slice Aa na ca, .slice Ba ma da] 25)).alloc (.cells #[.int .i64 kb, .int .i64 sb, .slice Ab nb cb, .slice Bb mb db] 25)).cell? ⟨w.heap.size, 1, none⟩ = some (.int .i64 sa) := by simp [go_sem]
  have xa2 : ((w.alloc (.cells #[.int .i64 ka, .int .i64 sa, .slice Aa na ca, .slice Ba ma da] 25)).alloc (.cells #[.int .i64 kb, .int .i64 sb, .slice Ab nb cb, .slice Bb mb db] 25)).cell? ⟨w.heap.size, 2, none⟩ = some (.slice Aa na ca) := by simp [go_sem]
  have xa3 : ((w.alloc (.cells #[.int .i64 ka, .int .i64 sa, .slice Aa na ca, .slice Ba ma da] 25)).alloc (.cells #[.int .i64 kb, .int .i64 sb, .slice Ab nb cb, .slice Bb mb db] 25)).cell? ⟨w.heap.size, 3, none⟩ = some (.slice Ba ma da) := by simp [go_sem]
  have xal : w.heap.size < ((w.alloc (.cells #[.int .i64 ka, .int .i64 sa, .slice Aa na ca, .slice Ba ma da] 25)).alloc (.cells #[.int .i64 kb, .int .i64 sb, .slice Ab nb cb, .slice Bb mb db] 25)).heap.size := by simp <;> omega
  have xb0 : ((w.alloc (.cells #[.int .i64 ka, .int .i64 sa, .slice Aa na ca, .slice Ba ma da] 25)).alloc (.cells #[.int .i64 kb, .int .i64 sb, .slice Ab nb cb, .slice Bb mb db] 25)).cell? ⟨w.heap.size + 1, 0, none⟩ = some (.int .i64 kb) := by simp [go_sem]
  have xb1 : ((w.alloc (.cells #[.int .i64 ka, .int .i64 sa, .slice Aa na ca, .slice Ba ma da] 25)).alloc (.cells #[.int .i64 kb, .int .i64 sb, .slice Ab nb cb, .slice Bb mb db] 25)).cell? ⟨w.heap.size + 1, 1, none⟩ = some (.int .i64 sb) := by simp [go_sem]
  have xb2 : ((w.alloc (.cells #[.int .i64 ka, .int .i64 sa, .slice Aa na ca, .slice Ba ma da] 25)).alloc (.cells #[.int .i64 kb, .int .i64 sb, .slice Ab nb cb, .slice Bb mb db] 25)).cell? ⟨w.heap.size + 1, 2, none⟩ = some (.slice Ab nb cb) := by simp [go_sem]
  have xb3 : ((w.alloc (.cells #[.int .i64 ka, .int .i64 sa, .slice Aa na ca, .slice Ba ma da] 25)).alloc (.cells #[.int .i64 kb, .int .i64 sb, .slice Ab nb cb, .slice Bb mb db] 25)).cell? ⟨w.heap.size + 1, 3, none⟩ = some (.slice Bb mb db) := by simp [go_sem]
  have xbl : w.heap.size + 1 < ((w.alloc (.cells #[.int .i64 ka, .int .i64 sa, .slice Aa na ca, .slice Ba ma da] 25)).alloc (.cells #[.int .i64 kb, .int .i64 sb, .slice Ab nb cb, .slice Bb mb db] 25)).heap.size := by simp <;> omega
  generalize (w.alloc (.cells #[.int .i64 ka, .int .i64 sa, .slice Aa na ca, .slice Ba ma da] 25)).alloc (.cells #[.int .i64 kb, .int .i64 sb, .slice Ab nb cb, .slice Bb mb db] 25) = v1 at *
  go_wp2_with fail
  refine (F0 _).mono ?_
  rintro e w2 ⟨rfl, b⟩
  replace hCa := hCa.on b
  replace hWa := hWa.on b
  replace hCb := hCb.on b
  replace hWb := hWb.on b
  replace xa0 := (b.cell (p := ⟨w.heap.size, 0, none⟩) xal).trans xa0
  replace xa1 := (b.cell (p := ⟨w.heap.size, 1, none⟩) xal).trans xa1
  replace xa2 := (b.cell (p := ⟨w.heap.size, 2, none⟩) xal).trans xa2
  replace xa3 := (b.cell (p := ⟨w.heap.size, 3, none⟩) xal).trans xa3
  replace xal := Nat.lt_of_lt_of_le xal b.size
  replace xb0 := (b.cell (p := ⟨w.heap.size + 1, 0, none⟩) xbl).trans xb0
  replace xb1 := (b.cell (p := ⟨w.heap.size + 1, 1, none⟩) xbl).trans xb1
  replace xb2 := (b.cell (p := ⟨w.heap.size + 1, 2, none⟩) xbl).trans xb2
  replace xb3 := (b.cell (p := ⟨w.heap.size + 1, 3, none⟩) xbl).trans xb3
  replace xbl := Nat.lt_of_lt_of_le xbl b.size
  replace cc := cc.trans (b.mono cc.size)
  clear b
  go_wp2_with fail
  refine (F1 _).mono ?_
  rintro e w3 ⟨rfl, b⟩
  replace hCa := hCa.on b
  replace hWa := hWa.on b
  replace hCb := hCb.on b
  replace hWb := hWb.on b
  replace xa0 := (b.cell (p := ⟨w.heap.size, 0, none⟩) xal).trans xa0
  replace xa1 := (b.cell (p := ⟨w.heap.size, 1, none⟩) xal).trans xa1
  replace xa2 := (b.cell (p := ⟨w.heap.size, 2, none⟩) xal).trans xa2
  replace xa3 := (b.cell (p := ⟨w.heap.size, 3, none⟩) xal).trans xa3
  replace xal := Nat.lt_of_lt_of_le xal b.size
  replace xb0 := (b.cell (p := ⟨w.heap.size + 1, 0, none⟩) xbl).trans xb0
  replace xb1 := (b.cell (p := ⟨w.heap.size + 1, 1, none⟩) xbl).trans xb1
  replace xb2 := (b.cell (p := ⟨w.heap.size + 1, 2, none⟩) xbl).trans xb2
  replace xb3 := (b.cell (p := ⟨w.heap.size + 1, 3, none⟩) xbl).trans xb3
  replace xbl := Nat.lt_of_lt_of_le xbl b.size
  replace cc := cc.trans (b.mono cc.size)
  clear b
  go_wp2_with fail
  refine (R0 hCa hWa).mono ?_
  rintro e w4 ⟨rfl, b⟩
  replace hCa := hCa.on b
  replace hWa := hWa.on b
  replace hCb := hCb.on b
  replace hWb := hWb.on b
  replace xa0 := (b.cell (p := ⟨w.heap.size, 0, none⟩) xal).trans xa0
  replace xa1 := (b.cell (p := ⟨w.heap.size, 1, none⟩) xal).trans xa1
  replace xa2 := (b.cell (p := ⟨w.heap.size, 2, none⟩) xal).trans xa2
  replace xa3 := (b.cell (p := ⟨w.heap.size, 3, none⟩) xal).trans xa3
  replace xal := Nat.lt_of_lt_of_le xal b.size
  replace xb0 := (b.cell (p := ⟨w.heap.size + 1, 0, none⟩) xbl).trans xb0
  replace xb1 := (b.cell (p := ⟨w.heap.size + 1, 1, none⟩) xbl).trans xb1
  replace xb2 := (b.cell (p := ⟨w.heap.size + 1, 2, none⟩) xbl).trans xb2
  replace xb3 := (b.cell (p := ⟨w.heap.size + 1, 3, none⟩) xbl).trans xb3
  replace xbl := Nat.lt_of_lt_of_le xbl b.size
  replace cc := cc.trans (b.mono cc.size)
  clear b
  go_wp2_with fail
  have bD : Below w4.heap.size w4 w4.drew := below_drewN (Below.refl _ w4) 1
  replace hCa := hCa.on bD
  replace hWa := hWa.on bD
  replace hCb := hCb.on bD
  replace hWb := hWb.on bD
  replace xa0 := (bD.cell (p := ⟨w.heap.size, 0, none⟩) xal).trans xa0
  replace xa1 := (bD.cell (p := ⟨w.heap.size, 1, none⟩) xal).trans xa1
  replace xa2 := (bD.cell (p := ⟨w.heap.size, 2, none⟩) xal).trans xa2
  replace xa3 := (bD.cell (p := ⟨w.heap.size, 3, none⟩) xal).trans xa3
  replace xal := Nat.lt_of_lt_of_le xal bD.size
  replace xb0 := (bD.cell (p := ⟨w.heap.size + 1, 0, none⟩) xbl).trans xb0
  replace xb1 := (bD.cell (p := ⟨w.heap.size + 1, 1, none⟩) xbl).trans xb1
  replace xb2 := (bD.cell (p := ⟨w.heap.size + 1, 2, none⟩) xbl).trans xb2
  replace xb3 := (bD.cell (p := ⟨w.heap.size + 1, 3, none⟩) xbl).trans xb3
  replace xbl := Nat.lt_of_lt_of_le xbl bD.size
  replace cc := cc.trans (bD.mono cc.size)
  clear bD
  refine wp_region_held_drew (S := fun w' => w'.cell? ⟨w.heap.size, 0, none⟩ = some (.int .i64 ka) ∧ w'.cell? ⟨w.heap.size, 1, none⟩ = some (.int .i64 sa) ∧ w'.cell? ⟨w.heap.size, 2, none⟩ = some (.slice Aa na ca) ∧ w'.cell? ⟨w.heap.size, 3, none⟩ = some (.slice Ba ma da) ∧ w'.cell? ⟨w.heap.size + 1, 0, none⟩ = some (.int .i64 kb) ∧ w'.cell? ⟨w.heap.size + 1, 1, none⟩ = some (.int .i64 sb) ∧ w'.cell? ⟨w.heap.size + 1, 2, none⟩ = some (.slice Ab nb cb) ∧ w'.cell? ⟨w.heap.size + 1, 3, none⟩ = some (.slice Bb mb db)) (by kernel_rfl) ?_ (fun hHeld => ?_)
  · exact ⟨xa0, xa1, xa2, xa3, xb0, xb1, xb2, xb3⟩
  refine wpAnyH_take (i := 0) (v := ?_) rfl (by kernel_rfl) (by kernel_rfl) (by kernel_rfl) (fun _ _ _ h => h) (Or.inl ⟨by rfl, ?_⟩) hHeld ?_
  rotate_left
  · (intro w hSw; (try dsimp only at hSw); go_simp; (try with_reducible rfl))
  try simp only [Act.put, List.getElem_toArray, List.getElem_cons_zero, List.getElem_cons_succ, List.setIfInBounds_toArray, List.set_cons_zero, List.set_cons_succ]
  refine wpAnyH_take (i := 2) (v := ?_) rfl (by kernel_rfl) (by kernel_rfl) (by kernel_rfl) (fun _ _ _ h => h) (Or.inl ⟨by rfl, ?_⟩) hHeld ?_
  rotate_left
  · (intro w hSw; (try dsimp only at hSw); go_simp; (try with_reducible rfl))
  try simp only [Act.put, List.getElem_toArray, List.getElem_cons_zero, List.getElem_cons_succ, List.setIfInBounds_toArray, List.set_cons_zero, List.set_cons_succ]
  refine wpAnyH_ready (rs := [1]) (by kernel_rfl) (by simp) ?_
  refine AllReadyH.cons rfl (fun K hK => ?_) AllReadyH.nil
  (try simp only [List.getElem_toArray, List.getElem_cons_zero, List.getElem_cons_succ])
  rw [if_pos (by rfl)]
  go_simp
  go_at_call 8
  refine (R1 hCa hWa).mono ?_
  rintro e w5 ⟨rfl, b⟩
  replace hCa := hCa.on b
  replace hWa := hWa.on b
  replace hCb := hCb.on b
  replace hWb := hWb.on b
  replace xa0 := (b.cell (p := ⟨w.heap.size, 0, none⟩) xal).trans xa0
  replace xa1 := (b.cell (p := ⟨w.heap.size, 1, none⟩) xal).trans xa1
  replace xa2 := (b.cell (p := ⟨w.heap.size, 2, none⟩) xal).trans xa2
  replace xa3 := (b.cell (p := ⟨w.heap.size, 3, none⟩) xal).trans xa3
  replace xal := Nat.lt_of_lt_of_le xal b.size
  replace xb0 := (b.cell (p := ⟨w.heap.size + 1, 0, none⟩) xbl).trans xb0
  replace xb1 := (b.cell (p := ⟨w.heap.size + 1, 1, none⟩) xbl).trans xb1
  replace xb2 := (b.cell (p := ⟨w.heap.size + 1, 2, none⟩) xbl).trans xb2
  replace xb3 := (b.cell (p := ⟨w.heap.size + 1, 3, none⟩) xbl).trans xb3
  replace xbl := Nat.lt_of_lt_of_le xbl b.size
  replace cc := cc.trans (b.mono cc.size)
  clear b
  refine hK.out _ _ ?_ (fun hHeld => ?_)
  · exact ⟨xa0, xa1, xa2, xa3, xb0, xb1, xb2, xb3⟩
  clear hK K
  try simp only [Act.put, List.getElem_toArray, List.getElem_cons_zero, List.getElem_cons_succ, List.setIfInBounds_toArray, List.set_cons_zero, List.set_cons_succ]
  refine wpAnyH_take (i := 3) (v := ?_) rfl (by kernel_rfl) (by kernel_rfl) (by kernel_rfl) (fun _ _ _ h => h) (Or.inl ⟨by rfl, ?_⟩) hHeld ?_
  rotate_left
  · (intro w hSw; (try dsimp only at hSw); go_simp; (try with_reducible rfl))
  try simp only [Act.put, List.getElem_toArray, List.getElem_cons_zero, List.getElem_cons_succ, List.setIfInBounds_toArray, List.set_cons_zero, List.set_cons_succ]
  refine wpAnyH_take (i := 4) (v := ?_) rfl (by kernel_rfl) (by kernel_rfl) (by kernel_rfl) (fun _ _ _ h => h) (Or.inl ⟨by rfl, ?_⟩) hHeld ?_
  rotate_left
  · (intro w hSw; (try dsimp only at hSw); go_simp; (try with_reducible rfl))
  try simp only [Act.put, List.getElem_toArray, List.getElem_cons_zero, List.getElem_cons_succ, List.setIfInBounds_toArray, List.set_cons_zero, List.set_cons_succ]
  refine wpAnyH_take (i := 5) (v := ?_) rfl (by kernel_rfl) (by kernel_rfl) (by kernel_rfl) (fun _ _ _ h => h) (Or.inl ⟨by rfl, ?_⟩) hHeld ?_
  rotate_left
  · (intro w hSw; (try dsimp only at hSw); go_simp; (try with_reducible rfl))
  try simp only [Act.put, List.getElem_toArray, List.getElem_cons_zero, List.getElem_cons_succ, List.setIfInBounds_toArray, List.set_cons_zero, List.set_cons_succ]
  refine wpAnyH_take (i := 6) (v := ?_) rfl (by kernel_rfl) (by kernel_rfl) (by kernel_rfl) (fun _ _ _ h => h) (Or.inl ⟨by rfl, ?_⟩) hHeld ?_
  rotate_left
  · (intro w hSw; (try dsimp only at hSw); go_simp; (try with_reducible rfl))
  try simp only [Act.put, List.getElem_toArray, List.getElem_cons_zero, List.getElem_cons_succ, List.setIfInBounds_toArray, List.set_cons_zero, List.set_cons_succ]
  refine wpAnyH_take (i := 8) (v := ?_) rfl (by kernel_rfl) (by kernel_rfl) (by kernel_rfl) (fun _ _ _ h => h) (Or.inl ⟨by rfl, ?_⟩) hHeld ?_
  rotate_left
  · (intro w hSw; (try dsimp only at hSw); go_simp; (try with_reducible rfl))
  try simp only [Act.put, List.getElem_toArray, List.getElem_cons_zero, List.getElem_cons_succ, List.setIfInBounds_toArray, List.set_cons_zero, List.set_cons_succ]
  refine wpAnyH_take (i := 9) (v := ?_) rfl (by kernel_rfl) (by kernel_rfl) (by kernel_rfl) (fun _ _ _ h => h) (Or.inl ⟨by rfl, ?_⟩) hHeld ?_
  rotate_left
  · (intro w hSw; (try dsimp only at hSw); go_simp; (try with_reducible rfl))
  try simp only [Act.put, List.getElem_toArray, List.getElem_cons_zero, List.getElem_cons_succ, List.setIfInBounds_toArray, List.set_cons_zero, List.set_cons_succ]
  refine wpAnyH_ready (rs := [7]) (by kernel_rfl) (by simp) ?_
  refine AllReadyH.cons rfl (fun K hK => ?_) AllReadyH.nil
  (try simp only [List.getElem_toArray, List.getElem_cons_zero, List.getElem_cons_succ])
  rw [if_pos (by rfl)]
  go_simp
  go_at_call 9
  refine (S0 hCa hWa hCb hWb).mono ?_
  rintro e w6 ⟨rfl, b⟩
  replace hCa := hCa.on b
  replace hWa := hWa.on b
  replace hCb := hCb.on b
  replace hWb := hWb.on b
  replace xa0 := (b.cell (p := ⟨w.heap.size, 0, none⟩) xal).trans xa0
  replace xa1 := (b.cell (p := ⟨w.heap.size, 1, none⟩) xal).trans xa1
  replace xa2 := (b.cell (p := ⟨w.heap.size, 2, none⟩) xal).trans xa2
  replace xa3 := (b.cell (p := ⟨w.heap.size, 3, none⟩) xal).trans xa3
  replace xal := Nat.lt_of_lt_of_le xal b.size
  replace xb0 := (b.cell (p := ⟨w.heap.size + 1, 0, none⟩) xbl).trans xb0
  replace xb1 := (b.cell (p := ⟨w.heap.size + 1, 1, none⟩) xbl).trans xb1
  replace xb2 := (b.cell (p := ⟨w.heap.size + 1, 2, none⟩) xbl).trans xb2
  replace xb3 := (b.cell (p := ⟨w.heap.size + 1, 3, none⟩) xbl).trans xb3
  replace xbl := Nat.lt_of_lt_of_le xbl b.size
  replace cc := cc.trans (b.mono cc.size)
  clear b
  refine hK.out _ _ ?_ (fun hHeld => ?_)
  · exact ⟨xa0, xa1, xa2, xa3, xb0, xb1, xb2, xb3⟩
  clear hK K
  try simp only [Act.put, List.getElem_toArray, List.getElem_cons_zero, List.getElem_cons_succ, List.setIfInBounds_toArray, List.set_cons_zero, List.set_cons_succ]
  refine wpAnyH_ready (rs := [10]) (by kernel_rfl) (by simp) ?_
  refine AllReadyH.cons rfl (fun K hK => ?_) AllReadyH.nil
  (try simp only [List.getElem_toArray, List.getElem_cons_zero, List.getElem_cons_succ])
  rw [if_pos (by rfl)]
  go_simp
  go_at_call 10
  refine (S1 hCa hWa hCb hWb).mono ?_
  rintro e w7 ⟨rfl, b⟩
  replace hCa := hCa.on b
  replace hWa := hWa.on b
  replace hCb := hCb.on b
  replace hWb := hWb.on b
  replace xa0 := (b.cell (p := ⟨w.heap.size, 0, none⟩) xal).trans xa0
  replace xa1 := (b.cell (p := ⟨w.heap.size, 1, none⟩) xal).trans xa1
  replace xa2 := (b.cell (p := ⟨w.heap.size, 2, none⟩) xal).trans xa2
  replace xa3 := (b.cell (p := ⟨w.heap.size, 3, none⟩) xal).trans xa3
  replace xal := Nat.lt_of_lt_of_le xal b.size
  replace xb0 := (b.cell (p := ⟨w.heap.size + 1, 0, none⟩) xbl).trans xb0
  replace xb1 := (b.cell (p := ⟨w.heap.size + 1, 1, none⟩) xbl).trans xb1
  replace xb2 := (b.cell (p := ⟨w.heap.size + 1, 2, none⟩) xbl).trans xb2
  replace xb3 := (b.cell (p := ⟨w.heap.size + 1, 3, none⟩) xbl).trans xb3
  replace xbl := Nat.lt_of_lt_of_le xbl b.size
  replace cc := cc.trans (b.mono cc.size)
  clear b
  refine hK.out _ _ ?_ (fun hHeld => ?_)
  · exact ⟨xa0, xa1, xa2, xa3, xb0, xb1, xb2, xb3⟩
  clear hK K
  try simp only [Act.put, List.getElem_toArray, List.getElem_cons_zero, List.getElem_cons_succ, List.setIfInBounds_toArray, List.set_cons_zero, List.set_cons_succ]
  refine wpAnyH_take (i := 11) (v := ?_) rfl (by kernel_rfl) (by kernel_rfl) (by kernel_rfl) (fun _ _ _ h => h) (Or.inl ⟨by rfl, ?_⟩) hHeld ?_
  rotate_left
  · (intro w hSw; (try dsimp only at hSw); go_simp; (try with_reducible rfl))
  try simp only [Act.put, List.getElem_toArray, List.getElem_cons_zero, List.getElem_cons_succ, List.setIfInBounds_toArray, List.set_cons_zero, List.set_cons_succ]
  refine wpAnyH_take (i := 12) (v := ?_) rfl (by kernel_rfl) (by kernel_rfl) (by kernel_rfl) (fun _ _ _ h => h) (Or.inl ⟨by rfl, ?_⟩) hHeld ?_
  rotate_left
  · (intro w hSw; (try dsimp only at hSw); go_simp; (try with_reducible rfl))
  try simp only [Act.put, List.getElem_toArray, List.getElem_cons_zero, List.getElem_cons_succ, List.setIfInBounds_toArray, List.set_cons_zero, List.set_cons_succ]
  refine wpAnyH_take (i := 13) (v := ?_) rfl (by kernel_rfl) (by kernel_rfl) (by kernel_rfl) (fun _ _ _ h => h) (Or.inl ⟨by rfl, ?_⟩) hHeld ?_
  rotate_left
  · (intro w hSw; (try dsimp only at hSw); go_simp; (try with_reducible rfl))
  try simp only [Act.put, List.getElem_toArray, List.getElem_cons_zero, List.getElem_cons_succ, List.setIfInBounds_toArray, List.set_cons_zero, List.set_cons_succ]
  refine wpAnyH_take (i := 14) (v := ?_) rfl (by kernel_rfl) (by kernel_rfl) (by kernel_rfl) (fun _ _ _ h => h) (Or.inl ⟨by rfl, ?_⟩) hHeld ?_
  rotate_left
  · (intro w hSw; (try dsimp only at hSw); go_simp; (try with_reducible rfl))
  try simp only [Act.put, List.getElem_toArray, List.getElem_cons_zero, List.getElem_cons_succ, List.setIfInBounds_toArray, List.set_cons_zero, List.set_cons_succ]
  refine wpAnyH_take (i := 16) (v := ?_) rfl (by kernel_rfl) (by kernel_rfl) (by kernel_rfl) (fun _ _ _ h => h) (Or.inl ⟨by rfl, ?_⟩) hHeld ?_
  rotate_left
  · (intro w hSw; (try dsimp only at hSw); go_simp; (try with_reducible rfl))
  try simp only [Act.put, List.getElem_toArray, List.getElem_cons_zero, List.getElem_cons_succ, List.setIfInBounds_toArray, List.set_cons_zero, List.set_cons_succ]
  refine wpAnyH_ready (rs := [15]) (by kernel_rfl) (by simp) ?_
  refine AllReadyH.cons rfl (fun K hK => ?_) AllReadyH.nil
  (try simp only [List.getElem_toArray, List.getElem_cons_zero, List.getElem_cons_succ])
  rw [if_pos (by rfl)]
  go_simp
  go_at_call 11
  refine (L0 _).mono ?_
  rintro e w8 ⟨rfl, b⟩
  replace hCa := hCa.on b
  replace hWa := hWa.on b
  replace hCb := hCb.on b
  replace hWb := hWb.on b
  replace xa0 := (b.cell (p := ⟨w.heap.size, 0, none⟩) xal).trans xa0
  replace xa1 := (b.cell (p := ⟨w.heap.size, 1, none⟩) xal).trans xa1
  replace xa2 := (b.cell (p := ⟨w.heap.size, 2, none⟩) xal).trans xa2
  replace xa3 := (b.cell (p := ⟨w.heap.size, 3, none⟩) xal).trans xa3
  replace xal := Nat.lt_of_lt_of_le xal b.size
  replace xb0 := (b.cell (p := ⟨w.heap.size + 1, 0, none⟩) xbl).trans xb0
  replace xb1 := (b.cell (p := ⟨w.heap.size + 1, 1, none⟩) xbl).trans xb1
  replace xb2 := (b.cell (p := ⟨w.heap.size + 1, 2, none⟩) xbl).trans xb2
  replace xb3 := (b.cell (p := ⟨w.heap.size + 1, 3, none⟩) xbl).trans xb3
  replace xbl := Nat.lt_of_lt_of_le xbl b.size
  replace cc := cc.trans (b.mono cc.size)
  clear b
  refine hK.out _ _ ?_ (fun hHeld => ?_)
  · exact ⟨xa0, xa1, xa2, xa3, xb0, xb1, xb2, xb3⟩
  clear hK K
  try simp only [Act.put, List.getElem_toArray, List.getElem_cons_zero, List.getElem_cons_succ, List.setIfInBounds_toArray, List.set_cons_zero, List.set_cons_succ]
  refine wpAnyH_ready (rs := [17]) (by kernel_rfl) (by simp) ?_
  refine AllReadyH.cons rfl (fun K hK => ?_) AllReadyH.nil
  (try simp only [List.getElem_toArray, List.getElem_cons_zero, List.getElem_cons_succ])
  rw [if_pos (by rfl)]
  go_simp
  go_at_call 12
  refine (L1 _).mono ?_
  rintro e w9 ⟨rfl, b⟩
  replace hCa := hCa.on b
  replace hWa := hWa.on b
  replace hCb := hCb.on b
  replace hWb := hWb.on b
  replace xa0 := (b.cell (p := ⟨w.heap.size, 0, none⟩) xal).trans xa0
  replace xa1 := (b.cell (p := ⟨w.heap.size, 1, none⟩) xal).trans xa1
  replace xa2 := (b.cell (p := ⟨w.heap.size, 2, none⟩) xal).trans xa2
  replace xa3 := (b.cell (p := ⟨w.heap.size, 3, none⟩) xal).trans xa3
  replace xal := Nat.lt_of_lt_of_le xal b.size
  replace xb0 := (b.cell (p := ⟨w.heap.size + 1, 0, none⟩) xbl).trans xb0
  replace xb1 := (b.cell (p := ⟨w.heap.size + 1, 1, none⟩) xbl).trans xb1
  replace xb2 := (b.cell (p := ⟨w.heap.size + 1, 2, none⟩) xbl).trans xb2
  replace xb3 := (b.cell (p := ⟨w.heap.size + 1, 3, none⟩) xbl).trans xb3
  replace xbl := Nat.lt_of_lt_of_le xbl b.size
  replace cc := cc.trans (b.mono cc.size)
  clear b
  refine hK.out _ _ ?_ (fun hHeld => ?_)
  · exact ⟨xa0, xa1, xa2, xa3, xb0, xb1, xb2, xb3⟩
  clear hK K
  try simp only [Act.put, List.getElem_toArray, List.getElem_cons_zero, List.getElem_cons_succ, List.setIfInBounds_toArray, List.set_cons_zero, List.set_cons_succ]
  refine wpAnyH_take (i := 18) (v := ?_) rfl (by kernel_rfl) (by kernel_rfl) (by kernel_rfl) (fun _ _ _ h => h) (Or.inl ⟨by rfl, ?_⟩) hHeld ?_
  rotate_left
  · (intro w hSw; (try dsimp only at hSw); go_simp; (try with_reducible rfl))
  try simp only [Act.put, List.getElem_toArray, List.getElem_cons_zero, List.getElem_cons_succ, List.setIfInBounds_toArray, List.set_cons_zero, List.set_cons_succ]
  refine wpAnyH_take (i := 19) (v := ?_) rfl (by kernel_rfl) (by kernel_rfl) (by kernel_rfl) (fun _ _ _ h => h) (Or.inl ⟨by rfl, ?_⟩) hHeld ?_
  rotate_left
  · (intro w hSw; (try dsimp only at hSw); go_simp; (try with_reducible rfl))
  try simp only [Act.put, List.getElem_toArray, List.getElem_cons_zero, List.getElem_cons_succ, List.setIfInBounds_toArray, List.set_cons_zero, List.set_cons_succ]
  refine wpAnyH_done (by kernel_rfl) ?_ _
  clear hHeld
  go_wp2_with fail
  have bD : Below w9.heap.size w9 w9.drew := below_drewN (Below.refl _ w9) 1
  replace hCa := hCa.on bD
  replace hWa := hWa.on bD
  replace hCb := hCb.on bD
  replace hWb := hWb.on bD
  replace xa0 := (bD.cell (p := ⟨w.heap.size, 0, none⟩) xal).trans xa0
  replace xa1 := (bD.cell (p := ⟨w.heap.size, 1, none⟩) xal).trans xa1
  replace xa2 := (bD.cell (p := ⟨w.heap.size, 2, none⟩) xal).trans xa2
  replace xa3 := (bD.cell (p := ⟨w.heap.size, 3, none⟩) xal).trans xa3
  replace xal := Nat.lt_of_lt_of_le xal bD.size
  replace xb0 := (bD.cell (p := ⟨w.heap.size + 1, 0, none⟩) xbl).trans xb0
  replace xb1 := (bD.cell (p := ⟨w.heap.size + 1, 1, none⟩) xbl).trans xb1
  replace xb2 := (bD.cell (p := ⟨w.heap.size + 1, 2, none⟩) xbl).trans xb2
  replace xb3 := (bD.cell (p := ⟨w.heap.size + 1, 3, none⟩) xbl).trans xb3
  replace xbl := Nat.lt_of_lt_of_le xbl bD.size
  replace cc := cc.trans (bD.mono cc.size)
  clear bD
  refine wp_region_held_drew (S := fun w' => w'.cell? ⟨w.heap.size, 0, none⟩ = some (.int .i64 ka) ∧ w'.cell? ⟨w.heap.size, 1, none⟩ = some (.int .i64 sa) ∧ w'.cell? ⟨w.heap.size, 2, none⟩ = some (.slice Aa na ca) ∧ w'.cell? ⟨w.heap.size, 3, none⟩ = some (.slice Ba ma da) ∧ w'.cell? ⟨w.heap.size + 1, 0, none⟩ = some (.int .i64 kb) ∧ w'.cell? ⟨w.heap.size + 1, 1, none⟩ = some (.int .i64 sb) ∧ w'.cell? ⟨w.heap.size + 1, 2, none⟩ = some (.slice Ab nb cb) ∧ w'.cell? ⟨w.heap.size + 1, 3, none⟩ = some (.slice Bb mb db)) (by kernel_rfl) ?_ (fun hHeld => ?_)
  · exact ⟨xa0, xa1, xa2, xa3, xb0, xb1, xb2, xb3⟩
  refine wpAnyH_ready (rs := [0]) (by kernel_rfl) (by simp) ?_
  refine AllReadyH.cons rfl (fun K hK => ?_) AllReadyH.nil
  (try simp only [List.getElem_toArray, List.getElem_cons_zero, List.getElem_cons_succ])
  rw [if_pos (by rfl)]
  go_simp
  go_at_call 6
  refine (alive11_any _).mono ?_
  rintro e w10 ⟨rfl, b⟩
  replace hCa := hCa.on b
  replace hWa := hWa.on b
  replace hCb := hCb.on b
  replace hWb := hWb.on b
  replace xa0 := (b.cell (p := ⟨w.heap.size, 0, none⟩) xal).trans xa0
  replace xa1 := (b.cell (p := ⟨w.heap.size, 1, none⟩) xal).trans xa1
  replace xa2 := (b.cell (p := ⟨w.heap.size, 2, none⟩) xal).trans xa2
  replace xa3 := (b.cell (p := ⟨w.heap.size, 3, none⟩) xal).trans xa3
  replace xal := Nat.lt_of_lt_of_le xal b.size
  replace xb0 := (b.cell (p := ⟨w.heap.size + 1, 0, none⟩) xbl).trans xb0
  replace xb1 := (b.cell (p := ⟨w.heap.size + 1, 1, none⟩) xbl).trans xb1
  replace xb2 := (b.cell (p := ⟨w.heap.size + 1, 2, none⟩) xbl).trans xb2
  replace xb3 := (b.cell (p := ⟨w.heap.size + 1, 3, none⟩) xbl).trans xb3
  replace xbl := Nat.lt_of_lt_of_le xbl b.size
  replace cc := cc.trans (b.mono cc.size)
  clear b
  refine hK.out _ _ ?_ (fun hHeld => ?_)
  · exact ⟨xa0, xa1, xa2, xa3, xb0, xb1, xb2, xb3⟩
  clear hK K
  try simp only [Act.put, List.getElem_toArray, List.getElem_cons_zero, List.getElem_cons_succ, List.setIfInBounds_toArray, List.set_cons_zero, List.set_cons_succ]
  refine wpAnyH_take (i := 1) (v := ?_) rfl (by kernel_rfl) (by kernel_rfl) (by kernel_rfl) (fun _ _ _ h => h) (Or.inl ⟨by rfl, ?_⟩) hHeld ?_
  rotate_left
  · (intro w hSw; (try dsimp only at hSw); go_simp; (try with_reducible rfl))
  try simp only [Act.put, List.getElem_toArray, List.getElem_cons_zero, List.getElem_cons_succ, List.setIfInBounds_toArray, List.set_cons_zero, List.set_cons_succ]
  refine wpAnyH_take (i := 2) (v := ?_) rfl (by kernel_rfl) (by kernel_rfl) (by kernel_rfl) (fun _ _ _ h => h) (Or.inl ⟨by rfl, ?_⟩) hHeld ?_
  rotate_left
  · (intro w hSw; (try dsimp only at hSw); go_simp; (try with_reducible rfl))
  try simp only [Act.put, List.getElem_toArray, List.getElem_cons_zero, List.getElem_cons_succ, List.setIfInBounds_toArray, List.set_cons_zero, List.set_cons_succ]
  refine wpAnyH_take (i := 3) (v := ?_) rfl (by kernel_rfl) (by kernel_rfl) (by kernel_rfl) (fun _ _ _ h => h) (Or.inl ⟨by rfl, ?_⟩) hHeld ?_
  rotate_left
  · (intro w hSw; (try dsimp only at hSw); go_simp; (try with_reducible rfl))
  try simp only [Act.put, List.getElem_toArray, List.getElem_cons_zero, List.getElem_cons_succ, List.setIfInBounds_toArray, List.set_cons_zero, List.set_cons_succ]
  refine wpAnyH_take (i := 4) (v := ?_) rfl (by kernel_rfl) (by kernel_rfl) (by kernel_rfl) (fun _ _ _ h => h) (Or.inl ⟨by rfl, ?_⟩) hHeld ?_
  rotate_left
  · (intro w hSw; (try dsimp only at hSw); go_simp; (try with_reducible rfl))
  try simp only [Act.put, List.getElem_toArray, List.getElem_cons_zero, List.getElem_cons_succ, List.setIfInBounds_toArray, List.set_cons_zero, List.set_cons_succ]
  refine wpAnyH_take (i := 5) (v := undef) rfl (by kernel_rfl) (by kernel_rfl) (by kernel_rfl) (fun _ _ _ h => h) (Or.inr ⟨by rfl, rfl⟩) hHeld ?_
  try simp only [Act.put, List.getElem_toArray, List.getElem_cons_zero, List.getElem_cons_succ, List.setIfInBounds_toArray, List.set_cons_zero, List.set_cons_succ]
  refine wpAnyH_take (i := 6) (v := undef) rfl (by kernel_rfl) (by kernel_rfl) (by kernel_rfl) (fun _ _ _ h => h) (Or.inr ⟨by rfl, rfl⟩) hHeld ?_
  try simp only [Act.put, List.getElem_toArray, List.getElem_cons_zero, List.getElem_cons_succ, List.setIfInBounds_toArray, List.set_cons_zero, List.set_cons_succ]
  refine wpAnyH_take (i := 7) (v := undef) rfl (by kernel_rfl) (by kernel_rfl) (by kernel_rfl) (fun _ _ _ h => h) (Or.inr ⟨by rfl, rfl⟩) hHeld ?_
  try simp only [Act.put, List.getElem_toArray, List.getElem_cons_zero, List.getElem_cons_succ, List.setIfInBounds_toArray, List.set_cons_zero, List.set_cons_succ]
  refine wpAnyH_take (i := 8) (v := undef) rfl (by kernel_rfl) (by kernel_rfl) (by kernel_rfl) (fun _ _ _ h => h) (Or.inr ⟨by rfl, rfl⟩) hHeld ?_
  try simp only [Act.put, List.getElem_toArray, List.getElem_cons_zero, List.getElem_cons_succ, List.setIfInBounds_toArray, List.set_cons_zero, List.set_cons_succ]
  refine wpAnyH_take (i := 9) (v := undef) rfl (by kernel_rfl) (by kernel_rfl) (by kernel_rfl) (fun _ _ _ h => h) (Or.inr ⟨by rfl, rfl⟩) hHeld ?_
  try simp only [Act.put, List.getElem_toArray, List.getElem_cons_zero, List.getElem_cons_succ, List.setIfInBounds_toArray, List.set_cons_zero, List.set_cons_succ]
  refine wpAnyH_take (i := 10) (v := ?_) rfl (by kernel_rfl) (by kernel_rfl) (by kernel_rfl) (fun _ _ _ h => h) (Or.inl ⟨by rfl, ?_⟩) hHeld ?_
  rotate_left
  · (intro w hSw; (try dsimp only at hSw); go_simp; (try with_reducible rfl))
  try simp only [Act.put, List.getElem_toArray, List.getElem_cons_zero, List.getElem_cons_succ, List.setIfInBounds_toArray, List.set_cons_zero, List.set_cons_succ]
  refine wpAnyH_take (i := 11) (v := ?_) rfl (by kernel_rfl) (by kernel_rfl) (by kernel_rfl) (fun _ _ _ h => h) (Or.inl ⟨by rfl, ?_⟩) hHeld ?_
  rotate_left
  · (intro w hSw; (try dsimp only at hSw); go_simp; (try with_reducible rfl))
  try simp only [Act.put, List.getElem_toArray, List.getElem_cons_zero, List.getElem_cons_succ, List.setIfInBounds_toArray, List.set_cons_zero, List.set_cons_succ]
  refine wpAnyH_take (i := 12) (v := ?_) rfl (by kernel_rfl) (by kernel_rfl) (by kernel_rfl) (fun _ _ _ h => h) (Or.inl ⟨by rfl, ?_⟩) hHeld ?_
  rotate_left
  · (intro w hSw; (try dsimp only at hSw); go_simp; (try with_reducible rfl))
  try simp only [Act.put, List.getElem_toArray, List.getElem_cons_zero, List.getElem_cons_succ, List.setIfInBounds_toArray, List.set_cons_zero, List.set_cons_succ]
  refine wpAnyH_done (by kernel_rfl) ?_ _
  clear hHeld
  go_wp2_with fail
  go_ret
  exact ⟨rfl, cc⟩

set_option maxRecDepth 100000 in
set_option maxHeartbeats 8000000 in
theorem BlockTells_yes {w : World} {ka sa : Int} {Aa Ba : Option Addr} {na ca ma da : Nat} {kb sb : Int} {Ab Bb : Option Addr} {nb cb mb db : Nat} {Ca : List Nat} {Wa : List Int} (hCa : BR w Aa na ca Ca) (hWa : IR w Ba ma da Wa) {Cb : List Nat} {Wb : List Int} (hCb : BR w Ab nb cb Cb) (hWb : IR w Bb mb db Wb) {v : Bool} {q : Int} {L : List Int} (hl : L.length ≤ 9223372036854775807) (F0 : ∀ W : World, Calls Tryz.prog 5 #[.agg #[.int .i64 ka, .int .i64 sa, .slice Aa na ca, .slice Ba ma da], .int .i64 20] W (GotV W (.bool true))) (F1 : ∀ W : World, Calls Tryz.prog 5 #[.agg #[.int .i64 kb, .int .i64 sb, .slice Ab nb cb, .slice Bb mb db], .int .i64 20] W (GotV W (.bool true))) (R0 : ∀ {W : World}, BR W Aa na ca Ca → IR W Ba ma da Wa → Calls Tryz.prog 7 #[.agg #[.int .i64 ka, .int .i64 sa, .slice Aa na ca, .slice Ba ma da]] W (GotV W (.bool true))) (R1 : ∀ {W : World}, BR W Aa na ca Ca → IR W Ba ma da Wa → Calls Tryz.prog 8 #[.agg #[.int .i64 ka, .int .i64 sa, .slice Aa na ca, .slice Ba ma da]] W (GotV W (.bool true))) (S0 : ∀ {W : World}, BR W Aa na ca Ca → IR W Ba ma da Wa → BR W Ab nb cb Cb → IR W Bb mb db Wb → Calls Tryz.prog 9 #[.agg #[.int .i64 ka, .int .i64 sa, .slice Aa na ca, .slice Ba ma da], .agg #[.int .i64 kb, .int .i64 sb, .slice Ab nb cb, .slice Bb mb db]] W (GotV W (.bool v))) (S1 : ∀ {W : World}, BR W Aa na ca Ca → IR W Ba ma da Wa → BR W Ab nb cb Cb → IR W Bb mb db Wb → Calls Tryz.prog 10 #[.agg #[.int .i64 ka, .int .i64 sa, .slice Aa na ca, .slice Ba ma da], .agg #[.int .i64 kb, .int .i64 sb, .slice Ab nb cb, .slice Bb mb db]] W (GotV W (.bool v))) (L0 : ∀ W : World, Calls Tryz.prog 11 #[.agg #[.int .i64 ka, .int .i64 sa, .slice Aa na ca, .slice Ba ma da]] W (GotV W (.int .i64 q))) (L1 : ∀ W : World, Calls Tryz.prog 12 #[.agg #[.int .i64 ka, .int .i64 sa, .slice Aa na ca, .slice Ba ma da]] W (GotV W (.int .i64 q))) (D0 : ∀ {W : World}, BR W Aa na ca Ca → IR W Ba ma da Wa → Calls Tryz.prog 14 #[.agg #[.int .i64 ka, .int .i64 sa, .slice Aa na ca, .slice Ba ma da]] W (GotI W L)) (D1 : ∀ {W : World}, BR W Aa na ca Ca → IR W Ba ma da Wa → Calls Tryz.prog 15 #[.agg #[.int .i64 ka, .int .i64 sa, .slice Aa na ca, .slice Ba ma da]] W (GotI W L)) :
    Calls Tryz.prog 3 #[.agg #[.int .i64 ka, .int .i64 sa, .slice Aa na ca, .slice Ba ma da], .agg #[.int .i64 kb, .int .i64 sb, .slice Ab nb cb, .slice Bb mb db]] w fun e w' => e = .returned (.bool true) ∧ Below w.heap.size w w' := by
  have cc := Below.refl w.heap.size w
  go_enter Tryz.func3, Tryz.ntmps3
  go_wp2_with fail
  have bA : Below w.heap.size w ((w.alloc (.cells #[.int .i64 ka, .int .i64 sa, .slice Aa na ca, .slice Ba ma da] 25)).alloc (.cells #[.int .i64 kb, .int .i64 sb, .slice Ab nb cb, .slice Bb mb db] 25)) := (((Below.refl _ w).alloc (by simp) _).alloc (by simp) _)
  replace hCa := hCa.on bA
  replace hWa := hWa.on bA
  replace hCb := hCb.on bA
  replace hWb := hWb.on bA
  replace cc := cc.trans (bA.mono cc.size)
  clear bA
  have xa0 : ((w.alloc (.cells #[.int .i64 ka, .int .i64 sa, .slice Aa na ca, .slice Ba ma da] 25)).alloc (.cells #[.int .i64 kb, .int .i64 sb, .slice Ab nb cb, .slice Bb mb db] 25)).cell? ⟨w.heap.size, 0, none⟩ = some (.int .i64 ka) := by simp [go_sem]
  have xa1 : ((w.alloc (.cells #[.int .i64 ka, .int .i64 sa, .slice Aa na ca, .slice Ba ma da] 25)).alloc (.cells #[.int .i64 kb, .int .i64 sb, .slice Ab nb cb, .slice Bb mb db] 25)).cell? ⟨w.heap.size, 1, none⟩ = some (.int .i64 sa) := by simp [go_sem]
  have xa2 : ((w.alloc (.cells #[.int .i64 ka, .int .i64 sa, .slice Aa na ca, .slice Ba ma da] 25)).alloc (.cells #[.int .i64 kb, .int .i64 sb, .slice Ab nb cb, .slice Bb mb db] 25)).cell? ⟨w.heap.size, 2, none⟩ = some (.slice Aa na ca) := by simp [go_sem]
  have xa3 : ((w.alloc (.cells #[.int .i64 ka, .int .i64 sa, .slice Aa na ca, .slice Ba ma da] 25)).alloc (.cells #[.int .i64 kb, .int .i64 sb, .slice Ab nb cb, .slice Bb mb db] 25)).cell? ⟨w.heap.size, 3, none⟩ = some (.slice Ba ma da) := by simp [go_sem]
  have xal : w.heap.size < ((w.alloc (.cells #[.int .i64 ka, .int .i64 sa, .slice Aa na ca, .slice Ba ma da] 25)).alloc (.cells #[.int .i64 kb, .int .i64 sb, .slice Ab nb cb, .slice Bb mb db] 25)).heap.size := by simp <;> omega
  have xb0 : ((w.alloc (.cells #[.int .i64 ka, .int .i64 sa, .slice Aa na ca, .slice Ba ma da] 25)).alloc (.cells #[.int .i64 kb, .int .i64 sb, .slice Ab nb cb, .slice Bb mb db] 25)).cell? ⟨w.heap.size + 1, 0, none⟩ = some (.int .i64 kb) := by simp [go_sem]
  have xb1 : ((w.alloc (.cells #[.int .i64 ka, .int .i64 sa, .slice Aa na ca, .slice Ba ma da] 25)).alloc (.cells #[.int .i64 kb, .int .i64 sb, .slice Ab nb cb, .slice Bb mb db] 25)).cell? ⟨w.heap.size + 1, 1, none⟩ = some (.int .i64 sb) := by simp [go_sem]
  have xb2 : ((w.alloc (.cells #[.int .i64 ka, .int .i64 sa, .slice Aa na ca, .slice Ba ma da] 25)).alloc (.cells #[.int .i64 kb, .int .i64 sb, .slice Ab nb cb, .slice Bb mb db] 25)).cell? ⟨w.heap.size + 1, 2, none⟩ = some (.slice Ab nb cb) := by simp [go_sem]
  have xb3 : ((w.alloc (.cells #[.int .i64 ka, .int .i64 sa, .slice Aa na ca, .slice Ba ma da] 25)).alloc (.cells #[.int .i64 kb, .int .i64 sb, .slice Ab nb cb, .slice Bb mb db] 25)).cell? ⟨w.heap.size + 1, 3, none⟩ = some (.slice Bb mb db) := by simp [go_sem]
  have xbl : w.heap.size + 1 < ((w.alloc (.cells #[.int .i64 ka, .int .i64 sa, .slice Aa na ca, .slice Ba ma da] 25)).alloc (.cells #[.int .i64 kb, .int .i64 sb, .slice Ab nb cb, .slice Bb mb db] 25)).heap.size := by simp <;> omega
  generalize (w.alloc (.cells #[.int .i64 ka, .int .i64 sa, .slice Aa na ca, .slice Ba ma da] 25)).alloc (.cells #[.int .i64 kb, .int .i64 sb, .slice Ab nb cb, .slice Bb mb db] 25) = v1 at *
  go_wp2_with fail
  refine (F0 _).mono ?_
  rintro e w2 ⟨rfl, b⟩
  replace hCa := hCa.on b
  replace hWa := hWa.on b
  replace hCb := hCb.on b
  replace hWb := hWb.on b
  replace xa0 := (b.cell (p := ⟨w.heap.size, 0, none⟩) xal).trans xa0
  replace xa1 := (b.cell (p := ⟨w.heap.size, 1, none⟩) xal).trans xa1
  replace xa2 := (b.cell (p := ⟨w.heap.size, 2, none⟩) xal).trans xa2
  replace xa3 := (b.cell (p := ⟨w.heap.size, 3, none⟩) xal).trans xa3
  replace xal := Nat.lt_of_lt_of_le xal b.size
  replace xb0 := (b.cell (p := ⟨w.heap.size + 1, 0, none⟩) xbl).trans xb0
  replace xb1 := (b.cell (p := ⟨w.heap.size + 1, 1, none⟩) xbl).trans xb1
  replace xb2 := (b.cell (p := ⟨w.heap.size + 1, 2, none⟩) xbl).trans xb2
  replace xb3 := (b.cell (p := ⟨w.heap.size + 1, 3, none⟩) xbl).trans xb3
  replace xbl := Nat.lt_of_lt_of_le xbl b.size
  replace cc := cc.trans (b.mono cc.size)
  clear b
  go_wp2_with fail
  refine (F1 _).mono ?_
  rintro e w3 ⟨rfl, b⟩
  replace hCa := hCa.on b
  replace hWa := hWa.on b
  replace hCb := hCb.on b
  replace hWb := hWb.on b
  replace xa0 := (b.cell (p := ⟨w.heap.size, 0, none⟩) xal).trans xa0
  replace xa1 := (b.cell (p := ⟨w.heap.size, 1, none⟩) xal).trans xa1
  replace xa2 := (b.cell (p := ⟨w.heap.size, 2, none⟩) xal).trans xa2
  replace xa3 := (b.cell (p := ⟨w.heap.size, 3, none⟩) xal).trans xa3
  replace xal := Nat.lt_of_lt_of_le xal b.size
  replace xb0 := (b.cell (p := ⟨w.heap.size + 1, 0, none⟩) xbl).trans xb0
  replace xb1 := (b.cell (p := ⟨w.heap.size + 1, 1, none⟩) xbl).trans xb1
  replace xb2 := (b.cell (p := ⟨w.heap.size + 1, 2, none⟩) xbl).trans xb2
  replace xb3 := (b.cell (p := ⟨w.heap.size + 1, 3, none⟩) xbl).trans xb3
  replace xbl := Nat.lt_of_lt_of_le xbl b.size
  replace cc := cc.trans (b.mono cc.size)
  clear b
  go_wp2_with fail
  refine (R0 hCa hWa).mono ?_
  rintro e w4 ⟨rfl, b⟩
  replace hCa := hCa.on b
  replace hWa := hWa.on b
  replace hCb := hCb.on b
  replace hWb := hWb.on b
  replace xa0 := (b.cell (p := ⟨w.heap.size, 0, none⟩) xal).trans xa0
  replace xa1 := (b.cell (p := ⟨w.heap.size, 1, none⟩) xal).trans xa1
  replace xa2 := (b.cell (p := ⟨w.heap.size, 2, none⟩) xal).trans xa2
  replace xa3 := (b.cell (p := ⟨w.heap.size, 3, none⟩) xal).trans xa3
  replace xal := Nat.lt_of_lt_of_le xal b.size
  replace xb0 := (b.cell (p := ⟨w.heap.size + 1, 0, none⟩) xbl).trans xb0
  replace xb1 := (b.cell (p := ⟨w.heap.size + 1, 1, none⟩) xbl).trans xb1
  replace xb2 := (b.cell (p := ⟨w.heap.size + 1, 2, none⟩) xbl).trans xb2
  replace xb3 := (b.cell (p := ⟨w.heap.size + 1, 3, none⟩) xbl).trans xb3
  replace xbl := Nat.lt_of_lt_of_le xbl b.size
  replace cc := cc.trans (b.mono cc.size)
  clear b
  go_wp2_with fail
  have bD : Below w4.heap.size w4 w4.drew := below_drewN (Below.refl _ w4) 1
  replace hCa := hCa.on bD
  replace hWa := hWa.on bD
  replace hCb := hCb.on bD
  replace hWb := hWb.on bD
  replace xa0 := (bD.cell (p := ⟨w.heap.size, 0, none⟩) xal).trans xa0
  replace xa1 := (bD.cell (p := ⟨w.heap.size, 1, none⟩) xal).trans xa1
  replace xa2 := (bD.cell (p := ⟨w.heap.size, 2, none⟩) xal).trans xa2
  replace xa3 := (bD.cell (p := ⟨w.heap.size, 3, none⟩) xal).trans xa3
  replace xal := Nat.lt_of_lt_of_le xal bD.size
  replace xb0 := (bD.cell (p := ⟨w.heap.size + 1, 0, none⟩) xbl).trans xb0
  replace xb1 := (bD.cell (p := ⟨w.heap.size + 1, 1, none⟩) xbl).trans xb1
  replace xb2 := (bD.cell (p := ⟨w.heap.size + 1, 2, none⟩) xbl).trans xb2
  replace xb3 := (bD.cell (p := ⟨w.heap.size + 1, 3, none⟩) xbl).trans xb3
  replace xbl := Nat.lt_of_lt_of_le xbl bD.size
  replace cc := cc.trans (bD.mono cc.size)
  clear bD
  refine wp_region_held_drew (S := fun w' => w'.cell? ⟨w.heap.size, 0, none⟩ = some (.int .i64 ka) ∧ w'.cell? ⟨w.heap.size, 1, none⟩ = some (.int .i64 sa) ∧ w'.cell? ⟨w.heap.size, 2, none⟩ = some (.slice Aa na ca) ∧ w'.cell? ⟨w.heap.size, 3, none⟩ = some (.slice Ba ma da) ∧ w'.cell? ⟨w.heap.size + 1, 0, none⟩ = some (.int .i64 kb) ∧ w'.cell? ⟨w.heap.size + 1, 1, none⟩ = some (.int .i64 sb) ∧ w'.cell? ⟨w.heap.size + 1, 2, none⟩ = some (.slice Ab nb cb) ∧ w'.cell? ⟨w.heap.size + 1, 3, none⟩ = some (.slice Bb mb db)) (by kernel_rfl) ?_ (fun hHeld => ?_)
  · exact ⟨xa0, xa1, xa2, xa3, xb0, xb1, xb2, xb3⟩
  refine wpAnyH_take (i := 0) (v := ?_) rfl (by kernel_rfl) (by kernel_rfl) (by kernel_rfl) (fun _ _ _ h => h) (Or.inl ⟨by rfl, ?_⟩) hHeld ?_
  rotate_left
  · (intro w hSw; (try dsimp only at hSw); go_simp; (try with_reducible rfl))
  try simp only [Act.put, List.getElem_toArray, List.getElem_cons_zero, List.getElem_cons_succ, List.setIfInBounds_toArray, List.set_cons_zero, List.set_cons_succ]
  refine wpAnyH_take (i := 2) (v := ?_) rfl (by kernel_rfl) (by kernel_rfl) (by kernel_rfl) (fun _ _ _ h => h) (Or.inl ⟨by rfl, ?_⟩) hHeld ?_
  rotate_left
  · (intro w hSw; (try dsimp only at hSw); go_simp; (try with_reducible rfl))
  try simp only [Act.put, List.getElem_toArray, List.getElem_cons_zero, List.getElem_cons_succ, List.setIfInBounds_toArray, List.set_cons_zero, List.set_cons_succ]
  refine wpAnyH_ready (rs := [1]) (by kernel_rfl) (by simp) ?_
  refine AllReadyH.cons rfl (fun K hK => ?_) AllReadyH.nil
  (try simp only [List.getElem_toArray, List.getElem_cons_zero, List.getElem_cons_succ])
  rw [if_pos (by rfl)]
  go_simp
  go_at_call 8
  refine (R1 hCa hWa).mono ?_
  rintro e w5 ⟨rfl, b⟩
  replace hCa := hCa.on b
  replace hWa := hWa.on b
  replace hCb := hCb.on b
  replace hWb := hWb.on b
  replace xa0 := (b.cell (p := ⟨w.heap.size, 0, none⟩) xal).trans xa0
  replace xa1 := (b.cell (p := ⟨w.heap.size, 1, none⟩) xal).trans xa1
  replace xa2 := (b.cell (p := ⟨w.heap.size, 2, none⟩) xal).trans xa2
  replace xa3 := (b.cell (p := ⟨w.heap.size, 3, none⟩) xal).trans xa3
  replace xal := Nat.lt_of_lt_of_le xal b.size
  replace xb0 := (b.cell (p := ⟨w.heap.size + 1, 0, none⟩) xbl).trans xb0
  replace xb1 := (b.cell (p := ⟨w.heap.size + 1, 1, none⟩) xbl).trans xb1
  replace xb2 := (b.cell (p := ⟨w.heap.size + 1, 2, none⟩) xbl).trans xb2
  replace xb3 := (b.cell (p := ⟨w.heap.size + 1, 3, none⟩) xbl).trans xb3
  replace xbl := Nat.lt_of_lt_of_le xbl b.size
  replace cc := cc.trans (b.mono cc.size)
  clear b
  refine hK.out _ _ ?_ (fun hHeld => ?_)
  · exact ⟨xa0, xa1, xa2, xa3, xb0, xb1, xb2, xb3⟩
  clear hK K
  try simp only [Act.put, List.getElem_toArray, List.getElem_cons_zero, List.getElem_cons_succ, List.setIfInBounds_toArray, List.set_cons_zero, List.set_cons_succ]
  refine wpAnyH_take (i := 3) (v := ?_) rfl (by kernel_rfl) (by kernel_rfl) (by kernel_rfl) (fun _ _ _ h => h) (Or.inl ⟨by rfl, ?_⟩) hHeld ?_
  rotate_left
  · (intro w hSw; (try dsimp only at hSw); go_simp; (try with_reducible rfl))
  try simp only [Act.put, List.getElem_toArray, List.getElem_cons_zero, List.getElem_cons_succ, List.setIfInBounds_toArray, List.set_cons_zero, List.set_cons_succ]
  refine wpAnyH_take (i := 4) (v := ?_) rfl (by kernel_rfl) (by kernel_rfl) (by kernel_rfl) (fun _ _ _ h => h) (Or.inl ⟨by rfl, ?_⟩) hHeld ?_
  rotate_left
  · (intro w hSw; (try dsimp only at hSw); go_simp; (try with_reducible rfl))
  try simp only [Act.put, List.getElem_toArray, List.getElem_cons_zero, List.getElem_cons_succ, List.setIfInBounds_toArray, List.set_cons_zero, List.set_cons_succ]
  refine wpAnyH_take (i := 5) (v := ?_) rfl (by kernel_rfl) (by kernel_rfl) (by kernel_rfl) (fun _ _ _ h => h) (Or.inl ⟨by rfl, ?_⟩) hHeld ?_
  rotate_left
  · (intro w hSw; (try dsimp only at hSw); go_simp; (try with_reducible rfl))
  try simp only [Act.put, List.getElem_toArray, List.getElem_cons_zero, List.getElem_cons_succ, List.setIfInBounds_toArray, List.set_cons_zero, List.set_cons_succ]
  refine wpAnyH_take (i := 6) (v := ?_) rfl (by kernel_rfl) (by kernel_rfl) (by kernel_rfl) (fun _ _ _ h => h) (Or.inl ⟨by rfl, ?_⟩) hHeld ?_
  rotate_left
  · (intro w hSw; (try dsimp only at hSw); go_simp; (try with_reducible rfl))
  try simp only [Act.put, List.getElem_toArray, List.getElem_cons_zero, List.getElem_cons_succ, List.setIfInBounds_toArray, List.set_cons_zero, List.set_cons_succ]
  refine wpAnyH_take (i := 8) (v := ?_) rfl (by kernel_rfl) (by kernel_rfl) (by kernel_rfl) (fun _ _ _ h => h) (Or.inl ⟨by rfl, ?_⟩) hHeld ?_
  rotate_left
  · (intro w hSw; (try dsimp only at hSw); go_simp; (try with_reducible rfl))
  try simp only [Act.put, List.getElem_toArray, List.getElem_cons_zero, List.getElem_cons_succ, List.setIfInBounds_toArray, List.set_cons_zero, List.set_cons_succ]
  refine wpAnyH_take (i := 9) (v := ?_) rfl (by kernel_rfl) (by kernel_rfl) (by kernel_rfl) (fun _ _ _ h => h) (Or.inl ⟨by rfl, ?_⟩) hHeld ?_
  rotate_left
  · (intro w hSw; (try dsimp only at hSw); go_simp; (try with_reducible rfl))
  try simp only [Act.put, List.getElem_toArray, List.getElem_cons_zero, List.getElem_cons_succ, List.setIfInBounds_toArray, List.set_cons_zero, List.set_cons_succ]
  refine wpAnyH_ready (rs := [7]) (by kernel_rfl) (by simp) ?_
  refine AllReadyH.cons rfl (fun K hK => ?_) AllReadyH.nil
  (try simp only [List.getElem_toArray, List.getElem_cons_zero, List.getElem_cons_succ])
  rw [if_pos (by rfl)]
  go_simp
  go_at_call 9
  refine (S0 hCa hWa hCb hWb).mono ?_
  rintro e w6 ⟨rfl, b⟩
  replace hCa := hCa.on b
  replace hWa := hWa.on b
  replace hCb := hCb.on b
  replace hWb := hWb.on b
  replace xa0 := (b.cell (p := ⟨w.heap.size, 0, none⟩) xal).trans xa0
  replace xa1 := (b.cell (p := ⟨w.heap.size, 1, none⟩) xal).trans xa1
  replace xa2 := (b.cell (p := ⟨w.heap.size, 2, none⟩) xal).trans xa2
  replace xa3 := (b.cell (p := ⟨w.heap.size, 3, none⟩) xal).trans xa3
  replace xal := Nat.lt_of_lt_of_le xal b.size
  replace xb0 := (b.cell (p := ⟨w.heap.size + 1, 0, none⟩) xbl).trans xb0
  replace xb1 := (b.cell (p := ⟨w.heap.size + 1, 1, none⟩) xbl).trans xb1
  replace xb2 := (b.cell (p := ⟨w.heap.size + 1, 2, none⟩) xbl).trans xb2
  replace xb3 := (b.cell (p := ⟨w.heap.size + 1, 3, none⟩) xbl).trans xb3
  replace xbl := Nat.lt_of_lt_of_le xbl b.size
  replace cc := cc.trans (b.mono cc.size)
  clear b
  refine hK.out _ _ ?_ (fun hHeld => ?_)
  · exact ⟨xa0, xa1, xa2, xa3, xb0, xb1, xb2, xb3⟩
  clear hK K
  try simp only [Act.put, List.getElem_toArray, List.getElem_cons_zero, List.getElem_cons_succ, List.setIfInBounds_toArray, List.set_cons_zero, List.set_cons_succ]
  refine wpAnyH_ready (rs := [10]) (by kernel_rfl) (by simp) ?_
  refine AllReadyH.cons rfl (fun K hK => ?_) AllReadyH.nil
  (try simp only [List.getElem_toArray, List.getElem_cons_zero, List.getElem_cons_succ])
  rw [if_pos (by rfl)]
  go_simp
  go_at_call 10
  refine (S1 hCa hWa hCb hWb).mono ?_
  rintro e w7 ⟨rfl, b⟩
  replace hCa := hCa.on b
  replace hWa := hWa.on b
  replace hCb := hCb.on b
  replace hWb := hWb.on b
  replace xa0 := (b.cell (p := ⟨w.heap.size, 0, none⟩) xal).trans xa0
  replace xa1 := (b.cell (p := ⟨w.heap.size, 1, none⟩) xal).trans xa1
  replace xa2 := (b.cell (p := ⟨w.heap.size, 2, none⟩) xal).trans xa2
  replace xa3 := (b.cell (p := ⟨w.heap.size, 3, none⟩) xal).trans xa3
  replace xal := Nat.lt_of_lt_of_le xal b.size
  replace xb0 := (b.cell (p := ⟨w.heap.size + 1, 0, none⟩) xbl).trans xb0
  replace xb1 := (b.cell (p := ⟨w.heap.size + 1, 1, none⟩) xbl).trans xb1
  replace xb2 := (b.cell (p := ⟨w.heap.size + 1, 2, none⟩) xbl).trans xb2
  replace xb3 := (b.cell (p := ⟨w.heap.size + 1, 3, none⟩) xbl).trans xb3
  replace xbl := Nat.lt_of_lt_of_le xbl b.size
  replace cc := cc.trans (b.mono cc.size)
  clear b
  refine hK.out _ _ ?_ (fun hHeld => ?_)
  · exact ⟨xa0, xa1, xa2, xa3, xb0, xb1, xb2, xb3⟩
  clear hK K
  try simp only [Act.put, List.getElem_toArray, List.getElem_cons_zero, List.getElem_cons_succ, List.setIfInBounds_toArray, List.set_cons_zero, List.set_cons_succ]
  refine wpAnyH_take (i := 11) (v := ?_) rfl (by kernel_rfl) (by kernel_rfl) (by kernel_rfl) (fun _ _ _ h => h) (Or.inl ⟨by rfl, ?_⟩) hHeld ?_
  rotate_left
  · (intro w hSw; (try dsimp only at hSw); go_simp; (try with_reducible rfl))
  try simp only [Act.put, List.getElem_toArray, List.getElem_cons_zero, List.getElem_cons_succ, List.setIfInBounds_toArray, List.set_cons_zero, List.set_cons_succ]
  refine wpAnyH_take (i := 12) (v := ?_) rfl (by kernel_rfl) (by kernel_rfl) (by kernel_rfl) (fun _ _ _ h => h) (Or.inl ⟨by rfl, ?_⟩) hHeld ?_
  rotate_left
  · (intro w hSw; (try dsimp only at hSw); go_simp; (try with_reducible rfl))
  try simp only [Act.put, List.getElem_toArray, List.getElem_cons_zero, List.getElem_cons_succ, List.setIfInBounds_toArray, List.set_cons_zero, List.set_cons_succ]
  refine wpAnyH_take (i := 13) (v := ?_) rfl (by kernel_rfl) (by kernel_rfl) (by kernel_rfl) (fun _ _ _ h => h) (Or.inl ⟨by rfl, ?_⟩) hHeld ?_
  rotate_left
  · (intro w hSw; (try dsimp only at hSw); go_simp; (try with_reducible rfl))
  try simp only [Act.put, List.getElem_toArray, List.getElem_cons_zero, List.getElem_cons_succ, List.setIfInBounds_toArray, List.set_cons_zero, List.set_cons_succ]
  refine wpAnyH_take (i := 14) (v := ?_) rfl (by kernel_rfl) (by kernel_rfl) (by kernel_rfl) (fun _ _ _ h => h) (Or.inl ⟨by rfl, ?_⟩) hHeld ?_
  rotate_left
  · (intro w hSw; (try dsimp only at hSw); go_simp; (try with_reducible rfl))
  try simp only [Act.put, List.getElem_toArray, List.getElem_cons_zero, List.getElem_cons_succ, List.setIfInBounds_toArray, List.set_cons_zero, List.set_cons_succ]
  refine wpAnyH_take (i := 16) (v := ?_) rfl (by kernel_rfl) (by kernel_rfl) (by kernel_rfl) (fun _ _ _ h => h) (Or.inl ⟨by rfl, ?_⟩) hHeld ?_
  rotate_left
  · (intro w hSw; (try dsimp only at hSw); go_simp; (try with_reducible rfl))
  try simp only [Act.put, List.getElem_toArray, List.getElem_cons_zero, List.getElem_cons_succ, List.setIfInBounds_toArray, List.set_cons_zero, List.set_cons_succ]
  refine wpAnyH_ready (rs := [15]) (by kernel_rfl) (by simp) ?_
  refine AllReadyH.cons rfl (fun K hK => ?_) AllReadyH.nil
  (try simp only [List.getElem_toArray, List.getElem_cons_zero, List.getElem_cons_succ])
  rw [if_pos (by rfl)]
  go_simp
  go_at_call 11
  refine (L0 _).mono ?_
  rintro e w8 ⟨rfl, b⟩
  replace hCa := hCa.on b
  replace hWa := hWa.on b
  replace hCb := hCb.on b
  replace hWb := hWb.on b
  replace xa0 := (b.cell (p := ⟨w.heap.size, 0, none⟩) xal).trans xa0
  replace xa1 := (b.cell (p := ⟨w.heap.size, 1, none⟩) xal).trans xa1
  replace xa2 := (b.cell (p := ⟨w.heap.size, 2, none⟩) xal).trans xa2
  replace xa3 := (b.cell (p := ⟨w.heap.size, 3, none⟩) xal).trans xa3
  replace xal := Nat.lt_of_lt_of_le xal b.size
  replace xb0 := (b.cell (p := ⟨w.heap.size + 1, 0, none⟩) xbl).trans xb0
  replace xb1 := (b.cell (p := ⟨w.heap.size + 1, 1, none⟩) xbl).trans xb1
  replace xb2 := (b.cell (p := ⟨w.heap.size + 1, 2, none⟩) xbl).trans xb2
  replace xb3 := (b.cell (p := ⟨w.heap.size + 1, 3, none⟩) xbl).trans xb3
  replace xbl := Nat.lt_of_lt_of_le xbl b.size
  replace cc := cc.trans (b.mono cc.size)
  clear b
  refine hK.out _ _ ?_ (fun hHeld => ?_)
  · exact ⟨xa0, xa1, xa2, xa3, xb0, xb1, xb2, xb3⟩
  clear hK K
  try simp only [Act.put, List.getElem_toArray, List.getElem_cons_zero, List.getElem_cons_succ, List.setIfInBounds_toArray, List.set_cons_zero, List.set_cons_succ]
  refine wpAnyH_ready (rs := [17]) (by kernel_rfl) (by simp) ?_
  refine AllReadyH.cons rfl (fun K hK => ?_) AllReadyH.nil
  (try simp only [List.getElem_toArray, List.getElem_cons_zero, List.getElem_cons_succ])
  rw [if_pos (by rfl)]
  go_simp
  go_at_call 12
  refine (L1 _).mono ?_
  rintro e w9 ⟨rfl, b⟩
  replace hCa := hCa.on b
  replace hWa := hWa.on b
  replace hCb := hCb.on b
  replace hWb := hWb.on b
  replace xa0 := (b.cell (p := ⟨w.heap.size, 0, none⟩) xal).trans xa0
  replace xa1 := (b.cell (p := ⟨w.heap.size, 1, none⟩) xal).trans xa1
  replace xa2 := (b.cell (p := ⟨w.heap.size, 2, none⟩) xal).trans xa2
  replace xa3 := (b.cell (p := ⟨w.heap.size, 3, none⟩) xal).trans xa3
  replace xal := Nat.lt_of_lt_of_le xal b.size
  replace xb0 := (b.cell (p := ⟨w.heap.size + 1, 0, none⟩) xbl).trans xb0
  replace xb1 := (b.cell (p := ⟨w.heap.size + 1, 1, none⟩) xbl).trans xb1
  replace xb2 := (b.cell (p := ⟨w.heap.size + 1, 2, none⟩) xbl).trans xb2
  replace xb3 := (b.cell (p := ⟨w.heap.size + 1, 3, none⟩) xbl).trans xb3
  replace xbl := Nat.lt_of_lt_of_le xbl b.size
  replace cc := cc.trans (b.mono cc.size)
  clear b
  refine hK.out _ _ ?_ (fun hHeld => ?_)
  · exact ⟨xa0, xa1, xa2, xa3, xb0, xb1, xb2, xb3⟩
  clear hK K
  try simp only [Act.put, List.getElem_toArray, List.getElem_cons_zero, List.getElem_cons_succ, List.setIfInBounds_toArray, List.set_cons_zero, List.set_cons_succ]
  refine wpAnyH_take (i := 18) (v := ?_) rfl (by kernel_rfl) (by kernel_rfl) (by kernel_rfl) (fun _ _ _ h => h) (Or.inl ⟨by rfl, ?_⟩) hHeld ?_
  rotate_left
  · (intro w hSw; (try dsimp only at hSw); go_simp; (try with_reducible rfl))
  try simp only [Act.put, List.getElem_toArray, List.getElem_cons_zero, List.getElem_cons_succ, List.setIfInBounds_toArray, List.set_cons_zero, List.set_cons_succ]
  refine wpAnyH_take (i := 19) (v := ?_) rfl (by kernel_rfl) (by kernel_rfl) (by kernel_rfl) (fun _ _ _ h => h) (Or.inl ⟨by rfl, ?_⟩) hHeld ?_
  rotate_left
  · (intro w hSw; (try dsimp only at hSw); go_simp; (try with_reducible rfl))
  try simp only [Act.put, List.getElem_toArray, List.getElem_cons_zero, List.getElem_cons_succ, List.setIfInBounds_toArray, List.set_cons_zero, List.set_cons_succ]
  refine wpAnyH_done (by kernel_rfl) ?_ _
  clear hHeld
  go_wp2_with fail
  have bD : Below w9.heap.size w9 w9.drew := below_drewN (Below.refl _ w9) 1
  replace hCa := hCa.on bD
  replace hWa := hWa.on bD
  replace hCb := hCb.on bD
  replace hWb := hWb.on bD
  replace xa0 := (bD.cell (p := ⟨w.heap.size, 0, none⟩) xal).trans xa0
  replace xa1 := (bD.cell (p := ⟨w.heap.size, 1, none⟩) xal).trans xa1
  replace xa2 := (bD.cell (p := ⟨w.heap.size, 2, none⟩) xal).trans xa2
  replace xa3 := (bD.cell (p := ⟨w.heap.size, 3, none⟩) xal).trans xa3
  replace xal := Nat.lt_of_lt_of_le xal bD.size
  replace xb0 := (bD.cell (p := ⟨w.heap.size + 1, 0, none⟩) xbl).trans xb0
  replace xb1 := (bD.cell (p := ⟨w.heap.size + 1, 1, none⟩) xbl).trans xb1
  replace xb2 := (bD.cell (p := ⟨w.heap.size + 1, 2, none⟩) xbl).trans xb2
  replace xb3 := (bD.cell (p := ⟨w.heap.size + 1, 3, none⟩) xbl).trans xb3
  replace xbl := Nat.lt_of_lt_of_le xbl bD.size
  replace cc := cc.trans (bD.mono cc.size)
  clear bD
  refine wp_region_held_drew (S := fun w' => w'.cell? ⟨w.heap.size, 0, none⟩ = some (.int .i64 ka) ∧ w'.cell? ⟨w.heap.size, 1, none⟩ = some (.int .i64 sa) ∧ w'.cell? ⟨w.heap.size, 2, none⟩ = some (.slice Aa na ca) ∧ w'.cell? ⟨w.heap.size, 3, none⟩ = some (.slice Ba ma da) ∧ w'.cell? ⟨w.heap.size + 1, 0, none⟩ = some (.int .i64 kb) ∧ w'.cell? ⟨w.heap.size + 1, 1, none⟩ = some (.int .i64 sb) ∧ w'.cell? ⟨w.heap.size + 1, 2, none⟩ = some (.slice Ab nb cb) ∧ w'.cell? ⟨w.heap.size + 1, 3, none⟩ = some (.slice Bb mb db)) (by kernel_rfl) ?_ (fun hHeld => ?_)
  · exact ⟨xa0, xa1, xa2, xa3, xb0, xb1, xb2, xb3⟩
  refine wpAnyH_ready (rs := [0]) (by kernel_rfl) (by simp) ?_
  refine AllReadyH.cons rfl (fun K hK => ?_) AllReadyH.nil
  (try simp only [List.getElem_toArray, List.getElem_cons_zero, List.getElem_cons_succ])
  rw [if_pos (by rfl)]
  go_simp
  go_at_call 6
  refine (alive11_any _).mono ?_
  rintro e w10 ⟨rfl, b⟩
  replace hCa := hCa.on b
  replace hWa := hWa.on b
  replace hCb := hCb.on b
  replace hWb := hWb.on b
  replace xa0 := (b.cell (p := ⟨w.heap.size, 0, none⟩) xal).trans xa0
  replace xa1 := (b.cell (p := ⟨w.heap.size, 1, none⟩) xal).trans xa1
  replace xa2 := (b.cell (p := ⟨w.heap.size, 2, none⟩) xal).trans xa2
  replace xa3 := (b.cell (p := ⟨w.heap.size, 3, none⟩) xal).trans xa3
  replace xal := Nat.lt_of_lt_of_le xal b.size
  replace xb0 := (b.cell (p := ⟨w.heap.size + 1, 0, none⟩) xbl).trans xb0
  replace xb1 := (b.cell (p := ⟨w.heap.size + 1, 1, none⟩) xbl).trans xb1
  replace xb2 := (b.cell (p := ⟨w.heap.size + 1, 2, none⟩) xbl).trans xb2
  replace xb3 := (b.cell (p := ⟨w.heap.size + 1, 3, none⟩) xbl).trans xb3
  replace xbl := Nat.lt_of_lt_of_le xbl b.size
  replace cc := cc.trans (b.mono cc.size)
  clear b
  refine hK.out _ _ ?_ (fun hHeld => ?_)
  · exact ⟨xa0, xa1, xa2, xa3, xb0, xb1, xb2, xb3⟩
  clear hK K
  try simp only [Act.put, List.getElem_toArray, List.getElem_cons_zero, List.getElem_cons_succ, List.setIfInBounds_toArray, List.set_cons_zero, List.set_cons_succ]
  refine wpAnyH_take (i := 1) (v := ?_) rfl (by kernel_rfl) (by kernel_rfl) (by kernel_rfl) (fun _ _ _ h => h) (Or.inl ⟨by rfl, ?_⟩) hHeld ?_
  rotate_left
  · (intro w hSw; (try dsimp only at hSw); go_simp; (try with_reducible rfl))
  try simp only [Act.put, List.getElem_toArray, List.getElem_cons_zero, List.getElem_cons_succ, List.setIfInBounds_toArray, List.set_cons_zero, List.set_cons_succ]
  refine wpAnyH_take (i := 2) (v := ?_) rfl (by kernel_rfl) (by kernel_rfl) (by kernel_rfl) (fun _ _ _ h => h) (Or.inl ⟨by rfl, ?_⟩) hHeld ?_
  rotate_left
  · (intro w hSw; (try dsimp only at hSw); go_simp; (try with_reducible rfl))
  try simp only [Act.put, List.getElem_toArray, List.getElem_cons_zero, List.getElem_cons_succ, List.setIfInBounds_toArray, List.set_cons_zero, List.set_cons_succ]
  refine wpAnyH_take (i := 3) (v := ?_) rfl (by kernel_rfl) (by kernel_rfl) (by kernel_rfl) (fun _ _ _ h => h) (Or.inl ⟨by rfl, ?_⟩) hHeld ?_
  rotate_left
  · (intro w hSw; (try dsimp only at hSw); go_simp; (try with_reducible rfl))
  try simp only [Act.put, List.getElem_toArray, List.getElem_cons_zero, List.getElem_cons_succ, List.setIfInBounds_toArray, List.set_cons_zero, List.set_cons_succ]
  refine wpAnyH_take (i := 4) (v := ?_) rfl (by kernel_rfl) (by kernel_rfl) (by kernel_rfl) (fun _ _ _ h => h) (Or.inl ⟨by rfl, ?_⟩) hHeld ?_
  rotate_left
  · (intro w hSw; (try dsimp only at hSw); go_simp; (try with_reducible rfl))
  try simp only [Act.put, List.getElem_toArray, List.getElem_cons_zero, List.getElem_cons_succ, List.setIfInBounds_toArray, List.set_cons_zero, List.set_cons_succ]
  refine wpAnyH_take (i := 5) (v := ?_) rfl (by kernel_rfl) (by kernel_rfl) (by kernel_rfl) (fun _ _ _ h => h) (Or.inl ⟨by rfl, ?_⟩) hHeld ?_
  rotate_left
  · (intro w hSw; (try dsimp only at hSw); go_simp; (try with_reducible rfl))
  try simp only [Act.put, List.getElem_toArray, List.getElem_cons_zero, List.getElem_cons_succ, List.setIfInBounds_toArray, List.set_cons_zero, List.set_cons_succ]
  refine wpAnyH_take (i := 7) (v := ?_) rfl (by kernel_rfl) (by kernel_rfl) (by kernel_rfl) (fun _ _ _ h => h) (Or.inl ⟨by rfl, ?_⟩) hHeld ?_
  rotate_left
  · (intro w hSw; (try dsimp only at hSw); go_simp; (try with_reducible rfl))
  try simp only [Act.put, List.getElem_toArray, List.getElem_cons_zero, List.getElem_cons_succ, List.setIfInBounds_toArray, List.set_cons_zero, List.set_cons_succ]
  refine wpAnyH_ready (rs := [6]) (by kernel_rfl) (by simp) ?_
  refine AllReadyH.cons rfl (fun K hK => ?_) AllReadyH.nil
  (try simp only [List.getElem_toArray, List.getElem_cons_zero, List.getElem_cons_succ])
  rw [if_pos (by rfl)]
  go_simp
  go_at_call 14
  refine (D0 hCa hWa).mono ?_
  rintro e w11 ⟨Ax, nx, cx, rfl, hx, b⟩
  replace hCa := hCa.on b
  replace hWa := hWa.on b
  replace hCb := hCb.on b
  replace hWb := hWb.on b
  replace xa0 := (b.cell (p := ⟨w.heap.size, 0, none⟩) xal).trans xa0
  replace xa1 := (b.cell (p := ⟨w.heap.size, 1, none⟩) xal).trans xa1
  replace xa2 := (b.cell (p := ⟨w.heap.size, 2, none⟩) xal).trans xa2
  replace xa3 := (b.cell (p := ⟨w.heap.size, 3, none⟩) xal).trans xa3
  replace xal := Nat.lt_of_lt_of_le xal b.size
  replace xb0 := (b.cell (p := ⟨w.heap.size + 1, 0, none⟩) xbl).trans xb0
  replace xb1 := (b.cell (p := ⟨w.heap.size + 1, 1, none⟩) xbl).trans xb1
  replace xb2 := (b.cell (p := ⟨w.heap.size + 1, 2, none⟩) xbl).trans xb2
  replace xb3 := (b.cell (p := ⟨w.heap.size + 1, 3, none⟩) xbl).trans xb3
  replace xbl := Nat.lt_of_lt_of_le xbl b.size
  replace cc := cc.trans (b.mono cc.size)
  clear b
  refine hK.out _ _ ?_ (fun hHeld => ?_)
  · exact ⟨xa0, xa1, xa2, xa3, xb0, xb1, xb2, xb3⟩
  clear hK K
  try simp only [Act.put, List.getElem_toArray, List.getElem_cons_zero, List.getElem_cons_succ, List.setIfInBounds_toArray, List.set_cons_zero, List.set_cons_succ]
  refine wpAnyH_ready (rs := [8]) (by kernel_rfl) (by simp) ?_
  refine AllReadyH.cons rfl (fun K hK => ?_) AllReadyH.nil
  (try simp only [List.getElem_toArray, List.getElem_cons_zero, List.getElem_cons_succ])
  rw [if_pos (by rfl)]
  go_simp
  go_at_call 15
  refine (D1 hCa hWa).mono ?_
  rintro e w12 ⟨Ay, ny, cy, rfl, hy, b⟩
  replace hCa := hCa.on b
  replace hWa := hWa.on b
  replace hCb := hCb.on b
  replace hWb := hWb.on b
  replace hx := hx.on b
  replace xa0 := (b.cell (p := ⟨w.heap.size, 0, none⟩) xal).trans xa0
  replace xa1 := (b.cell (p := ⟨w.heap.size, 1, none⟩) xal).trans xa1
  replace xa2 := (b.cell (p := ⟨w.heap.size, 2, none⟩) xal).trans xa2
  replace xa3 := (b.cell (p := ⟨w.heap.size, 3, none⟩) xal).trans xa3
  replace xal := Nat.lt_of_lt_of_le xal b.size
  replace xb0 := (b.cell (p := ⟨w.heap.size + 1, 0, none⟩) xbl).trans xb0
  replace xb1 := (b.cell (p := ⟨w.heap.size + 1, 1, none⟩) xbl).trans xb1
  replace xb2 := (b.cell (p := ⟨w.heap.size + 1, 2, none⟩) xbl).trans xb2
  replace xb3 := (b.cell (p := ⟨w.heap.size + 1, 3, none⟩) xbl).trans xb3
  replace xbl := Nat.lt_of_lt_of_le xbl b.size
  replace cc := cc.trans (b.mono cc.size)
  clear b
  refine hK.out _ _ ?_ (fun hHeld => ?_)
  · exact ⟨xa0, xa1, xa2, xa3, xb0, xb1, xb2, xb3⟩
  clear hK K
  try simp only [Act.put, List.getElem_toArray, List.getElem_cons_zero, List.getElem_cons_succ, List.setIfInBounds_toArray, List.set_cons_zero, List.set_cons_succ]
  refine wpAnyH_ready (rs := [9]) (by kernel_rfl) (by simp) ?_
  refine AllReadyH.cons rfl (fun K hK => ?_) AllReadyH.nil
  (try simp only [List.getElem_toArray, List.getElem_cons_zero, List.getElem_cons_succ])
  rw [if_pos (by rfl)]
  go_simp
  go_at_call 13
  refine (rsame9_self hx hy (by rw [hx.1]; omega)).mono ?_
  rintro e w13 ⟨rfl, b⟩
  replace hCa := hCa.on b
  replace hWa := hWa.on b
  replace hCb := hCb.on b
  replace hWb := hWb.on b
  replace hx := hx.on b
  replace hy := hy.on b
  replace xa0 := (b.cell (p := ⟨w.heap.size, 0, none⟩) xal).trans xa0
  replace xa1 := (b.cell (p := ⟨w.heap.size, 1, none⟩) xal).trans xa1
  replace xa2 := (b.cell (p := ⟨w.heap.size, 2, none⟩) xal).trans xa2
  replace xa3 := (b.cell (p := ⟨w.heap.size, 3, none⟩) xal).trans xa3
  replace xal := Nat.lt_of_lt_of_le xal b.size
  replace xb0 := (b.cell (p := ⟨w.heap.size + 1, 0, none⟩) xbl).trans xb0
  replace xb1 := (b.cell (p := ⟨w.heap.size + 1, 1, none⟩) xbl).trans xb1
  replace xb2 := (b.cell (p := ⟨w.heap.size + 1, 2, none⟩) xbl).trans xb2
  replace xb3 := (b.cell (p := ⟨w.heap.size + 1, 3, none⟩) xbl).trans xb3
  replace xbl := Nat.lt_of_lt_of_le xbl b.size
  replace cc := cc.trans (b.mono cc.size)
  clear b
  refine hK.out _ _ ?_ (fun hHeld => ?_)
  · exact ⟨xa0, xa1, xa2, xa3, xb0, xb1, xb2, xb3⟩
  clear hK K
  try simp only [Act.put, List.getElem_toArray, List.getElem_cons_zero, List.getElem_cons_succ, List.setIfInBounds_toArray, List.set_cons_zero, List.set_cons_succ]
  refine wpAnyH_take (i := 10) (v := ?_) rfl (by kernel_rfl) (by kernel_rfl) (by kernel_rfl) (fun _ _ _ h => h) (Or.inl ⟨by rfl, ?_⟩) hHeld ?_
  rotate_left
  · (intro w hSw; (try dsimp only at hSw); go_simp; (try with_reducible rfl))
  try simp only [Act.put, List.getElem_toArray, List.getElem_cons_zero, List.getElem_cons_succ, List.setIfInBounds_toArray, List.set_cons_zero, List.set_cons_succ]
  refine wpAnyH_take (i := 11) (v := ?_) rfl (by kernel_rfl) (by kernel_rfl) (by kernel_rfl) (fun _ _ _ h => h) (Or.inl ⟨by rfl, ?_⟩) hHeld ?_
  rotate_left
  · (intro w hSw; (try dsimp only at hSw); go_simp; (try with_reducible rfl))
  try simp only [Act.put, List.getElem_toArray, List.getElem_cons_zero, List.getElem_cons_succ, List.setIfInBounds_toArray, List.set_cons_zero, List.set_cons_succ]
  refine wpAnyH_take (i := 12) (v := ?_) rfl (by kernel_rfl) (by kernel_rfl) (by kernel_rfl) (fun _ _ _ h => h) (Or.inl ⟨by rfl, ?_⟩) hHeld ?_
  rotate_left
  · (intro w hSw; (try dsimp only at hSw); go_simp; (try with_reducible rfl))
  try simp only [Act.put, List.getElem_toArray, List.getElem_cons_zero, List.getElem_cons_succ, List.setIfInBounds_toArray, List.set_cons_zero, List.set_cons_succ]
  refine wpAnyH_done (by kernel_rfl) ?_ _
  clear hHeld
  go_wp2_with fail
  go_ret
  exact ⟨rfl, cc⟩

theorem ldB_len {k s : Int} {C : List Nat} {W : List Int} (h : OkB k s C W) : (ldB k s C W).length ≤ 4096 := by
  unfold ldB
  rcases h with ⟨h1, h2, _⟩ | ⟨h1, h2, _⟩
  · split
    · omega
    · rw [List.length_map]; omega
  · rw [if_pos h1]; omega
theorem rLoad_N {w : World} {k s : Int} {A B : Option Addr} {n c m d : Nat} {C : List Nat} {W : List Int} (hC : BR w A n c C) (hW : IR w B m d W) (ho : OkB k s C W) (hs : I64 s) : Calls Tryz.prog 15 #[.agg #[.int .i64 k, .int .i64 s, .slice A n c, .slice B m d]] w (GotI w (ldB k s C W)) := by
  rcases ho with ⟨h1, h2, h3, h4⟩ | ⟨h1, h2, h3, h4, h5⟩
  · have e : ldB k s C W = C.map (ld k s) := if_neg (by unfold Kind9 at h1; omega)
    rw [e]
    exact rLoad_c h1 (by rcases h4 with ⟨h, _⟩ | ⟨h, _⟩ <;> omega) hs hC (by rw [hC.1]; omega)
  · have e : ldB k s C W = W := if_pos h1
    rw [e]
    rcases Nat.eq_zero_or_pos m with z | z
    · exact rLoad_none h1 hW z (by omega)
    · exact rLoad_some h1 hW z (by rw [hW.1]; omega)
theorem BlockTells_walk {w : World} {ka sa : Int} {Aa Ba : Option Addr} {na ca ma da : Nat} {kb sb : Int} {Ab Bb : Option Addr} {nb cb mb db : Nat} {Ca : List Nat} {Wa : List Int} (hCa : BR w Aa na ca Ca) (hWa : IR w Ba ma da Wa) (hna : na ≤ 9223372036854775807) (hma : ma ≤ 9223372036854775807) (is : I64 sa) {Cb : List Nat} {Wb : List Int} (hCb : BR w Ab nb cb Cb) (hWb : IR w Bb mb db Wb) (hnb : nb ≤ 9223372036854775807) (hmb : mb ≤ 9223372036854775807) (isb : I64 sb) : Calls Tryz.prog 3 #[.agg #[.int .i64 ka, .int .i64 sa, .slice Aa na ca, .slice Ba ma da], .agg #[.int .i64 kb, .int .i64 sb, .slice Ab nb cb, .slice Bb mb db]] w fun e w' => e = .returned (.bool true) ∧ Below w.heap.size w w' := by
  by_cases f0 : IntKind.i64.wrap ((na : Int) + (ma : Int)) ≤ 20
  · have F0 : ∀ W : World, Calls Tryz.prog 5 #[.agg #[.int .i64 ka, .int .i64 sa, .slice Aa na ca, .slice Ba ma da], .int .i64 20] W (GotV W (.bool true)) := fun W => by have h := rFew_N (k := ka) (s := sa) (A := Aa) (B := Ba) (n := na) (c := ca) (m := ma) (d := da) W; rw [decide_eq_true f0] at h; exact h
    by_cases f1 : IntKind.i64.wrap ((nb : Int) + (mb : Int)) ≤ 20
    · have F1 : ∀ W : World, Calls Tryz.prog 5 #[.agg #[.int .i64 kb, .int .i64 sb, .slice Ab nb cb, .slice Bb mb db], .int .i64 20] W (GotV W (.bool true)) := fun W => by have h := rFew_N (k := kb) (s := sb) (A := Ab) (B := Bb) (n := nb) (c := cb) (m := mb) (d := db) W; rw [decide_eq_true f1] at h; exact h
      by_cases ho : OkB ka sa Ca Wa
      · exact BlockTells_yes hCa hWa hCb hWb (Nat.le_trans (ldB_len ho) (by omega)) F0 F1 (fun h g => by have := rRight_N (k := ka) (s := sa) h g hna hma; rwa [decide_eq_true ho] at this) (fun h g => by have := bkRight_N (k := ka) (s := sa) h g hna hma; rwa [decide_eq_true ho] at this) (fun a b c d => bkSame_N a b hna hma c d hnb hmb) (fun a b c d => rSame_N a b hna hma c d hnb hmb) (fun W => bkLen_N W hna hma) (fun W => rLen_N W) (fun h g => bkLoad_N h g ho is) (fun h g => rLoad_N h g ho is)
      · exact BlockTells_no hCa hWa hCb hWb F0 F1 (fun h g => by have := rRight_N (k := ka) (s := sa) h g hna hma; rwa [decide_eq_false ho] at this) (fun h g => by have := bkRight_N (k := ka) (s := sa) h g hna hma; rwa [decide_eq_false ho] at this) (fun a b c d => bkSame_N a b hna hma c d hnb hmb) (fun a b c d => rSame_N a b hna hma c d hnb hmb) (fun W => bkLen_N W hna hma) (fun W => rLen_N W)
    · exact BlockTells_fb F0 (fun W => by have h := rFew_N (k := kb) (s := sb) (A := Ab) (B := Bb) (n := nb) (c := cb) (m := mb) (d := db) W; rw [decide_eq_false f1] at h; exact h)
  · exact BlockTells_fa (fun W => by have h := rFew_N (k := ka) (s := sa) (A := Aa) (B := Ba) (n := na) (c := ca) (m := ma) (d := da) W; rw [decide_eq_false f0] at h; exact h)

end Go.Proofs.YtlmcpgahjfepjaaGreat
