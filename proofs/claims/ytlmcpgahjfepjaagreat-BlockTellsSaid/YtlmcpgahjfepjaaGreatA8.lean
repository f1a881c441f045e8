/-
  Several texts in one: F8.
-/
import Derived.Test.YtlmcpgahjfepjaaGreatA7

/-
  The contracts of the sixth reference: Near.
-/
namespace Go.Proofs.YtlmcpgahjfepjaaGreat
set_option maxRecDepth 100000
open Go.RowKit
set_option linter.unusedVariables false
set_option linter.unusedSimpArgs false

set_option maxRecDepth 100000 in
set_option maxHeartbeats 8000000 in
theorem rnear_lt {w : World} {b0 : Bool} {A0 B0 : Option Addr} {n0 c0 m0 d0 : Nat} {x0 : Rat} (hx : Rt w b0 A0 n0 c0 B0 m0 d0 x0) (s0 : Sz x0 15) {j : Int} (h0 : 0 ≤ j) (h1 : j ≤ 500) (hc : cmpQ (x0 - bak (flo x0 j.toNat) j.toNat) (bak (cei x0 j.toNat) j.toNat - x0) < 0) :
    Calls Tryz.prog 44 #[.agg #[.bool b0, .slice A0 n0 c0, .slice B0 m0 d0], .int .i64 j] w (GotZp w (nea x0 j.toNat) 0) := by
  have jl : j.toNat ≤ 500 := by omega
  have ll := flo_len s0 jl
  have lh := cei_len s0 jl
  have hn : nea x0 j.toNat = flo x0 j.toNat := by rw [nea_by]; rw [if_pos (.inl hc)]
  have CF : ∀ {W : World} {b : Bool} {A B : Option Addr} {n c m d : Nat}, Rt W b A n c B m d x0 → Calls Tryz.prog 55 #[.agg #[.bool b, .slice A n c, .slice B m d], .int .i64 j] W (GotZp W (flo x0 j.toNat) 0) := fun hh => rfloor_N hh (s0.le (by omega)) h0 h1
  have CC : ∀ {W : World} {b : Bool} {A B : Option Addr} {n c m d : Nat}, Rt W b A n c B m d x0 → Calls Tryz.prog 56 #[.agg #[.bool b, .slice A n c, .slice B m d], .int .i64 j] W (GotZp W (cei x0 j.toNat) 0) := fun hh => rceil_N hh (s0.le (by omega)) h0 h1
  obtain ⟨lo, hlo⟩ : ∃ lo, flo x0 j.toNat = lo := ⟨_, rfl⟩
  obtain ⟨hi, hhi⟩ : ∃ hi, cei x0 j.toNat = hi := ⟨_, rfl⟩
  rw [hlo] at CF ll
  rw [hhi] at CC lh
  rw [hlo, hhi] at hc
  skip
  rw [hlo] at hn
  have CB : ∀ {W : World} {z : Int} {b : Bool} {A : Option Addr} {n c : Nat}, Zn W b A n c z → (limbs z.natAbs).length ≤ 24 → Calls Tryz.prog 57 #[.agg #[.bool b, .slice A n c], .int .i64 j] W (GotRp W (bak z j.toNat) 0) := fun hh hl => rback_N hh (by omega) h0 h1
  have sl : Sz (bak lo j.toNat) 24 := bak_sz ll (by omega) jl
  have sh : Sz (bak hi j.toNat) 24 := bak_sz lh (by omega) jl
  obtain ⟨x, hxx⟩ : ∃ x, bak lo j.toNat = x := ⟨_, rfl⟩
  obtain ⟨y, hyy⟩ : ∃ y, bak hi j.toNat = y := ⟨_, rfl⟩
  have CX : ∀ {W : World} {b : Bool} {A : Option Addr} {n c : Nat}, Zn W b A n c lo → Calls Tryz.prog 57 #[.agg #[.bool b, .slice A n c], .int .i64 j] W (GotRp W x 0) := fun hh => by rw [← hxx]; exact CB hh ll
  have CY : ∀ {W : World} {b : Bool} {A : Option Addr} {n c : Nat}, Zn W b A n c hi → Calls Tryz.prog 57 #[.agg #[.bool b, .slice A n c], .int .i64 j] W (GotRp W y 0) := fun hh => by rw [← hyy]; exact CB hh lh
  rw [hxx] at sl
  rw [hyy] at sh
  rw [hxx, hyy] at hc
  skip
  obtain ⟨cn, hcn⟩ : ∃ cn, cmpQ (x0 - x) (y - x0) = cn := ⟨_, rfl⟩
  have HC := Lib.hid hcn
  rw [hcn] at hc
  skip
  have su := s0.sub sl
  have sv := sh.sub s0
  have HN := Lib.hid hn
  have t1 : decide (cn < 0) = true := decide_eq_true hc
  clear CB hxx hyy hcn hlo hhi hn hc h0 h1
  have cc := Below.refl w.heap.size w
  go_enter Tryz.func44, Tryz.ntmps44
  go_wp2_with fail
  have f0 : ((w.alloc (.cells #[.bool b0, .slice A0 n0 c0, .slice B0 m0 d0] 62)).alloc (.cells #[.bool false, .slice none 0 0] 60)).frozen? ⟨w.heap.size + 1, 0, none⟩ = false := by simp [go_sem]
  have f1 : ((w.alloc (.cells #[.bool b0, .slice A0 n0 c0, .slice B0 m0 d0] 62)).alloc (.cells #[.bool false, .slice none 0 0] 60)).frozen? ⟨w.heap.size + 1, 1, none⟩ = false := by simp [go_sem]
  have bA : Below w.heap.size w ((w.alloc (.cells #[.bool b0, .slice A0 n0 c0, .slice B0 m0 d0] 62)).alloc (.cells #[.bool false, .slice none 0 0] 60)) := (((Below.refl _ w).alloc (by simp) _).alloc (by simp) _)
  replace hx := hx.on bA
  replace cc := cc.trans (bA.mono cc.size)
  clear bA
  have k0 : ((w.alloc (.cells #[.bool b0, .slice A0 n0 c0, .slice B0 m0 d0] 62)).alloc (.cells #[.bool false, .slice none 0 0] 60)).cell? ⟨w.heap.size, 0, none⟩ = some (.bool b0) := by simp [go_sem]
  have k1 : ((w.alloc (.cells #[.bool b0, .slice A0 n0 c0, .slice B0 m0 d0] 62)).alloc (.cells #[.bool false, .slice none 0 0] 60)).cell? ⟨w.heap.size, 1, none⟩ = some (.slice A0 n0 c0) := by simp [go_sem]
  have k2 : ((w.alloc (.cells #[.bool b0, .slice A0 n0 c0, .slice B0 m0 d0] 62)).alloc (.cells #[.bool false, .slice none 0 0] 60)).cell? ⟨w.heap.size, 2, none⟩ = some (.slice B0 m0 d0) := by simp [go_sem]
  have kl : w.heap.size < ((w.alloc (.cells #[.bool b0, .slice A0 n0 c0, .slice B0 m0 d0] 62)).alloc (.cells #[.bool false, .slice none 0 0] 60)).heap.size := by simp <;> omega
  have g0 : ((w.alloc (.cells #[.bool b0, .slice A0 n0 c0, .slice B0 m0 d0] 62)).alloc (.cells #[.bool false, .slice none 0 0] 60)).cell? ⟨w.heap.size + 1, 0, none⟩ = some (.bool false) := by simp [go_sem]
  have g1 : ((w.alloc (.cells #[.bool b0, .slice A0 n0 c0, .slice B0 m0 d0] 62)).alloc (.cells #[.bool false, .slice none 0 0] 60)).cell? ⟨w.heap.size + 1, 1, none⟩ = some (.slice none 0 0) := by simp [go_sem]
  have gl : w.heap.size + 1 < ((w.alloc (.cells #[.bool b0, .slice A0 n0 c0, .slice B0 m0 d0] 62)).alloc (.cells #[.bool false, .slice none 0 0] 60)).heap.size := by simp <;> omega
  generalize (w.alloc (.cells #[.bool b0, .slice A0 n0 c0, .slice B0 m0 d0] 62)).alloc (.cells #[.bool false, .slice none 0 0] 60) = v1 at *
  refine (CF hx).mono ?_
  rintro e w2 ⟨bl, Al, nl, cl, rfl, zl, b⟩
  replace f0 := (b.frozen (p := ⟨w.heap.size + 1, 0, none⟩) gl).trans f0
  replace f1 := (b.frozen (p := ⟨w.heap.size + 1, 1, none⟩) gl).trans f1
  replace hx := hx.on b
  replace k0 := (b.cell (p := ⟨w.heap.size, 0, none⟩) kl).trans k0
  replace k1 := (b.cell (p := ⟨w.heap.size, 1, none⟩) kl).trans k1
  replace k2 := (b.cell (p := ⟨w.heap.size, 2, none⟩) kl).trans k2
  replace kl := Nat.lt_of_lt_of_le kl b.size
  replace g0 := (b.cell (p := ⟨w.heap.size + 1, 0, none⟩) gl).trans g0
  replace g1 := (b.cell (p := ⟨w.heap.size + 1, 1, none⟩) gl).trans g1
  replace gl := Nat.lt_of_lt_of_le gl b.size
  replace cc := cc.trans (b.mono cc.size)
  clear b
  go_wp2_with fail
  have bA := below_one w2 (.cells #[.bool bl, .slice Al nl cl] 60)
  replace f0 := (bA.frozen (p := ⟨w.heap.size + 1, 0, none⟩) gl).trans f0
  replace f1 := (bA.frozen (p := ⟨w.heap.size + 1, 1, none⟩) gl).trans f1
  replace hx := hx.on bA
  replace zl := zl.on bA
  replace k0 := (bA.cell (p := ⟨w.heap.size, 0, none⟩) kl).trans k0
  replace k1 := (bA.cell (p := ⟨w.heap.size, 1, none⟩) kl).trans k1
  replace k2 := (bA.cell (p := ⟨w.heap.size, 2, none⟩) kl).trans k2
  replace kl := Nat.lt_of_lt_of_le kl bA.size
  replace g0 := (bA.cell (p := ⟨w.heap.size + 1, 0, none⟩) gl).trans g0
  replace g1 := (bA.cell (p := ⟨w.heap.size + 1, 1, none⟩) gl).trans g1
  replace gl := Nat.lt_of_lt_of_le gl bA.size
  replace cc := cc.trans (bA.mono cc.size)
  clear bA
  have ba0 : (w2.alloc (.cells #[.bool bl, .slice Al nl cl] 60)).cell? ⟨w2.heap.size, 0, none⟩ = some (.bool bl) := by simp [go_sem]
  have ba1 : (w2.alloc (.cells #[.bool bl, .slice Al nl cl] 60)).cell? ⟨w2.heap.size, 1, none⟩ = some (.slice Al nl cl) := by simp [go_sem]
  have bal : w2.heap.size < (w2.alloc (.cells #[.bool bl, .slice Al nl cl] 60)).heap.size := by simp
  generalize w2.alloc (.cells #[.bool bl, .slice Al nl cl] 60) = v3 at *
  refine (CC hx).mono ?_
  rintro e w4 ⟨bh, Ah, nh, ch, rfl, zh, b⟩
  replace f0 := (b.frozen (p := ⟨w.heap.size + 1, 0, none⟩) gl).trans f0
  replace f1 := (b.frozen (p := ⟨w.heap.size + 1, 1, none⟩) gl).trans f1
  replace hx := hx.on b
  replace zl := zl.on b
  replace k0 := (b.cell (p := ⟨w.heap.size, 0, none⟩) kl).trans k0
  replace k1 := (b.cell (p := ⟨w.heap.size, 1, none⟩) kl).trans k1
  replace k2 := (b.cell (p := ⟨w.heap.size, 2, none⟩) kl).trans k2
  replace kl := Nat.lt_of_lt_of_le kl b.size
  replace g0 := (b.cell (p := ⟨w.heap.size + 1, 0, none⟩) gl).trans g0
  replace g1 := (b.cell (p := ⟨w.heap.size + 1, 1, none⟩) gl).trans g1
  replace gl := Nat.lt_of_lt_of_le gl b.size
  replace ba0 := (b.cell (p := ⟨w2.heap.size, 0, none⟩) bal).trans ba0
  replace ba1 := (b.cell (p := ⟨w2.heap.size, 1, none⟩) bal).trans ba1
  replace bal := Nat.lt_of_lt_of_le bal b.size
  replace cc := cc.trans (b.mono cc.size)
  clear b
  go_wp2_with fail
  have bA := below_one w4 (.cells #[.bool bh, .slice Ah nh ch] 60)
  replace f0 := (bA.frozen (p := ⟨w.heap.size + 1, 0, none⟩) gl).trans f0
  replace f1 := (bA.frozen (p := ⟨w.heap.size + 1, 1, none⟩) gl).trans f1
  replace hx := hx.on bA
  replace zl := zl.on bA
  replace zh := zh.on bA
  replace k0 := (bA.cell (p := ⟨w.heap.size, 0, none⟩) kl).trans k0
  replace k1 := (bA.cell (p := ⟨w.heap.size, 1, none⟩) kl).trans k1
  replace k2 := (bA.cell (p := ⟨w.heap.size, 2, none⟩) kl).trans k2
  replace kl := Nat.lt_of_lt_of_le kl bA.size
  replace g0 := (bA.cell (p := ⟨w.heap.size + 1, 0, none⟩) gl).trans g0
  replace g1 := (bA.cell (p := ⟨w.heap.size + 1, 1, none⟩) gl).trans g1
  replace gl := Nat.lt_of_lt_of_le gl bA.size
  replace ba0 := (bA.cell (p := ⟨w2.heap.size, 0, none⟩) bal).trans ba0
  replace ba1 := (bA.cell (p := ⟨w2.heap.size, 1, none⟩) bal).trans ba1
  replace bal := Nat.lt_of_lt_of_le bal bA.size
  replace cc := cc.trans (bA.mono cc.size)
  clear bA
  have bb0 : (w4.alloc (.cells #[.bool bh, .slice Ah nh ch] 60)).cell? ⟨w4.heap.size, 0, none⟩ = some (.bool bh) := by simp [go_sem]
  have bb1 : (w4.alloc (.cells #[.bool bh, .slice Ah nh ch] 60)).cell? ⟨w4.heap.size, 1, none⟩ = some (.slice Ah nh ch) := by simp [go_sem]
  have bbl : w4.heap.size < (w4.alloc (.cells #[.bool bh, .slice Ah nh ch] 60)).heap.size := by simp
  generalize w4.alloc (.cells #[.bool bh, .slice Ah nh ch] 60) = v5 at *
  refine (CX zl).mono ?_
  rintro e w6 ⟨bx, Ax, nx, cx, Bx, mx, dx, rfl, rx, b⟩
  replace f0 := (b.frozen (p := ⟨w.heap.size + 1, 0, none⟩) gl).trans f0
  replace f1 := (b.frozen (p := ⟨w.heap.size + 1, 1, none⟩) gl).trans f1
  replace hx := hx.on b
  replace zl := zl.on b
  replace zh := zh.on b
  replace k0 := (b.cell (p := ⟨w.heap.size, 0, none⟩) kl).trans k0
  replace k1 := (b.cell (p := ⟨w.heap.size, 1, none⟩) kl).trans k1
  replace k2 := (b.cell (p := ⟨w.heap.size, 2, none⟩) kl).trans k2
  replace kl := Nat.lt_of_lt_of_le kl b.size
  replace g0 := (b.cell (p := ⟨w.heap.size + 1, 0, none⟩) gl).trans g0
  replace g1 := (b.cell (p := ⟨w.heap.size + 1, 1, none⟩) gl).trans g1
  replace gl := Nat.lt_of_lt_of_le gl b.size
  replace ba0 := (b.cell (p := ⟨w2.heap.size, 0, none⟩) bal).trans ba0
  replace ba1 := (b.cell (p := ⟨w2.heap.size, 1, none⟩) bal).trans ba1
  replace bal := Nat.lt_of_lt_of_le bal b.size
  replace bb0 := (b.cell (p := ⟨w4.heap.size, 0, none⟩) bbl).trans bb0
  replace bb1 := (b.cell (p := ⟨w4.heap.size, 1, none⟩) bbl).trans bb1
  replace bbl := Nat.lt_of_lt_of_le bbl b.size
  replace cc := cc.trans (b.mono cc.size)
  clear b
  go_wp2_with fail
  have bA := below_one w6 (.cells #[.bool bx, .slice Ax nx cx, .slice Bx mx dx] 62)
  replace f0 := (bA.frozen (p := ⟨w.heap.size + 1, 0, none⟩) gl).trans f0
  replace f1 := (bA.frozen (p := ⟨w.heap.size + 1, 1, none⟩) gl).trans f1
  replace hx := hx.on bA
  replace zl := zl.on bA
  replace zh := zh.on bA
  replace rx := rx.on bA
  replace k0 := (bA.cell (p := ⟨w.heap.size, 0, none⟩) kl).trans k0
  replace k1 := (bA.cell (p := ⟨w.heap.size, 1, none⟩) kl).trans k1
  replace k2 := (bA.cell (p := ⟨w.heap.size, 2, none⟩) kl).trans k2
  replace kl := Nat.lt_of_lt_of_le kl bA.size
  replace g0 := (bA.cell (p := ⟨w.heap.size + 1, 0, none⟩) gl).trans g0
  replace g1 := (bA.cell (p := ⟨w.heap.size + 1, 1, none⟩) gl).trans g1
  replace gl := Nat.lt_of_lt_of_le gl bA.size
  replace ba0 := (bA.cell (p := ⟨w2.heap.size, 0, none⟩) bal).trans ba0
  replace ba1 := (bA.cell (p := ⟨w2.heap.size, 1, none⟩) bal).trans ba1
  replace bal := Nat.lt_of_lt_of_le bal bA.size
  replace bb0 := (bA.cell (p := ⟨w4.heap.size, 0, none⟩) bbl).trans bb0
  replace bb1 := (bA.cell (p := ⟨w4.heap.size, 1, none⟩) bbl).trans bb1
  replace bbl := Nat.lt_of_lt_of_le bbl bA.size
  replace cc := cc.trans (bA.mono cc.size)
  clear bA
  have bc0 : (w6.alloc (.cells #[.bool bx, .slice Ax nx cx, .slice Bx mx dx] 62)).cell? ⟨w6.heap.size, 0, none⟩ = some (.bool bx) := by simp [go_sem]
  have bc1 : (w6.alloc (.cells #[.bool bx, .slice Ax nx cx, .slice Bx mx dx] 62)).cell? ⟨w6.heap.size, 1, none⟩ = some (.slice Ax nx cx) := by simp [go_sem]
  have bc2 : (w6.alloc (.cells #[.bool bx, .slice Ax nx cx, .slice Bx mx dx] 62)).cell? ⟨w6.heap.size, 2, none⟩ = some (.slice Bx mx dx) := by simp [go_sem]
  have bcl : w6.heap.size < (w6.alloc (.cells #[.bool bx, .slice Ax nx cx, .slice Bx mx dx] 62)).heap.size := by simp
  generalize w6.alloc (.cells #[.bool bx, .slice Ax nx cx, .slice Bx mx dx] 62) = v7 at *
  refine (CY zh).mono ?_
  rintro e w8 ⟨bY, Ay, ny, cy, By, my, dy, rfl, ry, b⟩
  replace f0 := (b.frozen (p := ⟨w.heap.size + 1, 0, none⟩) gl).trans f0
  replace f1 := (b.frozen (p := ⟨w.heap.size + 1, 1, none⟩) gl).trans f1
  replace hx := hx.on b
  replace zl := zl.on b
  replace zh := zh.on b
  replace rx := rx.on b
  replace k0 := (b.cell (p := ⟨w.heap.size, 0, none⟩) kl).trans k0
  replace k1 := (b.cell (p := ⟨w.heap.size, 1, none⟩) kl).trans k1
  replace k2 := (b.cell (p := ⟨w.heap.size, 2, none⟩) kl).trans k2
  replace kl := Nat.lt_of_lt_of_le kl b.size
  replace g0 := (b.cell (p := ⟨w.heap.size + 1, 0, none⟩) gl).trans g0
  replace g1 := (b.cell (p := ⟨w.heap.size + 1, 1, none⟩) gl).trans g1
  replace gl := Nat.lt_of_lt_of_le gl b.size
  replace ba0 := (b.cell (p := ⟨w2.heap.size, 0, none⟩) bal).trans ba0
  replace ba1 := (b.cell (p := ⟨w2.heap.size, 1, none⟩) bal).trans ba1
  replace bal := Nat.lt_of_lt_of_le bal b.size
  replace bb0 := (b.cell (p := ⟨w4.heap.size, 0, none⟩) bbl).trans bb0
  replace bb1 := (b.cell (p := ⟨w4.heap.size, 1, none⟩) bbl).trans bb1
  replace bbl := Nat.lt_of_lt_of_le bbl b.size
  replace bc0 := (b.cell (p := ⟨w6.heap.size, 0, none⟩) bcl).trans bc0
  replace bc1 := (b.cell (p := ⟨w6.heap.size, 1, none⟩) bcl).trans bc1
  replace bc2 := (b.cell (p := ⟨w6.heap.size, 2, none⟩) bcl).trans bc2
  replace bcl := Nat.lt_of_lt_of_le bcl b.size
  replace cc := cc.trans (b.mono cc.size)
  clear b
  go_wp2_with fail
  have bA := below_one w8 (.cells #[.bool bY, .slice Ay ny cy, .slice By my dy] 62)
  replace f0 := (bA.frozen (p := ⟨w.heap.size + 1, 0, none⟩) gl).trans f0
  replace f1 := (bA.frozen (p := ⟨w.heap.size + 1, 1, none⟩) gl).trans f1
  replace hx := hx.on bA
  replace zl := zl.on bA
  replace zh := zh.on bA
  replace rx := rx.on bA
  replace ry := ry.on bA
  replace k0 := (bA.cell (p := ⟨w.heap.size, 0, none⟩) kl).trans k0
  replace k1 := (bA.cell (p := ⟨w.heap.size, 1, none⟩) kl).trans k1
  replace k2 := (bA.cell (p := ⟨w.heap.size, 2, none⟩) kl).trans k2
  replace kl := Nat.lt_of_lt_of_le kl bA.size
  replace g0 := (bA.cell (p := ⟨w.heap.size + 1, 0, none⟩) gl).trans g0
  replace g1 := (bA.cell (p := ⟨w.heap.size + 1, 1, none⟩) gl).trans g1
  replace gl := Nat.lt_of_lt_of_le gl bA.size
  replace ba0 := (bA.cell (p := ⟨w2.heap.size, 0, none⟩) bal).trans ba0
  replace ba1 := (bA.cell (p := ⟨w2.heap.size, 1, none⟩) bal).trans ba1
  replace bal := Nat.lt_of_lt_of_le bal bA.size
  replace bb0 := (bA.cell (p := ⟨w4.heap.size, 0, none⟩) bbl).trans bb0
  replace bb1 := (bA.cell (p := ⟨w4.heap.size, 1, none⟩) bbl).trans bb1
  replace bbl := Nat.lt_of_lt_of_le bbl bA.size
  replace bc0 := (bA.cell (p := ⟨w6.heap.size, 0, none⟩) bcl).trans bc0
  replace bc1 := (bA.cell (p := ⟨w6.heap.size, 1, none⟩) bcl).trans bc1
  replace bc2 := (bA.cell (p := ⟨w6.heap.size, 2, none⟩) bcl).trans bc2
  replace bcl := Nat.lt_of_lt_of_le bcl bA.size
  replace cc := cc.trans (bA.mono cc.size)
  clear bA
  have bd0 : (w8.alloc (.cells #[.bool bY, .slice Ay ny cy, .slice By my dy] 62)).cell? ⟨w8.heap.size, 0, none⟩ = some (.bool bY) := by simp [go_sem]
  have bd1 : (w8.alloc (.cells #[.bool bY, .slice Ay ny cy, .slice By my dy] 62)).cell? ⟨w8.heap.size, 1, none⟩ = some (.slice Ay ny cy) := by simp [go_sem]
  have bd2 : (w8.alloc (.cells #[.bool bY, .slice Ay ny cy, .slice By my dy] 62)).cell? ⟨w8.heap.size, 2, none⟩ = some (.slice By my dy) := by simp [go_sem]
  have bdl : w8.heap.size < (w8.alloc (.cells #[.bool bY, .slice Ay ny cy, .slice By my dy] 62)).heap.size := by simp
  generalize w8.alloc (.cells #[.bool bY, .slice Ay ny cy, .slice By my dy] 62) = v9 at *
  refine (rtsub_N hx (s0.le (by omega)) rx (sl.le (by omega))).mono ?_
  rintro e w10 ⟨bu, Au, nu, cu, Bu, mu, du, rfl, ru, b⟩
  replace f0 := (b.frozen (p := ⟨w.heap.size + 1, 0, none⟩) gl).trans f0
  replace f1 := (b.frozen (p := ⟨w.heap.size + 1, 1, none⟩) gl).trans f1
  replace hx := hx.on b
  replace zl := zl.on b
  replace zh := zh.on b
  replace rx := rx.on b
  replace ry := ry.on b
  replace k0 := (b.cell (p := ⟨w.heap.size, 0, none⟩) kl).trans k0
  replace k1 := (b.cell (p := ⟨w.heap.size, 1, none⟩) kl).trans k1
  replace k2 := (b.cell (p := ⟨w.heap.size, 2, none⟩) kl).trans k2
  replace kl := Nat.lt_of_lt_of_le kl b.size
  replace g0 := (b.cell (p := ⟨w.heap.size + 1, 0, none⟩) gl).trans g0
  replace g1 := (b.cell (p := ⟨w.heap.size + 1, 1, none⟩) gl).trans g1
  replace gl := Nat.lt_of_lt_of_le gl b.size
  replace ba0 := (b.cell (p := ⟨w2.heap.size, 0, none⟩) bal).trans ba0
  replace ba1 := (b.cell (p := ⟨w2.heap.size, 1, none⟩) bal).trans ba1
  replace bal := Nat.lt_of_lt_of_le bal b.size
  replace bb0 := (b.cell (p := ⟨w4.heap.size, 0, none⟩) bbl).trans bb0
  replace bb1 := (b.cell (p := ⟨w4.heap.size, 1, none⟩) bbl).trans bb1
  replace bbl := Nat.lt_of_lt_of_le bbl b.size
  replace bc0 := (b.cell (p := ⟨w6.heap.size, 0, none⟩) bcl).trans bc0
  replace bc1 := (b.cell (p := ⟨w6.heap.size, 1, none⟩) bcl).trans bc1
  replace bc2 := (b.cell (p := ⟨w6.heap.size, 2, none⟩) bcl).trans bc2
  replace bcl := Nat.lt_of_lt_of_le bcl b.size
  replace bd0 := (b.cell (p := ⟨w8.heap.size, 0, none⟩) bdl).trans bd0
  replace bd1 := (b.cell (p := ⟨w8.heap.size, 1, none⟩) bdl).trans bd1
  replace bd2 := (b.cell (p := ⟨w8.heap.size, 2, none⟩) bdl).trans bd2
  replace bdl := Nat.lt_of_lt_of_le bdl b.size
  replace cc := cc.trans (b.mono cc.size)
  clear b
  go_wp2_with fail
  have bA := below_one w10 (.cells #[.bool bu, .slice Au nu cu, .slice Bu mu du] 62)
  replace f0 := (bA.frozen (p := ⟨w.heap.size + 1, 0, none⟩) gl).trans f0
  replace f1 := (bA.frozen (p := ⟨w.heap.size + 1, 1, none⟩) gl).trans f1
  replace hx := hx.on bA
  replace zl := zl.on bA
  replace zh := zh.on bA
  replace rx := rx.on bA
  replace ry := ry.on bA
  replace ru := ru.on bA
  replace k0 := (bA.cell (p := ⟨w.heap.size, 0, none⟩) kl).trans k0
  replace k1 := (bA.cell (p := ⟨w.heap.size, 1, none⟩) kl).trans k1
  replace k2 := (bA.cell (p := ⟨w.heap.size, 2, none⟩) kl).trans k2
  replace kl := Nat.lt_of_lt_of_le kl bA.size
  replace g0 := (bA.cell (p := ⟨w.heap.size + 1, 0, none⟩) gl).trans g0
  replace g1 := (bA.cell (p := ⟨w.heap.size + 1, 1, none⟩) gl).trans g1
  replace gl := Nat.lt_of_lt_of_le gl bA.size
  replace ba0 := (bA.cell (p := ⟨w2.heap.size, 0, none⟩) bal).trans ba0
  replace ba1 := (bA.cell (p := ⟨w2.heap.size, 1, none⟩) bal).trans ba1
  replace bal := Nat.lt_of_lt_of_le bal bA.size
  replace bb0 := (bA.cell (p := ⟨w4.heap.size, 0, none⟩) bbl).trans bb0
  replace bb1 := (bA.cell (p := ⟨w4.heap.size, 1, none⟩) bbl).trans bb1
  replace bbl := Nat.lt_of_lt_of_le bbl bA.size
  replace bc0 := (bA.cell (p := ⟨w6.heap.size, 0, none⟩) bcl).trans bc0
  replace bc1 := (bA.cell (p := ⟨w6.heap.size, 1, none⟩) bcl).trans bc1
  replace bc2 := (bA.cell (p := ⟨w6.heap.size, 2, none⟩) bcl).trans bc2
  replace bcl := Nat.lt_of_lt_of_le bcl bA.size
  replace bd0 := (bA.cell (p := ⟨w8.heap.size, 0, none⟩) bdl).trans bd0
  replace bd1 := (bA.cell (p := ⟨w8.heap.size, 1, none⟩) bdl).trans bd1
  replace bd2 := (bA.cell (p := ⟨w8.heap.size, 2, none⟩) bdl).trans bd2
  replace bdl := Nat.lt_of_lt_of_le bdl bA.size
  replace cc := cc.trans (bA.mono cc.size)
  clear bA
  have be0 : (w10.alloc (.cells #[.bool bu, .slice Au nu cu, .slice Bu mu du] 62)).cell? ⟨w10.heap.size, 0, none⟩ = some (.bool bu) := by simp [go_sem]
  have be1 : (w10.alloc (.cells #[.bool bu, .slice Au nu cu, .slice Bu mu du] 62)).cell? ⟨w10.heap.size, 1, none⟩ = some (.slice Au nu cu) := by simp [go_sem]
  have be2 : (w10.alloc (.cells #[.bool bu, .slice Au nu cu, .slice Bu mu du] 62)).cell? ⟨w10.heap.size, 2, none⟩ = some (.slice Bu mu du) := by simp [go_sem]
  have bel : w10.heap.size < (w10.alloc (.cells #[.bool bu, .slice Au nu cu, .slice Bu mu du] 62)).heap.size := by simp
  generalize w10.alloc (.cells #[.bool bu, .slice Au nu cu, .slice Bu mu du] 62) = v11 at *
  refine (rtsub_N ry (sh.le (by omega)) hx (s0.le (by omega))).mono ?_
  rintro e w12 ⟨bv, Av, nv, cv, Bv, mv, dv, rfl, rv, b⟩
  replace f0 := (b.frozen (p := ⟨w.heap.size + 1, 0, none⟩) gl).trans f0
  replace f1 := (b.frozen (p := ⟨w.heap.size + 1, 1, none⟩) gl).trans f1
  replace hx := hx.on b
  replace zl := zl.on b
  replace zh := zh.on b
  replace rx := rx.on b
  replace ry := ry.on b
  replace ru := ru.on b
  replace k0 := (b.cell (p := ⟨w.heap.size, 0, none⟩) kl).trans k0
  replace k1 := (b.cell (p := ⟨w.heap.size, 1, none⟩) kl).trans k1
  replace k2 := (b.cell (p := ⟨w.heap.size, 2, none⟩) kl).trans k2
  replace kl := Nat.lt_of_lt_of_le kl b.size
  replace g0 := (b.cell (p := ⟨w.heap.size + 1, 0, none⟩) gl).trans g0
  replace g1 := (b.cell (p := ⟨w.heap.size + 1, 1, none⟩) gl).trans g1
  replace gl := Nat.lt_of_lt_of_le gl b.size
  replace ba0 := (b.cell (p := ⟨w2.heap.size, 0, none⟩) bal).trans ba0
  replace ba1 := (b.cell (p := ⟨w2.heap.size, 1, none⟩) bal).trans ba1
  replace bal := Nat.lt_of_lt_of_le bal b.size
  replace bb0 := (b.cell (p := ⟨w4.heap.size, 0, none⟩) bbl).trans bb0
  replace bb1 := (b.cell (p := ⟨w4.heap.size, 1, none⟩) bbl).trans bb1
  replace bbl := Nat.lt_of_lt_of_le bbl b.size
  replace bc0 := (b.cell (p := ⟨w6.heap.size, 0, none⟩) bcl).trans bc0
  replace bc1 := (b.cell (p := ⟨w6.heap.size, 1, none⟩) bcl).trans bc1
  replace bc2 := (b.cell (p := ⟨w6.heap.size, 2, none⟩) bcl).trans bc2
  replace bcl := Nat.lt_of_lt_of_le bcl b.size
  replace bd0 := (b.cell (p := ⟨w8.heap.size, 0, none⟩) bdl).trans bd0
  replace bd1 := (b.cell (p := ⟨w8.heap.size, 1, none⟩) bdl).trans bd1
  replace bd2 := (b.cell (p := ⟨w8.heap.size, 2, none⟩) bdl).trans bd2
  replace bdl := Nat.lt_of_lt_of_le bdl b.size
  replace be0 := (b.cell (p := ⟨w10.heap.size, 0, none⟩) bel).trans be0
  replace be1 := (b.cell (p := ⟨w10.heap.size, 1, none⟩) bel).trans be1
  replace be2 := (b.cell (p := ⟨w10.heap.size, 2, none⟩) bel).trans be2
  replace bel := Nat.lt_of_lt_of_le bel b.size
  replace cc := cc.trans (b.mono cc.size)
  clear b
  go_wp2_with fail
  have bA := below_one w12 (.cells #[.bool bv, .slice Av nv cv, .slice Bv mv dv] 62)
  replace f0 := (bA.frozen (p := ⟨w.heap.size + 1, 0, none⟩) gl).trans f0
  replace f1 := (bA.frozen (p := ⟨w.heap.size + 1, 1, none⟩) gl).trans f1
  replace hx := hx.on bA
  replace zl := zl.on bA
  replace zh := zh.on bA
  replace rx := rx.on bA
  replace ry := ry.on bA
  replace ru := ru.on bA
  replace rv := rv.on bA
  replace k0 := (bA.cell (p := ⟨w.heap.size, 0, none⟩) kl).trans k0
  replace k1 := (bA.cell (p := ⟨w.heap.size, 1, none⟩) kl).trans k1
  replace k2 := (bA.cell (p := ⟨w.heap.size, 2, none⟩) kl).trans k2
  replace kl := Nat.lt_of_lt_of_le kl bA.size
  replace g0 := (bA.cell (p := ⟨w.heap.size + 1, 0, none⟩) gl).trans g0
  replace g1 := (bA.cell (p := ⟨w.heap.size + 1, 1, none⟩) gl).trans g1
  replace gl := Nat.lt_of_lt_of_le gl bA.size
  replace ba0 := (bA.cell (p := ⟨w2.heap.size, 0, none⟩) bal).trans ba0
  replace ba1 := (bA.cell (p := ⟨w2.heap.size, 1, none⟩) bal).trans ba1
  replace bal := Nat.lt_of_lt_of_le bal bA.size
  replace bb0 := (bA.cell (p := ⟨w4.heap.size, 0, none⟩) bbl).trans bb0
  replace bb1 := (bA.cell (p := ⟨w4.heap.size, 1, none⟩) bbl).trans bb1
  replace bbl := Nat.lt_of_lt_of_le bbl bA.size
  replace bc0 := (bA.cell (p := ⟨w6.heap.size, 0, none⟩) bcl).trans bc0
  replace bc1 := (bA.cell (p := ⟨w6.heap.size, 1, none⟩) bcl).trans bc1
  replace bc2 := (bA.cell (p := ⟨w6.heap.size, 2, none⟩) bcl).trans bc2
  replace bcl := Nat.lt_of_lt_of_le bcl bA.size
  replace bd0 := (bA.cell (p := ⟨w8.heap.size, 0, none⟩) bdl).trans bd0
  replace bd1 := (bA.cell (p := ⟨w8.heap.size, 1, none⟩) bdl).trans bd1
  replace bd2 := (bA.cell (p := ⟨w8.heap.size, 2, none⟩) bdl).trans bd2
  replace bdl := Nat.lt_of_lt_of_le bdl bA.size
  replace be0 := (bA.cell (p := ⟨w10.heap.size, 0, none⟩) bel).trans be0
  replace be1 := (bA.cell (p := ⟨w10.heap.size, 1, none⟩) bel).trans be1
  replace be2 := (bA.cell (p := ⟨w10.heap.size, 2, none⟩) bel).trans be2
  replace bel := Nat.lt_of_lt_of_le bel bA.size
  replace cc := cc.trans (bA.mono cc.size)
  clear bA
  have bf0 : (w12.alloc (.cells #[.bool bv, .slice Av nv cv, .slice Bv mv dv] 62)).cell? ⟨w12.heap.size, 0, none⟩ = some (.bool bv) := by simp [go_sem]
  have bf1 : (w12.alloc (.cells #[.bool bv, .slice Av nv cv, .slice Bv mv dv] 62)).cell? ⟨w12.heap.size, 1, none⟩ = some (.slice Av nv cv) := by simp [go_sem]
  have bf2 : (w12.alloc (.cells #[.bool bv, .slice Av nv cv, .slice Bv mv dv] 62)).cell? ⟨w12.heap.size, 2, none⟩ = some (.slice Bv mv dv) := by simp [go_sem]
  have bfl : w12.heap.size < (w12.alloc (.cells #[.bool bv, .slice Av nv cv, .slice Bv mv dv] 62)).heap.size := by simp
  generalize w12.alloc (.cells #[.bool bv, .slice Av nv cv, .slice Bv mv dv] 62) = v13 at *
  refine (rtcmp_v cn ru (su.le (by omega)) rv (sv.le (by omega)) HC.out).mono ?_
  rintro e w14 ⟨rfl, b⟩
  replace f0 := (b.frozen (p := ⟨w.heap.size + 1, 0, none⟩) gl).trans f0
  replace f1 := (b.frozen (p := ⟨w.heap.size + 1, 1, none⟩) gl).trans f1
  replace hx := hx.on b
  replace zl := zl.on b
  replace zh := zh.on b
  replace rx := rx.on b
  replace ry := ry.on b
  replace ru := ru.on b
  replace rv := rv.on b
  replace k0 := (b.cell (p := ⟨w.heap.size, 0, none⟩) kl).trans k0
  replace k1 := (b.cell (p := ⟨w.heap.size, 1, none⟩) kl).trans k1
  replace k2 := (b.cell (p := ⟨w.heap.size, 2, none⟩) kl).trans k2
  replace kl := Nat.lt_of_lt_of_le kl b.size
  replace g0 := (b.cell (p := ⟨w.heap.size + 1, 0, none⟩) gl).trans g0
  replace g1 := (b.cell (p := ⟨w.heap.size + 1, 1, none⟩) gl).trans g1
  replace gl := Nat.lt_of_lt_of_le gl b.size
  replace ba0 := (b.cell (p := ⟨w2.heap.size, 0, none⟩) bal).trans ba0
  replace ba1 := (b.cell (p := ⟨w2.heap.size, 1, none⟩) bal).trans ba1
  replace bal := Nat.lt_of_lt_of_le bal b.size
  replace bb0 := (b.cell (p := ⟨w4.heap.size, 0, none⟩) bbl).trans bb0
  replace bb1 := (b.cell (p := ⟨w4.heap.size, 1, none⟩) bbl).trans bb1
  replace bbl := Nat.lt_of_lt_of_le bbl b.size
  replace bc0 := (b.cell (p := ⟨w6.heap.size, 0, none⟩) bcl).trans bc0
  replace bc1 := (b.cell (p := ⟨w6.heap.size, 1, none⟩) bcl).trans bc1
  replace bc2 := (b.cell (p := ⟨w6.heap.size, 2, none⟩) bcl).trans bc2
  replace bcl := Nat.lt_of_lt_of_le bcl b.size
  replace bd0 := (b.cell (p := ⟨w8.heap.size, 0, none⟩) bdl).trans bd0
  replace bd1 := (b.cell (p := ⟨w8.heap.size, 1, none⟩) bdl).trans bd1
  replace bd2 := (b.cell (p := ⟨w8.heap.size, 2, none⟩) bdl).trans bd2
  replace bdl := Nat.lt_of_lt_of_le bdl b.size
  replace be0 := (b.cell (p := ⟨w10.heap.size, 0, none⟩) bel).trans be0
  replace be1 := (b.cell (p := ⟨w10.heap.size, 1, none⟩) bel).trans be1
  replace be2 := (b.cell (p := ⟨w10.heap.size, 2, none⟩) bel).trans be2
  replace bel := Nat.lt_of_lt_of_le bel b.size
  replace bf0 := (b.cell (p := ⟨w12.heap.size, 0, none⟩) bfl).trans bf0
  replace bf1 := (b.cell (p := ⟨w12.heap.size, 1, none⟩) bfl).trans bf1
  replace bf2 := (b.cell (p := ⟨w12.heap.size, 2, none⟩) bfl).trans bf2
  replace bfl := Nat.lt_of_lt_of_le bfl b.size
  replace cc := cc.trans (b.mono cc.size)
  clear b
  have hn : Zn w14 bl Al nl cl (nea x0 j.toNat) := by rw [HN.out]; exact zl
  have eb : Box w14 (w.heap.size + 1) false none 0 0 := ⟨g0, g1⟩
  have HZ : Hid (Zn ((w14.setCell ⟨w.heap.size + 1, 0, none⟩ (.bool bl)).setCell ⟨w.heap.size + 1, 1, none⟩ (.slice Al nl cl)) bl Al nl cl (nea x0 j.toNat)) := Lib.hid (hn.put eb _ _)
  clear hn
  go_wp2_with fail
  refine bodyPost_ret (v := .tuple #[.agg #[.bool bl, .slice Al nl cl], .int .i64 0]) (by simp [results, Tryz.results44, go_sem, g0, g1]) rfl ⟨_, _, _, _, rfl, HZ.out, below_put cc (by omega) _ _⟩

set_option maxRecDepth 100000 in
set_option maxHeartbeats 8000000 in
theorem rnear_even {w : World} {b0 : Bool} {A0 B0 : Option Addr} {n0 c0 m0 d0 : Nat} {x0 : Rat} (hx : Rt w b0 A0 n0 c0 B0 m0 d0 x0) (s0 : Sz x0 15) {j : Int} (h0 : 0 ≤ j) (h1 : j ≤ 500) (hc : cmpQ (x0 - bak (flo x0 j.toNat) j.toNat) (bak (cei x0 j.toNat) j.toNat - x0) = 0) (he : flo x0 j.toNat % 2 = 0) :
    Calls Tryz.prog 44 #[.agg #[.bool b0, .slice A0 n0 c0, .slice B0 m0 d0], .int .i64 j] w (GotZp w (nea x0 j.toNat) 0) := by
  have jl : j.toNat ≤ 500 := by omega
  have ll := flo_len s0 jl
  have lh := cei_len s0 jl
  have hn : nea x0 j.toNat = flo x0 j.toNat := by rw [nea_by]; rw [if_pos (.inr ⟨hc, he⟩)]
  have CF : ∀ {W : World} {b : Bool} {A B : Option Addr} {n c m d : Nat}, Rt W b A n c B m d x0 → Calls Tryz.prog 55 #[.agg #[.bool b, .slice A n c, .slice B m d], .int .i64 j] W (GotZp W (flo x0 j.toNat) 0) := fun hh => rfloor_N hh (s0.le (by omega)) h0 h1
  have CC : ∀ {W : World} {b : Bool} {A B : Option Addr} {n c m d : Nat}, Rt W b A n c B m d x0 → Calls Tryz.prog 56 #[.agg #[.bool b, .slice A n c, .slice B m d], .int .i64 j] W (GotZp W (cei x0 j.toNat) 0) := fun hh => rceil_N hh (s0.le (by omega)) h0 h1
  obtain ⟨lo, hlo⟩ : ∃ lo, flo x0 j.toNat = lo := ⟨_, rfl⟩
  obtain ⟨hi, hhi⟩ : ∃ hi, cei x0 j.toNat = hi := ⟨_, rfl⟩
  rw [hlo] at CF ll
  rw [hhi] at CC lh
  rw [hlo, hhi] at hc
  rw [hlo] at he
  rw [hlo] at hn
  have CB : ∀ {W : World} {z : Int} {b : Bool} {A : Option Addr} {n c : Nat}, Zn W b A n c z → (limbs z.natAbs).length ≤ 24 → Calls Tryz.prog 57 #[.agg #[.bool b, .slice A n c], .int .i64 j] W (GotRp W (bak z j.toNat) 0) := fun hh hl => rback_N hh (by omega) h0 h1
  have sl : Sz (bak lo j.toNat) 24 := bak_sz ll (by omega) jl
  have sh : Sz (bak hi j.toNat) 24 := bak_sz lh (by omega) jl
  obtain ⟨x, hxx⟩ : ∃ x, bak lo j.toNat = x := ⟨_, rfl⟩
  obtain ⟨y, hyy⟩ : ∃ y, bak hi j.toNat = y := ⟨_, rfl⟩
  have CX : ∀ {W : World} {b : Bool} {A : Option Addr} {n c : Nat}, Zn W b A n c lo → Calls Tryz.prog 57 #[.agg #[.bool b, .slice A n c], .int .i64 j] W (GotRp W x 0) := fun hh => by rw [← hxx]; exact CB hh ll
  have CY : ∀ {W : World} {b : Bool} {A : Option Addr} {n c : Nat}, Zn W b A n c hi → Calls Tryz.prog 57 #[.agg #[.bool b, .slice A n c], .int .i64 j] W (GotRp W y 0) := fun hh => by rw [← hyy]; exact CB hh lh
  rw [hxx] at sl
  rw [hyy] at sh
  rw [hxx, hyy] at hc
  skip
  obtain ⟨cn, hcn⟩ : ∃ cn, cmpQ (x0 - x) (y - x0) = cn := ⟨_, rfl⟩
  have HC := Lib.hid hcn
  rw [hcn] at hc
  skip
  have su := s0.sub sl
  have sv := sh.sub s0
  have HN := Lib.hid hn
  have t1 : decide (cn < 0) = false := decide_eq_false (by omega)
  have t2 : (cn == 0) = true := beq_iff_eq.2 hc
  have HO : Hid (decide (lo % 2 = 1) = false) := Lib.hid (decide_eq_false (by omega))
  clear CB hxx hyy hcn hlo hhi hn hc h0 h1 he
  have cc := Below.refl w.heap.size w
  go_enter Tryz.func44, Tryz.ntmps44
  go_wp2_with fail
  have f0 : ((w.alloc (.cells #[.bool b0, .slice A0 n0 c0, .slice B0 m0 d0] 62)).alloc (.cells #[.bool false, .slice none 0 0] 60)).frozen? ⟨w.heap.size + 1, 0, none⟩ = false := by simp [go_sem]
  have f1 : ((w.alloc (.cells #[.bool b0, .slice A0 n0 c0, .slice B0 m0 d0] 62)).alloc (.cells #[.bool false, .slice none 0 0] 60)).frozen? ⟨w.heap.size + 1, 1, none⟩ = false := by simp [go_sem]
  have bA : Below w.heap.size w ((w.alloc (.cells #[.bool b0, .slice A0 n0 c0, .slice B0 m0 d0] 62)).alloc (.cells #[.bool false, .slice none 0 0] 60)) := (((Below.refl _ w).alloc (by simp) _).alloc (by simp) _)
  replace hx := hx.on bA
  replace cc := cc.trans (bA.mono cc.size)
  clear bA
  have k0 : ((w.alloc (.cells #[.bool b0, .slice A0 n0 c0, .slice B0 m0 d0] 62)).alloc (.cells #[.bool false, .slice none 0 0] 60)).cell? ⟨w.heap.size, 0, none⟩ = some (.bool b0) := by simp [go_sem]
  have k1 : ((w.alloc (.cells #[.bool b0, .slice A0 n0 c0, .slice B0 m0 d0] 62)).alloc (.cells #[.bool false, .slice none 0 0] 60)).cell? ⟨w.heap.size, 1, none⟩ = some (.slice A0 n0 c0) := by simp [go_sem]
  have k2 : ((w.alloc (.cells #[.bool b0, .slice A0 n0 c0, .slice B0 m0 d0] 62)).alloc (.cells #[.bool false, .slice none 0 0] 60)).cell? ⟨w.heap.size, 2, none⟩ = some (.slice B0 m0 d0) := by simp [go_sem]
  have kl : w.heap.size < ((w.alloc (.cells #[.bool b0, .slice A0 n0 c0, .slice B0 m0 d0] 62)).alloc (.cells #[.bool false, .slice none 0 0] 60)).heap.size := by simp <;> omega
  have g0 : ((w.alloc (.cells #[.bool b0, .slice A0 n0 c0, .slice B0 m0 d0] 62)).alloc (.cells #[.bool false, .slice none 0 0] 60)).cell? ⟨w.heap.size + 1, 0, none⟩ = some (.bool false) := by simp [go_sem]
  have g1 : ((w.alloc (.cells #[.bool b0, .slice A0 n0 c0, .slice B0 m0 d0] 62)).alloc (.cells #[.bool false, .slice none 0 0] 60)).cell? ⟨w.heap.size + 1, 1, none⟩ = some (.slice none 0 0) := by simp [go_sem]
  have gl : w.heap.size + 1 < ((w.alloc (.cells #[.bool b0, .slice A0 n0 c0, .slice B0 m0 d0] 62)).alloc (.cells #[.bool false, .slice none 0 0] 60)).heap.size := by simp <;> omega
  generalize (w.alloc (.cells #[.bool b0, .slice A0 n0 c0, .slice B0 m0 d0] 62)).alloc (.cells #[.bool false, .slice none 0 0] 60) = v1 at *
  refine (CF hx).mono ?_
  rintro e w2 ⟨bl, Al, nl, cl, rfl, zl, b⟩
  replace f0 := (b.frozen (p := ⟨w.heap.size + 1, 0, none⟩) gl).trans f0
  replace f1 := (b.frozen (p := ⟨w.heap.size + 1, 1, none⟩) gl).trans f1
  replace hx := hx.on b
  replace k0 := (b.cell (p := ⟨w.heap.size, 0, none⟩) kl).trans k0
  replace k1 := (b.cell (p := ⟨w.heap.size, 1, none⟩) kl).trans k1
  replace k2 := (b.cell (p := ⟨w.heap.size, 2, none⟩) kl).trans k2
  replace kl := Nat.lt_of_lt_of_le kl b.size
  replace g0 := (b.cell (p := ⟨w.heap.size + 1, 0, none⟩) gl).trans g0
  replace g1 := (b.cell (p := ⟨w.heap.size + 1, 1, none⟩) gl).trans g1
  replace gl := Nat.lt_of_lt_of_le gl b.size
  replace cc := cc.trans (b.mono cc.size)
  clear b
  go_wp2_with fail
  have bA := below_one w2 (.cells #[.bool bl, .slice Al nl cl] 60)
  replace f0 := (bA.frozen (p := ⟨w.heap.size + 1, 0, none⟩) gl).trans f0
  replace f1 := (bA.frozen (p := ⟨w.heap.size + 1, 1, none⟩) gl).trans f1
  replace hx := hx.on bA
  replace zl := zl.on bA
  replace k0 := (bA.cell (p := ⟨w.heap.size, 0, none⟩) kl).trans k0
  replace k1 := (bA.cell (p := ⟨w.heap.size, 1, none⟩) kl).trans k1
  replace k2 := (bA.cell (p := ⟨w.heap.size, 2, none⟩) kl).trans k2
  replace kl := Nat.lt_of_lt_of_le kl bA.size
  replace g0 := (bA.cell (p := ⟨w.heap.size + 1, 0, none⟩) gl).trans g0
  replace g1 := (bA.cell (p := ⟨w.heap.size + 1, 1, none⟩) gl).trans g1
  replace gl := Nat.lt_of_lt_of_le gl bA.size
  replace cc := cc.trans (bA.mono cc.size)
  clear bA
  have ba0 : (w2.alloc (.cells #[.bool bl, .slice Al nl cl] 60)).cell? ⟨w2.heap.size, 0, none⟩ = some (.bool bl) := by simp [go_sem]
  have ba1 : (w2.alloc (.cells #[.bool bl, .slice Al nl cl] 60)).cell? ⟨w2.heap.size, 1, none⟩ = some (.slice Al nl cl) := by simp [go_sem]
  have bal : w2.heap.size < (w2.alloc (.cells #[.bool bl, .slice Al nl cl] 60)).heap.size := by simp
  generalize w2.alloc (.cells #[.bool bl, .slice Al nl cl] 60) = v3 at *
  refine (CC hx).mono ?_
  rintro e w4 ⟨bh, Ah, nh, ch, rfl, zh, b⟩
  replace f0 := (b.frozen (p := ⟨w.heap.size + 1, 0, none⟩) gl).trans f0
  replace f1 := (b.frozen (p := ⟨w.heap.size + 1, 1, none⟩) gl).trans f1
  replace hx := hx.on b
  replace zl := zl.on b
  replace k0 := (b.cell (p := ⟨w.heap.size, 0, none⟩) kl).trans k0
  replace k1 := (b.cell (p := ⟨w.heap.size, 1, none⟩) kl).trans k1
  replace k2 := (b.cell (p := ⟨w.heap.size, 2, none⟩) kl).trans k2
  replace kl := Nat.lt_of_lt_of_le kl b.size
  replace g0 := (b.cell (p := ⟨w.heap.size + 1, 0, none⟩) gl).trans g0
  replace g1 := (b.cell (p := ⟨w.heap.size + 1, 1, none⟩) gl).trans g1
  replace gl := Nat.lt_of_lt_of_le gl b.size
  replace ba0 := (b.cell (p := ⟨w2.heap.size, 0, none⟩) bal).trans ba0
  replace ba1 := (b.cell (p := ⟨w2.heap.size, 1, none⟩) bal).trans ba1
  replace bal := Nat.lt_of_lt_of_le bal b.size
  replace cc := cc.trans (b.mono cc.size)
  clear b
  go_wp2_with fail
  have bA := below_one w4 (.cells #[.bool bh, .slice Ah nh ch] 60)
  replace f0 := (bA.frozen (p := ⟨w.heap.size + 1, 0, none⟩) gl).trans f0
  replace f1 := (bA.frozen (p := ⟨w.heap.size + 1, 1, none⟩) gl).trans f1
  replace hx := hx.on bA
  replace zl := zl.on bA
  replace zh := zh.on bA
  replace k0 := (bA.cell (p := ⟨w.heap.size, 0, none⟩) kl).trans k0
  replace k1 := (bA.cell (p := ⟨w.heap.size, 1, none⟩) kl).trans k1
  replace k2 := (bA.cell (p := ⟨w.heap.size, 2, none⟩) kl).trans k2
  replace kl := Nat.lt_of_lt_of_le kl bA.size
  replace g0 := (bA.cell (p := ⟨w.heap.size + 1, 0, none⟩) gl).trans g0
  replace g1 := (bA.cell (p := ⟨w.heap.size + 1, 1, none⟩) gl).trans g1
  replace gl := Nat.lt_of_lt_of_le gl bA.size
  replace ba0 := (bA.cell (p := ⟨w2.heap.size, 0, none⟩) bal).trans ba0
  replace ba1 := (bA.cell (p := ⟨w2.heap.size, 1, none⟩) bal).trans ba1
  replace bal := Nat.lt_of_lt_of_le bal bA.size
  replace cc := cc.trans (bA.mono cc.size)
  clear bA
  have bb0 : (w4.alloc (.cells #[.bool bh, .slice Ah nh ch] 60)).cell? ⟨w4.heap.size, 0, none⟩ = some (.bool bh) := by simp [go_sem]
  have bb1 : (w4.alloc (.cells #[.bool bh, .slice Ah nh ch] 60)).cell? ⟨w4.heap.size, 1, none⟩ = some (.slice Ah nh ch) := by simp [go_sem]
  have bbl : w4.heap.size < (w4.alloc (.cells #[.bool bh, .slice Ah nh ch] 60)).heap.size := by simp
  generalize w4.alloc (.cells #[.bool bh, .slice Ah nh ch] 60) = v5 at *
  refine (CX zl).mono ?_
  rintro e w6 ⟨bx, Ax, nx, cx, Bx, mx, dx, rfl, rx, b⟩
  replace f0 := (b.frozen (p := ⟨w.heap.size + 1, 0, none⟩) gl).trans f0
  replace f1 := (b.frozen (p := ⟨w.heap.size + 1, 1, none⟩) gl).trans f1
  replace hx := hx.on b
  replace zl := zl.on b
  replace zh := zh.on b
  replace k0 := (b.cell (p := ⟨w.heap.size, 0, none⟩) kl).trans k0
  replace k1 := (b.cell (p := ⟨w.heap.size, 1, none⟩) kl).trans k1
  replace k2 := (b.cell (p := ⟨w.heap.size, 2, none⟩) kl).trans k2
  replace kl := Nat.lt_of_lt_of_le kl b.size
  replace g0 := (b.cell (p := ⟨w.heap.size + 1, 0, none⟩) gl).trans g0
  replace g1 := (b.cell (p := ⟨w.heap.size + 1, 1, none⟩) gl).trans g1
  replace gl := Nat.lt_of_lt_of_le gl b.size
  replace ba0 := (b.cell (p := ⟨w2.heap.size, 0, none⟩) bal).trans ba0
  replace ba1 := (b.cell (p := ⟨w2.heap.size, 1, none⟩) bal).trans ba1
  replace bal := Nat.lt_of_lt_of_le bal b.size
  replace bb0 := (b.cell (p := ⟨w4.heap.size, 0, none⟩) bbl).trans bb0
  replace bb1 := (b.cell (p := ⟨w4.heap.size, 1, none⟩) bbl).trans bb1
  replace bbl := Nat.lt_of_lt_of_le bbl b.size
  replace cc := cc.trans (b.mono cc.size)
  clear b
  go_wp2_with fail
  have bA := below_one w6 (.cells #[.bool bx, .slice Ax nx cx, .slice Bx mx dx] 62)
  replace f0 := (bA.frozen (p := ⟨w.heap.size + 1, 0, none⟩) gl).trans f0
  replace f1 := (bA.frozen (p := ⟨w.heap.size + 1, 1, none⟩) gl).trans f1
  replace hx := hx.on bA
  replace zl := zl.on bA
  replace zh := zh.on bA
  replace rx := rx.on bA
  replace k0 := (bA.cell (p := ⟨w.heap.size, 0, none⟩) kl).trans k0
  replace k1 := (bA.cell (p := ⟨w.heap.size, 1, none⟩) kl).trans k1
  replace k2 := (bA.cell (p := ⟨w.heap.size, 2, none⟩) kl).trans k2
  replace kl := Nat.lt_of_lt_of_le kl bA.size
  replace g0 := (bA.cell (p := ⟨w.heap.size + 1, 0, none⟩) gl).trans g0
  replace g1 := (bA.cell (p := ⟨w.heap.size + 1, 1, none⟩) gl).trans g1
  replace gl := Nat.lt_of_lt_of_le gl bA.size
  replace ba0 := (bA.cell (p := ⟨w2.heap.size, 0, none⟩) bal).trans ba0
  replace ba1 := (bA.cell (p := ⟨w2.heap.size, 1, none⟩) bal).trans ba1
  replace bal := Nat.lt_of_lt_of_le bal bA.size
  replace bb0 := (bA.cell (p := ⟨w4.heap.size, 0, none⟩) bbl).trans bb0
  replace bb1 := (bA.cell (p := ⟨w4.heap.size, 1, none⟩) bbl).trans bb1
  replace bbl := Nat.lt_of_lt_of_le bbl bA.size
  replace cc := cc.trans (bA.mono cc.size)
  clear bA
  have bc0 : (w6.alloc (.cells #[.bool bx, .slice Ax nx cx, .slice Bx mx dx] 62)).cell? ⟨w6.heap.size, 0, none⟩ = some (.bool bx) := by simp [go_sem]
  have bc1 : (w6.alloc (.cells #[.bool bx, .slice Ax nx cx, .slice Bx mx dx] 62)).cell? ⟨w6.heap.size, 1, none⟩ = some (.slice Ax nx cx) := by simp [go_sem]
  have bc2 : (w6.alloc (.cells #[.bool bx, .slice Ax nx cx, .slice Bx mx dx] 62)).cell? ⟨w6.heap.size, 2, none⟩ = some (.slice Bx mx dx) := by simp [go_sem]
  have bcl : w6.heap.size < (w6.alloc (.cells #[.bool bx, .slice Ax nx cx, .slice Bx mx dx] 62)).heap.size := by simp
  generalize w6.alloc (.cells #[.bool bx, .slice Ax nx cx, .slice Bx mx dx] 62) = v7 at *
  refine (CY zh).mono ?_
  rintro e w8 ⟨bY, Ay, ny, cy, By, my, dy, rfl, ry, b⟩
  replace f0 := (b.frozen (p := ⟨w.heap.size + 1, 0, none⟩) gl).trans f0
  replace f1 := (b.frozen (p := ⟨w.heap.size + 1, 1, none⟩) gl).trans f1
  replace hx := hx.on b
  replace zl := zl.on b
  replace zh := zh.on b
  replace rx := rx.on b
  replace k0 := (b.cell (p := ⟨w.heap.size, 0, none⟩) kl).trans k0
  replace k1 := (b.cell (p := ⟨w.heap.size, 1, none⟩) kl).trans k1
  replace k2 := (b.cell (p := ⟨w.heap.size, 2, none⟩) kl).trans k2
  replace kl := Nat.lt_of_lt_of_le kl b.size
  replace g0 := (b.cell (p := ⟨w.heap.size + 1, 0, none⟩) gl).trans g0
  replace g1 := (b.cell (p := ⟨w.heap.size + 1, 1, none⟩) gl).trans g1
  replace gl := Nat.lt_of_lt_of_le gl b.size
  replace ba0 := (b.cell (p := ⟨w2.heap.size, 0, none⟩) bal).trans ba0
  replace ba1 := (b.cell (p := ⟨w2.heap.size, 1, none⟩) bal).trans ba1
  replace bal := Nat.lt_of_lt_of_le bal b.size
  replace bb0 := (b.cell (p := ⟨w4.heap.size, 0, none⟩) bbl).trans bb0
  replace bb1 := (b.cell (p := ⟨w4.heap.size, 1, none⟩) bbl).trans bb1
  replace bbl := Nat.lt_of_lt_of_le bbl b.size
  replace bc0 := (b.cell (p := ⟨w6.heap.size, 0, none⟩) bcl).trans bc0
  replace bc1 := (b.cell (p := ⟨w6.heap.size, 1, none⟩) bcl).trans bc1
  replace bc2 := (b.cell (p := ⟨w6.heap.size, 2, none⟩) bcl).trans bc2
  replace bcl := Nat.lt_of_lt_of_le bcl b.size
  replace cc := cc.trans (b.mono cc.size)
  clear b
  go_wp2_with fail
  have bA := below_one w8 (.cells #[.bool bY, .slice Ay ny cy, .slice By my dy] 62)
  replace f0 := (bA.frozen (p := ⟨w.heap.size + 1, 0, none⟩) gl).trans f0
  replace f1 := (bA.frozen (p := ⟨w.heap.size + 1, 1, none⟩) gl).trans f1
  replace hx := hx.on bA
  replace zl := zl.on bA
  replace zh := zh.on bA
  replace rx := rx.on bA
  replace ry := ry.on bA
  replace k0 := (bA.cell (p := ⟨w.heap.size, 0, none⟩) kl).trans k0
  replace k1 := (bA.cell (p := ⟨w.heap.size, 1, none⟩) kl).trans k1
  replace k2 := (bA.cell (p := ⟨w.heap.size, 2, none⟩) kl).trans k2
  replace kl := Nat.lt_of_lt_of_le kl bA.size
  replace g0 := (bA.cell (p := ⟨w.heap.size + 1, 0, none⟩) gl).trans g0
  replace g1 := (bA.cell (p := ⟨w.heap.size + 1, 1, none⟩) gl).trans g1
  replace gl := Nat.lt_of_lt_of_le gl bA.size
  replace ba0 := (bA.cell (p := ⟨w2.heap.size, 0, none⟩) bal).trans ba0
  replace ba1 := (bA.cell (p := ⟨w2.heap.size, 1, none⟩) bal).trans ba1
  replace bal := Nat.lt_of_lt_of_le bal bA.size
  replace bb0 := (bA.cell (p := ⟨w4.heap.size, 0, none⟩) bbl).trans bb0
  replace bb1 := (bA.cell (p := ⟨w4.heap.size, 1, none⟩) bbl).trans bb1
  replace bbl := Nat.lt_of_lt_of_le bbl bA.size
  replace bc0 := (bA.cell (p := ⟨w6.heap.size, 0, none⟩) bcl).trans bc0
  replace bc1 := (bA.cell (p := ⟨w6.heap.size, 1, none⟩) bcl).trans bc1
  replace bc2 := (bA.cell (p := ⟨w6.heap.size, 2, none⟩) bcl).trans bc2
  replace bcl := Nat.lt_of_lt_of_le bcl bA.size
  replace cc := cc.trans (bA.mono cc.size)
  clear bA
  have bd0 : (w8.alloc (.cells #[.bool bY, .slice Ay ny cy, .slice By my dy] 62)).cell? ⟨w8.heap.size, 0, none⟩ = some (.bool bY) := by simp [go_sem]
  have bd1 : (w8.alloc (.cells #[.bool bY, .slice Ay ny cy, .slice By my dy] 62)).cell? ⟨w8.heap.size, 1, none⟩ = some (.slice Ay ny cy) := by simp [go_sem]
  have bd2 : (w8.alloc (.cells #[.bool bY, .slice Ay ny cy, .slice By my dy] 62)).cell? ⟨w8.heap.size, 2, none⟩ = some (.slice By my dy) := by simp [go_sem]
  have bdl : w8.heap.size < (w8.alloc (.cells #[.bool bY, .slice Ay ny cy, .slice By my dy] 62)).heap.size := by simp
  generalize w8.alloc (.cells #[.bool bY, .slice Ay ny cy, .slice By my dy] 62) = v9 at *
  refine (rtsub_N hx (s0.le (by omega)) rx (sl.le (by omega))).mono ?_
  rintro e w10 ⟨bu, Au, nu, cu, Bu, mu, du, rfl, ru, b⟩
  replace f0 := (b.frozen (p := ⟨w.heap.size + 1, 0, none⟩) gl).trans f0
  replace f1 := (b.frozen (p := ⟨w.heap.size + 1, 1, none⟩) gl).trans f1
  replace hx := hx.on b
  replace zl := zl.on b
  replace zh := zh.on b
  replace rx := rx.on b
  replace ry := ry.on b
  replace k0 := (b.cell (p := ⟨w.heap.size, 0, none⟩) kl).trans k0
  replace k1 := (b.cell (p := ⟨w.heap.size, 1, none⟩) kl).trans k1
  replace k2 := (b.cell (p := ⟨w.heap.size, 2, none⟩) kl).trans k2
  replace kl := Nat.lt_of_lt_of_le kl b.size
  replace g0 := (b.cell (p := ⟨w.heap.size + 1, 0, none⟩) gl).trans g0
  replace g1 := (b.cell (p := ⟨w.heap.size + 1, 1, none⟩) gl).trans g1
  replace gl := Nat.lt_of_lt_of_le gl b.size
  replace ba0 := (b.cell (p := ⟨w2.heap.size, 0, none⟩) bal).trans ba0
  replace ba1 := (b.cell (p := ⟨w2.heap.size, 1, none⟩) bal).trans ba1
  replace bal := Nat.lt_of_lt_of_le bal b.size
  replace bb0 := (b.cell (p := ⟨w4.heap.size, 0, none⟩) bbl).trans bb0
  replace bb1 := (b.cell (p := ⟨w4.heap.size, 1, none⟩) bbl).trans bb1
  replace bbl := Nat.lt_of_lt_of_le bbl b.size
  replace bc0 := (b.cell (p := ⟨w6.heap.size, 0, none⟩) bcl).trans bc0
  replace bc1 := (b.cell (p := ⟨w6.heap.size, 1, none⟩) bcl).trans bc1
  replace bc2 := (b.cell (p := ⟨w6.heap.size, 2, none⟩) bcl).trans bc2
  replace bcl := Nat.lt_of_lt_of_le bcl b.size
  replace bd0 := (b.cell (p := ⟨w8.heap.size, 0, none⟩) bdl).trans bd0
  replace bd1 := (b.cell (p := ⟨w8.heap.size, 1, none⟩) bdl).trans bd1
  replace bd2 := (b.cell (p := ⟨w8.heap.size, 2, none⟩) bdl).trans bd2
  replace bdl := Nat.lt_of_lt_of_le bdl b.size
  replace cc := cc.trans (b.mono cc.size)
  clear b
  go_wp2_with fail
  have bA := below_one w10 (.cells #[.bool bu, .slice Au nu cu, .slice Bu mu du] 62)
  replace f0 := (bA.frozen (p := ⟨w.heap.size + 1, 0, none⟩) gl).trans f0
  replace f1 := (bA.frozen (p := ⟨w.heap.size + 1, 1, none⟩) gl).trans f1
  replace hx := hx.on bA
  replace zl := zl.on bA
  replace zh := zh.on bA
  replace rx := rx.on bA
  replace ry := ry.on bA
  replace ru := ru.on bA
  replace k0 := (bA.cell (p := ⟨w.heap.size, 0, none⟩) kl).trans k0
  replace k1 := (bA.cell (p := ⟨w.heap.size, 1, none⟩) kl).trans k1
  replace k2 := (bA.cell (p := ⟨w.heap.size, 2, none⟩) kl).trans k2
  replace kl := Nat.lt_of_lt_of_le kl bA.size
  replace g0 := (bA.cell (p := ⟨w.heap.size + 1, 0, none⟩) gl).trans g0
  replace g1 := (bA.cell (p := ⟨w.heap.size + 1, 1, none⟩) gl).trans g1
  replace gl := Nat.lt_of_lt_of_le gl bA.size
  replace ba0 := (bA.cell (p := ⟨w2.heap.size, 0, none⟩) bal).trans ba0
  replace ba1 := (bA.cell (p := ⟨w2.heap.size, 1, none⟩) bal).trans ba1
  replace bal := Nat.lt_of_lt_of_le bal bA.size
  replace bb0 := (bA.cell (p := ⟨w4.heap.size, 0, none⟩) bbl).trans bb0
  replace bb1 := (bA.cell (p := ⟨w4.heap.size, 1, none⟩) bbl).trans bb1
  replace bbl := Nat.lt_of_lt_of_le bbl bA.size
  replace bc0 := (bA.cell (p := ⟨w6.heap.size, 0, none⟩) bcl).trans bc0
  replace bc1 := (bA.cell (p := ⟨w6.heap.size, 1, none⟩) bcl).trans bc1
  replace bc2 := (bA.cell (p := ⟨w6.heap.size, 2, none⟩) bcl).trans bc2
  replace bcl := Nat.lt_of_lt_of_le bcl bA.size
  replace bd0 := (bA.cell (p := ⟨w8.heap.size, 0, none⟩) bdl).trans bd0
  replace bd1 := (bA.cell (p := ⟨w8.heap.size, 1, none⟩) bdl).trans bd1
  replace bd2 := (bA.cell (p := ⟨w8.heap.size, 2, none⟩) bdl).trans bd2
  replace bdl := Nat.lt_of_lt_of_le bdl bA.size
  replace cc := cc.trans (bA.mono cc.size)
  clear bA
  have be0 : (w10.alloc (.cells #[.bool bu, .slice Au nu cu, .slice Bu mu du] 62)).cell? ⟨w10.heap.size, 0, none⟩ = some (.bool bu) := by simp [go_sem]
  have be1 : (w10.alloc (.cells #[.bool bu, .slice Au nu cu, .slice Bu mu du] 62)).cell? ⟨w10.heap.size, 1, none⟩ = some (.slice Au nu cu) := by simp [go_sem]
  have be2 : (w10.alloc (.cells #[.bool bu, .slice Au nu cu, .slice Bu mu du] 62)).cell? ⟨w10.heap.size, 2, none⟩ = some (.slice Bu mu du) := by simp [go_sem]
  have bel : w10.heap.size < (w10.alloc (.cells #[.bool bu, .slice Au nu cu, .slice Bu mu du] 62)).heap.size := by simp
  generalize w10.alloc (.cells #[.bool bu, .slice Au nu cu, .slice Bu mu du] 62) = v11 at *
  refine (rtsub_N ry (sh.le (by omega)) hx (s0.le (by omega))).mono ?_
  rintro e w12 ⟨bv, Av, nv, cv, Bv, mv, dv, rfl, rv, b⟩
  replace f0 := (b.frozen (p := ⟨w.heap.size + 1, 0, none⟩) gl).trans f0
  replace f1 := (b.frozen (p := ⟨w.heap.size + 1, 1, none⟩) gl).trans f1
  replace hx := hx.on b
  replace zl := zl.on b
  replace zh := zh.on b
  replace rx := rx.on b
  replace ry := ry.on b
  replace ru := ru.on b
  replace k0 := (b.cell (p := ⟨w.heap.size, 0, none⟩) kl).trans k0
  replace k1 := (b.cell (p := ⟨w.heap.size, 1, none⟩) kl).trans k1
  replace k2 := (b.cell (p := ⟨w.heap.size, 2, none⟩) kl).trans k2
  replace kl := Nat.lt_of_lt_of_le kl b.size
  replace g0 := (b.cell (p := ⟨w.heap.size + 1, 0, none⟩) gl).trans g0
  replace g1 := (b.cell (p := ⟨w.heap.size + 1, 1, none⟩) gl).trans g1
  replace gl := Nat.lt_of_lt_of_le gl b.size
  replace ba0 := (b.cell (p := ⟨w2.heap.size, 0, none⟩) bal).trans ba0
  replace ba1 := (b.cell (p := ⟨w2.heap.size, 1, none⟩) bal).trans ba1
  replace bal := Nat.lt_of_lt_of_le bal b.size
  replace bb0 := (b.cell (p := ⟨w4.heap.size, 0, none⟩) bbl).trans bb0
  replace bb1 := (b.cell (p := ⟨w4.heap.size, 1, none⟩) bbl).trans bb1
  replace bbl := Nat.lt_of_lt_of_le bbl b.size
  replace bc0 := (b.cell (p := ⟨w6.heap.size, 0, none⟩) bcl).trans bc0
  replace bc1 := (b.cell (p := ⟨w6.heap.size, 1, none⟩) bcl).trans bc1
  replace bc2 := (b.cell (p := ⟨w6.heap.size, 2, none⟩) bcl).trans bc2
  replace bcl := Nat.lt_of_lt_of_le bcl b.size
  replace bd0 := (b.cell (p := ⟨w8.heap.size, 0, none⟩) bdl).trans bd0
  replace bd1 := (b.cell (p := ⟨w8.heap.size, 1, none⟩) bdl).trans bd1
  replace bd2 := (b.cell (p := ⟨w8.heap.size, 2, none⟩) bdl).trans bd2
  replace bdl := Nat.lt_of_lt_of_le bdl b.size
  replace be0 := (b.cell (p := ⟨w10.heap.size, 0, none⟩) bel).trans be0
  replace be1 := (b.cell (p := ⟨w10.heap.size, 1, none⟩) bel).trans be1
  replace be2 := (b.cell (p := ⟨w10.heap.size, 2, none⟩) bel).trans be2
  replace bel := Nat.lt_of_lt_of_le bel b.size
  replace cc := cc.trans (b.mono cc.size)
  clear b
  go_wp2_with fail
  have bA := below_one w12 (.cells #[.bool bv, .slice Av nv cv, .slice Bv mv dv] 62)
  replace f0 := (bA.frozen (p := ⟨w.heap.size + 1, 0, none⟩) gl).trans f0
  replace f1 := (bA.frozen (p := ⟨w.heap.size + 1, 1, none⟩) gl).trans f1
  replace hx := hx.on bA
  replace zl := zl.on bA
  replace zh := zh.on bA
  replace rx := rx.on bA
  replace ry := ry.on bA
  replace ru := ru.on bA
  replace rv := rv.on bA
  replace k0 := (bA.cell (p := ⟨w.heap.size, 0, none⟩) kl).trans k0
  replace k1 := (bA.cell (p := ⟨w.heap.size, 1, none⟩) kl).trans k1
  replace k2 := (bA.cell (p := ⟨w.heap.size, 2, none⟩) kl).trans k2
  replace kl := Nat.lt_of_lt_of_le kl bA.size
  replace g0 := (bA.cell (p := ⟨w.heap.size + 1, 0, none⟩) gl).trans g0
  replace g1 := (bA.cell (p := ⟨w.heap.size + 1, 1, none⟩) gl).trans g1
  replace gl := Nat.lt_of_lt_of_le gl bA.size
  replace ba0 := (bA.cell (p := ⟨w2.heap.size, 0, none⟩) bal).trans ba0
  replace ba1 := (bA.cell (p := ⟨w2.heap.size, 1, none⟩) bal).trans ba1
  replace bal := Nat.lt_of_lt_of_le bal bA.size
  replace bb0 := (bA.cell (p := ⟨w4.heap.size, 0, none⟩) bbl).trans bb0
  replace bb1 := (bA.cell (p := ⟨w4.heap.size, 1, none⟩) bbl).trans bb1
  replace bbl := Nat.lt_of_lt_of_le bbl bA.size
  replace bc0 := (bA.cell (p := ⟨w6.heap.size, 0, none⟩) bcl).trans bc0
  replace bc1 := (bA.cell (p := ⟨w6.heap.size, 1, none⟩) bcl).trans bc1
  replace bc2 := (bA.cell (p := ⟨w6.heap.size, 2, none⟩) bcl).trans bc2
  replace bcl := Nat.lt_of_lt_of_le bcl bA.size
  replace bd0 := (bA.cell (p := ⟨w8.heap.size, 0, none⟩) bdl).trans bd0
  replace bd1 := (bA.cell (p := ⟨w8.heap.size, 1, none⟩) bdl).trans bd1
  replace bd2 := (bA.cell (p := ⟨w8.heap.size, 2, none⟩) bdl).trans bd2
  replace bdl := Nat.lt_of_lt_of_le bdl bA.size
  replace be0 := (bA.cell (p := ⟨w10.heap.size, 0, none⟩) bel).trans be0
  replace be1 := (bA.cell (p := ⟨w10.heap.size, 1, none⟩) bel).trans be1
  replace be2 := (bA.cell (p := ⟨w10.heap.size, 2, none⟩) bel).trans be2
  replace bel := Nat.lt_of_lt_of_le bel bA.size
  replace cc := cc.trans (bA.mono cc.size)
  clear bA
  have bf0 : (w12.alloc (.cells #[.bool bv, .slice Av nv cv, .slice Bv mv dv] 62)).cell? ⟨w12.heap.size, 0, none⟩ = some (.bool bv) := by simp [go_sem]
  have bf1 : (w12.alloc (.cells #[.bool bv, .slice Av nv cv, .slice Bv mv dv] 62)).cell? ⟨w12.heap.size, 1, none⟩ = some (.slice Av nv cv) := by simp [go_sem]
  have bf2 : (w12.alloc (.cells #[.bool bv, .slice Av nv cv, .slice Bv mv dv] 62)).cell? ⟨w12.heap.size, 2, none⟩ = some (.slice Bv mv dv) := by simp [go_sem]
  have bfl : w12.heap.size < (w12.alloc (.cells #[.bool bv, .slice Av nv cv, .slice Bv mv dv] 62)).heap.size := by simp
  generalize w12.alloc (.cells #[.bool bv, .slice Av nv cv, .slice Bv mv dv] 62) = v13 at *
  refine (rtcmp_v cn ru (su.le (by omega)) rv (sv.le (by omega)) HC.out).mono ?_
  rintro e w14 ⟨rfl, b⟩
  replace f0 := (b.frozen (p := ⟨w.heap.size + 1, 0, none⟩) gl).trans f0
  replace f1 := (b.frozen (p := ⟨w.heap.size + 1, 1, none⟩) gl).trans f1
  replace hx := hx.on b
  replace zl := zl.on b
  replace zh := zh.on b
  replace rx := rx.on b
  replace ry := ry.on b
  replace ru := ru.on b
  replace rv := rv.on b
  replace k0 := (b.cell (p := ⟨w.heap.size, 0, none⟩) kl).trans k0
  replace k1 := (b.cell (p := ⟨w.heap.size, 1, none⟩) kl).trans k1
  replace k2 := (b.cell (p := ⟨w.heap.size, 2, none⟩) kl).trans k2
  replace kl := Nat.lt_of_lt_of_le kl b.size
  replace g0 := (b.cell (p := ⟨w.heap.size + 1, 0, none⟩) gl).trans g0
  replace g1 := (b.cell (p := ⟨w.heap.size + 1, 1, none⟩) gl).trans g1
  replace gl := Nat.lt_of_lt_of_le gl b.size
  replace ba0 := (b.cell (p := ⟨w2.heap.size, 0, none⟩) bal).trans ba0
  replace ba1 := (b.cell (p := ⟨w2.heap.size, 1, none⟩) bal).trans ba1
  replace bal := Nat.lt_of_lt_of_le bal b.size
  replace bb0 := (b.cell (p := ⟨w4.heap.size, 0, none⟩) bbl).trans bb0
  replace bb1 := (b.cell (p := ⟨w4.heap.size, 1, none⟩) bbl).trans bb1
  replace bbl := Nat.lt_of_lt_of_le bbl b.size
  replace bc0 := (b.cell (p := ⟨w6.heap.size, 0, none⟩) bcl).trans bc0
  replace bc1 := (b.cell (p := ⟨w6.heap.size, 1, none⟩) bcl).trans bc1
  replace bc2 := (b.cell (p := ⟨w6.heap.size, 2, none⟩) bcl).trans bc2
  replace bcl := Nat.lt_of_lt_of_le bcl b.size
  replace bd0 := (b.cell (p := ⟨w8.heap.size, 0, none⟩) bdl).trans bd0
  replace bd1 := (b.cell (p := ⟨w8.heap.size, 1, none⟩) bdl).trans bd1
  replace bd2 := (b.cell (p := ⟨w8.heap.size, 2, none⟩) bdl).trans bd2
  replace bdl := Nat.lt_of_lt_of_le bdl b.size
  replace be0 := (b.cell (p := ⟨w10.heap.size, 0, none⟩) bel).trans be0
  replace be1 := (b.cell (p := ⟨w10.heap.size, 1, none⟩) bel).trans be1
  replace be2 := (b.cell (p := ⟨w10.heap.size, 2, none⟩) bel).trans be2
  replace bel := Nat.lt_of_lt_of_le bel b.size
  replace bf0 := (b.cell (p := ⟨w12.heap.size, 0, none⟩) bfl).trans bf0
  replace bf1 := (b.cell (p := ⟨w12.heap.size, 1, none⟩) bfl).trans bf1
  replace bf2 := (b.cell (p := ⟨w12.heap.size, 2, none⟩) bfl).trans bf2
  replace bfl := Nat.lt_of_lt_of_le bfl b.size
  replace cc := cc.trans (b.mono cc.size)
  clear b
  go_wp2_with fail
  refine (rodd_N false zl HO.out).mono ?_
  rintro e w15 ⟨rfl, b⟩
  replace f0 := (b.frozen (p := ⟨w.heap.size + 1, 0, none⟩) gl).trans f0
  replace f1 := (b.frozen (p := ⟨w.heap.size + 1, 1, none⟩) gl).trans f1
  replace hx := hx.on b
  replace zl := zl.on b
  replace zh := zh.on b
  replace rx := rx.on b
  replace ry := ry.on b
  replace ru := ru.on b
  replace rv := rv.on b
  replace k0 := (b.cell (p := ⟨w.heap.size, 0, none⟩) kl).trans k0
  replace k1 := (b.cell (p := ⟨w.heap.size, 1, none⟩) kl).trans k1
  replace k2 := (b.cell (p := ⟨w.heap.size, 2, none⟩) kl).trans k2
  replace kl := Nat.lt_of_lt_of_le kl b.size
  replace g0 := (b.cell (p := ⟨w.heap.size + 1, 0, none⟩) gl).trans g0
  replace g1 := (b.cell (p := ⟨w.heap.size + 1, 1, none⟩) gl).trans g1
  replace gl := Nat.lt_of_lt_of_le gl b.size
  replace ba0 := (b.cell (p := ⟨w2.heap.size, 0, none⟩) bal).trans ba0
  replace ba1 := (b.cell (p := ⟨w2.heap.size, 1, none⟩) bal).trans ba1
  replace bal := Nat.lt_of_lt_of_le bal b.size
  replace bb0 := (b.cell (p := ⟨w4.heap.size, 0, none⟩) bbl).trans bb0
  replace bb1 := (b.cell (p := ⟨w4.heap.size, 1, none⟩) bbl).trans bb1
  replace bbl := Nat.lt_of_lt_of_le bbl b.size
  replace bc0 := (b.cell (p := ⟨w6.heap.size, 0, none⟩) bcl).trans bc0
  replace bc1 := (b.cell (p := ⟨w6.heap.size, 1, none⟩) bcl).trans bc1
  replace bc2 := (b.cell (p := ⟨w6.heap.size, 2, none⟩) bcl).trans bc2
  replace bcl := Nat.lt_of_lt_of_le bcl b.size
  replace bd0 := (b.cell (p := ⟨w8.heap.size, 0, none⟩) bdl).trans bd0
  replace bd1 := (b.cell (p := ⟨w8.heap.size, 1, none⟩) bdl).trans bd1
  replace bd2 := (b.cell (p := ⟨w8.heap.size, 2, none⟩) bdl).trans bd2
  replace bdl := Nat.lt_of_lt_of_le bdl b.size
  replace be0 := (b.cell (p := ⟨w10.heap.size, 0, none⟩) bel).trans be0
  replace be1 := (b.cell (p := ⟨w10.heap.size, 1, none⟩) bel).trans be1
  replace be2 := (b.cell (p := ⟨w10.heap.size, 2, none⟩) bel).trans be2
  replace bel := Nat.lt_of_lt_of_le bel b.size
  replace bf0 := (b.cell (p := ⟨w12.heap.size, 0, none⟩) bfl).trans bf0
  replace bf1 := (b.cell (p := ⟨w12.heap.size, 1, none⟩) bfl).trans bf1
  replace bf2 := (b.cell (p := ⟨w12.heap.size, 2, none⟩) bfl).trans bf2
  replace bfl := Nat.lt_of_lt_of_le bfl b.size
  replace cc := cc.trans (b.mono cc.size)
  clear b
  have hn : Zn w15 bl Al nl cl (nea x0 j.toNat) := by rw [HN.out]; exact zl
  have eb : Box w15 (w.heap.size + 1) false none 0 0 := ⟨g0, g1⟩
  have HZ : Hid (Zn ((w15.setCell ⟨w.heap.size + 1, 0, none⟩ (.bool bl)).setCell ⟨w.heap.size + 1, 1, none⟩ (.slice Al nl cl)) bl Al nl cl (nea x0 j.toNat)) := Lib.hid (hn.put eb _ _)
  clear hn
  go_wp2_with fail
  refine bodyPost_ret (v := .tuple #[.agg #[.bool bl, .slice Al nl cl], .int .i64 0]) (by simp [results, Tryz.results44, go_sem, g0, g1]) rfl ⟨_, _, _, _, rfl, HZ.out, below_put cc (by omega) _ _⟩

set_option maxRecDepth 100000 in
set_option maxHeartbeats 8000000 in
theorem rnear_odd {w : World} {b0 : Bool} {A0 B0 : Option Addr} {n0 c0 m0 d0 : Nat} {x0 : Rat} (hx : Rt w b0 A0 n0 c0 B0 m0 d0 x0) (s0 : Sz x0 15) {j : Int} (h0 : 0 ≤ j) (h1 : j ≤ 500) (hc : cmpQ (x0 - bak (flo x0 j.toNat) j.toNat) (bak (cei x0 j.toNat) j.toNat - x0) = 0) (he : ¬ flo x0 j.toNat % 2 = 0) :
    Calls Tryz.prog 44 #[.agg #[.bool b0, .slice A0 n0 c0, .slice B0 m0 d0], .int .i64 j] w (GotZp w (nea x0 j.toNat) 0) := by
  have jl : j.toNat ≤ 500 := by omega
  have ll := flo_len s0 jl
  have lh := cei_len s0 jl
  have hn : nea x0 j.toNat = cei x0 j.toNat := by rw [nea_by]; rw [if_neg (fun h => h.elim (fun a => by omega) (fun a => he a.2))]
  have CF : ∀ {W : World} {b : Bool} {A B : Option Addr} {n c m d : Nat}, Rt W b A n c B m d x0 → Calls Tryz.prog 55 #[.agg #[.bool b, .slice A n c, .slice B m d], .int .i64 j] W (GotZp W (flo x0 j.toNat) 0) := fun hh => rfloor_N hh (s0.le (by omega)) h0 h1
  have CC : ∀ {W : World} {b : Bool} {A B : Option Addr} {n c m d : Nat}, Rt W b A n c B m d x0 → Calls Tryz.prog 56 #[.agg #[.bool b, .slice A n c, .slice B m d], .int .i64 j] W (GotZp W (cei x0 j.toNat) 0) := fun hh => rceil_N hh (s0.le (by omega)) h0 h1
  obtain ⟨lo, hlo⟩ : ∃ lo, flo x0 j.toNat = lo := ⟨_, rfl⟩
  obtain ⟨hi, hhi⟩ : ∃ hi, cei x0 j.toNat = hi := ⟨_, rfl⟩
  rw [hlo] at CF ll
  rw [hhi] at CC lh
  rw [hlo, hhi] at hc
  rw [hlo] at he
  rw [hhi] at hn
  have CB : ∀ {W : World} {z : Int} {b : Bool} {A : Option Addr} {n c : Nat}, Zn W b A n c z → (limbs z.natAbs).length ≤ 24 → Calls Tryz.prog 57 #[.agg #[.bool b, .slice A n c], .int .i64 j] W (GotRp W (bak z j.toNat) 0) := fun hh hl => rback_N hh (by omega) h0 h1
  have sl : Sz (bak lo j.toNat) 24 := bak_sz ll (by omega) jl
  have sh : Sz (bak hi j.toNat) 24 := bak_sz lh (by omega) jl
  obtain ⟨x, hxx⟩ : ∃ x, bak lo j.toNat = x := ⟨_, rfl⟩
  obtain ⟨y, hyy⟩ : ∃ y, bak hi j.toNat = y := ⟨_, rfl⟩
  have CX : ∀ {W : World} {b : Bool} {A : Option Addr} {n c : Nat}, Zn W b A n c lo → Calls Tryz.prog 57 #[.agg #[.bool b, .slice A n c], .int .i64 j] W (GotRp W x 0) := fun hh => by rw [← hxx]; exact CB hh ll
  have CY : ∀ {W : World} {b : Bool} {A : Option Addr} {n c : Nat}, Zn W b A n c hi → Calls Tryz.prog 57 #[.agg #[.bool b, .slice A n c], .int .i64 j] W (GotRp W y 0) := fun hh => by rw [← hyy]; exact CB hh lh
  rw [hxx] at sl
  rw [hyy] at sh
  rw [hxx, hyy] at hc
  skip
  obtain ⟨cn, hcn⟩ : ∃ cn, cmpQ (x0 - x) (y - x0) = cn := ⟨_, rfl⟩
  have HC := Lib.hid hcn
  rw [hcn] at hc
  skip
  have su := s0.sub sl
  have sv := sh.sub s0
  have HN := Lib.hid hn
  have t1 : decide (cn < 0) = false := decide_eq_false (by omega)
  have t2 : (cn == 0) = true := beq_iff_eq.2 hc
  have HO : Hid (decide (lo % 2 = 1) = true) := Lib.hid (decide_eq_true (by omega))
  clear CB hxx hyy hcn hlo hhi hn hc h0 h1 he
  have cc := Below.refl w.heap.size w
  go_enter Tryz.func44, Tryz.ntmps44
  go_wp2_with fail
  have f0 : ((w.alloc (.cells #[.bool b0, .slice A0 n0 c0, .slice B0 m0 d0] 62)).alloc (.cells #[.bool false, .slice none 0 0] 60)).frozen? ⟨w.heap.size + 1, 0, none⟩ = false := by simp [go_sem]
  have f1 : ((w.alloc (.cells #[.bool b0, .slice A0 n0 c0, .slice B0 m0 d0] 62)).alloc (.cells #[.bool false, .slice none 0 0] 60)).frozen? ⟨w.heap.size + 1, 1, none⟩ = false := by simp [go_sem]
  have bA : Below w.heap.size w ((w.alloc (.cells #[.bool b0, .slice A0 n0 c0, .slice B0 m0 d0] 62)).alloc (.cells #[.bool false, .slice none 0 0] 60)) := (((Below.refl _ w).alloc (by simp) _).alloc (by simp) _)
  replace hx := hx.on bA
  replace cc := cc.trans (bA.mono cc.size)
  clear bA
  have k0 : ((w.alloc (.cells #[.bool b0, .slice A0 n0 c0, .slice B0 m0 d0] 62)).alloc (.cells #[.bool false, .slice none 0 0] 60)).cell? ⟨w.heap.size, 0, none⟩ = some (.bool b0) := by simp [go_sem]
  have k1 : ((w.alloc (.cells #[.bool b0, .slice A0 n0 c0, .slice B0 m0 d0] 62)).alloc (.cells #[.bool false, .slice none 0 0] 60)).cell? ⟨w.heap.size, 1, none⟩ = some (.slice A0 n0 c0) := by simp [go_sem]
  have k2 : ((w.alloc (.cells #[.bool b0, .slice A0 n0 c0, .slice B0 m0 d0] 62)).alloc (.cells #[.bool false, .slice none 0 0] 60)).cell? ⟨w.heap.size, 2, none⟩ = some (.slice B0 m0 d0) := by simp [go_sem]
  have kl : w.heap.size < ((w.alloc (.cells #[.bool b0, .slice A0 n0 c0, .slice B0 m0 d0] 62)).alloc (.cells #[.bool false, .slice none 0 0] 60)).heap.size := by simp <;> omega
  have g0 : ((w.alloc (.cells #[.bool b0, .slice A0 n0 c0, .slice B0 m0 d0] 62)).alloc (.cells #[.bool false, .slice none 0 0] 60)).cell? ⟨w.heap.size + 1, 0, none⟩ = some (.bool false) := by simp [go_sem]
  have g1 : ((w.alloc (.cells #[.bool b0, .slice A0 n0 c0, .slice B0 m0 d0] 62)).alloc (.cells #[.bool false, .slice none 0 0] 60)).cell? ⟨w.heap.size + 1, 1, none⟩ = some (.slice none 0 0) := by simp [go_sem]
  have gl : w.heap.size + 1 < ((w.alloc (.cells #[.bool b0, .slice A0 n0 c0, .slice B0 m0 d0] 62)).alloc (.cells #[.bool false, .slice none 0 0] 60)).heap.size := by simp <;> omega
  generalize (w.alloc (.cells #[.bool b0, .slice A0 n0 c0, .slice B0 m0 d0] 62)).alloc (.cells #[.bool false, .slice none 0 0] 60) = v1 at *
  refine (CF hx).mono ?_
  rintro e w2 ⟨bl, Al, nl, cl, rfl, zl, b⟩
  replace f0 := (b.frozen (p := ⟨w.heap.size + 1, 0, none⟩) gl).trans f0
  replace f1 := (b.frozen (p := ⟨w.heap.size + 1, 1, none⟩) gl).trans f1
  replace hx := hx.on b
  replace k0 := (b.cell (p := ⟨w.heap.size, 0, none⟩) kl).trans k0
  replace k1 := (b.cell (p := ⟨w.heap.size, 1, none⟩) kl).trans k1
  replace k2 := (b.cell (p := ⟨w.heap.size, 2, none⟩) kl).trans k2
  replace kl := Nat.lt_of_lt_of_le kl b.size
  replace g0 := (b.cell (p := ⟨w.heap.size + 1, 0, none⟩) gl).trans g0
  replace g1 := (b.cell (p := ⟨w.heap.size + 1, 1, none⟩) gl).trans g1
  replace gl := Nat.lt_of_lt_of_le gl b.size
  replace cc := cc.trans (b.mono cc.size)
  clear b
  go_wp2_with fail
  have bA := below_one w2 (.cells #[.bool bl, .slice Al nl cl] 60)
  replace f0 := (bA.frozen (p := ⟨w.heap.size + 1, 0, none⟩) gl).trans f0
  replace f1 := (bA.frozen (p := ⟨w.heap.size + 1, 1, none⟩) gl).trans f1
  replace hx := hx.on bA
  replace zl := zl.on bA
  replace k0 := (bA.cell (p := ⟨w.heap.size, 0, none⟩) kl).trans k0
  replace k1 := (bA.cell (p := ⟨w.heap.size, 1, none⟩) kl).trans k1
  replace k2 := (bA.cell (p := ⟨w.heap.size, 2, none⟩) kl).trans k2
  replace kl := Nat.lt_of_lt_of_le kl bA.size
  replace g0 := (bA.cell (p := ⟨w.heap.size + 1, 0, none⟩) gl).trans g0
  replace g1 := (bA.cell (p := ⟨w.heap.size + 1, 1, none⟩) gl).trans g1
  replace gl := Nat.lt_of_lt_of_le gl bA.size
  replace cc := cc.trans (bA.mono cc.size)
  clear bA
  have ba0 : (w2.alloc (.cells #[.bool bl, .slice Al nl cl] 60)).cell? ⟨w2.heap.size, 0, none⟩ = some (.bool bl) := by simp [go_sem]
  have ba1 : (w2.alloc (.cells #[.bool bl, .slice Al nl cl] 60)).cell? ⟨w2.heap.size, 1, none⟩ = some (.slice Al nl cl) := by simp [go_sem]
  have bal : w2.heap.size < (w2.alloc (.cells #[.bool bl, .slice Al nl cl] 60)).heap.size := by simp
  generalize w2.alloc (.cells #[.bool bl, .slice Al nl cl] 60) = v3 at *
  refine (CC hx).mono ?_
  rintro e w4 ⟨bh, Ah, nh, ch, rfl, zh, b⟩
  replace f0 := (b.frozen (p := ⟨w.heap.size + 1, 0, none⟩) gl).trans f0
  replace f1 := (b.frozen (p := ⟨w.heap.size + 1, 1, none⟩) gl).trans f1
  replace hx := hx.on b
  replace zl := zl.on b
  replace k0 := (b.cell (p := ⟨w.heap.size, 0, none⟩) kl).trans k0
  replace k1 := (b.cell (p := ⟨w.heap.size, 1, none⟩) kl).trans k1
  replace k2 := (b.cell (p := ⟨w.heap.size, 2, none⟩) kl).trans k2
  replace kl := Nat.lt_of_lt_of_le kl b.size
  replace g0 := (b.cell (p := ⟨w.heap.size + 1, 0, none⟩) gl).trans g0
  replace g1 := (b.cell (p := ⟨w.heap.size + 1, 1, none⟩) gl).trans g1
  replace gl := Nat.lt_of_lt_of_le gl b.size
  replace ba0 := (b.cell (p := ⟨w2.heap.size, 0, none⟩) bal).trans ba0
  replace ba1 := (b.cell (p := ⟨w2.heap.size, 1, none⟩) bal).trans ba1
  replace bal := Nat.lt_of_lt_of_le bal b.size
  replace cc := cc.trans (b.mono cc.size)
  clear b
  go_wp2_with fail
  have bA := below_one w4 (.cells #[.bool bh, .slice Ah nh ch] 60)
  replace f0 := (bA.frozen (p := ⟨w.heap.size + 1, 0, none⟩) gl).trans f0
  replace f1 := (bA.frozen (p := ⟨w.heap.size + 1, 1, none⟩) gl).trans f1
  replace hx := hx.on bA
  replace zl := zl.on bA
  replace zh := zh.on bA
  replace k0 := (bA.cell (p := ⟨w.heap.size, 0, none⟩) kl).trans k0
  replace k1 := (bA.cell (p := ⟨w.heap.size, 1, none⟩) kl).trans k1
  replace k2 := (bA.cell (p := ⟨w.heap.size, 2, none⟩) kl).trans k2
  replace kl := Nat.lt_of_lt_of_le kl bA.size
  replace g0 := (bA.cell (p := ⟨w.heap.size + 1, 0, none⟩) gl).trans g0
  replace g1 := (bA.cell (p := ⟨w.heap.size + 1, 1, none⟩) gl).trans g1
  replace gl := Nat.lt_of_lt_of_le gl bA.size
  replace ba0 := (bA.cell (p := ⟨w2.heap.size, 0, none⟩) bal).trans ba0
  replace ba1 := (bA.cell (p := ⟨w2.heap.size, 1, none⟩) bal).trans ba1
  replace bal := Nat.lt_of_lt_of_le bal bA.size
  replace cc := cc.trans (bA.mono cc.size)
  clear bA
  have bb0 : (w4.alloc (.cells #[.bool bh, .slice Ah nh ch] 60)).cell? ⟨w4.heap.size, 0, none⟩ = some (.bool bh) := by simp [go_sem]
  have bb1 : (w4.alloc (.cells #[.bool bh, .slice Ah nh ch] 60)).cell? ⟨w4.heap.size, 1, none⟩ = some (.slice Ah nh ch) := by simp [go_sem]
  have bbl : w4.heap.size < (w4.alloc (.cells #[.bool bh, .slice Ah nh ch] 60)).heap.size := by simp
  generalize w4.alloc (.cells #[.bool bh, .slice Ah nh ch] 60) = v5 at *
  refine (CX zl).mono ?_
  rintro e w6 ⟨bx, Ax, nx, cx, Bx, mx, dx, rfl, rx, b⟩
  replace f0 := (b.frozen (p := ⟨w.heap.size + 1, 0, none⟩) gl).trans f0
  replace f1 := (b.frozen (p := ⟨w.heap.size + 1, 1, none⟩) gl).trans f1
  replace hx := hx.on b
  replace zl := zl.on b
  replace zh := zh.on b
  replace k0 := (b.cell (p := ⟨w.heap.size, 0, none⟩) kl).trans k0
  replace k1 := (b.cell (p := ⟨w.heap.size, 1, none⟩) kl).trans k1
  replace k2 := (b.cell (p := ⟨w.heap.size, 2, none⟩) kl).trans k2
  replace kl := Nat.lt_of_lt_of_le kl b.size
  replace g0 := (b.cell (p := ⟨w.heap.size + 1, 0, none⟩) gl).trans g0
  replace g1 := (b.cell (p := ⟨w.heap.size + 1, 1, none⟩) gl).trans g1
  replace gl := Nat.lt_of_lt_of_le gl b.size
  replace ba0 := (b.cell (p := ⟨w2.heap.size, 0, none⟩) bal).trans ba0
  replace ba1 := (b.cell (p := ⟨w2.heap.size, 1, none⟩) bal).trans ba1
  replace bal := Nat.lt_of_lt_of_le bal b.size
  replace bb0 := (b.cell (p := ⟨w4.heap.size, 0, none⟩) bbl).trans bb0
  replace bb1 := (b.cell (p := ⟨w4.heap.size, 1, none⟩) bbl).trans bb1
  replace bbl := Nat.lt_of_lt_of_le bbl b.size
  replace cc := cc.trans (b.mono cc.size)
  clear b
  go_wp2_with fail
  have bA := below_one w6 (.cells #[.bool bx, .slice Ax nx cx, .slice Bx mx dx] 62)
  replace f0 := (bA.frozen (p := ⟨w.heap.size + 1, 0, none⟩) gl).trans f0
  replace f1 := (bA.frozen (p := ⟨w.heap.size + 1, 1, none⟩) gl).trans f1
  replace hx := hx.on bA
  replace zl := zl.on bA
  replace zh := zh.on bA
  replace rx := rx.on bA
  replace k0 := (bA.cell (p := ⟨w.heap.size, 0, none⟩) kl).trans k0
  replace k1 := (bA.cell (p := ⟨w.heap.size, 1, none⟩) kl).trans k1
  replace k2 := (bA.cell (p := ⟨w.heap.size, 2, none⟩) kl).trans k2
  replace kl := Nat.lt_of_lt_of_le kl bA.size
  replace g0 := (bA.cell (p := ⟨w.heap.size + 1, 0, none⟩) gl).trans g0
  replace g1 := (bA.cell (p := ⟨w.heap.size + 1, 1, none⟩) gl).trans g1
  replace gl := Nat.lt_of_lt_of_le gl bA.size
  replace ba0 := (bA.cell (p := ⟨w2.heap.size, 0, none⟩) bal).trans ba0
  replace ba1 := (bA.cell (p := ⟨w2.heap.size, 1, none⟩) bal).trans ba1
  replace bal := Nat.lt_of_lt_of_le bal bA.size
  replace bb0 := (bA.cell (p := ⟨w4.heap.size, 0, none⟩) bbl).trans bb0
  replace bb1 := (bA.cell (p := ⟨w4.heap.size, 1, none⟩) bbl).trans bb1
  replace bbl := Nat.lt_of_lt_of_le bbl bA.size
  replace cc := cc.trans (bA.mono cc.size)
  clear bA
  have bc0 : (w6.alloc (.cells #[.bool bx, .slice Ax nx cx, .slice Bx mx dx] 62)).cell? ⟨w6.heap.size, 0, none⟩ = some (.bool bx) := by simp [go_sem]
  have bc1 : (w6.alloc (.cells #[.bool bx, .slice Ax nx cx, .slice Bx mx dx] 62)).cell? ⟨w6.heap.size, 1, none⟩ = some (.slice Ax nx cx) := by simp [go_sem]
  have bc2 : (w6.alloc (.cells #[.bool bx, .slice Ax nx cx, .slice Bx mx dx] 62)).cell? ⟨w6.heap.size, 2, none⟩ = some (.slice Bx mx dx) := by simp [go_sem]
  have bcl : w6.heap.size < (w6.alloc (.cells #[.bool bx, .slice Ax nx cx, .slice Bx mx dx] 62)).heap.size := by simp
  generalize w6.alloc (.cells #[.bool bx, .slice Ax nx cx, .slice Bx mx dx] 62) = v7 at *
  refine (CY zh).mono ?_
  rintro e w8 ⟨bY, Ay, ny, cy, By, my, dy, rfl, ry, b⟩
  replace f0 := (b.frozen (p := ⟨w.heap.size + 1, 0, none⟩) gl).trans f0
  replace f1 := (b.frozen (p := ⟨w.heap.size + 1, 1, none⟩) gl).trans f1
  replace hx := hx.on b
  replace zl := zl.on b
  replace zh := zh.on b
  replace rx := rx.on b
  replace k0 := (b.cell (p := ⟨w.heap.size, 0, none⟩) kl).trans k0
  replace k1 := (b.cell (p := ⟨w.heap.size, 1, none⟩) kl).trans k1
  replace k2 := (b.cell (p := ⟨w.heap.size, 2, none⟩) kl).trans k2
  replace kl := Nat.lt_of_lt_of_le kl b.size
  replace g0 := (b.cell (p := ⟨w.heap.size + 1, 0, none⟩) gl).trans g0
  replace g1 := (b.cell (p := ⟨w.heap.size + 1, 1, none⟩) gl).trans g1
  replace gl := Nat.lt_of_lt_of_le gl b.size
  replace ba0 := (b.cell (p := ⟨w2.heap.size, 0, none⟩) bal).trans ba0
  replace ba1 := (b.cell (p := ⟨w2.heap.size, 1, none⟩) bal).trans ba1
  replace bal := Nat.lt_of_lt_of_le bal b.size
  replace bb0 := (b.cell (p := ⟨w4.heap.size, 0, none⟩) bbl).trans bb0
  replace bb1 := (b.cell (p := ⟨w4.heap.size, 1, none⟩) bbl).trans bb1
  replace bbl := Nat.lt_of_lt_of_le bbl b.size
  replace bc0 := (b.cell (p := ⟨w6.heap.size, 0, none⟩) bcl).trans bc0
  replace bc1 := (b.cell (p := ⟨w6.heap.size, 1, none⟩) bcl).trans bc1
  replace bc2 := (b.cell (p := ⟨w6.heap.size, 2, none⟩) bcl).trans bc2
  replace bcl := Nat.lt_of_lt_of_le bcl b.size
  replace cc := cc.trans (b.mono cc.size)
  clear b
  go_wp2_with fail
  have bA := below_one w8 (.cells #[.bool bY, .slice Ay ny cy, .slice By my dy] 62)
  replace f0 := (bA.frozen (p := ⟨w.heap.size + 1, 0, none⟩) gl).trans f0
  replace f1 := (bA.frozen (p := ⟨w.heap.size + 1, 1, none⟩) gl).trans f1
  replace hx := hx.on bA
  replace zl := zl.on bA
  replace zh := zh.on bA
  replace rx := rx.on bA
  replace ry := ry.on bA
  replace k0 := (bA.cell (p := ⟨w.heap.size, 0, none⟩) kl).trans k0
  replace k1 := (bA.cell (p := ⟨w.heap.size, 1, none⟩) kl).trans k1
  replace k2 := (bA.cell (p := ⟨w.heap.size, 2, none⟩) kl).trans k2
  replace kl := Nat.lt_of_lt_of_le kl bA.size
  replace g0 := (bA.cell (p := ⟨w.heap.size + 1, 0, none⟩) gl).trans g0
  replace g1 := (bA.cell (p := ⟨w.heap.size + 1, 1, none⟩) gl).trans g1
  replace gl := Nat.lt_of_lt_of_le gl bA.size
  replace ba0 := (bA.cell (p := ⟨w2.heap.size, 0, none⟩) bal).trans ba0
  replace ba1 := (bA.cell (p := ⟨w2.heap.size, 1, none⟩) bal).trans ba1
  replace bal := Nat.lt_of_lt_of_le bal bA.size
  replace bb0 := (bA.cell (p := ⟨w4.heap.size, 0, none⟩) bbl).trans bb0
  replace bb1 := (bA.cell (p := ⟨w4.heap.size, 1, none⟩) bbl).trans bb1
  replace bbl := Nat.lt_of_lt_of_le bbl bA.size
  replace bc0 := (bA.cell (p := ⟨w6.heap.size, 0, none⟩) bcl).trans bc0
  replace bc1 := (bA.cell (p := ⟨w6.heap.size, 1, none⟩) bcl).trans bc1
  replace bc2 := (bA.cell (p := ⟨w6.heap.size, 2, none⟩) bcl).trans bc2
  replace bcl := Nat.lt_of_lt_of_le bcl bA.size
  replace cc := cc.trans (bA.mono cc.size)
  clear bA
  have bd0 : (w8.alloc (.cells #[.bool bY, .slice Ay ny cy, .slice By my dy] 62)).cell? ⟨w8.heap.size, 0, none⟩ = some (.bool bY) := by simp [go_sem]
  have bd1 : (w8.alloc (.cells #[.bool bY, .slice Ay ny cy, .slice By my dy] 62)).cell? ⟨w8.heap.size, 1, none⟩ = some (.slice Ay ny cy) := by simp [go_sem]
  have bd2 : (w8.alloc (.cells #[.bool bY, .slice Ay ny cy, .slice By my dy] 62)).cell? ⟨w8.heap.size, 2, none⟩ = some (.slice By my dy) := by simp [go_sem]
  have bdl : w8.heap.size < (w8.alloc (.cells #[.bool bY, .slice Ay ny cy, .slice By my dy] 62)).heap.size := by simp
  generalize w8.alloc (.cells #[.bool bY, .slice Ay ny cy, .slice By my dy] 62) = v9 at *
  refine (rtsub_N hx (s0.le (by omega)) rx (sl.le (by omega))).mono ?_
  rintro e w10 ⟨bu, Au, nu, cu, Bu, mu, du, rfl, ru, b⟩
  replace f0 := (b.frozen (p := ⟨w.heap.size + 1, 0, none⟩) gl).trans f0
  replace f1 := (b.frozen (p := ⟨w.heap.size + 1, 1, none⟩) gl).trans f1
  replace hx := hx.on b
  replace zl := zl.on b
  replace zh := zh.on b
  replace rx := rx.on b
  replace ry := ry.on b
  replace k0 := (b.cell (p := ⟨w.heap.size, 0, none⟩) kl).trans k0
  replace k1 := (b.cell (p := ⟨w.heap.size, 1, none⟩) kl).trans k1
  replace k2 := (b.cell (p := ⟨w.heap.size, 2, none⟩) kl).trans k2
  replace kl := Nat.lt_of_lt_of_le kl b.size
  replace g0 := (b.cell (p := ⟨w.heap.size + 1, 0, none⟩) gl).trans g0
  replace g1 := (b.cell (p := ⟨w.heap.size + 1, 1, none⟩) gl).trans g1
  replace gl := Nat.lt_of_lt_of_le gl b.size
  replace ba0 := (b.cell (p := ⟨w2.heap.size, 0, none⟩) bal).trans ba0
  replace ba1 := (b.cell (p := ⟨w2.heap.size, 1, none⟩) bal).trans ba1
  replace bal := Nat.lt_of_lt_of_le bal b.size
  replace bb0 := (b.cell (p := ⟨w4.heap.size, 0, none⟩) bbl).trans bb0
  replace bb1 := (b.cell (p := ⟨w4.heap.size, 1, none⟩) bbl).trans bb1
  replace bbl := Nat.lt_of_lt_of_le bbl b.size
  replace bc0 := (b.cell (p := ⟨w6.heap.size, 0, none⟩) bcl).trans bc0
  replace bc1 := (b.cell (p := ⟨w6.heap.size, 1, none⟩) bcl).trans bc1
  replace bc2 := (b.cell (p := ⟨w6.heap.size, 2, none⟩) bcl).trans bc2
  replace bcl := Nat.lt_of_lt_of_le bcl b.size
  replace bd0 := (b.cell (p := ⟨w8.heap.size, 0, none⟩) bdl).trans bd0
  replace bd1 := (b.cell (p := ⟨w8.heap.size, 1, none⟩) bdl).trans bd1
  replace bd2 := (b.cell (p := ⟨w8.heap.size, 2, none⟩) bdl).trans bd2
  replace bdl := Nat.lt_of_lt_of_le bdl b.size
  replace cc := cc.trans (b.mono cc.size)
  clear b
  go_wp2_with fail
  have bA := below_one w10 (.cells #[.bool bu, .slice Au nu cu, .slice Bu mu du] 62)
  replace f0 := (bA.frozen (p := ⟨w.heap.size + 1, 0, none⟩) gl).trans f0
  replace f1 := (bA.frozen (p := ⟨w.heap.size + 1, 1, none⟩) gl).trans f1
  replace hx := hx.on bA
  replace zl := zl.on bA
  replace zh := zh.on bA
  replace rx := rx.on bA
  replace ry := ry.on bA
  replace ru := ru.on bA
  replace k0 := (bA.cell (p := ⟨w.heap.size, 0, none⟩) kl).trans k0
  replace k1 := (bA.cell (p := ⟨w.heap.size, 1, none⟩) kl).trans k1
  replace k2 := (bA.cell (p := ⟨w.heap.size, 2, none⟩) kl).trans k2
  replace kl := Nat.lt_of_lt_of_le kl bA.size
  replace g0 := (bA.cell (p := ⟨w.heap.size + 1, 0, none⟩) gl).trans g0
  replace g1 := (bA.cell (p := ⟨w.heap.size + 1, 1, none⟩) gl).trans g1
  replace gl := Nat.lt_of_lt_of_le gl bA.size
  replace ba0 := (bA.cell (p := ⟨w2.heap.size, 0, none⟩) bal).trans ba0
  replace ba1 := (bA.cell (p := ⟨w2.heap.size, 1, none⟩) bal).trans ba1
  replace bal := Nat.lt_of_lt_of_le bal bA.size
  replace bb0 := (bA.cell (p := ⟨w4.heap.size, 0, none⟩) bbl).trans bb0
  replace bb1 := (bA.cell (p := ⟨w4.heap.size, 1, none⟩) bbl).trans bb1
  replace bbl := Nat.lt_of_lt_of_le bbl bA.size
  replace bc0 := (bA.cell (p := ⟨w6.heap.size, 0, none⟩) bcl).trans bc0
  replace bc1 := (bA.cell (p := ⟨w6.heap.size, 1, none⟩) bcl).trans bc1
  replace bc2 := (bA.cell (p := ⟨w6.heap.size, 2, none⟩) bcl).trans bc2
  replace bcl := Nat.lt_of_lt_of_le bcl bA.size
  replace bd0 := (bA.cell (p := ⟨w8.heap.size, 0, none⟩) bdl).trans bd0
  replace bd1 := (bA.cell (p := ⟨w8.heap.size, 1, none⟩) bdl).trans bd1
  replace bd2 := (bA.cell (p := ⟨w8.heap.size, 2, none⟩) bdl).trans bd2
  replace bdl := Nat.lt_of_lt_of_le bdl bA.size
  replace cc := cc.trans (bA.mono cc.size)
  clear bA
  have be0 : (w10.alloc (.cells #[.bool bu, .slice Au nu cu, .slice Bu mu du] 62)).cell? ⟨w10.heap.size, 0, none⟩ = some (.bool bu) := by simp [go_sem]
  have be1 : (w10.alloc (.cells #[.bool bu, .slice Au nu cu, .slice Bu mu du] 62)).cell? ⟨w10.heap.size, 1, none⟩ = some (.slice Au nu cu) := by simp [go_sem]
  have be2 : (w10.alloc (.cells #[.bool bu, .slice Au nu cu, .slice Bu mu du] 62)).cell? ⟨w10.heap.size, 2, none⟩ = some (.slice Bu mu du) := by simp [go_sem]
  have bel : w10.heap.size < (w10.alloc (.cells #[.bool bu, .slice Au nu cu, .slice Bu mu du] 62)).heap.size := by simp
  generalize w10.alloc (.cells #[.bool bu, .slice Au nu cu, .slice Bu mu du] 62) = v11 at *
  refine (rtsub_N ry (sh.le (by omega)) hx (s0.le (by omega))).mono ?_
  rintro e w12 ⟨bv, Av, nv, cv, Bv, mv, dv, rfl, rv, b⟩
  replace f0 := (b.frozen (p := ⟨w.heap.size + 1, 0, none⟩) gl).trans f0
  replace f1 := (b.frozen (p := ⟨w.heap.size + 1, 1, none⟩) gl).trans f1
  replace hx := hx.on b
  replace zl := zl.on b
  replace zh := zh.on b
  replace rx := rx.on b
  replace ry := ry.on b
  replace ru := ru.on b
  replace k0 := (b.cell (p := ⟨w.heap.size, 0, none⟩) kl).trans k0
  replace k1 := (b.cell (p := ⟨w.heap.size, 1, none⟩) kl).trans k1
  replace k2 := (b.cell (p := ⟨w.heap.size, 2, none⟩) kl).trans k2
  replace kl := Nat.lt_of_lt_of_le kl b.size
  replace g0 := (b.cell (p := ⟨w.heap.size + 1, 0, none⟩) gl).trans g0
  replace g1 := (b.cell (p := ⟨w.heap.size + 1, 1, none⟩) gl).trans g1
  replace gl := Nat.lt_of_lt_of_le gl b.size
  replace ba0 := (b.cell (p := ⟨w2.heap.size, 0, none⟩) bal).trans ba0
  replace ba1 := (b.cell (p := ⟨w2.heap.size, 1, none⟩) bal).trans ba1
  replace bal := Nat.lt_of_lt_of_le bal b.size
  replace bb0 := (b.cell (p := ⟨w4.heap.size, 0, none⟩) bbl).trans bb0
  replace bb1 := (b.cell (p := ⟨w4.heap.size, 1, none⟩) bbl).trans bb1
  replace bbl := Nat.lt_of_lt_of_le bbl b.size
  replace bc0 := (b.cell (p := ⟨w6.heap.size, 0, none⟩) bcl).trans bc0
  replace bc1 := (b.cell (p := ⟨w6.heap.size, 1, none⟩) bcl).trans bc1
  replace bc2 := (b.cell (p := ⟨w6.heap.size, 2, none⟩) bcl).trans bc2
  replace bcl := Nat.lt_of_lt_of_le bcl b.size
  replace bd0 := (b.cell (p := ⟨w8.heap.size, 0, none⟩) bdl).trans bd0
  replace bd1 := (b.cell (p := ⟨w8.heap.size, 1, none⟩) bdl).trans bd1
  replace bd2 := (b.cell (p := ⟨w8.heap.size, 2, none⟩) bdl).trans bd2
  replace bdl := Nat.lt_of_lt_of_le bdl b.size
  replace be0 := (b.cell (p := ⟨w10.heap.size, 0, none⟩) bel).trans be0
  replace be1 := (b.cell (p := ⟨w10.heap.size, 1, none⟩) bel).trans be1
  replace be2 := (b.cell (p := ⟨w10.heap.size, 2, none⟩) bel).trans be2
  replace bel := Nat.lt_of_lt_of_le bel b.size
  replace cc := cc.trans (b.mono cc.size)
  clear b
  go_wp2_with fail
  have bA := below_one w12 (.cells #[.bool bv, .slice Av nv cv, .slice Bv mv dv] 62)
  replace f0 := (bA.frozen (p := ⟨w.heap.size + 1, 0, none⟩) gl).trans f0
  replace f1 := (bA.frozen (p := ⟨w.heap.size + 1, 1, none⟩) gl).trans f1
  replace hx := hx.on bA
  replace zl := zl.on bA
  replace zh := zh.on bA
  replace rx := rx.on bA
  replace ry := ry.on bA
  replace ru := ru.on bA
  replace rv := rv.on bA
  replace k0 := (bA.cell (p := ⟨w.heap.size, 0, none⟩) kl).trans k0
  replace k1 := (bA.cell (p := ⟨w.heap.size, 1, none⟩) kl).trans k1
  replace k2 := (bA.cell (p := ⟨w.heap.size, 2, none⟩) kl).trans k2
  replace kl := Nat.lt_of_lt_of_le kl bA.size
  replace g0 := (bA.cell (p := ⟨w.heap.size + 1, 0, none⟩) gl).trans g0
  replace g1 := (bA.cell (p := ⟨w.heap.size + 1, 1, none⟩) gl).trans g1
  replace gl := Nat.lt_of_lt_of_le gl bA.size
  replace ba0 := (bA.cell (p := ⟨w2.heap.size, 0, none⟩) bal).trans ba0
  replace ba1 := (bA.cell (p := ⟨w2.heap.size, 1, none⟩) bal).trans ba1
  replace bal := Nat.lt_of_lt_of_le bal bA.size
  replace bb0 := (bA.cell (p := ⟨w4.heap.size, 0, none⟩) bbl).trans bb0
  replace bb1 := (bA.cell (p := ⟨w4.heap.size, 1, none⟩) bbl).trans bb1
  replace bbl := Nat.lt_of_lt_of_le bbl bA.size
  replace bc0 := (bA.cell (p := ⟨w6.heap.size, 0, none⟩) bcl).trans bc0
  replace bc1 := (bA.cell (p := ⟨w6.heap.size, 1, none⟩) bcl).trans bc1
  replace bc2 := (bA.cell (p := ⟨w6.heap.size, 2, none⟩) bcl).trans bc2
  replace bcl := Nat.lt_of_lt_of_le bcl bA.size
  replace bd0 := (bA.cell (p := ⟨w8.heap.size, 0, none⟩) bdl).trans bd0
  replace bd1 := (bA.cell (p := ⟨w8.heap.size, 1, none⟩) bdl).trans bd1
  replace bd2 := (bA.cell (p := ⟨w8.heap.size, 2, none⟩) bdl).trans bd2
  replace bdl := Nat.lt_of_lt_of_le bdl bA.size
  replace be0 := (bA.cell (p := ⟨w10.heap.size, 0, none⟩) bel).trans be0
  replace be1 := (bA.cell (p := ⟨w10.heap.size, 1, none⟩) bel).trans be1
  replace be2 := (bA.cell (p := ⟨w10.heap.size, 2, none⟩) bel).trans be2
  replace bel := Nat.lt_of_lt_of_le bel bA.size
  replace cc := cc.trans (bA.mono cc.size)
  clear bA
  have bf0 : (w12.alloc (.cells #[.bool bv, .slice Av nv cv, .slice Bv mv dv] 62)).cell? ⟨w12.heap.size, 0, none⟩ = some (.bool bv) := by simp [go_sem]
  have bf1 : (w12.alloc (.cells #[.bool bv, .slice Av nv cv, .slice Bv mv dv] 62)).cell? ⟨w12.heap.size, 1, none⟩ = some (.slice Av nv cv) := by simp [go_sem]
  have bf2 : (w12.alloc (.cells #[.bool bv, .slice Av nv cv, .slice Bv mv dv] 62)).cell? ⟨w12.heap.size, 2, none⟩ = some (.slice Bv mv dv) := by simp [go_sem]
  have bfl : w12.heap.size < (w12.alloc (.cells #[.bool bv, .slice Av nv cv, .slice Bv mv dv] 62)).heap.size := by simp
  generalize w12.alloc (.cells #[.bool bv, .slice Av nv cv, .slice Bv mv dv] 62) = v13 at *
  refine (rtcmp_v cn ru (su.le (by omega)) rv (sv.le (by omega)) HC.out).mono ?_
  rintro e w14 ⟨rfl, b⟩
  replace f0 := (b.frozen (p := ⟨w.heap.size + 1, 0, none⟩) gl).trans f0
  replace f1 := (b.frozen (p := ⟨w.heap.size + 1, 1, none⟩) gl).trans f1
  replace hx := hx.on b
  replace zl := zl.on b
  replace zh := zh.on b
  replace rx := rx.on b
  replace ry := ry.on b
  replace ru := ru.on b
  replace rv := rv.on b
  replace k0 := (b.cell (p := ⟨w.heap.size, 0, none⟩) kl).trans k0
  replace k1 := (b.cell (p := ⟨w.heap.size, 1, none⟩) kl).trans k1
  replace k2 := (b.cell (p := ⟨w.heap.size, 2, none⟩) kl).trans k2
  replace kl := Nat.lt_of_lt_of_le kl b.size
  replace g0 := (b.cell (p := ⟨w.heap.size + 1, 0, none⟩) gl).trans g0
  replace g1 := (b.cell (p := ⟨w.heap.size + 1, 1, none⟩) gl).trans g1
  replace gl := Nat.lt_of_lt_of_le gl b.size
  replace ba0 := (b.cell (p := ⟨w2.heap.size, 0, none⟩) bal).trans ba0
  replace ba1 := (b.cell (p := ⟨w2.heap.size, 1, none⟩) bal).trans ba1
  replace bal := Nat.lt_of_lt_of_le bal b.size
  replace bb0 := (b.cell (p := ⟨w4.heap.size, 0, none⟩) bbl).trans bb0
  replace bb1 := (b.cell (p := ⟨w4.heap.size, 1, none⟩) bbl).trans bb1
  replace bbl := Nat.lt_of_lt_of_le bbl b.size
  replace bc0 := (b.cell (p := ⟨w6.heap.size, 0, none⟩) bcl).trans bc0
  replace bc1 := (b.cell (p := ⟨w6.heap.size, 1, none⟩) bcl).trans bc1
  replace bc2 := (b.cell (p := ⟨w6.heap.size, 2, none⟩) bcl).trans bc2
  replace bcl := Nat.lt_of_lt_of_le bcl b.size
  replace bd0 := (b.cell (p := ⟨w8.heap.size, 0, none⟩) bdl).trans bd0
  replace bd1 := (b.cell (p := ⟨w8.heap.size, 1, none⟩) bdl).trans bd1
  replace bd2 := (b.cell (p := ⟨w8.heap.size, 2, none⟩) bdl).trans bd2
  replace bdl := Nat.lt_of_lt_of_le bdl b.size
  replace be0 := (b.cell (p := ⟨w10.heap.size, 0, none⟩) bel).trans be0
  replace be1 := (b.cell (p := ⟨w10.heap.size, 1, none⟩) bel).trans be1
  replace be2 := (b.cell (p := ⟨w10.heap.size, 2, none⟩) bel).trans be2
  replace bel := Nat.lt_of_lt_of_le bel b.size
  replace bf0 := (b.cell (p := ⟨w12.heap.size, 0, none⟩) bfl).trans bf0
  replace bf1 := (b.cell (p := ⟨w12.heap.size, 1, none⟩) bfl).trans bf1
  replace bf2 := (b.cell (p := ⟨w12.heap.size, 2, none⟩) bfl).trans bf2
  replace bfl := Nat.lt_of_lt_of_le bfl b.size
  replace cc := cc.trans (b.mono cc.size)
  clear b
  go_wp2_with fail
  refine (rodd_N true zl HO.out).mono ?_
  rintro e w15 ⟨rfl, b⟩
  replace f0 := (b.frozen (p := ⟨w.heap.size + 1, 0, none⟩) gl).trans f0
  replace f1 := (b.frozen (p := ⟨w.heap.size + 1, 1, none⟩) gl).trans f1
  replace hx := hx.on b
  replace zl := zl.on b
  replace zh := zh.on b
  replace rx := rx.on b
  replace ry := ry.on b
  replace ru := ru.on b
  replace rv := rv.on b
  replace k0 := (b.cell (p := ⟨w.heap.size, 0, none⟩) kl).trans k0
  replace k1 := (b.cell (p := ⟨w.heap.size, 1, none⟩) kl).trans k1
  replace k2 := (b.cell (p := ⟨w.heap.size, 2, none⟩) kl).trans k2
  replace kl := Nat.lt_of_lt_of_le kl b.size
  replace g0 := (b.cell (p := ⟨w.heap.size + 1, 0, none⟩) gl).trans g0
  replace g1 := (b.cell (p := ⟨w.heap.size + 1, 1, none⟩) gl).trans g1
  replace gl := Nat.lt_of_lt_of_le gl b.size
  replace ba0 := (b.cell (p := ⟨w2.heap.size, 0, none⟩) bal).trans ba0
  replace ba1 := (b.cell (p := ⟨w2.heap.size, 1, none⟩) bal).trans ba1
  replace bal := Nat.lt_of_lt_of_le bal b.size
  replace bb0 := (b.cell (p := ⟨w4.heap.size, 0, none⟩) bbl).trans bb0
  replace bb1 := (b.cell (p := ⟨w4.heap.size, 1, none⟩) bbl).trans bb1
  replace bbl := Nat.lt_of_lt_of_le bbl b.size
  replace bc0 := (b.cell (p := ⟨w6.heap.size, 0, none⟩) bcl).trans bc0
  replace bc1 := (b.cell (p := ⟨w6.heap.size, 1, none⟩) bcl).trans bc1
  replace bc2 := (b.cell (p := ⟨w6.heap.size, 2, none⟩) bcl).trans bc2
  replace bcl := Nat.lt_of_lt_of_le bcl b.size
  replace bd0 := (b.cell (p := ⟨w8.heap.size, 0, none⟩) bdl).trans bd0
  replace bd1 := (b.cell (p := ⟨w8.heap.size, 1, none⟩) bdl).trans bd1
  replace bd2 := (b.cell (p := ⟨w8.heap.size, 2, none⟩) bdl).trans bd2
  replace bdl := Nat.lt_of_lt_of_le bdl b.size
  replace be0 := (b.cell (p := ⟨w10.heap.size, 0, none⟩) bel).trans be0
  replace be1 := (b.cell (p := ⟨w10.heap.size, 1, none⟩) bel).trans be1
  replace be2 := (b.cell (p := ⟨w10.heap.size, 2, none⟩) bel).trans be2
  replace bel := Nat.lt_of_lt_of_le bel b.size
  replace bf0 := (b.cell (p := ⟨w12.heap.size, 0, none⟩) bfl).trans bf0
  replace bf1 := (b.cell (p := ⟨w12.heap.size, 1, none⟩) bfl).trans bf1
  replace bf2 := (b.cell (p := ⟨w12.heap.size, 2, none⟩) bfl).trans bf2
  replace bfl := Nat.lt_of_lt_of_le bfl b.size
  replace cc := cc.trans (b.mono cc.size)
  clear b
  have hn : Zn w15 bh Ah nh ch (nea x0 j.toNat) := by rw [HN.out]; exact zh
  have eb : Box w15 (w.heap.size + 1) false none 0 0 := ⟨g0, g1⟩
  have HZ : Hid (Zn ((w15.setCell ⟨w.heap.size + 1, 0, none⟩ (.bool bh)).setCell ⟨w.heap.size + 1, 1, none⟩ (.slice Ah nh ch)) bh Ah nh ch (nea x0 j.toNat)) := Lib.hid (hn.put eb _ _)
  clear hn
  go_wp2_with fail
  refine bodyPost_ret (v := .tuple #[.agg #[.bool bh, .slice Ah nh ch], .int .i64 0]) (by simp [results, Tryz.results44, go_sem, g0, g1]) rfl ⟨_, _, _, _, rfl, HZ.out, below_put cc (by omega) _ _⟩

set_option maxRecDepth 100000 in
set_option maxHeartbeats 8000000 in
theorem rnear_gt {w : World} {b0 : Bool} {A0 B0 : Option Addr} {n0 c0 m0 d0 : Nat} {x0 : Rat} (hx : Rt w b0 A0 n0 c0 B0 m0 d0 x0) (s0 : Sz x0 15) {j : Int} (h0 : 0 ≤ j) (h1 : j ≤ 500) (hc : ¬ cmpQ (x0 - bak (flo x0 j.toNat) j.toNat) (bak (cei x0 j.toNat) j.toNat - x0) < 0) (he : ¬ cmpQ (x0 - bak (flo x0 j.toNat) j.toNat) (bak (cei x0 j.toNat) j.toNat - x0) = 0) :
    Calls Tryz.prog 44 #[.agg #[.bool b0, .slice A0 n0 c0, .slice B0 m0 d0], .int .i64 j] w (GotZp w (nea x0 j.toNat) 0) := by
  have jl : j.toNat ≤ 500 := by omega
  have ll := flo_len s0 jl
  have lh := cei_len s0 jl
  have hn : nea x0 j.toNat = cei x0 j.toNat := by rw [nea_by]; rw [if_neg (fun h => h.elim (fun a => hc a) (fun a => he a.1))]
  have CF : ∀ {W : World} {b : Bool} {A B : Option Addr} {n c m d : Nat}, Rt W b A n c B m d x0 → Calls Tryz.prog 55 #[.agg #[.bool b, .slice A n c, .slice B m d], .int .i64 j] W (GotZp W (flo x0 j.toNat) 0) := fun hh => rfloor_N hh (s0.le (by omega)) h0 h1
  have CC : ∀ {W : World} {b : Bool} {A B : Option Addr} {n c m d : Nat}, Rt W b A n c B m d x0 → Calls Tryz.prog 56 #[.agg #[.bool b, .slice A n c, .slice B m d], .int .i64 j] W (GotZp W (cei x0 j.toNat) 0) := fun hh => rceil_N hh (s0.le (by omega)) h0 h1
  obtain ⟨lo, hlo⟩ : ∃ lo, flo x0 j.toNat = lo := ⟨_, rfl⟩
  obtain ⟨hi, hhi⟩ : ∃ hi, cei x0 j.toNat = hi := ⟨_, rfl⟩
  rw [hlo] at CF ll
  rw [hhi] at CC lh
  rw [hlo, hhi] at hc
  rw [hlo, hhi] at he
  rw [hhi] at hn
  have CB : ∀ {W : World} {z : Int} {b : Bool} {A : Option Addr} {n c : Nat}, Zn W b A n c z → (limbs z.natAbs).length ≤ 24 → Calls Tryz.prog 57 #[.agg #[.bool b, .slice A n c], .int .i64 j] W (GotRp W (bak z j.toNat) 0) := fun hh hl => rback_N hh (by omega) h0 h1
  have sl : Sz (bak lo j.toNat) 24 := bak_sz ll (by omega) jl
  have sh : Sz (bak hi j.toNat) 24 := bak_sz lh (by omega) jl
  obtain ⟨x, hxx⟩ : ∃ x, bak lo j.toNat = x := ⟨_, rfl⟩
  obtain ⟨y, hyy⟩ : ∃ y, bak hi j.toNat = y := ⟨_, rfl⟩
  have CX : ∀ {W : World} {b : Bool} {A : Option Addr} {n c : Nat}, Zn W b A n c lo → Calls Tryz.prog 57 #[.agg #[.bool b, .slice A n c], .int .i64 j] W (GotRp W x 0) := fun hh => by rw [← hxx]; exact CB hh ll
  have CY : ∀ {W : World} {b : Bool} {A : Option Addr} {n c : Nat}, Zn W b A n c hi → Calls Tryz.prog 57 #[.agg #[.bool b, .slice A n c], .int .i64 j] W (GotRp W y 0) := fun hh => by rw [← hyy]; exact CB hh lh
  rw [hxx] at sl
  rw [hyy] at sh
  rw [hxx, hyy] at hc
  rw [hxx, hyy] at he
  obtain ⟨cn, hcn⟩ : ∃ cn, cmpQ (x0 - x) (y - x0) = cn := ⟨_, rfl⟩
  have HC := Lib.hid hcn
  rw [hcn] at hc
  rw [hcn] at he
  have su := s0.sub sl
  have sv := sh.sub s0
  have HN := Lib.hid hn
  have t1 : decide (cn < 0) = false := decide_eq_false (by omega)
  have t2 : (cn == 0) = false := beq_eq_false_iff_ne.2 he
  clear CB hxx hyy hcn hlo hhi hn hc h0 h1 he
  have cc := Below.refl w.heap.size w
  go_enter Tryz.func44, Tryz.ntmps44
  go_wp2_with fail
  have f0 : ((w.alloc (.cells #[.bool b0, .slice A0 n0 c0, .slice B0 m0 d0] 62)).alloc (.cells #[.bool false, .slice none 0 0] 60)).frozen? ⟨w.heap.size + 1, 0, none⟩ = false := by simp [go_sem]
  have f1 : ((w.alloc (.cells #[.bool b0, .slice A0 n0 c0, .slice B0 m0 d0] 62)).alloc (.cells #[.bool false, .slice none 0 0] 60)).frozen? ⟨w.heap.size + 1, 1, none⟩ = false := by simp [go_sem]
  have bA : Below w.heap.size w ((w.alloc (.cells #[.bool b0, .slice A0 n0 c0, .slice B0 m0 d0] 62)).alloc (.cells #[.bool false, .slice none 0 0] 60)) := (((Below.refl _ w).alloc (by simp) _).alloc (by simp) _)
  replace hx := hx.on bA
  replace cc := cc.trans (bA.mono cc.size)
  clear bA
  have k0 : ((w.alloc (.cells #[.bool b0, .slice A0 n0 c0, .slice B0 m0 d0] 62)).alloc (.cells #[.bool false, .slice none 0 0] 60)).cell? ⟨w.heap.size, 0, none⟩ = some (.bool b0) := by simp [go_sem]
  have k1 : ((w.alloc (.cells #[.bool b0, .slice A0 n0 c0, .slice B0 m0 d0] 62)).alloc (.cells #[.bool false, .slice none 0 0] 60)).cell? ⟨w.heap.size, 1, none⟩ = some (.slice A0 n0 c0) := by simp [go_sem]
  have k2 : ((w.alloc (.cells #[.bool b0, .slice A0 n0 c0, .slice B0 m0 d0] 62)).alloc (.cells #[.bool false, .slice none 0 0] 60)).cell? ⟨w.heap.size, 2, none⟩ = some (.slice B0 m0 d0) := by simp [go_sem]
  have kl : w.heap.size < ((w.alloc (.cells #[.bool b0, .slice A0 n0 c0, .slice B0 m0 d0] 62)).alloc (.cells #[.bool false, .slice none 0 0] 60)).heap.size := by simp <;> omega
  have g0 : ((w.alloc (.cells #[.bool b0, .slice A0 n0 c0, .slice B0 m0 d0] 62)).alloc (.cells #[.bool false, .slice none 0 0] 60)).cell? ⟨w.heap.size + 1, 0, none⟩ = some (.bool false) := by simp [go_sem]
  have g1 : ((w.alloc (.cells #[.bool b0, .slice A0 n0 c0, .slice B0 m0 d0] 62)).alloc (.cells #[.bool false, .slice none 0 0] 60)).cell? ⟨w.heap.size + 1, 1, none⟩ = some (.slice none 0 0) := by simp [go_sem]
  have gl : w.heap.size + 1 < ((w.alloc (.cells #[.bool b0, .slice A0 n0 c0, .slice B0 m0 d0] 62)).alloc (.cells #[.bool false, .slice none 0 0] 60)).heap.size := by simp <;> omega
  generalize (w.alloc (.cells #[.bool b0, .slice A0 n0 c0, .slice B0 m0 d0] 62)).alloc (.cells #[.bool false, .slice none 0 0] 60) = v1 at *
  refine (CF hx).mono ?_
  rintro e w2 ⟨bl, Al, nl, cl, rfl, zl, b⟩
  replace f0 := (b.frozen (p := ⟨w.heap.size + 1, 0, none⟩) gl).trans f0
  replace f1 := (b.frozen (p := ⟨w.heap.size + 1, 1, none⟩) gl).trans f1
  replace hx := hx.on b
  replace k0 := (b.cell (p := ⟨w.heap.size, 0, none⟩) kl).trans k0
  replace k1 := (b.cell (p := ⟨w.heap.size, 1, none⟩) kl).trans k1
  replace k2 := (b.cell (p := ⟨w.heap.size, 2, none⟩) kl).trans k2
  replace kl := Nat.lt_of_lt_of_le kl b.size
  replace g0 := (b.cell (p := ⟨w.heap.size + 1, 0, none⟩) gl).trans g0
  replace g1 := (b.cell (p := ⟨w.heap.size + 1, 1, none⟩) gl).trans g1
  replace gl := Nat.lt_of_lt_of_le gl b.size
  replace cc := cc.trans (b.mono cc.size)
  clear b
  go_wp2_with fail
  have bA := below_one w2 (.cells #[.bool bl, .slice Al nl cl] 60)
  replace f0 := (bA.frozen (p := ⟨w.heap.size + 1, 0, none⟩) gl).trans f0
  replace f1 := (bA.frozen (p := ⟨w.heap.size + 1, 1, none⟩) gl).trans f1
  replace hx := hx.on bA
  replace zl := zl.on bA
  replace k0 := (bA.cell (p := ⟨w.heap.size, 0, none⟩) kl).trans k0
  replace k1 := (bA.cell (p := ⟨w.heap.size, 1, none⟩) kl).trans k1
  replace k2 := (bA.cell (p := ⟨w.heap.size, 2, none⟩) kl).trans k2
  replace kl := Nat.lt_of_lt_of_le kl bA.size
  replace g0 := (bA.cell (p := ⟨w.heap.size + 1, 0, none⟩) gl).trans g0
  replace g1 := (bA.cell (p := ⟨w.heap.size + 1, 1, none⟩) gl).trans g1
  replace gl := Nat.lt_of_lt_of_le gl bA.size
  replace cc := cc.trans (bA.mono cc.size)
  clear bA
  have ba0 : (w2.alloc (.cells #[.bool bl, .slice Al nl cl] 60)).cell? ⟨w2.heap.size, 0, none⟩ = some (.bool bl) := by simp [go_sem]
  have ba1 : (w2.alloc (.cells #[.bool bl, .slice Al nl cl] 60)).cell? ⟨w2.heap.size, 1, none⟩ = some (.slice Al nl cl) := by simp [go_sem]
  have bal : w2.heap.size < (w2.alloc (.cells #[.bool bl, .slice Al nl cl] 60)).heap.size := by simp
  generalize w2.alloc (.cells #[.bool bl, .slice Al nl cl] 60) = v3 at *
  refine (CC hx).mono ?_
  rintro e w4 ⟨bh, Ah, nh, ch, rfl, zh, b⟩
  replace f0 := (b.frozen (p := ⟨w.heap.size + 1, 0, none⟩) gl).trans f0
  replace f1 := (b.frozen (p := ⟨w.heap.size + 1, 1, none⟩) gl).trans f1
  replace hx := hx.on b
  replace zl := zl.on b
  replace k0 := (b.cell (p := ⟨w.heap.size, 0, none⟩) kl).trans k0
  replace k1 := (b.cell (p := ⟨w.heap.size, 1, none⟩) kl).trans k1
  replace k2 := (b.cell (p := ⟨w.heap.size, 2, none⟩) kl).trans k2
  replace kl := Nat.lt_of_lt_of_le kl b.size
  replace g0 := (b.cell (p := ⟨w.heap.size + 1, 0, none⟩) gl).trans g0
  replace g1 := (b.cell (p := ⟨w.heap.size + 1, 1, none⟩) gl).trans g1
  replace gl := Nat.lt_of_lt_of_le gl b.size
  replace ba0 := (b.cell (p := ⟨w2.heap.size, 0, none⟩) bal).trans ba0
  replace ba1 := (b.cell (p := ⟨w2.heap.size, 1, none⟩) bal).trans ba1
  replace bal := Nat.lt_of_lt_of_le bal b.size
  replace cc := cc.trans (b.mono cc.size)
  clear b
  go_wp2_with fail
  have bA := below_one w4 (.cells #[.bool bh, .slice Ah nh ch] 60)
  replace f0 := (bA.frozen (p := ⟨w.heap.size + 1, 0, none⟩) gl).trans f0
  replace f1 := (bA.frozen (p := ⟨w.heap.size + 1, 1, none⟩) gl).trans f1
  replace hx := hx.on bA
  replace zl := zl.on bA
  replace zh := zh.on bA
  replace k0 := (bA.cell (p := ⟨w.heap.size, 0, none⟩) kl).trans k0
  replace k1 := (bA.cell (p := ⟨w.heap.size, 1, none⟩) kl).trans k1
  replace k2 := (bA.cell (p := ⟨w.heap.size, 2, none⟩) kl).trans k2
  replace kl := Nat.lt_of_lt_of_le kl bA.size
  replace g0 := (bA.cell (p := ⟨w.heap.size + 1, 0, none⟩) gl).trans g0
  replace g1 := (bA.cell (p := ⟨w.heap.size + 1, 1, none⟩) gl).trans g1
  replace gl := Nat.lt_of_lt_of_le gl bA.size
  replace ba0 := (bA.cell (p := ⟨w2.heap.size, 0, none⟩) bal).trans ba0
  replace ba1 := (bA.cell (p := ⟨w2.heap.size, 1, none⟩) bal).trans ba1
  replace bal := Nat.lt_of_lt_of_le bal bA.size
  replace cc := cc.trans (bA.mono cc.size)
  clear bA
  have bb0 : (w4.alloc (.cells #[.bool bh, .slice Ah nh ch] 60)).cell? ⟨w4.heap.size, 0, none⟩ = some (.bool bh) := by simp [go_sem]
  have bb1 : (w4.alloc (.cells #[.bool bh, .slice Ah nh ch] 60)).cell? ⟨w4.heap.size, 1, none⟩ = some (.slice Ah nh ch) := by simp [go_sem]
  have bbl : w4.heap.size < (w4.alloc (.cells #[.bool bh, .slice Ah nh ch] 60)).heap.size := by simp
  generalize w4.alloc (.cells #[.bool bh, .slice Ah nh ch] 60) = v5 at *
  refine (CX zl).mono ?_
  rintro e w6 ⟨bx, Ax, nx, cx, Bx, mx, dx, rfl, rx, b⟩
  replace f0 := (b.frozen (p := ⟨w.heap.size + 1, 0, none⟩) gl).trans f0
  replace f1 := (b.frozen (p := ⟨w.heap.size + 1, 1, none⟩) gl).trans f1
  replace hx := hx.on b
  replace zl := zl.on b
  replace zh := zh.on b
  replace k0 := (b.cell (p := ⟨w.heap.size, 0, none⟩) kl).trans k0
  replace k1 := (b.cell (p := ⟨w.heap.size, 1, none⟩) kl).trans k1
  replace k2 := (b.cell (p := ⟨w.heap.size, 2, none⟩) kl).trans k2
  replace kl := Nat.lt_of_lt_of_le kl b.size
  replace g0 := (b.cell (p := ⟨w.heap.size + 1, 0, none⟩) gl).trans g0
  replace g1 := (b.cell (p := ⟨w.heap.size + 1, 1, none⟩) gl).trans g1
  replace gl := Nat.lt_of_lt_of_le gl b.size
  replace ba0 := (b.cell (p := ⟨w2.heap.size, 0, none⟩) bal).trans ba0
  replace ba1 := (b.cell (p := ⟨w2.heap.size, 1, none⟩) bal).trans ba1
  replace bal := Nat.lt_of_lt_of_le bal b.size
  replace bb0 := (b.cell (p := ⟨w4.heap.size, 0, none⟩) bbl).trans bb0
  replace bb1 := (b.cell (p := ⟨w4.heap.size, 1, none⟩) bbl).trans bb1
  replace bbl := Nat.lt_of_lt_of_le bbl b.size
  replace cc := cc.trans (b.mono cc.size)
  clear b
  go_wp2_with fail
  have bA := below_one w6 (.cells #[.bool bx, .slice Ax nx cx, .slice Bx mx dx] 62)
  replace f0 := (bA.frozen (p := ⟨w.heap.size + 1, 0, none⟩) gl).trans f0
  replace f1 := (bA.frozen (p := ⟨w.heap.size + 1, 1, none⟩) gl).trans f1
  replace hx := hx.on bA
  replace zl := zl.on bA
  replace zh := zh.on bA
  replace rx := rx.on bA
  replace k0 := (bA.cell (p := ⟨w.heap.size, 0, none⟩) kl).trans k0
  replace k1 := (bA.cell (p := ⟨w.heap.size, 1, none⟩) kl).trans k1
  replace k2 := (bA.cell (p := ⟨w.heap.size, 2, none⟩) kl).trans k2
  replace kl := Nat.lt_of_lt_of_le kl bA.size
  replace g0 := (bA.cell (p := ⟨w.heap.size + 1, 0, none⟩) gl).trans g0
  replace g1 := (bA.cell (p := ⟨w.heap.size + 1, 1, none⟩) gl).trans g1
  replace gl := Nat.lt_of_lt_of_le gl bA.size
  replace ba0 := (bA.cell (p := ⟨w2.heap.size, 0, none⟩) bal).trans ba0
  replace ba1 := (bA.cell (p := ⟨w2.heap.size, 1, none⟩) bal).trans ba1
  replace bal := Nat.lt_of_lt_of_le bal bA.size
  replace bb0 := (bA.cell (p := ⟨w4.heap.size, 0, none⟩) bbl).trans bb0
  replace bb1 := (bA.cell (p := ⟨w4.heap.size, 1, none⟩) bbl).trans bb1
  replace bbl := Nat.lt_of_lt_of_le bbl bA.size
  replace cc := cc.trans (bA.mono cc.size)
  clear bA
  have bc0 : (w6.alloc (.cells #[.bool bx, .slice Ax nx cx, .slice Bx mx dx] 62)).cell? ⟨w6.heap.size, 0, none⟩ = some (.bool bx) := by simp [go_sem]
  have bc1 : (w6.alloc (.cells #[.bool bx, .slice Ax nx cx, .slice Bx mx dx] 62)).cell? ⟨w6.heap.size, 1, none⟩ = some (.slice Ax nx cx) := by simp [go_sem]
  have bc2 : (w6.alloc (.cells #[.bool bx, .slice Ax nx cx, .slice Bx mx dx] 62)).cell? ⟨w6.heap.size, 2, none⟩ = some (.slice Bx mx dx) := by simp [go_sem]
  have bcl : w6.heap.size < (w6.alloc (.cells #[.bool bx, .slice Ax nx cx, .slice Bx mx dx] 62)).heap.size := by simp
  generalize w6.alloc (.cells #[.bool bx, .slice Ax nx cx, .slice Bx mx dx] 62) = v7 at *
  refine (CY zh).mono ?_
  rintro e w8 ⟨bY, Ay, ny, cy, By, my, dy, rfl, ry, b⟩
  replace f0 := (b.frozen (p := ⟨w.heap.size + 1, 0, none⟩) gl).trans f0
  replace f1 := (b.frozen (p := ⟨w.heap.size + 1, 1, none⟩) gl).trans f1
  replace hx := hx.on b
  replace zl := zl.on b
  replace zh := zh.on b
  replace rx := rx.on b
  replace k0 := (b.cell (p := ⟨w.heap.size, 0, none⟩) kl).trans k0
  replace k1 := (b.cell (p := ⟨w.heap.size, 1, none⟩) kl).trans k1
  replace k2 := (b.cell (p := ⟨w.heap.size, 2, none⟩) kl).trans k2
  replace kl := Nat.lt_of_lt_of_le kl b.size
  replace g0 := (b.cell (p := ⟨w.heap.size + 1, 0, none⟩) gl).trans g0
  replace g1 := (b.cell (p := ⟨w.heap.size + 1, 1, none⟩) gl).trans g1
  replace gl := Nat.lt_of_lt_of_le gl b.size
  replace ba0 := (b.cell (p := ⟨w2.heap.size, 0, none⟩) bal).trans ba0
  replace ba1 := (b.cell (p := ⟨w2.heap.size, 1, none⟩) bal).trans ba1
  replace bal := Nat.lt_of_lt_of_le bal b.size
  replace bb0 := (b.cell (p := ⟨w4.heap.size, 0, none⟩) bbl).trans bb0
  replace bb1 := (b.cell (p := ⟨w4.heap.size, 1, none⟩) bbl).trans bb1
  replace bbl := Nat.lt_of_lt_of_le bbl b.size
  replace bc0 := (b.cell (p := ⟨w6.heap.size, 0, none⟩) bcl).trans bc0
  replace bc1 := (b.cell (p := ⟨w6.heap.size, 1, none⟩) bcl).trans bc1
  replace bc2 := (b.cell (p := ⟨w6.heap.size, 2, none⟩) bcl).trans bc2
  replace bcl := Nat.lt_of_lt_of_le bcl b.size
  replace cc := cc.trans (b.mono cc.size)
  clear b
  go_wp2_with fail
  have bA := below_one w8 (.cells #[.bool bY, .slice Ay ny cy, .slice By my dy] 62)
  replace f0 := (bA.frozen (p := ⟨w.heap.size + 1, 0, none⟩) gl).trans f0
  replace f1 := (bA.frozen (p := ⟨w.heap.size + 1, 1, none⟩) gl).trans f1
  replace hx := hx.on bA
  replace zl := zl.on bA
  replace zh := zh.on bA
  replace rx := rx.on bA
  replace ry := ry.on bA
  replace k0 := (bA.cell (p := ⟨w.heap.size, 0, none⟩) kl).trans k0
  replace k1 := (bA.cell (p := ⟨w.heap.size, 1, none⟩) kl).trans k1
  replace k2 := (bA.cell (p := ⟨w.heap.size, 2, none⟩) kl).trans k2
  replace kl := Nat.lt_of_lt_of_le kl bA.size
  replace g0 := (bA.cell (p := ⟨w.heap.size + 1, 0, none⟩) gl).trans g0
  replace g1 := (bA.cell (p := ⟨w.heap.size + 1, 1, none⟩) gl).trans g1
  replace gl := Nat.lt_of_lt_of_le gl bA.size
  replace ba0 := (bA.cell (p := ⟨w2.heap.size, 0, none⟩) bal).trans ba0
  replace ba1 := (bA.cell (p := ⟨w2.heap.size, 1, none⟩) bal).trans ba1
  replace bal := Nat.lt_of_lt_of_le bal bA.size
  replace bb0 := (bA.cell (p := ⟨w4.heap.size, 0, none⟩) bbl).trans bb0
  replace bb1 := (bA.cell (p := ⟨w4.heap.size, 1, none⟩) bbl).trans bb1
  replace bbl := Nat.lt_of_lt_of_le bbl bA.size
  replace bc0 := (bA.cell (p := ⟨w6.heap.size, 0, none⟩) bcl).trans bc0
  replace bc1 := (bA.cell (p := ⟨w6.heap.size, 1, none⟩) bcl).trans bc1
  replace bc2 := (bA.cell (p := ⟨w6.heap.size, 2, none⟩) bcl).trans bc2
  replace bcl := Nat.lt_of_lt_of_le bcl bA.size
  replace cc := cc.trans (bA.mono cc.size)
  clear bA
  have bd0 : (w8.alloc (.cells #[.bool bY, .slice Ay ny cy, .slice By my dy] 62)).cell? ⟨w8.heap.size, 0, none⟩ = some (.bool bY) := by simp [go_sem]
  have bd1 : (w8.alloc (.cells #[.bool bY, .slice Ay ny cy, .slice By my dy] 62)).cell? ⟨w8.heap.size, 1, none⟩ = some (.slice Ay ny cy) := by simp [go_sem]
  have bd2 : (w8.alloc (.cells #[.bool bY, .slice Ay ny cy, .slice By my dy] 62)).cell? ⟨w8.heap.size, 2, none⟩ = some (.slice By my dy) := by simp [go_sem]
  have bdl : w8.heap.size < (w8.alloc (.cells #[.bool bY, .slice Ay ny cy, .slice By my dy] 62)).heap.size := by simp
  generalize w8.alloc (.cells #[.bool bY, .slice Ay ny cy, .slice By my dy] 62) = v9 at *
  refine (rtsub_N hx (s0.le (by omega)) rx (sl.le (by omega))).mono ?_
  rintro e w10 ⟨bu, Au, nu, cu, Bu, mu, du, rfl, ru, b⟩
  replace f0 := (b.frozen (p := ⟨w.heap.size + 1, 0, none⟩) gl).trans f0
  replace f1 := (b.frozen (p := ⟨w.heap.size + 1, 1, none⟩) gl).trans f1
  replace hx := hx.on b
  replace zl := zl.on b
  replace zh := zh.on b
  replace rx := rx.on b
  replace ry := ry.on b
  replace k0 := (b.cell (p := ⟨w.heap.size, 0, none⟩) kl).trans k0
  replace k1 := (b.cell (p := ⟨w.heap.size, 1, none⟩) kl).trans k1
  replace k2 := (b.cell (p := ⟨w.heap.size, 2, none⟩) kl).trans k2
  replace kl := Nat.lt_of_lt_of_le kl b.size
  replace g0 := (b.cell (p := ⟨w.heap.size + 1, 0, none⟩) gl).trans g0
  replace g1 := (b.cell (p := ⟨w.heap.size + 1, 1, none⟩) gl).trans g1
  replace gl := Nat.lt_of_lt_of_le gl b.size
  replace ba0 := (b.cell (p := ⟨w2.heap.size, 0, none⟩) bal).trans ba0
  replace ba1 := (b.cell (p := ⟨w2.heap.size, 1, none⟩) bal).trans ba1
  replace bal := Nat.lt_of_lt_of_le bal b.size
  replace bb0 := (b.cell (p := ⟨w4.heap.size, 0, none⟩) bbl).trans bb0
  replace bb1 := (b.cell (p := ⟨w4.heap.size, 1, none⟩) bbl).trans bb1
  replace bbl := Nat.lt_of_lt_of_le bbl b.size
  replace bc0 := (b.cell (p := ⟨w6.heap.size, 0, none⟩) bcl).trans bc0
  replace bc1 := (b.cell (p := ⟨w6.heap.size, 1, none⟩) bcl).trans bc1
  replace bc2 := (b.cell (p := ⟨w6.heap.size, 2, none⟩) bcl).trans bc2
  replace bcl := Nat.lt_of_lt_of_le bcl b.size
  replace bd0 := (b.cell (p := ⟨w8.heap.size, 0, none⟩) bdl).trans bd0
  replace bd1 := (b.cell (p := ⟨w8.heap.size, 1, none⟩) bdl).trans bd1
  replace bd2 := (b.cell (p := ⟨w8.heap.size, 2, none⟩) bdl).trans bd2
  replace bdl := Nat.lt_of_lt_of_le bdl b.size
  replace cc := cc.trans (b.mono cc.size)
  clear b
  go_wp2_with fail
  have bA := below_one w10 (.cells #[.bool bu, .slice Au nu cu, .slice Bu mu du] 62)
  replace f0 := (bA.frozen (p := ⟨w.heap.size + 1, 0, none⟩) gl).trans f0
  replace f1 := (bA.frozen (p := ⟨w.heap.size + 1, 1, none⟩) gl).trans f1
  replace hx := hx.on bA
  replace zl := zl.on bA
  replace zh := zh.on bA
  replace rx := rx.on bA
  replace ry := ry.on bA
  replace ru := ru.on bA
  replace k0 := (bA.cell (p := ⟨w.heap.size, 0, none⟩) kl).trans k0
  replace k1 := (bA.cell (p := ⟨w.heap.size, 1, none⟩) kl).trans k1
  replace k2 := (bA.cell (p := ⟨w.heap.size, 2, none⟩) kl).trans k2
  replace kl := Nat.lt_of_lt_of_le kl bA.size
  replace g0 := (bA.cell (p := ⟨w.heap.size + 1, 0, none⟩) gl).trans g0
  replace g1 := (bA.cell (p := ⟨w.heap.size + 1, 1, none⟩) gl).trans g1
  replace gl := Nat.lt_of_lt_of_le gl bA.size
  replace ba0 := (bA.cell (p := ⟨w2.heap.size, 0, none⟩) bal).trans ba0
  replace ba1 := (bA.cell (p := ⟨w2.heap.size, 1, none⟩) bal).trans ba1
  replace bal := Nat.lt_of_lt_of_le bal bA.size
  replace bb0 := (bA.cell (p := ⟨w4.heap.size, 0, none⟩) bbl).trans bb0
  replace bb1 := (bA.cell (p := ⟨w4.heap.size, 1, none⟩) bbl).trans bb1
  replace bbl := Nat.lt_of_lt_of_le bbl bA.size
  replace bc0 := (bA.cell (p := ⟨w6.heap.size, 0, none⟩) bcl).trans bc0
  replace bc1 := (bA.cell (p := ⟨w6.heap.size, 1, none⟩) bcl).trans bc1
  replace bc2 := (bA.cell (p := ⟨w6.heap.size, 2, none⟩) bcl).trans bc2
  replace bcl := Nat.lt_of_lt_of_le bcl bA.size
  replace bd0 := (bA.cell (p := ⟨w8.heap.size, 0, none⟩) bdl).trans bd0
  replace bd1 := (bA.cell (p := ⟨w8.heap.size, 1, none⟩) bdl).trans bd1
  replace bd2 := (bA.cell (p := ⟨w8.heap.size, 2, none⟩) bdl).trans bd2
  replace bdl := Nat.lt_of_lt_of_le bdl bA.size
  replace cc := cc.trans (bA.mono cc.size)
  clear bA
  have be0 : (w10.alloc (.cells #[.bool bu, .slice Au nu cu, .slice Bu mu du] 62)).cell? ⟨w10.heap.size, 0, none⟩ = some (.bool bu) := by simp [go_sem]
  have be1 : (w10.alloc (.cells #[.bool bu, .slice Au nu cu, .slice Bu mu du] 62)).cell? ⟨w10.heap.size, 1, none⟩ = some (.slice Au nu cu) := by simp [go_sem]
  have be2 : (w10.alloc (.cells #[.bool bu, .slice Au nu cu, .slice Bu mu du] 62)).cell? ⟨w10.heap.size, 2, none⟩ = some (.slice Bu mu du) := by simp [go_sem]
  have bel : w10.heap.size < (w10.alloc (.cells #[.bool bu, .slice Au nu cu, .slice Bu mu du] 62)).heap.size := by simp
  generalize w10.alloc (.cells #[.bool bu, .slice Au nu cu, .slice Bu mu du] 62) = v11 at *
  refine (rtsub_N ry (sh.le (by omega)) hx (s0.le (by omega))).mono ?_
  rintro e w12 ⟨bv, Av, nv, cv, Bv, mv, dv, rfl, rv, b⟩
  replace f0 := (b.frozen (p := ⟨w.heap.size + 1, 0, none⟩) gl).trans f0
  replace f1 := (b.frozen (p := ⟨w.heap.size + 1, 1, none⟩) gl).trans f1
  replace hx := hx.on b
  replace zl := zl.on b
  replace zh := zh.on b
  replace rx := rx.on b
  replace ry := ry.on b
  replace ru := ru.on b
  replace k0 := (b.cell (p := ⟨w.heap.size, 0, none⟩) kl).trans k0
  replace k1 := (b.cell (p := ⟨w.heap.size, 1, none⟩) kl).trans k1
  replace k2 := (b.cell (p := ⟨w.heap.size, 2, none⟩) kl).trans k2
  replace kl := Nat.lt_of_lt_of_le kl b.size
  replace g0 := (b.cell (p := ⟨w.heap.size + 1, 0, none⟩) gl).trans g0
  replace g1 := (b.cell (p := ⟨w.heap.size + 1, 1, none⟩) gl).trans g1
  replace gl := Nat.lt_of_lt_of_le gl b.size
  replace ba0 := (b.cell (p := ⟨w2.heap.size, 0, none⟩) bal).trans ba0
  replace ba1 := (b.cell (p := ⟨w2.heap.size, 1, none⟩) bal).trans ba1
  replace bal := Nat.lt_of_lt_of_le bal b.size
  replace bb0 := (b.cell (p := ⟨w4.heap.size, 0, none⟩) bbl).trans bb0
  replace bb1 := (b.cell (p := ⟨w4.heap.size, 1, none⟩) bbl).trans bb1
  replace bbl := Nat.lt_of_lt_of_le bbl b.size
  replace bc0 := (b.cell (p := ⟨w6.heap.size, 0, none⟩) bcl).trans bc0
  replace bc1 := (b.cell (p := ⟨w6.heap.size, 1, none⟩) bcl).trans bc1
  replace bc2 := (b.cell (p := ⟨w6.heap.size, 2, none⟩) bcl).trans bc2
  replace bcl := Nat.lt_of_lt_of_le bcl b.size
  replace bd0 := (b.cell (p := ⟨w8.heap.size, 0, none⟩) bdl).trans bd0
  replace bd1 := (b.cell (p := ⟨w8.heap.size, 1, none⟩) bdl).trans bd1
  replace bd2 := (b.cell (p := ⟨w8.heap.size, 2, none⟩) bdl).trans bd2
  replace bdl := Nat.lt_of_lt_of_le bdl b.size
  replace be0 := (b.cell (p := ⟨w10.heap.size, 0, none⟩) bel).trans be0
  replace be1 := (b.cell (p := ⟨w10.heap.size, 1, none⟩) bel).trans be1
  replace be2 := (b.cell (p := ⟨w10.heap.size, 2, none⟩) bel).trans be2
  replace bel := Nat.lt_of_lt_of_le bel b.size
  replace cc := cc.trans (b.mono cc.size)
  clear b
  go_wp2_with fail
  have bA := below_one w12 (.cells #[.bool bv, .slice Av nv cv, .slice Bv mv dv] 62)
  replace f0 := (bA.frozen (p := ⟨w.heap.size + 1, 0, none⟩) gl).trans f0
  replace f1 := (bA.frozen (p := ⟨w.heap.size + 1, 1, none⟩) gl).trans f1
  replace hx := hx.on bA
  replace zl := zl.on bA
  replace zh := zh.on bA
  replace rx := rx.on bA
  replace ry := ry.on bA
  replace ru := ru.on bA
  replace rv := rv.on bA
  replace k0 := (bA.cell (p := ⟨w.heap.size, 0, none⟩) kl).trans k0
  replace k1 := (bA.cell (p := ⟨w.heap.size, 1, none⟩) kl).trans k1
  replace k2 := (bA.cell (p := ⟨w.heap.size, 2, none⟩) kl).trans k2
  replace kl := Nat.lt_of_lt_of_le kl bA.size
  replace g0 := (bA.cell (p := ⟨w.heap.size + 1, 0, none⟩) gl).trans g0
  replace g1 := (bA.cell (p := ⟨w.heap.size + 1, 1, none⟩) gl).trans g1
  replace gl := Nat.lt_of_lt_of_le gl bA.size
  replace ba0 := (bA.cell (p := ⟨w2.heap.size, 0, none⟩) bal).trans ba0
  replace ba1 := (bA.cell (p := ⟨w2.heap.size, 1, none⟩) bal).trans ba1
  replace bal := Nat.lt_of_lt_of_le bal bA.size
  replace bb0 := (bA.cell (p := ⟨w4.heap.size, 0, none⟩) bbl).trans bb0
  replace bb1 := (bA.cell (p := ⟨w4.heap.size, 1, none⟩) bbl).trans bb1
  replace bbl := Nat.lt_of_lt_of_le bbl bA.size
  replace bc0 := (bA.cell (p := ⟨w6.heap.size, 0, none⟩) bcl).trans bc0
  replace bc1 := (bA.cell (p := ⟨w6.heap.size, 1, none⟩) bcl).trans bc1
  replace bc2 := (bA.cell (p := ⟨w6.heap.size, 2, none⟩) bcl).trans bc2
  replace bcl := Nat.lt_of_lt_of_le bcl bA.size
  replace bd0 := (bA.cell (p := ⟨w8.heap.size, 0, none⟩) bdl).trans bd0
  replace bd1 := (bA.cell (p := ⟨w8.heap.size, 1, none⟩) bdl).trans bd1
  replace bd2 := (bA.cell (p := ⟨w8.heap.size, 2, none⟩) bdl).trans bd2
  replace bdl := Nat.lt_of_lt_of_le bdl bA.size
  replace be0 := (bA.cell (p := ⟨w10.heap.size, 0, none⟩) bel).trans be0
  replace be1 := (bA.cell (p := ⟨w10.heap.size, 1, none⟩) bel).trans be1
  replace be2 := (bA.cell (p := ⟨w10.heap.size, 2, none⟩) bel).trans be2
  replace bel := Nat.lt_of_lt_of_le bel bA.size
  replace cc := cc.trans (bA.mono cc.size)
  clear bA
  have bf0 : (w12.alloc (.cells #[.bool bv, .slice Av nv cv, .slice Bv mv dv] 62)).cell? ⟨w12.heap.size, 0, none⟩ = some (.bool bv) := by simp [go_sem]
  have bf1 : (w12.alloc (.cells #[.bool bv, .slice Av nv cv, .slice Bv mv dv] 62)).cell? ⟨w12.heap.size, 1, none⟩ = some (.slice Av nv cv) := by simp [go_sem]
  have bf2 : (w12.alloc (.cells #[.bool bv, .slice Av nv cv, .slice Bv mv dv] 62)).cell? ⟨w12.heap.size, 2, none⟩ = some (.slice Bv mv dv) := by simp [go_sem]
  have bfl : w12.heap.size < (w12.alloc (.cells #[.bool bv, .slice Av nv cv, .slice Bv mv dv] 62)).heap.size := by simp
  generalize w12.alloc (.cells #[.bool bv, .slice Av nv cv, .slice Bv mv dv] 62) = v13 at *
  refine (rtcmp_v cn ru (su.le (by omega)) rv (sv.le (by omega)) HC.out).mono ?_
  rintro e w14 ⟨rfl, b⟩
  replace f0 := (b.frozen (p := ⟨w.heap.size + 1, 0, none⟩) gl).trans f0
  replace f1 := (b.frozen (p := ⟨w.heap.size + 1, 1, none⟩) gl).trans f1
  replace hx := hx.on b
  replace zl := zl.on b
  replace zh := zh.on b
  replace rx := rx.on b
  replace ry := ry.on b
  replace ru := ru.on b
  replace rv := rv.on b
  replace k0 := (b.cell (p := ⟨w.heap.size, 0, none⟩) kl).trans k0
  replace k1 := (b.cell (p := ⟨w.heap.size, 1, none⟩) kl).trans k1
  replace k2 := (b.cell (p := ⟨w.heap.size, 2, none⟩) kl).trans k2
  replace kl := Nat.lt_of_lt_of_le kl b.size
  replace g0 := (b.cell (p := ⟨w.heap.size + 1, 0, none⟩) gl).trans g0
  replace g1 := (b.cell (p := ⟨w.heap.size + 1, 1, none⟩) gl).trans g1
  replace gl := Nat.lt_of_lt_of_le gl b.size
  replace ba0 := (b.cell (p := ⟨w2.heap.size, 0, none⟩) bal).trans ba0
  replace ba1 := (b.cell (p := ⟨w2.heap.size, 1, none⟩) bal).trans ba1
  replace bal := Nat.lt_of_lt_of_le bal b.size
  replace bb0 := (b.cell (p := ⟨w4.heap.size, 0, none⟩) bbl).trans bb0
  replace bb1 := (b.cell (p := ⟨w4.heap.size, 1, none⟩) bbl).trans bb1
  replace bbl := Nat.lt_of_lt_of_le bbl b.size
  replace bc0 := (b.cell (p := ⟨w6.heap.size, 0, none⟩) bcl).trans bc0
  replace bc1 := (b.cell (p := ⟨w6.heap.size, 1, none⟩) bcl).trans bc1
  replace bc2 := (b.cell (p := ⟨w6.heap.size, 2, none⟩) bcl).trans bc2
  replace bcl := Nat.lt_of_lt_of_le bcl b.size
  replace bd0 := (b.cell (p := ⟨w8.heap.size, 0, none⟩) bdl).trans bd0
  replace bd1 := (b.cell (p := ⟨w8.heap.size, 1, none⟩) bdl).trans bd1
  replace bd2 := (b.cell (p := ⟨w8.heap.size, 2, none⟩) bdl).trans bd2
  replace bdl := Nat.lt_of_lt_of_le bdl b.size
  replace be0 := (b.cell (p := ⟨w10.heap.size, 0, none⟩) bel).trans be0
  replace be1 := (b.cell (p := ⟨w10.heap.size, 1, none⟩) bel).trans be1
  replace be2 := (b.cell (p := ⟨w10.heap.size, 2, none⟩) bel).trans be2
  replace bel := Nat.lt_of_lt_of_le bel b.size
  replace bf0 := (b.cell (p := ⟨w12.heap.size, 0, none⟩) bfl).trans bf0
  replace bf1 := (b.cell (p := ⟨w12.heap.size, 1, none⟩) bfl).trans bf1
  replace bf2 := (b.cell (p := ⟨w12.heap.size, 2, none⟩) bfl).trans bf2
  replace bfl := Nat.lt_of_lt_of_le bfl b.size
  replace cc := cc.trans (b.mono cc.size)
  clear b
  have hn : Zn w14 bh Ah nh ch (nea x0 j.toNat) := by rw [HN.out]; exact zh
  have eb : Box w14 (w.heap.size + 1) false none 0 0 := ⟨g0, g1⟩
  have HZ : Hid (Zn ((w14.setCell ⟨w.heap.size + 1, 0, none⟩ (.bool bh)).setCell ⟨w.heap.size + 1, 1, none⟩ (.slice Ah nh ch)) bh Ah nh ch (nea x0 j.toNat)) := Lib.hid (hn.put eb _ _)
  clear hn
  go_wp2_with fail
  refine bodyPost_ret (v := .tuple #[.agg #[.bool bh, .slice Ah nh ch], .int .i64 0]) (by simp [results, Tryz.results44, go_sem, g0, g1]) rfl ⟨_, _, _, _, rfl, HZ.out, below_put cc (by omega) _ _⟩

set_option maxRecDepth 100000 in
set_option maxHeartbeats 8000000 in
theorem rnear_N {w : World} {b0 : Bool} {A0 B0 : Option Addr} {n0 c0 m0 d0 : Nat} {x0 : Rat} (hx : Rt w b0 A0 n0 c0 B0 m0 d0 x0) (s0 : Sz x0 15) {j : Int} (h0 : 0 ≤ j) (h1 : j ≤ 500) :
    Calls Tryz.prog 44 #[.agg #[.bool b0, .slice A0 n0 c0, .slice B0 m0 d0], .int .i64 j] w (GotZp w (nea x0 j.toNat) 0) := by
  by_cases hc : cmpQ (x0 - bak (flo x0 j.toNat) j.toNat) (bak (cei x0 j.toNat) j.toNat - x0) < 0
  · exact rnear_lt hx s0 h0 h1 hc
  · by_cases he : cmpQ (x0 - bak (flo x0 j.toNat) j.toNat) (bak (cei x0 j.toNat) j.toNat - x0) = 0
    · by_cases h2 : flo x0 j.toNat % 2 = 0
      · exact rnear_even hx s0 h0 h1 he h2
      · exact rnear_odd hx s0 h0 h1 he h2
    · exact rnear_gt hx s0 h0 h1 hc he

set_option maxRecDepth 100000 in
set_option maxHeartbeats 8000000 in
theorem rnear_no {w : World} {b0 : Bool} {A0 B0 : Option Addr} {n0 c0 m0 d0 : Nat} {x0 : Rat} (hx : Rt w b0 A0 n0 c0 B0 m0 d0 x0) (s0 : Sz x0 15)  {j : Int} (h : j < 0 ∨ 2000 < j) :
    Calls Tryz.prog 44 #[.agg #[.bool b0, .slice A0 n0 c0, .slice B0 m0 d0], .int .i64 j] w (GotZp w 0 1) := by
  have cc := Below.refl w.heap.size w
  go_enter Tryz.func44, Tryz.ntmps44
  go_wp2_with fail
  have f0 : ((w.alloc (.cells #[.bool b0, .slice A0 n0 c0, .slice B0 m0 d0] 62)).alloc (.cells #[.bool false, .slice none 0 0] 60)).frozen? ⟨w.heap.size + 1, 0, none⟩ = false := by simp [go_sem]
  have f1 : ((w.alloc (.cells #[.bool b0, .slice A0 n0 c0, .slice B0 m0 d0] 62)).alloc (.cells #[.bool false, .slice none 0 0] 60)).frozen? ⟨w.heap.size + 1, 1, none⟩ = false := by simp [go_sem]
  have bA : Below w.heap.size w ((w.alloc (.cells #[.bool b0, .slice A0 n0 c0, .slice B0 m0 d0] 62)).alloc (.cells #[.bool false, .slice none 0 0] 60)) := (((Below.refl _ w).alloc (by simp) _).alloc (by simp) _)
  replace hx := hx.on bA
  replace cc := cc.trans (bA.mono cc.size)
  clear bA
  have k0 : ((w.alloc (.cells #[.bool b0, .slice A0 n0 c0, .slice B0 m0 d0] 62)).alloc (.cells #[.bool false, .slice none 0 0] 60)).cell? ⟨w.heap.size, 0, none⟩ = some (.bool b0) := by simp [go_sem]
  have k1 : ((w.alloc (.cells #[.bool b0, .slice A0 n0 c0, .slice B0 m0 d0] 62)).alloc (.cells #[.bool false, .slice none 0 0] 60)).cell? ⟨w.heap.size, 1, none⟩ = some (.slice A0 n0 c0) := by simp [go_sem]
  have k2 : ((w.alloc (.cells #[.bool b0, .slice A0 n0 c0, .slice B0 m0 d0] 62)).alloc (.cells #[.bool false, .slice none 0 0] 60)).cell? ⟨w.heap.size, 2, none⟩ = some (.slice B0 m0 d0) := by simp [go_sem]
  have kl : w.heap.size < ((w.alloc (.cells #[.bool b0, .slice A0 n0 c0, .slice B0 m0 d0] 62)).alloc (.cells #[.bool false, .slice none 0 0] 60)).heap.size := by simp <;> omega
  have g0 : ((w.alloc (.cells #[.bool b0, .slice A0 n0 c0, .slice B0 m0 d0] 62)).alloc (.cells #[.bool false, .slice none 0 0] 60)).cell? ⟨w.heap.size + 1, 0, none⟩ = some (.bool false) := by simp [go_sem]
  have g1 : ((w.alloc (.cells #[.bool b0, .slice A0 n0 c0, .slice B0 m0 d0] 62)).alloc (.cells #[.bool false, .slice none 0 0] 60)).cell? ⟨w.heap.size + 1, 1, none⟩ = some (.slice none 0 0) := by simp [go_sem]
  have gl : w.heap.size + 1 < ((w.alloc (.cells #[.bool b0, .slice A0 n0 c0, .slice B0 m0 d0] 62)).alloc (.cells #[.bool false, .slice none 0 0] 60)).heap.size := by simp <;> omega
  generalize (w.alloc (.cells #[.bool b0, .slice A0 n0 c0, .slice B0 m0 d0] 62)).alloc (.cells #[.bool false, .slice none 0 0] 60) = v1 at *
  refine (rfloor_no h).mono ?_
  rintro e w2 ⟨bl, Al, nl, cl, rfl, zl, b⟩
  replace f0 := (b.frozen (p := ⟨w.heap.size + 1, 0, none⟩) gl).trans f0
  replace f1 := (b.frozen (p := ⟨w.heap.size + 1, 1, none⟩) gl).trans f1
  replace hx := hx.on b
  replace k0 := (b.cell (p := ⟨w.heap.size, 0, none⟩) kl).trans k0
  replace k1 := (b.cell (p := ⟨w.heap.size, 1, none⟩) kl).trans k1
  replace k2 := (b.cell (p := ⟨w.heap.size, 2, none⟩) kl).trans k2
  replace kl := Nat.lt_of_lt_of_le kl b.size
  replace g0 := (b.cell (p := ⟨w.heap.size + 1, 0, none⟩) gl).trans g0
  replace g1 := (b.cell (p := ⟨w.heap.size + 1, 1, none⟩) gl).trans g1
  replace gl := Nat.lt_of_lt_of_le gl b.size
  replace cc := cc.trans (b.mono cc.size)
  clear b
  have eb : Box w2 (w.heap.size + 1) false none 0 0 := ⟨g0, g1⟩
  have HC := Lib.hid ((eb.put bl Al nl cl).alloc (.cells #[.bool bl, .slice Al nl cl] 60))
  have HZ := Lib.hid ((zl.put eb (.bool bl) (.slice Al nl cl)).alloc (.cells #[.bool bl, .slice Al nl cl] 60))
  have HB := Lib.hid ((below_put cc (show w.heap.size ≤ w.heap.size + 1 by omega) (.bool bl) (.slice Al nl cl)).alloc (by simp; omega) (.cells #[.bool bl, .slice Al nl cl] 60))
  go_wp2_with fail
  obtain ⟨e0, e1⟩ := HC.out
  refine bodyPost_ret (v := .tuple #[.agg #[.bool bl, .slice Al nl cl], .int .i64 1]) (by simp only [results, Tryz.results44]; simp [go_sem, e0, e1]) rfl ⟨_, _, _, _, rfl, HZ.out, HB.out⟩

end Go.Proofs.YtlmcpgahjfepjaaGreat
