/-
  Several texts in one: F8, K8.
-/
import Derived.Test.YtccigpnebejbiaaGreatA7
import Derived.Test.YtccigpnebejbiaaGreatA3

/-
  The contracts of the sixth reference: Near.
-/
namespace Go.Proofs.YtccigpnebejbiaaGreat
set_option maxRecDepth 100000
open Go.RowKit
set_option linter.unusedVariables false
set_option linter.unusedSimpArgs false

set_option maxRecDepth 100000 in
set_option maxHeartbeats 8000000 in
theorem rnear_lt {w : World} {b0 : Bool} {A0 B0 : Option Addr} {n0 c0 m0 d0 : Nat} {x0 : Rat} (hx : Rt w b0 A0 n0 c0 B0 m0 d0 x0) (s0 : Sz x0 15) {j : Int} (h0 : 0 ≤ j) (h1 : j ≤ 500) (hc : cmpQ (x0 - bak (flo x0 j.toNat) j.toNat) (bak (cei x0 j.toNat) j.toNat - x0) < 0) :
    Calls Tryz.prog 42 #[.agg #[.bool b0, .slice A0 n0 c0, .slice B0 m0 d0], .int .i64 j] w (GotZp w (nea x0 j.toNat) 0) := by
  have jl : j.toNat ≤ 500 := by omega
  have ll := flo_len s0 jl
  have lh := cei_len s0 jl
  have hn : nea x0 j.toNat = flo x0 j.toNat := by rw [nea_by]; rw [if_pos (.inl hc)]
  have CF : ∀ {W : World} {b : Bool} {A B : Option Addr} {n c m d : Nat}, Rt W b A n c B m d x0 → Calls Tryz.prog 72 #[.agg #[.bool b, .slice A n c, .slice B m d], .int .i64 j] W (GotZp W (flo x0 j.toNat) 0) := fun hh => rfloor_N hh (s0.le (by omega)) h0 h1
  have CC : ∀ {W : World} {b : Bool} {A B : Option Addr} {n c m d : Nat}, Rt W b A n c B m d x0 → Calls Tryz.prog 73 #[.agg #[.bool b, .slice A n c, .slice B m d], .int .i64 j] W (GotZp W (cei x0 j.toNat) 0) := fun hh => rceil_N hh (s0.le (by omega)) h0 h1
  obtain ⟨lo, hlo⟩ : ∃ lo, flo x0 j.toNat = lo := ⟨_, rfl⟩
  obtain ⟨hi, hhi⟩ : ∃ hi, cei x0 j.toNat = hi := ⟨_, rfl⟩
  rw [hlo] at CF ll
  rw [hhi] at CC lh
  rw [hlo, hhi] at hc
  skip
  rw [hlo] at hn
  have CB : ∀ {W : World} {z : Int} {b : Bool} {A : Option Addr} {n c : Nat}, Zn W b A n c z → (limbs z.natAbs).length ≤ 24 → Calls Tryz.prog 38 #[.agg #[.bool b, .slice A n c], .int .i64 j] W (GotRp W (bak z j.toNat) 0) := fun hh hl => rback_N hh (by omega) h0 h1
  have sl : Sz (bak lo j.toNat) 24 := bak_sz ll (by omega) jl
  have sh : Sz (bak hi j.toNat) 24 := bak_sz lh (by omega) jl
  obtain ⟨x, hxx⟩ : ∃ x, bak lo j.toNat = x := ⟨_, rfl⟩
  obtain ⟨y, hyy⟩ : ∃ y, bak hi j.toNat = y := ⟨_, rfl⟩
  have CX : ∀ {W : World} {b : Bool} {A : Option Addr} {n c : Nat}, Zn W b A n c lo → Calls Tryz.prog 38 #[.agg #[.bool b, .slice A n c], .int .i64 j] W (GotRp W x 0) := fun hh => by rw [← hxx]; exact CB hh ll
  have CY : ∀ {W : World} {b : Bool} {A : Option Addr} {n c : Nat}, Zn W b A n c hi → Calls Tryz.prog 38 #[.agg #[.bool b, .slice A n c], .int .i64 j] W (GotRp W y 0) := fun hh => by rw [← hyy]; exact CB hh lh
  rw [hxx] at sl
  rw [hyy] at sh
  rw [hxx, hyy] at hc
  skip
  obtain ⟨cn, hcn⟩ : ∃ cn, cmpQ (x0 - x) (y - x0) = cn := ⟨_, rfl⟩
  have HC := Lib.hid hcn
  rw [hcn] at hc
  skip
  have su := s0.sub sl
  have sv := sh.sub s0
  have HN := Lib.hid hn
  have t1 : decide (cn < 0) = true := decide_eq_true hc
  clear CB hxx hyy hcn hlo hhi hn hc h0 h1
  have cc := Below.refl w.heap.size w
  go_enter Tryz.func42, Tryz.ntmps42
  go_wp2_with fail
  have f0 : ((w.alloc (.cells #[.bool b0, .slice A0 n0 c0, .slice B0 m0 d0] 33)).alloc (.cells #[.bool false, .slice none 0 0] 31)).frozen? ⟨w.heap.size + 1, 0, none⟩ = false := by simp [go_sem]
  have f1 : ((w.alloc (.cells #[.bool b0, .slice A0 n0 c0, .slice B0 m0 d0] 33)).alloc (.cells #[.bool false, .slice none 0 0] 31)).frozen? ⟨w.heap.size + 1, 1, none⟩ = false := by simp [go_sem]
  have bA : Below w.heap.size w ((w.alloc (.cells #[.bool b0, .slice A0 n0 c0, .slice B0 m0 d0] 33)).alloc (.cells #[.bool false, .slice none 0 0] 31)) := (((Below.refl _ w).alloc (by simp) _).alloc (by simp) _)
  replace hx := hx.on bA
  replace cc := bK cc bA
  clear bA
  have k0 : ((w.alloc (.cells #[.bool b0, .slice A0 n0 c0, .slice B0 m0 d0] 33)).alloc (.cells #[.bool false, .slice none 0 0] 31)).cell? ⟨w.heap.size, 0, none⟩ = some (.bool b0) := by simp [go_sem]
  have k1 : ((w.alloc (.cells #[.bool b0, .slice A0 n0 c0, .slice B0 m0 d0] 33)).alloc (.cells #[.bool false, .slice none 0 0] 31)).cell? ⟨w.heap.size, 1, none⟩ = some (.slice A0 n0 c0) := by simp [go_sem]
  have k2 : ((w.alloc (.cells #[.bool b0, .slice A0 n0 c0, .slice B0 m0 d0] 33)).alloc (.cells #[.bool false, .slice none 0 0] 31)).cell? ⟨w.heap.size, 2, none⟩ = some (.slice B0 m0 d0) := by simp [go_sem]
  have kl : w.heap.size < ((w.alloc (.cells #[.bool b0, .slice A0 n0 c0, .slice B0 m0 d0] 33)).alloc (.cells #[.bool false, .slice none 0 0] 31)).heap.size := by simp <;> omega
  have g0 : ((w.alloc (.cells #[.bool b0, .slice A0 n0 c0, .slice B0 m0 d0] 33)).alloc (.cells #[.bool false, .slice none 0 0] 31)).cell? ⟨w.heap.size + 1, 0, none⟩ = some (.bool false) := by simp [go_sem]
  have g1 : ((w.alloc (.cells #[.bool b0, .slice A0 n0 c0, .slice B0 m0 d0] 33)).alloc (.cells #[.bool false, .slice none 0 0] 31)).cell? ⟨w.heap.size + 1, 1, none⟩ = some (.slice none 0 0) := by simp [go_sem]
  have gl : w.heap.size + 1 < ((w.alloc (.cells #[.bool b0, .slice A0 n0 c0, .slice B0 m0 d0] 33)).alloc (.cells #[.bool false, .slice none 0 0] 31)).heap.size := by simp <;> omega
  generalize (w.alloc (.cells #[.bool b0, .slice A0 n0 c0, .slice B0 m0 d0] 33)).alloc (.cells #[.bool false, .slice none 0 0] 31) = v1 at *
  refine (CF hx).mono ?_
  rintro e w2 ⟨bl, Al, nl, cl, rfl, zl, b⟩
  replace f0 := fK b f0 gl
  replace f1 := fK b f1 gl
  replace hx := hx.on b
  replace k0 := cK b k0 kl
  replace k1 := cK b k1 kl
  replace k2 := cK b k2 kl
  replace kl := lK b kl
  replace g0 := cK b g0 gl
  replace g1 := cK b g1 gl
  replace gl := lK b gl
  replace cc := bK cc b
  clear b
  go_wp2_with fail
  have bA := below_one w2 (.cells #[.bool bl, .slice Al nl cl] 31)
  replace f0 := fK bA f0 gl
  replace f1 := fK bA f1 gl
  replace hx := hx.on bA
  replace zl := zl.on bA
  replace k0 := cK bA k0 kl
  replace k1 := cK bA k1 kl
  replace k2 := cK bA k2 kl
  replace kl := lK bA kl
  replace g0 := cK bA g0 gl
  replace g1 := cK bA g1 gl
  replace gl := lK bA gl
  replace cc := bK cc bA
  clear bA
  have ba0 : (w2.alloc (.cells #[.bool bl, .slice Al nl cl] 31)).cell? ⟨w2.heap.size, 0, none⟩ = some (.bool bl) := by simp [go_sem]
  have ba1 : (w2.alloc (.cells #[.bool bl, .slice Al nl cl] 31)).cell? ⟨w2.heap.size, 1, none⟩ = some (.slice Al nl cl) := by simp [go_sem]
  have bal : w2.heap.size < (w2.alloc (.cells #[.bool bl, .slice Al nl cl] 31)).heap.size := by simp
  generalize w2.alloc (.cells #[.bool bl, .slice Al nl cl] 31) = v3 at *
  refine (CC hx).mono ?_
  rintro e w4 ⟨bh, Ah, nh, ch, rfl, zh, b⟩
  replace f0 := fK b f0 gl
  replace f1 := fK b f1 gl
  replace hx := hx.on b
  replace zl := zl.on b
  replace k0 := cK b k0 kl
  replace k1 := cK b k1 kl
  replace k2 := cK b k2 kl
  replace kl := lK b kl
  replace g0 := cK b g0 gl
  replace g1 := cK b g1 gl
  replace gl := lK b gl
  replace ba0 := cK b ba0 bal
  replace ba1 := cK b ba1 bal
  replace bal := lK b bal
  replace cc := bK cc b
  clear b
  go_wp2_with fail
  have bA := below_one w4 (.cells #[.bool bh, .slice Ah nh ch] 31)
  replace f0 := fK bA f0 gl
  replace f1 := fK bA f1 gl
  replace hx := hx.on bA
  replace zl := zl.on bA
  replace zh := zh.on bA
  replace k0 := cK bA k0 kl
  replace k1 := cK bA k1 kl
  replace k2 := cK bA k2 kl
  replace kl := lK bA kl
  replace g0 := cK bA g0 gl
  replace g1 := cK bA g1 gl
  replace gl := lK bA gl
  replace ba0 := cK bA ba0 bal
  replace ba1 := cK bA ba1 bal
  replace bal := lK bA bal
  replace cc := bK cc bA
  clear bA
  have bb0 : (w4.alloc (.cells #[.bool bh, .slice Ah nh ch] 31)).cell? ⟨w4.heap.size, 0, none⟩ = some (.bool bh) := by simp [go_sem]
  have bb1 : (w4.alloc (.cells #[.bool bh, .slice Ah nh ch] 31)).cell? ⟨w4.heap.size, 1, none⟩ = some (.slice Ah nh ch) := by simp [go_sem]
  have bbl : w4.heap.size < (w4.alloc (.cells #[.bool bh, .slice Ah nh ch] 31)).heap.size := by simp
  generalize w4.alloc (.cells #[.bool bh, .slice Ah nh ch] 31) = v5 at *
  refine (CX zl).mono ?_
  rintro e w6 ⟨bx, Ax, nx, cx, Bx, mx, dx, rfl, rx, b⟩
  replace f0 := fK b f0 gl
  replace f1 := fK b f1 gl
  replace hx := hx.on b
  replace zl := zl.on b
  replace zh := zh.on b
  replace k0 := cK b k0 kl
  replace k1 := cK b k1 kl
  replace k2 := cK b k2 kl
  replace kl := lK b kl
  replace g0 := cK b g0 gl
  replace g1 := cK b g1 gl
  replace gl := lK b gl
  replace ba0 := cK b ba0 bal
  replace ba1 := cK b ba1 bal
  replace bal := lK b bal
  replace bb0 := cK b bb0 bbl
  replace bb1 := cK b bb1 bbl
  replace bbl := lK b bbl
  replace cc := bK cc b
  clear b
  go_wp2_with fail
  have bA := below_one w6 (.cells #[.bool bx, .slice Ax nx cx, .slice Bx mx dx] 33)
  replace f0 := fK bA f0 gl
  replace f1 := fK bA f1 gl
  replace hx := hx.on bA
  replace zl := zl.on bA
  replace zh := zh.on bA
  replace rx := rx.on bA
  replace k0 := cK bA k0 kl
  replace k1 := cK bA k1 kl
  replace k2 := cK bA k2 kl
  replace kl := lK bA kl
  replace g0 := cK bA g0 gl
  replace g1 := cK bA g1 gl
  replace gl := lK bA gl
  replace ba0 := cK bA ba0 bal
  replace ba1 := cK bA ba1 bal
  replace bal := lK bA bal
  replace bb0 := cK bA bb0 bbl
  replace bb1 := cK bA bb1 bbl
  replace bbl := lK bA bbl
  replace cc := bK cc bA
  clear bA
  have bc0 : (w6.alloc (.cells #[.bool bx, .slice Ax nx cx, .slice Bx mx dx] 33)).cell? ⟨w6.heap.size, 0, none⟩ = some (.bool bx) := by simp [go_sem]
  have bc1 : (w6.alloc (.cells #[.bool bx, .slice Ax nx cx, .slice Bx mx dx] 33)).cell? ⟨w6.heap.size, 1, none⟩ = some (.slice Ax nx cx) := by simp [go_sem]
  have bc2 : (w6.alloc (.cells #[.bool bx, .slice Ax nx cx, .slice Bx mx dx] 33)).cell? ⟨w6.heap.size, 2, none⟩ = some (.slice Bx mx dx) := by simp [go_sem]
  have bcl : w6.heap.size < (w6.alloc (.cells #[.bool bx, .slice Ax nx cx, .slice Bx mx dx] 33)).heap.size := by simp
  generalize w6.alloc (.cells #[.bool bx, .slice Ax nx cx, .slice Bx mx dx] 33) = v7 at *
  refine (CY zh).mono ?_
  rintro e w8 ⟨bY, Ay, ny, cy, By, my, dy, rfl, ry, b⟩
  replace f0 := fK b f0 gl
  replace f1 := fK b f1 gl
  replace hx := hx.on b
  replace zl := zl.on b
  replace zh := zh.on b
  replace rx := rx.on b
  replace k0 := cK b k0 kl
  replace k1 := cK b k1 kl
  replace k2 := cK b k2 kl
  replace kl := lK b kl
  replace g0 := cK b g0 gl
  replace g1 := cK b g1 gl
  replace gl := lK b gl
  replace ba0 := cK b ba0 bal
  replace ba1 := cK b ba1 bal
  replace bal := lK b bal
  replace bb0 := cK b bb0 bbl
  replace bb1 := cK b bb1 bbl
  replace bbl := lK b bbl
  replace bc0 := cK b bc0 bcl
  replace bc1 := cK b bc1 bcl
  replace bc2 := cK b bc2 bcl
  replace bcl := lK b bcl
  replace cc := bK cc b
  clear b
  go_wp2_with fail
  have bA := below_one w8 (.cells #[.bool bY, .slice Ay ny cy, .slice By my dy] 33)
  replace f0 := fK bA f0 gl
  replace f1 := fK bA f1 gl
  replace hx := hx.on bA
  replace zl := zl.on bA
  replace zh := zh.on bA
  replace rx := rx.on bA
  replace ry := ry.on bA
  replace k0 := cK bA k0 kl
  replace k1 := cK bA k1 kl
  replace k2 := cK bA k2 kl
  replace kl := lK bA kl
  replace g0 := cK bA g0 gl
  replace g1 := cK bA g1 gl
  replace gl := lK bA gl
  replace ba0 := cK bA ba0 bal
  replace ba1 := cK bA ba1 bal
  replace bal := lK bA bal
  replace bb0 := cK bA bb0 bbl
  replace bb1 := cK bA bb1 bbl
  replace bbl := lK bA bbl
  replace bc0 := cK bA bc0 bcl
  replace bc1 := cK bA bc1 bcl
  replace bc2 := cK bA bc2 bcl
  replace bcl := lK bA bcl
  replace cc := bK cc bA
  clear bA
  have bd0 : (w8.alloc (.cells #[.bool bY, .slice Ay ny cy, .slice By my dy] 33)).cell? ⟨w8.heap.size, 0, none⟩ = some (.bool bY) := by simp [go_sem]
  have bd1 : (w8.alloc (.cells #[.bool bY, .slice Ay ny cy, .slice By my dy] 33)).cell? ⟨w8.heap.size, 1, none⟩ = some (.slice Ay ny cy) := by simp [go_sem]
  have bd2 : (w8.alloc (.cells #[.bool bY, .slice Ay ny cy, .slice By my dy] 33)).cell? ⟨w8.heap.size, 2, none⟩ = some (.slice By my dy) := by simp [go_sem]
  have bdl : w8.heap.size < (w8.alloc (.cells #[.bool bY, .slice Ay ny cy, .slice By my dy] 33)).heap.size := by simp
  generalize w8.alloc (.cells #[.bool bY, .slice Ay ny cy, .slice By my dy] 33) = v9 at *
  refine (rtsub_N hx (s0.le (by omega)) rx (sl.le (by omega))).mono ?_
  rintro e w10 ⟨bu, Au, nu, cu, Bu, mu, du, rfl, ru, b⟩
  replace f0 := fK b f0 gl
  replace f1 := fK b f1 gl
  replace hx := hx.on b
  replace zl := zl.on b
  replace zh := zh.on b
  replace rx := rx.on b
  replace ry := ry.on b
  replace k0 := cK b k0 kl
  replace k1 := cK b k1 kl
  replace k2 := cK b k2 kl
  replace kl := lK b kl
  replace g0 := cK b g0 gl
  replace g1 := cK b g1 gl
  replace gl := lK b gl
  replace ba0 := cK b ba0 bal
  replace ba1 := cK b ba1 bal
  replace bal := lK b bal
  replace bb0 := cK b bb0 bbl
  replace bb1 := cK b bb1 bbl
  replace bbl := lK b bbl
  replace bc0 := cK b bc0 bcl
  replace bc1 := cK b bc1 bcl
  replace bc2 := cK b bc2 bcl
  replace bcl := lK b bcl
  replace bd0 := cK b bd0 bdl
  replace bd1 := cK b bd1 bdl
  replace bd2 := cK b bd2 bdl
  replace bdl := lK b bdl
  replace cc := bK cc b
  clear b
  go_wp2_with fail
  have bA := below_one w10 (.cells #[.bool bu, .slice Au nu cu, .slice Bu mu du] 33)
  replace f0 := fK bA f0 gl
  replace f1 := fK bA f1 gl
  replace hx := hx.on bA
  replace zl := zl.on bA
  replace zh := zh.on bA
  replace rx := rx.on bA
  replace ry := ry.on bA
  replace ru := ru.on bA
  replace k0 := cK bA k0 kl
  replace k1 := cK bA k1 kl
  replace k2 := cK bA k2 kl
  replace kl := lK bA kl
  replace g0 := cK bA g0 gl
  replace g1 := cK bA g1 gl
  replace gl := lK bA gl
  replace ba0 := cK bA ba0 bal
  replace ba1 := cK bA ba1 bal
  replace bal := lK bA bal
  replace bb0 := cK bA bb0 bbl
  replace bb1 := cK bA bb1 bbl
  replace bbl := lK bA bbl
  replace bc0 := cK bA bc0 bcl
  replace bc1 := cK bA bc1 bcl
  replace bc2 := cK bA bc2 bcl
  replace bcl := lK bA bcl
  replace bd0 := cK bA bd0 bdl
  replace bd1 := cK bA bd1 bdl
  replace bd2 := cK bA bd2 bdl
  replace bdl := lK bA bdl
  replace cc := bK cc bA
  clear bA
  have be0 : (w10.alloc (.cells #[.bool bu, .slice Au nu cu, .slice Bu mu du] 33)).cell? ⟨w10.heap.size, 0, none⟩ = some (.bool bu) := by simp [go_sem]
  have be1 : (w10.alloc (.cells #[.bool bu, .slice Au nu cu, .slice Bu mu du] 33)).cell? ⟨w10.heap.size, 1, none⟩ = some (.slice Au nu cu) := by simp [go_sem]
  have be2 : (w10.alloc (.cells #[.bool bu, .slice Au nu cu, .slice Bu mu du] 33)).cell? ⟨w10.heap.size, 2, none⟩ = some (.slice Bu mu du) := by simp [go_sem]
  have bel : w10.heap.size < (w10.alloc (.cells #[.bool bu, .slice Au nu cu, .slice Bu mu du] 33)).heap.size := by simp
  generalize w10.alloc (.cells #[.bool bu, .slice Au nu cu, .slice Bu mu du] 33) = v11 at *
  refine (rtsub_N ry (sh.le (by omega)) hx (s0.le (by omega))).mono ?_
  rintro e w12 ⟨bv, Av, nv, cv, Bv, mv, dv, rfl, rv, b⟩
  replace f0 := fK b f0 gl
  replace f1 := fK b f1 gl
  replace hx := hx.on b
  replace zl := zl.on b
  replace zh := zh.on b
  replace rx := rx.on b
  replace ry := ry.on b
  replace ru := ru.on b
  replace k0 := cK b k0 kl
  replace k1 := cK b k1 kl
  replace k2 := cK b k2 kl
  replace kl := lK b kl
  replace g0 := cK b g0 gl
  replace g1 := cK b g1 gl
  replace gl := lK b gl
  replace ba0 := cK b ba0 bal
  replace ba1 := cK b ba1 bal
  replace bal := lK b bal
  replace bb0 := cK b bb0 bbl
  replace bb1 := cK b bb1 bbl
  replace bbl := lK b bbl
  replace bc0 := cK b bc0 bcl
  replace bc1 := cK b bc1 bcl
  replace bc2 := cK b bc2 bcl
  replace bcl := lK b bcl
  replace bd0 := cK b bd0 bdl
  replace bd1 := cK b bd1 bdl
  replace bd2 := cK b bd2 bdl
  replace bdl := lK b bdl
  replace be0 := cK b be0 bel
  replace be1 := cK b be1 bel
  replace be2 := cK b be2 bel
  replace bel := lK b bel
  replace cc := bK cc b
  clear b
  go_wp2_with fail
  have bA := below_one w12 (.cells #[.bool bv, .slice Av nv cv, .slice Bv mv dv] 33)
  replace f0 := fK bA f0 gl
  replace f1 := fK bA f1 gl
  replace hx := hx.on bA
  replace zl := zl.on bA
  replace zh := zh.on bA
  replace rx := rx.on bA
  replace ry := ry.on bA
  replace ru := ru.on bA
  replace rv := rv.on bA
  replace k0 := cK bA k0 kl
  replace k1 := cK bA k1 kl
  replace k2 := cK bA k2 kl
  replace kl := lK bA kl
  replace g0 := cK bA g0 gl
  replace g1 := cK bA g1 gl
  replace gl := lK bA gl
  replace ba0 := cK bA ba0 bal
  replace ba1 := cK bA ba1 bal
  replace bal := lK bA bal
  replace bb0 := cK bA bb0 bbl
  replace bb1 := cK bA bb1 bbl
  replace bbl := lK bA bbl
  replace bc0 := cK bA bc0 bcl
  replace bc1 := cK bA bc1 bcl
  replace bc2 := cK bA bc2 bcl
  replace bcl := lK bA bcl
  replace bd0 := cK bA bd0 bdl
  replace bd1 := cK bA bd1 bdl
  replace bd2 := cK bA bd2 bdl
  replace bdl := lK bA bdl
  replace be0 := cK bA be0 bel
  replace be1 := cK bA be1 bel
  replace be2 := cK bA be2 bel
  replace bel := lK bA bel
  replace cc := bK cc bA
  clear bA
  have bf0 : (w12.alloc (.cells #[.bool bv, .slice Av nv cv, .slice Bv mv dv] 33)).cell? ⟨w12.heap.size, 0, none⟩ = some (.bool bv) := by simp [go_sem]
  have bf1 : (w12.alloc (.cells #[.bool bv, .slice Av nv cv, .slice Bv mv dv] 33)).cell? ⟨w12.heap.size, 1, none⟩ = some (.slice Av nv cv) := by simp [go_sem]
  have bf2 : (w12.alloc (.cells #[.bool bv, .slice Av nv cv, .slice Bv mv dv] 33)).cell? ⟨w12.heap.size, 2, none⟩ = some (.slice Bv mv dv) := by simp [go_sem]
  have bfl : w12.heap.size < (w12.alloc (.cells #[.bool bv, .slice Av nv cv, .slice Bv mv dv] 33)).heap.size := by simp
  generalize w12.alloc (.cells #[.bool bv, .slice Av nv cv, .slice Bv mv dv] 33) = v13 at *
  refine (rtcmp_v cn ru (su.le (by omega)) rv (sv.le (by omega)) HC.out).mono ?_
  rintro e w14 ⟨rfl, b⟩
  replace f0 := fK b f0 gl
  replace f1 := fK b f1 gl
  replace hx := hx.on b
  replace zl := zl.on b
  replace zh := zh.on b
  replace rx := rx.on b
  replace ry := ry.on b
  replace ru := ru.on b
  replace rv := rv.on b
  replace k0 := cK b k0 kl
  replace k1 := cK b k1 kl
  replace k2 := cK b k2 kl
  replace kl := lK b kl
  replace g0 := cK b g0 gl
  replace g1 := cK b g1 gl
  replace gl := lK b gl
  replace ba0 := cK b ba0 bal
  replace ba1 := cK b ba1 bal
  replace bal := lK b bal
  replace bb0 := cK b bb0 bbl
  replace bb1 := cK b bb1 bbl
  replace bbl := lK b bbl
  replace bc0 := cK b bc0 bcl
  replace bc1 := cK b bc1 bcl
  replace bc2 := cK b bc2 bcl
  replace bcl := lK b bcl
  replace bd0 := cK b bd0 bdl
  replace bd1 := cK b bd1 bdl
  replace bd2 := cK b bd2 bdl
  replace bdl := lK b bdl
  replace be0 := cK b be0 bel
  replace be1 := cK b be1 bel
  replace be2 := cK b be2 bel
  replace bel := lK b bel
  replace bf0 := cK b bf0 bfl
  replace bf1 := cK b bf1 bfl
  replace bf2 := cK b bf2 bfl
  replace bfl := lK b bfl
  replace cc := bK cc b
  clear b
  have hn : Zn w14 bl Al nl cl (nea x0 j.toNat) := by rw [HN.out]; exact zl
  have eb : Box w14 (w.heap.size + 1) false none 0 0 := ⟨g0, g1⟩
  have HZ : Hid (Zn ((w14.setCell ⟨w.heap.size + 1, 0, none⟩ (.bool bl)).setCell ⟨w.heap.size + 1, 1, none⟩ (.slice Al nl cl)) bl Al nl cl (nea x0 j.toNat)) := Lib.hid (hn.put eb _ _)
  clear hn
  go_wp2_with fail
  refine bodyPost_ret (v := .tuple #[.agg #[.bool bl, .slice Al nl cl], .int .i64 0]) (by simp [results, Tryz.results42, go_sem, g0, g1]) rfl ⟨_, _, _, _, rfl, HZ.out, below_put cc (by omega) _ _⟩

set_option maxRecDepth 100000 in
set_option maxHeartbeats 8000000 in
theorem rnear_even {w : World} {b0 : Bool} {A0 B0 : Option Addr} {n0 c0 m0 d0 : Nat} {x0 : Rat} (hx : Rt w b0 A0 n0 c0 B0 m0 d0 x0) (s0 : Sz x0 15) {j : Int} (h0 : 0 ≤ j) (h1 : j ≤ 500) (hc : cmpQ (x0 - bak (flo x0 j.toNat) j.toNat) (bak (cei x0 j.toNat) j.toNat - x0) = 0) (he : flo x0 j.toNat % 2 = 0) :
    Calls Tryz.prog 42 #[.agg #[.bool b0, .slice A0 n0 c0, .slice B0 m0 d0], .int .i64 j] w (GotZp w (nea x0 j.toNat) 0) := by
  have jl : j.toNat ≤ 500 := by omega
  have ll := flo_len s0 jl
  have lh := cei_len s0 jl
  have hn : nea x0 j.toNat = flo x0 j.toNat := by rw [nea_by]; rw [if_pos (.inr ⟨hc, he⟩)]
  have CF : ∀ {W : World} {b : Bool} {A B : Option Addr} {n c m d : Nat}, Rt W b A n c B m d x0 → Calls Tryz.prog 72 #[.agg #[.bool b, .slice A n c, .slice B m d], .int .i64 j] W (GotZp W (flo x0 j.toNat) 0) := fun hh => rfloor_N hh (s0.le (by omega)) h0 h1
  have CC : ∀ {W : World} {b : Bool} {A B : Option Addr} {n c m d : Nat}, Rt W b A n c B m d x0 → Calls Tryz.prog 73 #[.agg #[.bool b, .slice A n c, .slice B m d], .int .i64 j] W (GotZp W (cei x0 j.toNat) 0) := fun hh => rceil_N hh (s0.le (by omega)) h0 h1
  obtain ⟨lo, hlo⟩ : ∃ lo, flo x0 j.toNat = lo := ⟨_, rfl⟩
  obtain ⟨hi, hhi⟩ : ∃ hi, cei x0 j.toNat = hi := ⟨_, rfl⟩
  rw [hlo] at CF ll
  rw [hhi] at CC lh
  rw [hlo, hhi] at hc
  rw [hlo] at he
  rw [hlo] at hn
  have CB : ∀ {W : World} {z : Int} {b : Bool} {A : Option Addr} {n c : Nat}, Zn W b A n c z → (limbs z.natAbs).length ≤ 24 → Calls Tryz.prog 38 #[.agg #[.bool b, .slice A n c], .int .i64 j] W (GotRp W (bak z j.toNat) 0) := fun hh hl => rback_N hh (by omega) h0 h1
  have sl : Sz (bak lo j.toNat) 24 := bak_sz ll (by omega) jl
  have sh : Sz (bak hi j.toNat) 24 := bak_sz lh (by omega) jl
  obtain ⟨x, hxx⟩ : ∃ x, bak lo j.toNat = x := ⟨_, rfl⟩
  obtain ⟨y, hyy⟩ : ∃ y, bak hi j.toNat = y := ⟨_, rfl⟩
  have CX : ∀ {W : World} {b : Bool} {A : Option Addr} {n c : Nat}, Zn W b A n c lo → Calls Tryz.prog 38 #[.agg #[.bool b, .slice A n c], .int .i64 j] W (GotRp W x 0) := fun hh => by rw [← hxx]; exact CB hh ll
  have CY : ∀ {W : World} {b : Bool} {A : Option Addr} {n c : Nat}, Zn W b A n c hi → Calls Tryz.prog 38 #[.agg #[.bool b, .slice A n c], .int .i64 j] W (GotRp W y 0) := fun hh => by rw [← hyy]; exact CB hh lh
  rw [hxx] at sl
  rw [hyy] at sh
  rw [hxx, hyy] at hc
  skip
  obtain ⟨cn, hcn⟩ : ∃ cn, cmpQ (x0 - x) (y - x0) = cn := ⟨_, rfl⟩
  have HC := Lib.hid hcn
  rw [hcn] at hc
  skip
  have su := s0.sub sl
  have sv := sh.sub s0
  have HN := Lib.hid hn
  have t1 : decide (cn < 0) = false := decide_eq_false (by omega)
  have t2 : (cn == 0) = true := beq_iff_eq.2 hc
  have HO : Hid (decide (lo % 2 = 1) = false) := Lib.hid (decide_eq_false (by omega))
  clear CB hxx hyy hcn hlo hhi hn hc h0 h1 he
  have cc := Below.refl w.heap.size w
  go_enter Tryz.func42, Tryz.ntmps42
  go_wp2_with fail
  have f0 : ((w.alloc (.cells #[.bool b0, .slice A0 n0 c0, .slice B0 m0 d0] 33)).alloc (.cells #[.bool false, .slice none 0 0] 31)).frozen? ⟨w.heap.size + 1, 0, none⟩ = false := by simp [go_sem]
  have f1 : ((w.alloc (.cells #[.bool b0, .slice A0 n0 c0, .slice B0 m0 d0] 33)).alloc (.cells #[.bool false, .slice none 0 0] 31)).frozen? ⟨w.heap.size + 1, 1, none⟩ = false := by simp [go_sem]
  have bA : Below w.heap.size w ((w.alloc (.cells #[.bool b0, .slice A0 n0 c0, .slice B0 m0 d0] 33)).alloc (.cells #[.bool false, .slice none 0 0] 31)) := (((Below.refl _ w).alloc (by simp) _).alloc (by simp) _)
  replace hx := hx.on bA
  replace cc := bK cc bA
  clear bA
  have k0 : ((w.alloc (.cells #[.bool b0, .slice A0 n0 c0, .slice B0 m0 d0] 33)).alloc (.cells #[.bool false, .slice none 0 0] 31)).cell? ⟨w.heap.size, 0, none⟩ = some (.bool b0) := by simp [go_sem]
  have k1 : ((w.alloc (.cells #[.bool b0, .slice A0 n0 c0, .slice B0 m0 d0] 33)).alloc (.cells #[.bool false, .slice none 0 0] 31)).cell? ⟨w.heap.size, 1, none⟩ = some (.slice A0 n0 c0) := by simp [go_sem]
  have k2 : ((w.alloc (.cells #[.bool b0, .slice A0 n0 c0, .slice B0 m0 d0] 33)).alloc (.cells #[.bool false, .slice none 0 0] 31)).cell? ⟨w.heap.size, 2, none⟩ = some (.slice B0 m0 d0) := by simp [go_sem]
  have kl : w.heap.size < ((w.alloc (.cells #[.bool b0, .slice A0 n0 c0, .slice B0 m0 d0] 33)).alloc (.cells #[.bool false, .slice none 0 0] 31)).heap.size := by simp <;> omega
  have g0 : ((w.alloc (.cells #[.bool b0, .slice A0 n0 c0, .slice B0 m0 d0] 33)).alloc (.cells #[.bool false, .slice none 0 0] 31)).cell? ⟨w.heap.size + 1, 0, none⟩ = some (.bool false) := by simp [go_sem]
  have g1 : ((w.alloc (.cells #[.bool b0, .slice A0 n0 c0, .slice B0 m0 d0] 33)).alloc (.cells #[.bool false, .slice none 0 0] 31)).cell? ⟨w.heap.size + 1, 1, none⟩ = some (.slice none 0 0) := by simp [go_sem]
  have gl : w.heap.size + 1 < ((w.alloc (.cells #[.bool b0, .slice A0 n0 c0, .slice B0 m0 d0] 33)).alloc (.cells #[.bool false, .slice none 0 0] 31)).heap.size := by simp <;> omega
  generalize (w.alloc (.cells #[.bool b0, .slice A0 n0 c0, .slice B0 m0 d0] 33)).alloc (.cells #[.bool false, .slice none 0 0] 31) = v1 at *
  refine (CF hx).mono ?_
  rintro e w2 ⟨bl, Al, nl, cl, rfl, zl, b⟩
  replace f0 := fK b f0 gl
  replace f1 := fK b f1 gl
  replace hx := hx.on b
  replace k0 := cK b k0 kl
  replace k1 := cK b k1 kl
  replace k2 := cK b k2 kl
  replace kl := lK b kl
  replace g0 := cK b g0 gl
  replace g1 := cK b g1 gl
  replace gl := lK b gl
  replace cc := bK cc b
  clear b
  go_wp2_with fail
  have bA := below_one w2 (.cells #[.bool bl, .slice Al nl cl] 31)
  replace f0 := fK bA f0 gl
  replace f1 := fK bA f1 gl
  replace hx := hx.on bA
  replace zl := zl.on bA
  replace k0 := cK bA k0 kl
  replace k1 := cK bA k1 kl
  replace k2 := cK bA k2 kl
  replace kl := lK bA kl
  replace g0 := cK bA g0 gl
  replace g1 := cK bA g1 gl
  replace gl := lK bA gl
  replace cc := bK cc bA
  clear bA
  have ba0 : (w2.alloc (.cells #[.bool bl, .slice Al nl cl] 31)).cell? ⟨w2.heap.size, 0, none⟩ = some (.bool bl) := by simp [go_sem]
  have ba1 : (w2.alloc (.cells #[.bool bl, .slice Al nl cl] 31)).cell? ⟨w2.heap.size, 1, none⟩ = some (.slice Al nl cl) := by simp [go_sem]
  have bal : w2.heap.size < (w2.alloc (.cells #[.bool bl, .slice Al nl cl] 31)).heap.size := by simp
  generalize w2.alloc (.cells #[.bool bl, .slice Al nl cl] 31) = v3 at *
  refine (CC hx).mono ?_
  rintro e w4 ⟨bh, Ah, nh, ch, rfl, zh, b⟩
  replace f0 := fK b f0 gl
  replace f1 := fK b f1 gl
  replace hx := hx.on b
  replace zl := zl.on b
  replace k0 := cK b k0 kl
  replace k1 := cK b k1 kl
  replace k2 := cK b k2 kl
  replace kl := lK b kl
  replace g0 := cK b g0 gl
  replace g1 := cK b g1 gl
  replace gl := lK b gl
  replace ba0 := cK b ba0 bal
  replace ba1 := cK b ba1 bal
  replace bal := lK b bal
  replace cc := bK cc b
  clear b
  go_wp2_with fail
  have bA := below_one w4 (.cells #[.bool bh, .slice Ah nh ch] 31)
  replace f0 := fK bA f0 gl
  replace f1 := fK bA f1 gl
  replace hx := hx.on bA
  replace zl := zl.on bA
  replace zh := zh.on bA
  replace k0 := cK bA k0 kl
  replace k1 := cK bA k1 kl
  replace k2 := cK bA k2 kl
  replace kl := lK bA kl
  replace g0 := cK bA g0 gl
  replace g1 := cK bA g1 gl
  replace gl := lK bA gl
  replace ba0 := cK bA ba0 bal
  replace ba1 := cK bA ba1 bal
  replace bal := lK bA bal
  replace cc := bK cc bA
  clear bA
  have bb0 : (w4.alloc (.cells #[.bool bh, .slice Ah nh ch] 31)).cell? ⟨w4.heap.size, 0, none⟩ = some (.bool bh) := by simp [go_sem]
  have bb1 : (w4.alloc (.cells #[.bool bh, .slice Ah nh ch] 31)).cell? ⟨w4.heap.size, 1, none⟩ = some (.slice Ah nh ch) := by simp [go_sem]
  have bbl : w4.heap.size < (w4.alloc (.cells #[.bool bh, .slice Ah nh ch] 31)).heap.size := by simp
  generalize w4.alloc (.cells #[.bool bh, .slice Ah nh ch] 31) = v5 at *
  refine (CX zl).mono ?_
  rintro e w6 ⟨bx, Ax, nx, cx, Bx, mx, dx, rfl, rx, b⟩
  replace f0 := fK b f0 gl
  replace f1 := fK b f1 gl
  replace hx := hx.on b
  replace zl := zl.on b
  replace zh := zh.on b
  replace k0 := cK b k0 kl
  replace k1 := cK b k1 kl
  replace k2 := cK b k2 kl
  replace kl := lK b kl
  replace g0 := cK b g0 gl
  replace g1 := cK b g1 gl
  replace gl := lK b gl
  replace ba0 := cK b ba0 bal
  replace ba1 := cK b ba1 bal
  replace bal := lK b bal
  replace bb0 := cK b bb0 bbl
  replace bb1 := cK b bb1 bbl
  replace bbl := lK b bbl
  replace cc := bK cc b
  clear b
  go_wp2_with fail
  have bA := below_one w6 (.cells #[.bool bx, .slice Ax nx cx, .slice Bx mx dx] 33)
  replace f0 := fK bA f0 gl
  replace f1 := fK bA f1 gl
  replace hx := hx.on bA
  replace zl := zl.on bA
  replace zh := zh.on bA
  replace rx := rx.on bA
  replace k0 := cK bA k0 kl
  replace k1 := cK bA k1 kl
  replace k2 := cK bA k2 kl
  replace kl := lK bA kl
  replace g0 := cK bA g0 gl
  replace g1 := cK bA g1 gl
  replace gl := lK bA gl
  replace ba0 := cK bA ba0 bal
  replace ba1 := cK bA ba1 bal
  replace bal := lK bA bal
  replace bb0 := cK bA bb0 bbl
  replace bb1 := cK bA bb1 bbl
  replace bbl := lK bA bbl
  replace cc := bK cc bA
  clear bA
  have bc0 : (w6.alloc (.cells #[.bool bx, .slice Ax nx cx, .slice Bx mx dx] 33)).cell? ⟨w6.heap.size, 0, none⟩ = some (.bool bx) := by simp [go_sem]
  have bc1 : (w6.alloc (.cells #[.bool bx, .slice Ax nx cx, .slice Bx mx dx] 33)).cell? ⟨w6.heap.size, 1, none⟩ = some (.slice Ax nx cx) := by simp [go_sem]
  have bc2 : (w6.alloc (.cells #[.bool bx, .slice Ax nx cx, .slice Bx mx dx] 33)).cell? ⟨w6.heap.size, 2, none⟩ = some (.slice Bx mx dx) := by simp [go_sem]
  have bcl : w6.heap.size < (w6.alloc (.cells #[.bool bx, .slice Ax nx cx, .slice Bx mx dx] 33)).heap.size := by simp
  generalize w6.alloc (.cells #[.bool bx, .slice Ax nx cx, .slice Bx mx dx] 33) = v7 at *
  refine (CY zh).mono ?_
  rintro e w8 ⟨bY, Ay, ny, cy, By, my, dy, rfl, ry, b⟩
  replace f0 := fK b f0 gl
  replace f1 := fK b f1 gl
  replace hx := hx.on b
  replace zl := zl.on b
  replace zh := zh.on b
  replace rx := rx.on b
  replace k0 := cK b k0 kl
  replace k1 := cK b k1 kl
  replace k2 := cK b k2 kl
  replace kl := lK b kl
  replace g0 := cK b g0 gl
  replace g1 := cK b g1 gl
  replace gl := lK b gl
  replace ba0 := cK b ba0 bal
  replace ba1 := cK b ba1 bal
  replace bal := lK b bal
  replace bb0 := cK b bb0 bbl
  replace bb1 := cK b bb1 bbl
  replace bbl := lK b bbl
  replace bc0 := cK b bc0 bcl
  replace bc1 := cK b bc1 bcl
  replace bc2 := cK b bc2 bcl
  replace bcl := lK b bcl
  replace cc := bK cc b
  clear b
  go_wp2_with fail
  have bA := below_one w8 (.cells #[.bool bY, .slice Ay ny cy, .slice By my dy] 33)
  replace f0 := fK bA f0 gl
  replace f1 := fK bA f1 gl
  replace hx := hx.on bA
  replace zl := zl.on bA
  replace zh := zh.on bA
  replace rx := rx.on bA
  replace ry := ry.on bA
  replace k0 := cK bA k0 kl
  replace k1 := cK bA k1 kl
  replace k2 := cK bA k2 kl
  replace kl := lK bA kl
  replace g0 := cK bA g0 gl
  replace g1 := cK bA g1 gl
  replace gl := lK bA gl
  replace ba0 := cK bA ba0 bal
  replace ba1 := cK bA ba1 bal
  replace bal := lK bA bal
  replace bb0 := cK bA bb0 bbl
  replace bb1 := cK bA bb1 bbl
  replace bbl := lK bA bbl
  replace bc0 := cK bA bc0 bcl
  replace bc1 := cK bA bc1 bcl
  replace bc2 := cK bA bc2 bcl
  replace bcl := lK bA bcl
  replace cc := bK cc bA
  clear bA
  have bd0 : (w8.alloc (.cells #[.bool bY, .slice Ay ny cy, .slice By my dy] 33)).cell? ⟨w8.heap.size, 0, none⟩ = some (.bool bY) := by simp [go_sem]
  have bd1 : (w8.alloc (.cells #[.bool bY, .slice Ay ny cy, .slice By my dy] 33)).cell? ⟨w8.heap.size, 1, none⟩ = some (.slice Ay ny cy) := by simp [go_sem]
  have bd2 : (w8.alloc (.cells #[.bool bY, .slice Ay ny cy, .slice By my dy] 33)).cell? ⟨w8.heap.size, 2, none⟩ = some (.slice By my dy) := by simp [go_sem]
  have bdl : w8.heap.size < (w8.alloc (.cells #[.bool bY, .slice Ay ny cy, .slice By my dy] 33)).heap.size := by simp
  generalize w8.alloc (.cells #[.bool bY, .slice Ay ny cy, .slice By my dy] 33) = v9 at *
  refine (rtsub_N hx (s0.le (by omega)) rx (sl.le (by omega))).mono ?_
  rintro e w10 ⟨bu, Au, nu, cu, Bu, mu, du, rfl, ru, b⟩
  replace f0 := fK b f0 gl
  replace f1 := fK b f1 gl
  replace hx := hx.on b
  replace zl := zl.on b
  replace zh := zh.on b
  replace rx := rx.on b
  replace ry := ry.on b
  replace k0 := cK b k0 kl
  replace k1 := cK b k1 kl
  replace k2 := cK b k2 kl
  replace kl := lK b kl
  replace g0 := cK b g0 gl
  replace g1 := cK b g1 gl
  replace gl := lK b gl
  replace ba0 := cK b ba0 bal
  replace ba1 := cK b ba1 bal
  replace bal := lK b bal
  replace bb0 := cK b bb0 bbl
  replace bb1 := cK b bb1 bbl
  replace bbl := lK b bbl
  replace bc0 := cK b bc0 bcl
  replace bc1 := cK b bc1 bcl
  replace bc2 := cK b bc2 bcl
  replace bcl := lK b bcl
  replace bd0 := cK b bd0 bdl
  replace bd1 := cK b bd1 bdl
  replace bd2 := cK b bd2 bdl
  replace bdl := lK b bdl
  replace cc := bK cc b
  clear b
  go_wp2_with fail
  have bA := below_one w10 (.cells #[.bool bu, .slice Au nu cu, .slice Bu mu du] 33)
  replace f0 := fK bA f0 gl
  replace f1 := fK bA f1 gl
  replace hx := hx.on bA
  replace zl := zl.on bA
  replace zh := zh.on bA
  replace rx := rx.on bA
  replace ry := ry.on bA
  replace ru := ru.on bA
  replace k0 := cK bA k0 kl
  replace k1 := cK bA k1 kl
  replace k2 := cK bA k2 kl
  replace kl := lK bA kl
  replace g0 := cK bA g0 gl
  replace g1 := cK bA g1 gl
  replace gl := lK bA gl
  replace ba0 := cK bA ba0 bal
  replace ba1 := cK bA ba1 bal
  replace bal := lK bA bal
  replace bb0 := cK bA bb0 bbl
  replace bb1 := cK bA bb1 bbl
  replace bbl := lK bA bbl
  replace bc0 := cK bA bc0 bcl
  replace bc1 := cK bA bc1 bcl
  replace bc2 := cK bA bc2 bcl
  replace bcl := lK bA bcl
  replace bd0 := cK bA bd0 bdl
  replace bd1 := cK bA bd1 bdl
  replace bd2 := cK bA bd2 bdl
  replace bdl := lK bA bdl
  replace cc := bK cc bA
  clear bA
  have be0 : (w10.alloc (.cells #[.bool bu, .slice Au nu cu, .slice Bu mu du] 33)).cell? ⟨w10.heap.size, 0, none⟩ = some (.bool bu) := by simp [go_sem]
  have be1 : (w10.alloc (.cells #[.bool bu, .slice Au nu cu, .slice Bu mu du] 33)).cell? ⟨w10.heap.size, 1, none⟩ = some (.slice Au nu cu) := by simp [go_sem]
  have be2 : (w10.alloc (.cells #[.bool bu, .slice Au nu cu, .slice Bu mu du] 33)).cell? ⟨w10.heap.size, 2, none⟩ = some (.slice Bu mu du) := by simp [go_sem]
  have bel : w10.heap.size < (w10.alloc (.cells #[.bool bu, .slice Au nu cu, .slice Bu mu du] 33)).heap.size := by simp
  generalize w10.alloc (.cells #[.bool bu, .slice Au nu cu, .slice Bu mu du] 33) = v11 at *
  refine (rtsub_N ry (sh.le (by omega)) hx (s0.le (by omega))).mono ?_
  rintro e w12 ⟨bv, Av, nv, cv, Bv, mv, dv, rfl, rv, b⟩
  replace f0 := fK b f0 gl
  replace f1 := fK b f1 gl
  replace hx := hx.on b
  replace zl := zl.on b
  replace zh := zh.on b
  replace rx := rx.on b
  replace ry := ry.on b
  replace ru := ru.on b
  replace k0 := cK b k0 kl
  replace k1 := cK b k1 kl
  replace k2 := cK b k2 kl
  replace kl := lK b kl
  replace g0 := cK b g0 gl
  replace g1 := cK b g1 gl
  replace gl := lK b gl
  replace ba0 := cK b ba0 bal
  replace ba1 := cK b ba1 bal
  replace bal := lK b bal
  replace bb0 := cK b bb0 bbl
  replace bb1 := cK b bb1 bbl
  replace bbl := lK b bbl
  replace bc0 := cK b bc0 bcl
  replace bc1 := cK b bc1 bcl
  replace bc2 := cK b bc2 bcl
  replace bcl := lK b bcl
  replace bd0 := cK b bd0 bdl
  replace bd1 := cK b bd1 bdl
  replace bd2 := cK b bd2 bdl
  replace bdl := lK b bdl
  replace be0 := cK b be0 bel
  replace be1 := cK b be1 bel
  replace be2 := cK b be2 bel
  replace bel := lK b bel
  replace cc := bK cc b
  clear b
  go_wp2_with fail
  have bA := below_one w12 (.cells #[.bool bv, .slice Av nv cv, .slice Bv mv dv] 33)
  replace f0 := fK bA f0 gl
  replace f1 := fK bA f1 gl
  replace hx := hx.on bA
  replace zl := zl.on bA
  replace zh := zh.on bA
  replace rx := rx.on bA
  replace ry := ry.on bA
  replace ru := ru.on bA
  replace rv := rv.on bA
  replace k0 := cK bA k0 kl
  replace k1 := cK bA k1 kl
  replace k2 := cK bA k2 kl
  replace kl := lK bA kl
  replace g0 := cK bA g0 gl
  replace g1 := cK bA g1 gl
  replace gl := lK bA gl
  replace ba0 := cK bA ba0 bal
  replace ba1 := cK bA ba1 bal
  replace bal := lK bA bal
  replace bb0 := cK bA bb0 bbl
  replace bb1 := cK bA bb1 bbl
  replace bbl := lK bA bbl
  replace bc0 := cK bA bc0 bcl
  replace bc1 := cK bA bc1 bcl
  replace bc2 := cK bA bc2 bcl
  replace bcl := lK bA bcl
  replace bd0 := cK bA bd0 bdl
  replace bd1 := cK bA bd1 bdl
  replace bd2 := cK bA bd2 bdl
  replace bdl := lK bA bdl
  replace be0 := cK bA be0 bel
  replace be1 := cK bA be1 bel
  replace be2 := cK bA be2 bel
  replace bel := lK bA bel
  replace cc := bK cc bA
  clear bA
  have bf0 : (w12.alloc (.cells #[.bool bv, .slice Av nv cv, .slice Bv mv dv] 33)).cell? ⟨w12.heap.size, 0, none⟩ = some (.bool bv) := by simp [go_sem]
  have bf1 : (w12.alloc (.cells #[.bool bv, .slice Av nv cv, .slice Bv mv dv] 33)).cell? ⟨w12.heap.size, 1, none⟩ = some (.slice Av nv cv) := by simp [go_sem]
  have bf2 : (w12.alloc (.cells #[.bool bv, .slice Av nv cv, .slice Bv mv dv] 33)).cell? ⟨w12.heap.size, 2, none⟩ = some (.slice Bv mv dv) := by simp [go_sem]
  have bfl : w12.heap.size < (w12.alloc (.cells #[.bool bv, .slice Av nv cv, .slice Bv mv dv] 33)).heap.size := by simp
  generalize w12.alloc (.cells #[.bool bv, .slice Av nv cv, .slice Bv mv dv] 33) = v13 at *
  refine (rtcmp_v cn ru (su.le (by omega)) rv (sv.le (by omega)) HC.out).mono ?_
  rintro e w14 ⟨rfl, b⟩
  replace f0 := fK b f0 gl
  replace f1 := fK b f1 gl
  replace hx := hx.on b
  replace zl := zl.on b
  replace zh := zh.on b
  replace rx := rx.on b
  replace ry := ry.on b
  replace ru := ru.on b
  replace rv := rv.on b
  replace k0 := cK b k0 kl
  replace k1 := cK b k1 kl
  replace k2 := cK b k2 kl
  replace kl := lK b kl
  replace g0 := cK b g0 gl
  replace g1 := cK b g1 gl
  replace gl := lK b gl
  replace ba0 := cK b ba0 bal
  replace ba1 := cK b ba1 bal
  replace bal := lK b bal
  replace bb0 := cK b bb0 bbl
  replace bb1 := cK b bb1 bbl
  replace bbl := lK b bbl
  replace bc0 := cK b bc0 bcl
  replace bc1 := cK b bc1 bcl
  replace bc2 := cK b bc2 bcl
  replace bcl := lK b bcl
  replace bd0 := cK b bd0 bdl
  replace bd1 := cK b bd1 bdl
  replace bd2 := cK b bd2 bdl
  replace bdl := lK b bdl
  replace be0 := cK b be0 bel
  replace be1 := cK b be1 bel
  replace be2 := cK b be2 bel
  replace bel := lK b bel
  replace bf0 := cK b bf0 bfl
  replace bf1 := cK b bf1 bfl
  replace bf2 := cK b bf2 bfl
  replace bfl := lK b bfl
  replace cc := bK cc b
  clear b
  go_wp2_with fail
  refine (rodd_N false zl HO.out).mono ?_
  rintro e w15 ⟨rfl, b⟩
  replace f0 := fK b f0 gl
  replace f1 := fK b f1 gl
  replace hx := hx.on b
  replace zl := zl.on b
  replace zh := zh.on b
  replace rx := rx.on b
  replace ry := ry.on b
  replace ru := ru.on b
  replace rv := rv.on b
  replace k0 := cK b k0 kl
  replace k1 := cK b k1 kl
  replace k2 := cK b k2 kl
  replace kl := lK b kl
  replace g0 := cK b g0 gl
  replace g1 := cK b g1 gl
  replace gl := lK b gl
  replace ba0 := cK b ba0 bal
  replace ba1 := cK b ba1 bal
  replace bal := lK b bal
  replace bb0 := cK b bb0 bbl
  replace bb1 := cK b bb1 bbl
  replace bbl := lK b bbl
  replace bc0 := cK b bc0 bcl
  replace bc1 := cK b bc1 bcl
  replace bc2 := cK b bc2 bcl
  replace bcl := lK b bcl
  replace bd0 := cK b bd0 bdl
  replace bd1 := cK b bd1 bdl
  replace bd2 := cK b bd2 bdl
  replace bdl := lK b bdl
  replace be0 := cK b be0 bel
  replace be1 := cK b be1 bel
  replace be2 := cK b be2 bel
  replace bel := lK b bel
  replace bf0 := cK b bf0 bfl
  replace bf1 := cK b bf1 bfl
  replace bf2 := cK b bf2 bfl
  replace bfl := lK b bfl
  replace cc := bK cc b
  clear b
  have hn : Zn w15 bl Al nl cl (nea x0 j.toNat) := by rw [HN.out]; exact zl
  have eb : Box w15 (w.heap.size + 1) false none 0 0 := ⟨g0, g1⟩
  have HZ : Hid (Zn ((w15.setCell ⟨w.heap.size + 1, 0, none⟩ (.bool bl)).setCell ⟨w.heap.size + 1, 1, none⟩ (.slice Al nl cl)) bl Al nl cl (nea x0 j.toNat)) := Lib.hid (hn.put eb _ _)
  clear hn
  go_wp2_with fail
  refine bodyPost_ret (v := .tuple #[.agg #[.bool bl, .slice Al nl cl], .int .i64 0]) (by simp [results, Tryz.results42, go_sem, g0, g1]) rfl ⟨_, _, _, _, rfl, HZ.out, below_put cc (by omega) _ _⟩

set_option maxRecDepth 100000 in
set_option maxHeartbeats 8000000 in
theorem rnear_odd {w : World} {b0 : Bool} {A0 B0 : Option Addr} {n0 c0 m0 d0 : Nat} {x0 : Rat} (hx : Rt w b0 A0 n0 c0 B0 m0 d0 x0) (s0 : Sz x0 15) {j : Int} (h0 : 0 ≤ j) (h1 : j ≤ 500) (hc : cmpQ (x0 - bak (flo x0 j.toNat) j.toNat) (bak (cei x0 j.toNat) j.toNat - x0) = 0) (he : ¬ flo x0 j.toNat % 2 = 0) :
    Calls Tryz.prog 42 #[.agg #[.bool b0, .slice A0 n0 c0, .slice B0 m0 d0], .int .i64 j] w (GotZp w (nea x0 j.toNat) 0) := by
  have jl : j.toNat ≤ 500 := by omega
  have ll := flo_len s0 jl
  have lh := cei_len s0 jl
  have hn : nea x0 j.toNat = cei x0 j.toNat := by rw [nea_by]; rw [if_neg (fun h => h.elim (fun a => by omega) (fun a => he a.2))]
  have CF : ∀ {W : World} {b : Bool} {A B : Option Addr} {n c m d : Nat}, Rt W b A n c B m d x0 → Calls Tryz.prog 72 #[.agg #[.bool b, .slice A n c, .slice B m d], .int .i64 j] W (GotZp W (flo x0 j.toNat) 0) := fun hh => rfloor_N hh (s0.le (by omega)) h0 h1
  have CC : ∀ {W : World} {b : Bool} {A B : Option Addr} {n c m d : Nat}, Rt W b A n c B m d x0 → Calls Tryz.prog 73 #[.agg #[.bool b, .slice A n c, .slice B m d], .int .i64 j] W (GotZp W (cei x0 j.toNat) 0) := fun hh => rceil_N hh (s0.le (by omega)) h0 h1
  obtain ⟨lo, hlo⟩ : ∃ lo, flo x0 j.toNat = lo := ⟨_, rfl⟩
  obtain ⟨hi, hhi⟩ : ∃ hi, cei x0 j.toNat = hi := ⟨_, rfl⟩
  rw [hlo] at CF ll
  rw [hhi] at CC lh
  rw [hlo, hhi] at hc
  rw [hlo] at he
  rw [hhi] at hn
  have CB : ∀ {W : World} {z : Int} {b : Bool} {A : Option Addr} {n c : Nat}, Zn W b A n c z → (limbs z.natAbs).length ≤ 24 → Calls Tryz.prog 38 #[.agg #[.bool b, .slice A n c], .int .i64 j] W (GotRp W (bak z j.toNat) 0) := fun hh hl => rback_N hh (by omega) h0 h1
  have sl : Sz (bak lo j.toNat) 24 := bak_sz ll (by omega) jl
  have sh : Sz (bak hi j.toNat) 24 := bak_sz lh (by omega) jl
  obtain ⟨x, hxx⟩ : ∃ x, bak lo j.toNat = x := ⟨_, rfl⟩
  obtain ⟨y, hyy⟩ : ∃ y, bak hi j.toNat = y := ⟨_, rfl⟩
  have CX : ∀ {W : World} {b : Bool} {A : Option Addr} {n c : Nat}, Zn W b A n c lo → Calls Tryz.prog 38 #[.agg #[.bool b, .slice A n c], .int .i64 j] W (GotRp W x 0) := fun hh => by rw [← hxx]; exact CB hh ll
  have CY : ∀ {W : World} {b : Bool} {A : Option Addr} {n c : Nat}, Zn W b A n c hi → Calls Tryz.prog 38 #[.agg #[.bool b, .slice A n c], .int .i64 j] W (GotRp W y 0) := fun hh => by rw [← hyy]; exact CB hh lh
  rw [hxx] at sl
  rw [hyy] at sh
  rw [hxx, hyy] at hc
  skip
  obtain ⟨cn, hcn⟩ : ∃ cn, cmpQ (x0 - x) (y - x0) = cn := ⟨_, rfl⟩
  have HC := Lib.hid hcn
  rw [hcn] at hc
  skip
  have su := s0.sub sl
  have sv := sh.sub s0
  have HN := Lib.hid hn
  have t1 : decide (cn < 0) = false := decide_eq_false (by omega)
  have t2 : (cn == 0) = true := beq_iff_eq.2 hc
  have HO : Hid (decide (lo % 2 = 1) = true) := Lib.hid (decide_eq_true (by omega))
  clear CB hxx hyy hcn hlo hhi hn hc h0 h1 he
  have cc := Below.refl w.heap.size w
  go_enter Tryz.func42, Tryz.ntmps42
  go_wp2_with fail
  have f0 : ((w.alloc (.cells #[.bool b0, .slice A0 n0 c0, .slice B0 m0 d0] 33)).alloc (.cells #[.bool false, .slice none 0 0] 31)).frozen? ⟨w.heap.size + 1, 0, none⟩ = false := by simp [go_sem]
  have f1 : ((w.alloc (.cells #[.bool b0, .slice A0 n0 c0, .slice B0 m0 d0] 33)).alloc (.cells #[.bool false, .slice none 0 0] 31)).frozen? ⟨w.heap.size + 1, 1, none⟩ = false := by simp [go_sem]
  have bA : Below w.heap.size w ((w.alloc (.cells #[.bool b0, .slice A0 n0 c0, .slice B0 m0 d0] 33)).alloc (.cells #[.bool false, .slice none 0 0] 31)) := (((Below.refl _ w).alloc (by simp) _).alloc (by simp) _)
  replace hx := hx.on bA
  replace cc := bK cc bA
  clear bA
  have k0 : ((w.alloc (.cells #[.bool b0, .slice A0 n0 c0, .slice B0 m0 d0] 33)).alloc (.cells #[.bool false, .slice none 0 0] 31)).cell? ⟨w.heap.size, 0, none⟩ = some (.bool b0) := by simp [go_sem]
  have k1 : ((w.alloc (.cells #[.bool b0, .slice A0 n0 c0, .slice B0 m0 d0] 33)).alloc (.cells #[.bool false, .slice none 0 0] 31)).cell? ⟨w.heap.size, 1, none⟩ = some (.slice A0 n0 c0) := by simp [go_sem]
  have k2 : ((w.alloc (.cells #[.bool b0, .slice A0 n0 c0, .slice B0 m0 d0] 33)).alloc (.cells #[.bool false, .slice none 0 0] 31)).cell? ⟨w.heap.size, 2, none⟩ = some (.slice B0 m0 d0) := by simp [go_sem]
  have kl : w.heap.size < ((w.alloc (.cells #[.bool b0, .slice A0 n0 c0, .slice B0 m0 d0] 33)).alloc (.cells #[.bool false, .slice none 0 0] 31)).heap.size := by simp <;> omega
  have g0 : ((w.alloc (.cells #[.bool b0, .slice A0 n0 c0, .slice B0 m0 d0] 33)).alloc (.cells #[.bool false, .slice none 0 0] 31)).cell? ⟨w.heap.size + 1, 0, none⟩ = some (.bool false) := by simp [go_sem]
  have g1 : ((w.alloc (.cells #[.bool b0, .slice A0 n0 c0, .slice B0 m0 d0] 33)).alloc (.cells #[.bool false, .slice none 0 0] 31)).cell? ⟨w.heap.size + 1, 1, none⟩ = some (.slice none 0 0) := by simp [go_sem]
  have gl : w.heap.size + 1 < ((w.alloc (.cells #[.bool b0, .slice A0 n0 c0, .slice B0 m0 d0] 33)).alloc (.cells #[.bool false, .slice none 0 0] 31)).heap.size := by simp <;> omega
  generalize (w.alloc (.cells #[.bool b0, .slice A0 n0 c0, .slice B0 m0 d0] 33)).alloc (.cells #[.bool false, .slice none 0 0] 31) = v1 at *
  refine (CF hx).mono ?_
  rintro e w2 ⟨bl, Al, nl, cl, rfl, zl, b⟩
  replace f0 := fK b f0 gl
  replace f1 := fK b f1 gl
  replace hx := hx.on b
  replace k0 := cK b k0 kl
  replace k1 := cK b k1 kl
  replace k2 := cK b k2 kl
  replace kl := lK b kl
  replace g0 := cK b g0 gl
  replace g1 := cK b g1 gl
  replace gl := lK b gl
  replace cc := bK cc b
  clear b
  go_wp2_with fail
  have bA := below_one w2 (.cells #[.bool bl, .slice Al nl cl] 31)
  replace f0 := fK bA f0 gl
  replace f1 := fK bA f1 gl
  replace hx := hx.on bA
  replace zl := zl.on bA
  replace k0 := cK bA k0 kl
  replace k1 := cK bA k1 kl
  replace k2 := cK bA k2 kl
  replace kl := lK bA kl
  replace g0 := cK bA g0 gl
  replace g1 := cK bA g1 gl
  replace gl := lK bA gl
  replace cc := bK cc bA
  clear bA
  have ba0 : (w2.alloc (.cells #[.bool bl, .slice Al nl cl] 31)).cell? ⟨w2.heap.size, 0, none⟩ = some (.bool bl) := by simp [go_sem]
  have ba1 : (w2.alloc (.cells #[.bool bl, .slice Al nl cl] 31)).cell? ⟨w2.heap.size, 1, none⟩ = some (.slice Al nl cl) := by simp [go_sem]
  have bal : w2.heap.size < (w2.alloc (.cells #[.bool bl, .slice Al nl cl] 31)).heap.size := by simp
  generalize w2.alloc (.cells #[.bool bl, .slice Al nl cl] 31) = v3 at *
  refine (CC hx).mono ?_
  rintro e w4 ⟨bh, Ah, nh, ch, rfl, zh, b⟩
  replace f0 := fK b f0 gl
  replace f1 := fK b f1 gl
  replace hx := hx.on b
  replace zl := zl.on b
  replace k0 := cK b k0 kl
  replace k1 := cK b k1 kl
  replace k2 := cK b k2 kl
  replace kl := lK b kl
  replace g0 := cK b g0 gl
  replace g1 := cK b g1 gl
  replace gl := lK b gl
  replace ba0 := cK b ba0 bal
  replace ba1 := cK b ba1 bal
  replace bal := lK b bal
  replace cc := bK cc b
  clear b
  go_wp2_with fail
  have bA := below_one w4 (.cells #[.bool bh, .slice Ah nh ch] 31)
  replace f0 := fK bA f0 gl
  replace f1 := fK bA f1 gl
  replace hx := hx.on bA
  replace zl := zl.on bA
  replace zh := zh.on bA
  replace k0 := cK bA k0 kl
  replace k1 := cK bA k1 kl
  replace k2 := cK bA k2 kl
  replace kl := lK bA kl
  replace g0 := cK bA g0 gl
  replace g1 := cK bA g1 gl
  replace gl := lK bA gl
  replace ba0 := cK bA ba0 bal
  replace ba1 := cK bA ba1 bal
  replace bal := lK bA bal
  replace cc := bK cc bA
  clear bA
  have bb0 : (w4.alloc (.cells #[.bool bh, .slice Ah nh ch] 31)).cell? ⟨w4.heap.size, 0, none⟩ = some (.bool bh) := by simp [go_sem]
  have bb1 : (w4.alloc (.cells #[.bool bh, .slice Ah nh ch] 31)).cell? ⟨w4.heap.size, 1, none⟩ = some (.slice Ah nh ch) := by simp [go_sem]
  have bbl : w4.heap.size < (w4.alloc (.cells #[.bool bh, .slice Ah nh ch] 31)).heap.size := by simp
  generalize w4.alloc (.cells #[.bool bh, .slice Ah nh ch] 31) = v5 at *
  refine (CX zl).mono ?_
  rintro e w6 ⟨bx, Ax, nx, cx, Bx, mx, dx, rfl, rx, b⟩
  replace f0 := fK b f0 gl
  replace f1 := fK b f1 gl
  replace hx := hx.on b
  replace zl := zl.on b
  replace zh := zh.on b
  replace k0 := cK b k0 kl
  replace k1 := cK b k1 kl
  replace k2 := cK b k2 kl
  replace kl := lK b kl
  replace g0 := cK b g0 gl
  replace g1 := cK b g1 gl
  replace gl := lK b gl
  replace ba0 := cK b ba0 bal
  replace ba1 := cK b ba1 bal
  replace bal := lK b bal
  replace bb0 := cK b bb0 bbl
  replace bb1 := cK b bb1 bbl
  replace bbl := lK b bbl
  replace cc := bK cc b
  clear b
  go_wp2_with fail
  have bA := below_one w6 (.cells #[.bool bx, .slice Ax nx cx, .slice Bx mx dx] 33)
  replace f0 := fK bA f0 gl
  replace f1 := fK bA f1 gl
  replace hx := hx.on bA
  replace zl := zl.on bA
  replace zh := zh.on bA
  replace rx := rx.on bA
  replace k0 := cK bA k0 kl
  replace k1 := cK bA k1 kl
  replace k2 := cK bA k2 kl
  replace kl := lK bA kl
  replace g0 := cK bA g0 gl
  replace g1 := cK bA g1 gl
  replace gl := lK bA gl
  replace ba0 := cK bA ba0 bal
  replace ba1 := cK bA ba1 bal
  replace bal := lK bA bal
  replace bb0 := cK bA bb0 bbl
  replace bb1 := cK bA bb1 bbl
  replace bbl := lK bA bbl
  replace cc := bK cc bA
  clear bA
  have bc0 : (w6.alloc (.cells #[.bool bx, .slice Ax nx cx, .slice Bx mx dx] 33)).cell? ⟨w6.heap.size, 0, none⟩ = some (.bool bx) := by simp [go_sem]
  have bc1 : (w6.alloc (.cells #[.bool bx, .slice Ax nx cx, .slice Bx mx dx] 33)).cell? ⟨w6.heap.size, 1, none⟩ = some (.slice Ax nx cx) := by simp [go_sem]
  have bc2 : (w6.alloc (.cells #[.bool bx, .slice Ax nx cx, .slice Bx mx dx] 33)).cell? ⟨w6.heap.size, 2, none⟩ = some (.slice Bx mx dx) := by simp [go_sem]
  have bcl : w6.heap.size < (w6.alloc (.cells #[.bool bx, .slice Ax nx cx, .slice Bx mx dx] 33)).heap.size := by simp
  generalize w6.alloc (.cells #[.bool bx, .slice Ax nx cx, .slice Bx mx dx] 33) = v7 at *
  refine (CY zh).mono ?_
  rintro e w8 ⟨bY, Ay, ny, cy, By, my, dy, rfl, ry, b⟩
  replace f0 := fK b f0 gl
  replace f1 := fK b f1 gl
  replace hx := hx.on b
  replace zl := zl.on b
  replace zh := zh.on b
  replace rx := rx.on b
  replace k0 := cK b k0 kl
  replace k1 := cK b k1 kl
  replace k2 := cK b k2 kl
  replace kl := lK b kl
  replace g0 := cK b g0 gl
  replace g1 := cK b g1 gl
  replace gl := lK b gl
  replace ba0 := cK b ba0 bal
  replace ba1 := cK b ba1 bal
  replace bal := lK b bal
  replace bb0 := cK b bb0 bbl
  replace bb1 := cK b bb1 bbl
  replace bbl := lK b bbl
  replace bc0 := cK b bc0 bcl
  replace bc1 := cK b bc1 bcl
  replace bc2 := cK b bc2 bcl
  replace bcl := lK b bcl
  replace cc := bK cc b
  clear b
  go_wp2_with fail
  have bA := below_one w8 (.cells #[.bool bY, .slice Ay ny cy, .slice By my dy] 33)
  replace f0 := fK bA f0 gl
  replace f1 := fK bA f1 gl
  replace hx := hx.on bA
  replace zl := zl.on bA
  replace zh := zh.on bA
  replace rx := rx.on bA
  replace ry := ry.on bA
  replace k0 := cK bA k0 kl
  replace k1 := cK bA k1 kl
  replace k2 := cK bA k2 kl
  replace kl := lK bA kl
  replace g0 := cK bA g0 gl
  replace g1 := cK bA g1 gl
  replace gl := lK bA gl
  replace ba0 := cK bA ba0 bal
  replace ba1 := cK bA ba1 bal
  replace bal := lK bA bal
  replace bb0 := cK bA bb0 bbl
  replace bb1 := cK bA bb1 bbl
  replace bbl := lK bA bbl
  replace bc0 := cK bA bc0 bcl
  replace bc1 := cK bA bc1 bcl
  replace bc2 := cK bA bc2 bcl
  replace bcl := lK bA bcl
  replace cc := bK cc bA
  clear bA
  have bd0 : (w8.alloc (.cells #[.bool bY, .slice Ay ny cy, .slice By my dy] 33)).cell? ⟨w8.heap.size, 0, none⟩ = some (.bool bY) := by simp [go_sem]
  have bd1 : (w8.alloc (.cells #[.bool bY, .slice Ay ny cy, .slice By my dy] 33)).cell? ⟨w8.heap.size, 1, none⟩ = some (.slice Ay ny cy) := by simp [go_sem]
  have bd2 : (w8.alloc (.cells #[.bool bY, .slice Ay ny cy, .slice By my dy] 33)).cell? ⟨w8.heap.size, 2, none⟩ = some (.slice By my dy) := by simp [go_sem]
  have bdl : w8.heap.size < (w8.alloc (.cells #[.bool bY, .slice Ay ny cy, .slice By my dy] 33)).heap.size := by simp
  generalize w8.alloc (.cells #[.bool bY, .slice Ay ny cy, .slice By my dy] 33) = v9 at *
  refine (rtsub_N hx (s0.le (by omega)) rx (sl.le (by omega))).mono ?_
  rintro e w10 ⟨bu, Au, nu, cu, Bu, mu, du, rfl, ru, b⟩
  replace f0 := fK b f0 gl
  replace f1 := fK b f1 gl
  replace hx := hx.on b
  replace zl := zl.on b
  replace zh := zh.on b
  replace rx := rx.on b
  replace ry := ry.on b
  replace k0 := cK b k0 kl
  replace k1 := cK b k1 kl
  replace k2 := cK b k2 kl
  replace kl := lK b kl
  replace g0 := cK b g0 gl
  replace g1 := cK b g1 gl
  replace gl := lK b gl
  replace ba0 := cK b ba0 bal
  replace ba1 := cK b ba1 bal
  replace bal := lK b bal
  replace bb0 := cK b bb0 bbl
  replace bb1 := cK b bb1 bbl
  replace bbl := lK b bbl
  replace bc0 := cK b bc0 bcl
  replace bc1 := cK b bc1 bcl
  replace bc2 := cK b bc2 bcl
  replace bcl := lK b bcl
  replace bd0 := cK b bd0 bdl
  replace bd1 := cK b bd1 bdl
  replace bd2 := cK b bd2 bdl
  replace bdl := lK b bdl
  replace cc := bK cc b
  clear b
  go_wp2_with fail
  have bA := below_one w10 (.cells #[.bool bu, .slice Au nu cu, .slice Bu mu du] 33)
  replace f0 := fK bA f0 gl
  replace f1 := fK bA f1 gl
  replace hx := hx.on bA
  replace zl := zl.on bA
  replace zh := zh.on bA
  replace rx := rx.on bA
  replace ry := ry.on bA
  replace ru := ru.on bA
  replace k0 := cK bA k0 kl
  replace k1 := cK bA k1 kl
  replace k2 := cK bA k2 kl
  replace kl := lK bA kl
  replace g0 := cK bA g0 gl
  replace g1 := cK bA g1 gl
  replace gl := lK bA gl
  replace ba0 := cK bA ba0 bal
  replace ba1 := cK bA ba1 bal
  replace bal := lK bA bal
  replace bb0 := cK bA bb0 bbl
  replace bb1 := cK bA bb1 bbl
  replace bbl := lK bA bbl
  replace bc0 := cK bA bc0 bcl
  replace bc1 := cK bA bc1 bcl
  replace bc2 := cK bA bc2 bcl
  replace bcl := lK bA bcl
  replace bd0 := cK bA bd0 bdl
  replace bd1 := cK bA bd1 bdl
  replace bd2 := cK bA bd2 bdl
  replace bdl := lK bA bdl
  replace cc := bK cc bA
  clear bA
  have be0 : (w10.alloc (.cells #[.bool bu, .slice Au nu cu, .slice Bu mu du] 33)).cell? ⟨w10.heap.size, 0, none⟩ = some (.bool bu) := by simp [go_sem]
  have be1 : (w10.alloc (.cells #[.bool bu, .slice Au nu cu, .slice Bu mu du] 33)).cell? ⟨w10.heap.size, 1, none⟩ = some (.slice Au nu cu) := by simp [go_sem]
  have be2 : (w10.alloc (.cells #[.bool bu, .slice Au nu cu, .slice Bu mu du] 33)).cell? ⟨w10.heap.size, 2, none⟩ = some (.slice Bu mu du) := by simp [go_sem]
  have bel : w10.heap.size < (w10.alloc (.cells #[.bool bu, .slice Au nu cu, .slice Bu mu du] 33)).heap.size := by simp
  generalize w10.alloc (.cells #[.bool bu, .slice Au nu cu, .slice Bu mu du] 33) = v11 at *
  refine (rtsub_N ry (sh.le (by omega)) hx (s0.le (by omega))).mono ?_
  rintro e w12 ⟨bv, Av, nv, cv, Bv, mv, dv, rfl, rv, b⟩
  replace f0 := fK b f0 gl
  replace f1 := fK b f1 gl
  replace hx := hx.on b
  replace zl := zl.on b
  replace zh := zh.on b
  replace rx := rx.on b
  replace ry := ry.on b
  replace ru := ru.on b
  replace k0 := cK b k0 kl
  replace k1 := cK b k1 kl
  replace k2 := cK b k2 kl
  replace kl := lK b kl
  replace g0 := cK b g0 gl
  replace g1 := cK b g1 gl
  replace gl := lK b gl
  replace ba0 := cK b ba0 bal
  replace ba1 := cK b ba1 bal
  replace bal := lK b bal
  replace bb0 := cK b bb0 bbl
  replace bb1 := cK b bb1 bbl
  replace bbl := lK b bbl
  replace bc0 := cK b bc0 bcl
  replace bc1 := cK b bc1 bcl
  replace bc2 := cK b bc2 bcl
  replace bcl := lK b bcl
  replace bd0 := cK b bd0 bdl
  replace bd1 := cK b bd1 bdl
  replace bd2 := cK b bd2 bdl
  replace bdl := lK b bdl
  replace be0 := cK b be0 bel
  replace be1 := cK b be1 bel
  replace be2 := cK b be2 bel
  replace bel := lK b bel
  replace cc := bK cc b
  clear b
  go_wp2_with fail
  have bA := below_one w12 (.cells #[.bool bv, .slice Av nv cv, .slice Bv mv dv] 33)
  replace f0 := fK bA f0 gl
  replace f1 := fK bA f1 gl
  replace hx := hx.on bA
  replace zl := zl.on bA
  replace zh := zh.on bA
  replace rx := rx.on bA
  replace ry := ry.on bA
  replace ru := ru.on bA
  replace rv := rv.on bA
  replace k0 := cK bA k0 kl
  replace k1 := cK bA k1 kl
  replace k2 := cK bA k2 kl
  replace kl := lK bA kl
  replace g0 := cK bA g0 gl
  replace g1 := cK bA g1 gl
  replace gl := lK bA gl
  replace ba0 := cK bA ba0 bal
  replace ba1 := cK bA ba1 bal
  replace bal := lK bA bal
  replace bb0 := cK bA bb0 bbl
  replace bb1 := cK bA bb1 bbl
  replace bbl := lK bA bbl
  replace bc0 := cK bA bc0 bcl
  replace bc1 := cK bA bc1 bcl
  replace bc2 := cK bA bc2 bcl
  replace bcl := lK bA bcl
  replace bd0 := cK bA bd0 bdl
  replace bd1 := cK bA bd1 bdl
  replace bd2 := cK bA bd2 bdl
  replace bdl := lK bA bdl
  replace be0 := cK bA be0 bel
  replace be1 := cK bA be1 bel
  replace be2 := cK bA be2 bel
  replace bel := lK bA bel
  replace cc := bK cc bA
  clear bA
  have bf0 : (w12.alloc (.cells #[.bool bv, .slice Av nv cv, .slice Bv mv dv] 33)).cell? ⟨w12.heap.size, 0, none⟩ = some (.bool bv) := by simp [go_sem]
  have bf1 : (w12.alloc (.cells #[.bool bv, .slice Av nv cv, .slice Bv mv dv] 33)).cell? ⟨w12.heap.size, 1, none⟩ = some (.slice Av nv cv) := by simp [go_sem]
  have bf2 : (w12.alloc (.cells #[.bool bv, .slice Av nv cv, .slice Bv mv dv] 33)).cell? ⟨w12.heap.size, 2, none⟩ = some (.slice Bv mv dv) := by simp [go_sem]
  have bfl : w12.heap.size < (w12.alloc (.cells #[.bool bv, .slice Av nv cv, .slice Bv mv dv] 33)).heap.size := by simp
  generalize w12.alloc (.cells #[.bool bv, .slice Av nv cv, .slice Bv mv dv] 33) = v13 at *
  refine (rtcmp_v cn ru (su.le (by omega)) rv (sv.le (by omega)) HC.out).mono ?_
  rintro e w14 ⟨rfl, b⟩
  replace f0 := fK b f0 gl
  replace f1 := fK b f1 gl
  replace hx := hx.on b
  replace zl := zl.on b
  replace zh := zh.on b
  replace rx := rx.on b
  replace ry := ry.on b
  replace ru := ru.on b
  replace rv := rv.on b
  replace k0 := cK b k0 kl
  replace k1 := cK b k1 kl
  replace k2 := cK b k2 kl
  replace kl := lK b kl
  replace g0 := cK b g0 gl
  replace g1 := cK b g1 gl
  replace gl := lK b gl
  replace ba0 := cK b ba0 bal
  replace ba1 := cK b ba1 bal
  replace bal := lK b bal
  replace bb0 := cK b bb0 bbl
  replace bb1 := cK b bb1 bbl
  replace bbl := lK b bbl
  replace bc0 := cK b bc0 bcl
  replace bc1 := cK b bc1 bcl
  replace bc2 := cK b bc2 bcl
  replace bcl := lK b bcl
  replace bd0 := cK b bd0 bdl
  replace bd1 := cK b bd1 bdl
  replace bd2 := cK b bd2 bdl
  replace bdl := lK b bdl
  replace be0 := cK b be0 bel
  replace be1 := cK b be1 bel
  replace be2 := cK b be2 bel
  replace bel := lK b bel
  replace bf0 := cK b bf0 bfl
  replace bf1 := cK b bf1 bfl
  replace bf2 := cK b bf2 bfl
  replace bfl := lK b bfl
  replace cc := bK cc b
  clear b
  go_wp2_with fail
  refine (rodd_N true zl HO.out).mono ?_
  rintro e w15 ⟨rfl, b⟩
  replace f0 := fK b f0 gl
  replace f1 := fK b f1 gl
  replace hx := hx.on b
  replace zl := zl.on b
  replace zh := zh.on b
  replace rx := rx.on b
  replace ry := ry.on b
  replace ru := ru.on b
  replace rv := rv.on b
  replace k0 := cK b k0 kl
  replace k1 := cK b k1 kl
  replace k2 := cK b k2 kl
  replace kl := lK b kl
  replace g0 := cK b g0 gl
  replace g1 := cK b g1 gl
  replace gl := lK b gl
  replace ba0 := cK b ba0 bal
  replace ba1 := cK b ba1 bal
  replace bal := lK b bal
  replace bb0 := cK b bb0 bbl
  replace bb1 := cK b bb1 bbl
  replace bbl := lK b bbl
  replace bc0 := cK b bc0 bcl
  replace bc1 := cK b bc1 bcl
  replace bc2 := cK b bc2 bcl
  replace bcl := lK b bcl
  replace bd0 := cK b bd0 bdl
  replace bd1 := cK b bd1 bdl
  replace bd2 := cK b bd2 bdl
  replace bdl := lK b bdl
  replace be0 := cK b be0 bel
  replace be1 := cK b be1 bel
  replace be2 := cK b be2 bel
  replace bel := lK b bel
  replace bf0 := cK b bf0 bfl
  replace bf1 := cK b bf1 bfl
  replace bf2 := cK b bf2 bfl
  replace bfl := lK b bfl
  replace cc := bK cc b
  clear b
  have hn : Zn w15 bh Ah nh ch (nea x0 j.toNat) := by rw [HN.out]; exact zh
  have eb : Box w15 (w.heap.size + 1) false none 0 0 := ⟨g0, g1⟩
  have HZ : Hid (Zn ((w15.setCell ⟨w.heap.size + 1, 0, none⟩ (.bool bh)).setCell ⟨w.heap.size + 1, 1, none⟩ (.slice Ah nh ch)) bh Ah nh ch (nea x0 j.toNat)) := Lib.hid (hn.put eb _ _)
  clear hn
  go_wp2_with fail
  refine bodyPost_ret (v := .tuple #[.agg #[.bool bh, .slice Ah nh ch], .int .i64 0]) (by simp [results, Tryz.results42, go_sem, g0, g1]) rfl ⟨_, _, _, _, rfl, HZ.out, below_put cc (by omega) _ _⟩

set_option maxRecDepth 100000 in
set_option maxHeartbeats 8000000 in
theorem rnear_gt {w : World} {b0 : Bool} {A0 B0 : Option Addr} {n0 c0 m0 d0 : Nat} {x0 : Rat} (hx : Rt w b0 A0 n0 c0 B0 m0 d0 x0) (s0 : Sz x0 15) {j : Int} (h0 : 0 ≤ j) (h1 : j ≤ 500) (hc : ¬ cmpQ (x0 - bak (flo x0 j.toNat) j.toNat) (bak (cei x0 j.toNat) j.toNat - x0) < 0) (he : ¬ cmpQ (x0 - bak (flo x0 j.toNat) j.toNat) (bak (cei x0 j.toNat) j.toNat - x0) = 0) :
    Calls Tryz.prog 42 #[.agg #[.bool b0, .slice A0 n0 c0, .slice B0 m0 d0], .int .i64 j] w (GotZp w (nea x0 j.toNat) 0) := by
  have jl : j.toNat ≤ 500 := by omega
  have ll := flo_len s0 jl
  have lh := cei_len s0 jl
  have hn : nea x0 j.toNat = cei x0 j.toNat := by rw [nea_by]; rw [if_neg (fun h => h.elim (fun a => hc a) (fun a => he a.1))]
  have CF : ∀ {W : World} {b : Bool} {A B : Option Addr} {n c m d : Nat}, Rt W b A n c B m d x0 → Calls Tryz.prog 72 #[.agg #[.bool b, .slice A n c, .slice B m d], .int .i64 j] W (GotZp W (flo x0 j.toNat) 0) := fun hh => rfloor_N hh (s0.le (by omega)) h0 h1
  have CC : ∀ {W : World} {b : Bool} {A B : Option Addr} {n c m d : Nat}, Rt W b A n c B m d x0 → Calls Tryz.prog 73 #[.agg #[.bool b, .slice A n c, .slice B m d], .int .i64 j] W (GotZp W (cei x0 j.toNat) 0) := fun hh => rceil_N hh (s0.le (by omega)) h0 h1
  obtain ⟨lo, hlo⟩ : ∃ lo, flo x0 j.toNat = lo := ⟨_, rfl⟩
  obtain ⟨hi, hhi⟩ : ∃ hi, cei x0 j.toNat = hi := ⟨_, rfl⟩
  rw [hlo] at CF ll
  rw [hhi] at CC lh
  rw [hlo, hhi] at hc
  rw [hlo, hhi] at he
  rw [hhi] at hn
  have CB : ∀ {W : World} {z : Int} {b : Bool} {A : Option Addr} {n c : Nat}, Zn W b A n c z → (limbs z.natAbs).length ≤ 24 → Calls Tryz.prog 38 #[.agg #[.bool b, .slice A n c], .int .i64 j] W (GotRp W (bak z j.toNat) 0) := fun hh hl => rback_N hh (by omega) h0 h1
  have sl : Sz (bak lo j.toNat) 24 := bak_sz ll (by omega) jl
  have sh : Sz (bak hi j.toNat) 24 := bak_sz lh (by omega) jl
  obtain ⟨x, hxx⟩ : ∃ x, bak lo j.toNat = x := ⟨_, rfl⟩
  obtain ⟨y, hyy⟩ : ∃ y, bak hi j.toNat = y := ⟨_, rfl⟩
  have CX : ∀ {W : World} {b : Bool} {A : Option Addr} {n c : Nat}, Zn W b A n c lo → Calls Tryz.prog 38 #[.agg #[.bool b, .slice A n c], .int .i64 j] W (GotRp W x 0) := fun hh => by rw [← hxx]; exact CB hh ll
  have CY : ∀ {W : World} {b : Bool} {A : Option Addr} {n c : Nat}, Zn W b A n c hi → Calls Tryz.prog 38 #[.agg #[.bool b, .slice A n c], .int .i64 j] W (GotRp W y 0) := fun hh => by rw [← hyy]; exact CB hh lh
  rw [hxx] at sl
  rw [hyy] at sh
  rw [hxx, hyy] at hc
  rw [hxx, hyy] at he
  obtain ⟨cn, hcn⟩ : ∃ cn, cmpQ (x0 - x) (y - x0) = cn := ⟨_, rfl⟩
  have HC := Lib.hid hcn
  rw [hcn] at hc
  rw [hcn] at he
  have su := s0.sub sl
  have sv := sh.sub s0
  have HN := Lib.hid hn
  have t1 : decide (cn < 0) = false := decide_eq_false (by omega)
  have t2 : (cn == 0) = false := beq_eq_false_iff_ne.2 he
  clear CB hxx hyy hcn hlo hhi hn hc h0 h1 he
  have cc := Below.refl w.heap.size w
  go_enter Tryz.func42, Tryz.ntmps42
  go_wp2_with fail
  have f0 : ((w.alloc (.cells #[.bool b0, .slice A0 n0 c0, .slice B0 m0 d0] 33)).alloc (.cells #[.bool false, .slice none 0 0] 31)).frozen? ⟨w.heap.size + 1, 0, none⟩ = false := by simp [go_sem]
  have f1 : ((w.alloc (.cells #[.bool b0, .slice A0 n0 c0, .slice B0 m0 d0] 33)).alloc (.cells #[.bool false, .slice none 0 0] 31)).frozen? ⟨w.heap.size + 1, 1, none⟩ = false := by simp [go_sem]
  have bA : Below w.heap.size w ((w.alloc (.cells #[.bool b0, .slice A0 n0 c0, .slice B0 m0 d0] 33)).alloc (.cells #[.bool false, .slice none 0 0] 31)) := (((Below.refl _ w).alloc (by simp) _).alloc (by simp) _)
  replace hx := hx.on bA
  replace cc := bK cc bA
  clear bA
  have k0 : ((w.alloc (.cells #[.bool b0, .slice A0 n0 c0, .slice B0 m0 d0] 33)).alloc (.cells #[.bool false, .slice none 0 0] 31)).cell? ⟨w.heap.size, 0, none⟩ = some (.bool b0) := by simp [go_sem]
  have k1 : ((w.alloc (.cells #[.bool b0, .slice A0 n0 c0, .slice B0 m0 d0] 33)).alloc (.cells #[.bool false, .slice none 0 0] 31)).cell? ⟨w.heap.size, 1, none⟩ = some (.slice A0 n0 c0) := by simp [go_sem]
  have k2 : ((w.alloc (.cells #[.bool b0, .slice A0 n0 c0, .slice B0 m0 d0] 33)).alloc (.cells #[.bool false, .slice none 0 0] 31)).cell? ⟨w.heap.size, 2, none⟩ = some (.slice B0 m0 d0) := by simp [go_sem]
  have kl : w.heap.size < ((w.alloc (.cells #[.bool b0, .slice A0 n0 c0, .slice B0 m0 d0] 33)).alloc (.cells #[.bool false, .slice none 0 0] 31)).heap.size := by simp <;> omega
  have g0 : ((w.alloc (.cells #[.bool b0, .slice A0 n0 c0, .slice B0 m0 d0] 33)).alloc (.cells #[.bool false, .slice none 0 0] 31)).cell? ⟨w.heap.size + 1, 0, none⟩ = some (.bool false) := by simp [go_sem]
  have g1 : ((w.alloc (.cells #[.bool b0, .slice A0 n0 c0, .slice B0 m0 d0] 33)).alloc (.cells #[.bool false, .slice none 0 0] 31)).cell? ⟨w.heap.size + 1, 1, none⟩ = some (.slice none 0 0) := by simp [go_sem]
  have gl : w.heap.size + 1 < ((w.alloc (.cells #[.bool b0, .slice A0 n0 c0, .slice B0 m0 d0] 33)).alloc (.cells #[.bool false, .slice none 0 0] 31)).heap.size := by simp <;> omega
  generalize (w.alloc (.cells #[.bool b0, .slice A0 n0 c0, .slice B0 m0 d0] 33)).alloc (.cells #[.bool false, .slice none 0 0] 31) = v1 at *
  refine (CF hx).mono ?_
  rintro e w2 ⟨bl, Al, nl, cl, rfl, zl, b⟩
  replace f0 := fK b f0 gl
  replace f1 := fK b f1 gl
  replace hx := hx.on b
  replace k0 := cK b k0 kl
  replace k1 := cK b k1 kl
  replace k2 := cK b k2 kl
  replace kl := lK b kl
  replace g0 := cK b g0 gl
  replace g1 := cK b g1 gl
  replace gl := lK b gl
  replace cc := bK cc b
  clear b
  go_wp2_with fail
  have bA := below_one w2 (.cells #[.bool bl, .slice Al nl cl] 31)
  replace f0 := fK bA f0 gl
  replace f1 := fK bA f1 gl
  replace hx := hx.on bA
  replace zl := zl.on bA
  replace k0 := cK bA k0 kl
  replace k1 := cK bA k1 kl
  replace k2 := cK bA k2 kl
  replace kl := lK bA kl
  replace g0 := cK bA g0 gl
  replace g1 := cK bA g1 gl
  replace gl := lK bA gl
  replace cc := bK cc bA
  clear bA
  have ba0 : (w2.alloc (.cells #[.bool bl, .slice Al nl cl] 31)).cell? ⟨w2.heap.size, 0, none⟩ = some (.bool bl) := by simp [go_sem]
  have ba1 : (w2.alloc (.cells #[.bool bl, .slice Al nl cl] 31)).cell? ⟨w2.heap.size, 1, none⟩ = some (.slice Al nl cl) := by simp [go_sem]
  have bal : w2.heap.size < (w2.alloc (.cells #[.bool bl, .slice Al nl cl] 31)).heap.size := by simp
  generalize w2.alloc (.cells #[.bool bl, .slice Al nl cl] 31) = v3 at *
  refine (CC hx).mono ?_
  rintro e w4 ⟨bh, Ah, nh, ch, rfl, zh, b⟩
  replace f0 := fK b f0 gl
  replace f1 := fK b f1 gl
  replace hx := hx.on b
  replace zl := zl.on b
  replace k0 := cK b k0 kl
  replace k1 := cK b k1 kl
  replace k2 := cK b k2 kl
  replace kl := lK b kl
  replace g0 := cK b g0 gl
  replace g1 := cK b g1 gl
  replace gl := lK b gl
  replace ba0 := cK b ba0 bal
  replace ba1 := cK b ba1 bal
  replace bal := lK b bal
  replace cc := bK cc b
  clear b
  go_wp2_with fail
  have bA := below_one w4 (.cells #[.bool bh, .slice Ah nh ch] 31)
  replace f0 := fK bA f0 gl
  replace f1 := fK bA f1 gl
  replace hx := hx.on bA
  replace zl := zl.on bA
  replace zh := zh.on bA
  replace k0 := cK bA k0 kl
  replace k1 := cK bA k1 kl
  replace k2 := cK bA k2 kl
  replace kl := lK bA kl
  replace g0 := cK bA g0 gl
  replace g1 := cK bA g1 gl
  replace gl := lK bA gl
  replace ba0 := cK bA ba0 bal
  replace ba1 := cK bA ba1 bal
  replace bal := lK bA bal
  replace cc := bK cc bA
  clear bA
  have bb0 : (w4.alloc (.cells #[.bool bh, .slice Ah nh ch] 31)).cell? ⟨w4.heap.size, 0, none⟩ = some (.bool bh) := by simp [go_sem]
  have bb1 : (w4.alloc (.cells #[.bool bh, .slice Ah nh ch] 31)).cell? ⟨w4.heap.size, 1, none⟩ = some (.slice Ah nh ch) := by simp [go_sem]
  have bbl : w4.heap.size < (w4.alloc (.cells #[.bool bh, .slice Ah nh ch] 31)).heap.size := by simp
  generalize w4.alloc (.cells #[.bool bh, .slice Ah nh ch] 31) = v5 at *
  refine (CX zl).mono ?_
  rintro e w6 ⟨bx, Ax, nx, cx, Bx, mx, dx, rfl, rx, b⟩
  replace f0 := fK b f0 gl
  replace f1 := fK b f1 gl
  replace hx := hx.on b
  replace zl := zl.on b
  replace zh := zh.on b
  replace k0 := cK b k0 kl
  replace k1 := cK b k1 kl
  replace k2 := cK b k2 kl
  replace kl := lK b kl
  replace g0 := cK b g0 gl
  replace g1 := cK b g1 gl
  replace gl := lK b gl
  replace ba0 := cK b ba0 bal
  replace ba1 := cK b ba1 bal
  replace bal := lK b bal
  replace bb0 := cK b bb0 bbl
  replace bb1 := cK b bb1 bbl
  replace bbl := lK b bbl
  replace cc := bK cc b
  clear b
  go_wp2_with fail
  have bA := below_one w6 (.cells #[.bool bx, .slice Ax nx cx, .slice Bx mx dx] 33)
  replace f0 := fK bA f0 gl
  replace f1 := fK bA f1 gl
  replace hx := hx.on bA
  replace zl := zl.on bA
  replace zh := zh.on bA
  replace rx := rx.on bA
  replace k0 := cK bA k0 kl
  replace k1 := cK bA k1 kl
  replace k2 := cK bA k2 kl
  replace kl := lK bA kl
  replace g0 := cK bA g0 gl
  replace g1 := cK bA g1 gl
  replace gl := lK bA gl
  replace ba0 := cK bA ba0 bal
  replace ba1 := cK bA ba1 bal
  replace bal := lK bA bal
  replace bb0 := cK bA bb0 bbl
  replace bb1 := cK bA bb1 bbl
  replace bbl := lK bA bbl
  replace cc := bK cc bA
  clear bA
  have bc0 : (w6.alloc (.cells #[.bool bx, .slice Ax nx cx, .slice Bx mx dx] 33)).cell? ⟨w6.heap.size, 0, none⟩ = some (.bool bx) := by simp [go_sem]
  have bc1 : (w6.alloc (.cells #[.bool bx, .slice Ax nx cx, .slice Bx mx dx] 33)).cell? ⟨w6.heap.size, 1, none⟩ = some (.slice Ax nx cx) := by simp [go_sem]
  have bc2 : (w6.alloc (.cells #[.bool bx, .slice Ax nx cx, .slice Bx mx dx] 33)).cell? ⟨w6.heap.size, 2, none⟩ = some (.slice Bx mx dx) := by simp [go_sem]
  have bcl : w6.heap.size < (w6.alloc (.cells #[.bool bx, .slice Ax nx cx, .slice Bx mx dx] 33)).heap.size := by simp
  generalize w6.alloc (.cells #[.bool bx, .slice Ax nx cx, .slice Bx mx dx] 33) = v7 at *
  refine (CY zh).mono ?_
  rintro e w8 ⟨bY, Ay, ny, cy, By, my, dy, rfl, ry, b⟩
  replace f0 := fK b f0 gl
  replace f1 := fK b f1 gl
  replace hx := hx.on b
  replace zl := zl.on b
  replace zh := zh.on b
  replace rx := rx.on b
  replace k0 := cK b k0 kl
  replace k1 := cK b k1 kl
  replace k2 := cK b k2 kl
  replace kl := lK b kl
  replace g0 := cK b g0 gl
  replace g1 := cK b g1 gl
  replace gl := lK b gl
  replace ba0 := cK b ba0 bal
  replace ba1 := cK b ba1 bal
  replace bal := lK b bal
  replace bb0 := cK b bb0 bbl
  replace bb1 := cK b bb1 bbl
  replace bbl := lK b bbl
  replace bc0 := cK b bc0 bcl
  replace bc1 := cK b bc1 bcl
  replace bc2 := cK b bc2 bcl
  replace bcl := lK b bcl
  replace cc := bK cc b
  clear b
  go_wp2_with fail
  have bA := below_one w8 (.cells #[.bool bY, .slice Ay ny cy, .slice By my dy] 33)
  replace f0 := fK bA f0 gl
  replace f1 := fK bA f1 gl
  replace hx := hx.on bA
  replace zl := zl.on bA
  replace zh := zh.on bA
  replace rx := rx.on bA
  replace ry := ry.on bA
  replace k0 := cK bA k0 kl
  replace k1 := cK bA k1 kl
  replace k2 := cK bA k2 kl
  replace kl := lK bA kl
  replace g0 := cK bA g0 gl
  replace g1 := cK bA g1 gl
  replace gl := lK bA gl
  replace ba0 := cK bA ba0 bal
  replace ba1 := cK bA ba1 bal
  replace bal := lK bA bal
  replace bb0 := cK bA bb0 bbl
  replace bb1 := cK bA bb1 bbl
  replace bbl := lK bA bbl
  replace bc0 := cK bA bc0 bcl
  replace bc1 := cK bA bc1 bcl
  replace bc2 := cK bA bc2 bcl
  replace bcl := lK bA bcl
  replace cc := bK cc bA
  clear bA
  have bd0 : (w8.alloc (.cells #[.bool bY, .slice Ay ny cy, .slice By my dy] 33)).cell? ⟨w8.heap.size, 0, none⟩ = some (.bool bY) := by simp [go_sem]
  have bd1 : (w8.alloc (.cells #[.bool bY, .slice Ay ny cy, .slice By my dy] 33)).cell? ⟨w8.heap.size, 1, none⟩ = some (.slice Ay ny cy) := by simp [go_sem]
  have bd2 : (w8.alloc (.cells #[.bool bY, .slice Ay ny cy, .slice By my dy] 33)).cell? ⟨w8.heap.size, 2, none⟩ = some (.slice By my dy) := by simp [go_sem]
  have bdl : w8.heap.size < (w8.alloc (.cells #[.bool bY, .slice Ay ny cy, .slice By my dy] 33)).heap.size := by simp
  generalize w8.alloc (.cells #[.bool bY, .slice Ay ny cy, .slice By my dy] 33) = v9 at *
  refine (rtsub_N hx (s0.le (by omega)) rx (sl.le (by omega))).mono ?_
  rintro e w10 ⟨bu, Au, nu, cu, Bu, mu, du, rfl, ru, b⟩
  replace f0 := fK b f0 gl
  replace f1 := fK b f1 gl
  replace hx := hx.on b
  replace zl := zl.on b
  replace zh := zh.on b
  replace rx := rx.on b
  replace ry := ry.on b
  replace k0 := cK b k0 kl
  replace k1 := cK b k1 kl
  replace k2 := cK b k2 kl
  replace kl := lK b kl
  replace g0 := cK b g0 gl
  replace g1 := cK b g1 gl
  replace gl := lK b gl
  replace ba0 := cK b ba0 bal
  replace ba1 := cK b ba1 bal
  replace bal := lK b bal
  replace bb0 := cK b bb0 bbl
  replace bb1 := cK b bb1 bbl
  replace bbl := lK b bbl
  replace bc0 := cK b bc0 bcl
  replace bc1 := cK b bc1 bcl
  replace bc2 := cK b bc2 bcl
  replace bcl := lK b bcl
  replace bd0 := cK b bd0 bdl
  replace bd1 := cK b bd1 bdl
  replace bd2 := cK b bd2 bdl
  replace bdl := lK b bdl
  replace cc := bK cc b
  clear b
  go_wp2_with fail
  have bA := below_one w10 (.cells #[.bool bu, .slice Au nu cu, .slice Bu mu du] 33)
  replace f0 := fK bA f0 gl
  replace f1 := fK bA f1 gl
  replace hx := hx.on bA
  replace zl := zl.on bA
  replace zh := zh.on bA
  replace rx := rx.on bA
  replace ry := ry.on bA
  replace ru := ru.on bA
  replace k0 := cK bA k0 kl
  replace k1 := cK bA k1 kl
  replace k2 := cK bA k2 kl
  replace kl := lK bA kl
  replace g0 := cK bA g0 gl
  replace g1 := cK bA g1 gl
  replace gl := lK bA gl
  replace ba0 := cK bA ba0 bal
  replace ba1 := cK bA ba1 bal
  replace bal := lK bA bal
  replace bb0 := cK bA bb0 bbl
  replace bb1 := cK bA bb1 bbl
  replace bbl := lK bA bbl
  replace bc0 := cK bA bc0 bcl
  replace bc1 := cK bA bc1 bcl
  replace bc2 := cK bA bc2 bcl
  replace bcl := lK bA bcl
  replace bd0 := cK bA bd0 bdl
  replace bd1 := cK bA bd1 bdl
  replace bd2 := cK bA bd2 bdl
  replace bdl := lK bA bdl
  replace cc := bK cc bA
  clear bA
  have be0 : (w10.alloc (.cells #[.bool bu, .slice Au nu cu, .slice Bu mu du] 33)).cell? ⟨w10.heap.size, 0, none⟩ = some (.bool bu) := by simp [go_sem]
  have be1 : (w10.alloc (.cells #[.bool bu, .slice Au nu cu, .slice Bu mu du] 33)).cell? ⟨w10.heap.size, 1, none⟩ = some (.slice Au nu cu) := by simp [go_sem]
  have be2 : (w10.alloc (.cells #[.bool bu, .slice Au nu cu, .slice Bu mu du] 33)).cell? ⟨w10.heap.size, 2, none⟩ = some (.slice Bu mu du) := by simp [go_sem]
  have bel : w10.heap.size < (w10.alloc (.cells #[.bool bu, .slice Au nu cu, .slice Bu mu du] 33)).heap.size := by simp
  generalize w10.alloc (.cells #[.bool bu, .slice Au nu cu, .slice Bu mu du] 33) = v11 at *
  refine (rtsub_N ry (sh.le (by omega)) hx (s0.le (by omega))).mono ?_
  rintro e w12 ⟨bv, Av, nv, cv, Bv, mv, dv, rfl, rv, b⟩
  replace f0 := fK b f0 gl
  replace f1 := fK b f1 gl
  replace hx := hx.on b
  replace zl := zl.on b
  replace zh := zh.on b
  replace rx := rx.on b
  replace ry := ry.on b
  replace ru := ru.on b
  replace k0 := cK b k0 kl
  replace k1 := cK b k1 kl
  replace k2 := cK b k2 kl
  replace kl := lK b kl
  replace g0 := cK b g0 gl
  replace g1 := cK b g1 gl
  replace gl := lK b gl
  replace ba0 := cK b ba0 bal
  replace ba1 := cK b ba1 bal
  replace bal := lK b bal
  replace bb0 := cK b bb0 bbl
  replace bb1 := cK b bb1 bbl
  replace bbl := lK b bbl
  replace bc0 := cK b bc0 bcl
  replace bc1 := cK b bc1 bcl
  replace bc2 := cK b bc2 bcl
  replace bcl := lK b bcl
  replace bd0 := cK b bd0 bdl
  replace bd1 := cK b bd1 bdl
  replace bd2 := cK b bd2 bdl
  replace bdl := lK b bdl
  replace be0 := cK b be0 bel
  replace be1 := cK b be1 bel
  replace be2 := cK b be2 bel
  replace bel := lK b bel
  replace cc := bK cc b
  clear b
  go_wp2_with fail
  have bA := below_one w12 (.cells #[.bool bv, .slice Av nv cv, .slice Bv mv dv] 33)
  replace f0 := fK bA f0 gl
  replace f1 := fK bA f1 gl
  replace hx := hx.on bA
  replace zl := zl.on bA
  replace zh := zh.on bA
  replace rx := rx.on bA
  replace ry := ry.on bA
  replace ru := ru.on bA
  replace rv := rv.on bA
  replace k0 := cK bA k0 kl
  replace k1 := cK bA k1 kl
  replace k2 := cK bA k2 kl
  replace kl := lK bA kl
  replace g0 := cK bA g0 gl
  replace g1 := cK bA g1 gl
  replace gl := lK bA gl
  replace ba0 := cK bA ba0 bal
  replace ba1 := cK bA ba1 bal
  replace bal := lK bA bal
  replace bb0 := cK bA bb0 bbl
  replace bb1 := cK bA bb1 bbl
  replace bbl := lK bA bbl
  replace bc0 := cK bA bc0 bcl
  replace bc1 := cK bA bc1 bcl
  replace bc2 := cK bA bc2 bcl
  replace bcl := lK bA bcl
  replace bd0 := cK bA bd0 bdl
  replace bd1 := cK bA bd1 bdl
  replace bd2 := cK bA bd2 bdl
  replace bdl := lK bA bdl
  replace be0 := cK bA be0 bel
  replace be1 := cK bA be1 bel
  replace be2 := cK bA be2 bel
  replace bel := lK bA bel
  replace cc := bK cc bA
  clear bA
  have bf0 : (w12.alloc (.cells #[.bool bv, .slice Av nv cv, .slice Bv mv dv] 33)).cell? ⟨w12.heap.size, 0, none⟩ = some (.bool bv) := by simp [go_sem]
  have bf1 : (w12.alloc (.cells #[.bool bv, .slice Av nv cv, .slice Bv mv dv] 33)).cell? ⟨w12.heap.size, 1, none⟩ = some (.slice Av nv cv) := by simp [go_sem]
  have bf2 : (w12.alloc (.cells #[.bool bv, .slice Av nv cv, .slice Bv mv dv] 33)).cell? ⟨w12.heap.size, 2, none⟩ = some (.slice Bv mv dv) := by simp [go_sem]
  have bfl : w12.heap.size < (w12.alloc (.cells #[.bool bv, .slice Av nv cv, .slice Bv mv dv] 33)).heap.size := by simp
  generalize w12.alloc (.cells #[.bool bv, .slice Av nv cv, .slice Bv mv dv] 33) = v13 at *
  refine (rtcmp_v cn ru (su.le (by omega)) rv (sv.le (by omega)) HC.out).mono ?_
  rintro e w14 ⟨rfl, b⟩
  replace f0 := fK b f0 gl
  replace f1 := fK b f1 gl
  replace hx := hx.on b
  replace zl := zl.on b
  replace zh := zh.on b
  replace rx := rx.on b
  replace ry := ry.on b
  replace ru := ru.on b
  replace rv := rv.on b
  replace k0 := cK b k0 kl
  replace k1 := cK b k1 kl
  replace k2 := cK b k2 kl
  replace kl := lK b kl
  replace g0 := cK b g0 gl
  replace g1 := cK b g1 gl
  replace gl := lK b gl
  replace ba0 := cK b ba0 bal
  replace ba1 := cK b ba1 bal
  replace bal := lK b bal
  replace bb0 := cK b bb0 bbl
  replace bb1 := cK b bb1 bbl
  replace bbl := lK b bbl
  replace bc0 := cK b bc0 bcl
  replace bc1 := cK b bc1 bcl
  replace bc2 := cK b bc2 bcl
  replace bcl := lK b bcl
  replace bd0 := cK b bd0 bdl
  replace bd1 := cK b bd1 bdl
  replace bd2 := cK b bd2 bdl
  replace bdl := lK b bdl
  replace be0 := cK b be0 bel
  replace be1 := cK b be1 bel
  replace be2 := cK b be2 bel
  replace bel := lK b bel
  replace bf0 := cK b bf0 bfl
  replace bf1 := cK b bf1 bfl
  replace bf2 := cK b bf2 bfl
  replace bfl := lK b bfl
  replace cc := bK cc b
  clear b
  have hn : Zn w14 bh Ah nh ch (nea x0 j.toNat) := by rw [HN.out]; exact zh
  have eb : Box w14 (w.heap.size + 1) false none 0 0 := ⟨g0, g1⟩
  have HZ : Hid (Zn ((w14.setCell ⟨w.heap.size + 1, 0, none⟩ (.bool bh)).setCell ⟨w.heap.size + 1, 1, none⟩ (.slice Ah nh ch)) bh Ah nh ch (nea x0 j.toNat)) := Lib.hid (hn.put eb _ _)
  clear hn
  go_wp2_with fail
  refine bodyPost_ret (v := .tuple #[.agg #[.bool bh, .slice Ah nh ch], .int .i64 0]) (by simp [results, Tryz.results42, go_sem, g0, g1]) rfl ⟨_, _, _, _, rfl, HZ.out, below_put cc (by omega) _ _⟩

set_option maxRecDepth 100000 in
set_option maxHeartbeats 8000000 in
theorem rnear_N {w : World} {b0 : Bool} {A0 B0 : Option Addr} {n0 c0 m0 d0 : Nat} {x0 : Rat} (hx : Rt w b0 A0 n0 c0 B0 m0 d0 x0) (s0 : Sz x0 15) {j : Int} (h0 : 0 ≤ j) (h1 : j ≤ 500) :
    Calls Tryz.prog 42 #[.agg #[.bool b0, .slice A0 n0 c0, .slice B0 m0 d0], .int .i64 j] w (GotZp w (nea x0 j.toNat) 0) := by
  by_cases hc : cmpQ (x0 - bak (flo x0 j.toNat) j.toNat) (bak (cei x0 j.toNat) j.toNat - x0) < 0
  · exact rnear_lt hx s0 h0 h1 hc
  · by_cases he : cmpQ (x0 - bak (flo x0 j.toNat) j.toNat) (bak (cei x0 j.toNat) j.toNat - x0) = 0
    · by_cases h2 : flo x0 j.toNat % 2 = 0
      · exact rnear_even hx s0 h0 h1 he h2
      · exact rnear_odd hx s0 h0 h1 he h2
    · exact rnear_gt hx s0 h0 h1 hc he

set_option maxRecDepth 100000 in
set_option maxHeartbeats 8000000 in
theorem rnear_no {w : World} {b0 : Bool} {A0 B0 : Option Addr} {n0 c0 m0 d0 : Nat} {x0 : Rat} (hx : Rt w b0 A0 n0 c0 B0 m0 d0 x0) (s0 : Sz x0 15)  {j : Int} (h : j < 0 ∨ 2000 < j) :
    Calls Tryz.prog 42 #[.agg #[.bool b0, .slice A0 n0 c0, .slice B0 m0 d0], .int .i64 j] w (GotZp w 0 1) := by
  have cc := Below.refl w.heap.size w
  go_enter Tryz.func42, Tryz.ntmps42
  go_wp2_with fail
  have f0 : ((w.alloc (.cells #[.bool b0, .slice A0 n0 c0, .slice B0 m0 d0] 33)).alloc (.cells #[.bool false, .slice none 0 0] 31)).frozen? ⟨w.heap.size + 1, 0, none⟩ = false := by simp [go_sem]
  have f1 : ((w.alloc (.cells #[.bool b0, .slice A0 n0 c0, .slice B0 m0 d0] 33)).alloc (.cells #[.bool false, .slice none 0 0] 31)).frozen? ⟨w.heap.size + 1, 1, none⟩ = false := by simp [go_sem]
  have bA : Below w.heap.size w ((w.alloc (.cells #[.bool b0, .slice A0 n0 c0, .slice B0 m0 d0] 33)).alloc (.cells #[.bool false, .slice none 0 0] 31)) := (((Below.refl _ w).alloc (by simp) _).alloc (by simp) _)
  replace hx := hx.on bA
  replace cc := bK cc bA
  clear bA
  have k0 : ((w.alloc (.cells #[.bool b0, .slice A0 n0 c0, .slice B0 m0 d0] 33)).alloc (.cells #[.bool false, .slice none 0 0] 31)).cell? ⟨w.heap.size, 0, none⟩ = some (.bool b0) := by simp [go_sem]
  have k1 : ((w.alloc (.cells #[.bool b0, .slice A0 n0 c0, .slice B0 m0 d0] 33)).alloc (.cells #[.bool false, .slice none 0 0] 31)).cell? ⟨w.heap.size, 1, none⟩ = some (.slice A0 n0 c0) := by simp [go_sem]
  have k2 : ((w.alloc (.cells #[.bool b0, .slice A0 n0 c0, .slice B0 m0 d0] 33)).alloc (.cells #[.bool false, .slice none 0 0] 31)).cell? ⟨w.heap.size, 2, none⟩ = some (.slice B0 m0 d0) := by simp [go_sem]
  have kl : w.heap.size < ((w.alloc (.cells #[.bool b0, .slice A0 n0 c0, .slice B0 m0 d0] 33)).alloc (.cells #[.bool false, .slice none 0 0] 31)).heap.size := by simp <;> omega
  have g0 : ((w.alloc (.cells #[.bool b0, .slice A0 n0 c0, .slice B0 m0 d0] 33)).alloc (.cells #[.bool false, .slice none 0 0] 31)).cell? ⟨w.heap.size + 1, 0, none⟩ = some (.bool false) := by simp [go_sem]
  have g1 : ((w.alloc (.cells #[.bool b0, .slice A0 n0 c0, .slice B0 m0 d0] 33)).alloc (.cells #[.bool false, .slice none 0 0] 31)).cell? ⟨w.heap.size + 1, 1, none⟩ = some (.slice none 0 0) := by simp [go_sem]
  have gl : w.heap.size + 1 < ((w.alloc (.cells #[.bool b0, .slice A0 n0 c0, .slice B0 m0 d0] 33)).alloc (.cells #[.bool false, .slice none 0 0] 31)).heap.size := by simp <;> omega
  generalize (w.alloc (.cells #[.bool b0, .slice A0 n0 c0, .slice B0 m0 d0] 33)).alloc (.cells #[.bool false, .slice none 0 0] 31) = v1 at *
  refine (rfloor_no h).mono ?_
  rintro e w2 ⟨bl, Al, nl, cl, rfl, zl, b⟩
  replace f0 := fK b f0 gl
  replace f1 := fK b f1 gl
  replace hx := hx.on b
  replace k0 := cK b k0 kl
  replace k1 := cK b k1 kl
  replace k2 := cK b k2 kl
  replace kl := lK b kl
  replace g0 := cK b g0 gl
  replace g1 := cK b g1 gl
  replace gl := lK b gl
  replace cc := bK cc b
  clear b
  have eb : Box w2 (w.heap.size + 1) false none 0 0 := ⟨g0, g1⟩
  have HC := Lib.hid ((eb.put bl Al nl cl).alloc (.cells #[.bool bl, .slice Al nl cl] 31))
  have HZ := Lib.hid ((zl.put eb (.bool bl) (.slice Al nl cl)).alloc (.cells #[.bool bl, .slice Al nl cl] 31))
  have HB := Lib.hid ((below_put cc (show w.heap.size ≤ w.heap.size + 1 by omega) (.bool bl) (.slice Al nl cl)).alloc (by simp; omega) (.cells #[.bool bl, .slice Al nl cl] 31))
  go_wp2_with fail
  obtain ⟨e0, e1⟩ := HC.out
  refine bodyPost_ret (v := .tuple #[.agg #[.bool bl, .slice Al nl cl], .int .i64 1]) (by simp only [results, Tryz.results42]; simp [go_sem, e0, e1]) rfl ⟨_, _, _, _, rfl, HZ.out, HB.out⟩

end Go.Proofs.YtccigpnebejbiaaGreat

/-
  The contracts of the eighth reference: near, frac, Of, Rat.
-/
namespace Go.Proofs.YtccigpnebejbiaaGreat
set_option maxRecDepth 100000
open Go.RowKit
set_option linter.unusedVariables false
set_option linter.unusedSimpArgs false

/-- What is told of a whole number: itself, where 64 bits hold it; else 0 and ErrRange. -/
def nI (z : Int) : Int := if -9223372036854775808 ≤ z ∧ z ≤ 9223372036854775807 then z else 0
def nE (z : Int) : Int := if -9223372036854775808 ≤ z ∧ z ≤ 9223372036854775807 then 0 else 2
theorem nI_yes {z : Int} (h : I64 z) : nI z = z ∧ nE z = 0 := ⟨if_pos h, if_pos h⟩
theorem nI_no {z : Int} (h : ¬ I64 z) : nI z = 0 ∧ nE z = 2 := ⟨if_neg h, if_neg h⟩

set_option maxRecDepth 100000 in
set_option maxHeartbeats 8000000 in
theorem near_yes {w : World} {b0 : Bool} {A0 B0 : Option Addr} {n0 c0 m0 d0 : Nat} {x0 : Rat} (h0 : Rt w b0 A0 n0 c0 B0 m0 d0 x0) (s0 : Sz x0 15) {j : Int} (j0 : 0 ≤ j) (j1 : j ≤ 500) (hi : I64 (nea x0 j.toNat)) :
    Calls Tryz.prog 20 #[.agg #[.bool b0, .slice A0 n0 c0, .slice B0 m0 d0], .int .i64 j] w (GotV w (.tuple #[.int .i64 (nea x0 j.toNat), .int .i64 (0)])) := by
  have lz_ := nea_len s0 (show j.toNat ≤ 500 by omega)
  have cc := Below.refl w.heap.size w
  go_enter Tryz.func20, Tryz.ntmps20
  go_wp2_with fail
  have bA : Below w.heap.size w (w.alloc (.cells #[.bool b0, .slice A0 n0 c0, .slice B0 m0 d0] 33)) := ((Below.refl _ w).alloc (by simp) _)
  replace h0 := h0.on bA
  replace cc := bK cc bA
  clear bA
  have ka0 : (w.alloc (.cells #[.bool b0, .slice A0 n0 c0, .slice B0 m0 d0] 33)).cell? ⟨w.heap.size, 0, none⟩ = some (.bool b0) := by simp [go_sem]
  have ka1 : (w.alloc (.cells #[.bool b0, .slice A0 n0 c0, .slice B0 m0 d0] 33)).cell? ⟨w.heap.size, 1, none⟩ = some (.slice A0 n0 c0) := by simp [go_sem]
  have ka2 : (w.alloc (.cells #[.bool b0, .slice A0 n0 c0, .slice B0 m0 d0] 33)).cell? ⟨w.heap.size, 2, none⟩ = some (.slice B0 m0 d0) := by simp [go_sem]
  have kal : w.heap.size < (w.alloc (.cells #[.bool b0, .slice A0 n0 c0, .slice B0 m0 d0] 33)).heap.size := by simp <;> omega
  generalize w.alloc (.cells #[.bool b0, .slice A0 n0 c0, .slice B0 m0 d0] 33) = v1 at *
  refine (rnear_N h0 s0 j0 j1).mono ?_
  rintro e w2 ⟨bz, Az, nz, cz, rfl, hz, b⟩
  replace h0 := h0.on b
  replace ka0 := cK b ka0 kal
  replace ka1 := cK b ka1 kal
  replace ka2 := cK b ka2 kal
  replace kal := lK b kal
  replace cc := bK cc b
  clear b
  go_wp2_with fail
  have bA := below_one w2 (.cells #[.bool bz, .slice Az nz cz] 31)
  replace h0 := h0.on bA
  replace hz := hz.on bA
  replace ka0 := cK bA ka0 kal
  replace ka1 := cK bA ka1 kal
  replace ka2 := cK bA ka2 kal
  replace kal := lK bA kal
  replace cc := bK cc bA
  clear bA
  have zb0 : (w2.alloc (.cells #[.bool bz, .slice Az nz cz] 31)).cell? ⟨w2.heap.size, 0, none⟩ = some (.bool bz) := by simp [go_sem]
  have zb1 : (w2.alloc (.cells #[.bool bz, .slice Az nz cz] 31)).cell? ⟨w2.heap.size, 1, none⟩ = some (.slice Az nz cz) := by simp [go_sem]
  have zbl : w2.heap.size < (w2.alloc (.cells #[.bool bz, .slice Az nz cz] 31)).heap.size := by simp
  generalize w2.alloc (.cells #[.bool bz, .slice Az nz cz] 31) = v3 at *
  refine (rzint_yes hz hi).mono ?_
  rintro e w4 ⟨rfl, b⟩
  replace h0 := h0.on b
  replace hz := hz.on b
  replace ka0 := cK b ka0 kal
  replace ka1 := cK b ka1 kal
  replace ka2 := cK b ka2 kal
  replace kal := lK b kal
  replace zb0 := cK b zb0 zbl
  replace zb1 := cK b zb1 zbl
  replace zbl := lK b zbl
  replace cc := bK cc b
  clear b
  go_wp2_with fail
  go_ret2
  exact ⟨rfl, cc⟩

set_option maxRecDepth 100000 in
set_option maxHeartbeats 8000000 in
theorem near_no {w : World} {b0 : Bool} {A0 B0 : Option Addr} {n0 c0 m0 d0 : Nat} {x0 : Rat} (h0 : Rt w b0 A0 n0 c0 B0 m0 d0 x0) (s0 : Sz x0 15) {j : Int} (j0 : 0 ≤ j) (j1 : j ≤ 500) (hi : ¬ I64 (nea x0 j.toNat)) :
    Calls Tryz.prog 20 #[.agg #[.bool b0, .slice A0 n0 c0, .slice B0 m0 d0], .int .i64 j] w (GotV w (.tuple #[.int .i64 (0), .int .i64 (2)])) := by
  have lz_ := nea_len s0 (show j.toNat ≤ 500 by omega)
  have cc := Below.refl w.heap.size w
  go_enter Tryz.func20, Tryz.ntmps20
  go_wp2_with fail
  have bA : Below w.heap.size w (w.alloc (.cells #[.bool b0, .slice A0 n0 c0, .slice B0 m0 d0] 33)) := ((Below.refl _ w).alloc (by simp) _)
  replace h0 := h0.on bA
  replace cc := bK cc bA
  clear bA
  have ka0 : (w.alloc (.cells #[.bool b0, .slice A0 n0 c0, .slice B0 m0 d0] 33)).cell? ⟨w.heap.size, 0, none⟩ = some (.bool b0) := by simp [go_sem]
  have ka1 : (w.alloc (.cells #[.bool b0, .slice A0 n0 c0, .slice B0 m0 d0] 33)).cell? ⟨w.heap.size, 1, none⟩ = some (.slice A0 n0 c0) := by simp [go_sem]
  have ka2 : (w.alloc (.cells #[.bool b0, .slice A0 n0 c0, .slice B0 m0 d0] 33)).cell? ⟨w.heap.size, 2, none⟩ = some (.slice B0 m0 d0) := by simp [go_sem]
  have kal : w.heap.size < (w.alloc (.cells #[.bool b0, .slice A0 n0 c0, .slice B0 m0 d0] 33)).heap.size := by simp <;> omega
  generalize w.alloc (.cells #[.bool b0, .slice A0 n0 c0, .slice B0 m0 d0] 33) = v1 at *
  refine (rnear_N h0 s0 j0 j1).mono ?_
  rintro e w2 ⟨bz, Az, nz, cz, rfl, hz, b⟩
  replace h0 := h0.on b
  replace ka0 := cK b ka0 kal
  replace ka1 := cK b ka1 kal
  replace ka2 := cK b ka2 kal
  replace kal := lK b kal
  replace cc := bK cc b
  clear b
  go_wp2_with fail
  have bA := below_one w2 (.cells #[.bool bz, .slice Az nz cz] 31)
  replace h0 := h0.on bA
  replace hz := hz.on bA
  replace ka0 := cK bA ka0 kal
  replace ka1 := cK bA ka1 kal
  replace ka2 := cK bA ka2 kal
  replace kal := lK bA kal
  replace cc := bK cc bA
  clear bA
  have zb0 : (w2.alloc (.cells #[.bool bz, .slice Az nz cz] 31)).cell? ⟨w2.heap.size, 0, none⟩ = some (.bool bz) := by simp [go_sem]
  have zb1 : (w2.alloc (.cells #[.bool bz, .slice Az nz cz] 31)).cell? ⟨w2.heap.size, 1, none⟩ = some (.slice Az nz cz) := by simp [go_sem]
  have zbl : w2.heap.size < (w2.alloc (.cells #[.bool bz, .slice Az nz cz] 31)).heap.size := by simp
  generalize w2.alloc (.cells #[.bool bz, .slice Az nz cz] 31) = v3 at *
  refine (rzint_no hz (Nat.le_trans lz_ (by omega)) hi).mono ?_
  rintro e w4 ⟨rfl, b⟩
  replace h0 := h0.on b
  replace hz := hz.on b
  replace ka0 := cK b ka0 kal
  replace ka1 := cK b ka1 kal
  replace ka2 := cK b ka2 kal
  replace kal := lK b kal
  replace zb0 := cK b zb0 zbl
  replace zb1 := cK b zb1 zbl
  replace zbl := lK b zbl
  replace cc := bK cc b
  clear b
  go_wp2_with fail
  go_ret2
  exact ⟨rfl, cc⟩

set_option maxRecDepth 100000 in
set_option maxHeartbeats 8000000 in
theorem near_N {w : World} {b0 : Bool} {A0 B0 : Option Addr} {n0 c0 m0 d0 : Nat} {x0 : Rat} (h0 : Rt w b0 A0 n0 c0 B0 m0 d0 x0) (s0 : Sz x0 15) {j : Int} (j0 : 0 ≤ j) (j1 : j ≤ 500) :
    Calls Tryz.prog 20 #[.agg #[.bool b0, .slice A0 n0 c0, .slice B0 m0 d0], .int .i64 j] w (GotV w (.tuple #[.int .i64 (nI (nea x0 j.toNat)), .int .i64 (nE (nea x0 j.toNat))])) := by
  by_cases hi : I64 (nea x0 j.toNat)
  · rw [(nI_yes hi).1, (nI_yes hi).2]; exact near_yes h0 s0 j0 j1 hi
  · rw [(nI_no hi).1, (nI_no hi).2]; exact near_no h0 s0 j0 j1 hi

set_option maxRecDepth 100000 in
set_option maxHeartbeats 8000000 in
theorem frac_0 (w : World) {j : Int} (h : j < 0) :
    Calls Tryz.prog 29 #[.int .i64 j] w (GotV w (.bool false)) := by
  have t1 : decide (0 ≤ j) = false := decide_eq_false (by omega)
  go_enter Tryz.func29, Tryz.ntmps29
  go_wp2_with fail
  go_ret
  exact ⟨rfl, Below.refl _ _⟩

set_option maxRecDepth 100000 in
set_option maxHeartbeats 8000000 in
theorem frac_1 (w : World) {j : Int} (h0 : 0 ≤ j) (h1 : 40 < j) :
    Calls Tryz.prog 29 #[.int .i64 j] w (GotV w (.bool false)) := by
  have t1 : decide (0 ≤ j) = true := decide_eq_true h0
  have t2 : decide (j ≤ 40) = false := decide_eq_false (by omega)
  go_enter Tryz.func29, Tryz.ntmps29
  go_wp2_with fail
  go_ret
  exact ⟨rfl, Below.refl _ _⟩

set_option maxRecDepth 100000 in
set_option maxHeartbeats 8000000 in
theorem frac_2 (w : World) {j : Int} (h0 : 0 ≤ j) (h1 : j ≤ 40) :
    Calls Tryz.prog 29 #[.int .i64 j] w (GotV w (.bool true)) := by
  have t1 : decide (0 ≤ j) = true := decide_eq_true h0
  have t2 : decide (j ≤ 40) = true := decide_eq_true (by omega)
  go_enter Tryz.func29, Tryz.ntmps29
  go_wp2_with fail
  go_ret
  exact ⟨rfl, Below.refl _ _⟩

set_option maxRecDepth 100000 in
set_option maxHeartbeats 8000000 in
theorem frac_no (w : World) {j : Int} (h : j < 0 ∨ 40 < j) :
    Calls Tryz.prog 29 #[.int .i64 j] w (GotV w (.bool false)) := by
  by_cases h0 : 0 ≤ j
  · exact frac_1 w h0 (by omega)
  · exact frac_0 w (by omega)

set_option maxRecDepth 100000 in
set_option maxHeartbeats 8000000 in
theorem rof8_N {w : World} {b0 : Bool} {A0 B0 : Option Addr} {n0 c0 m0 d0 : Nat} {x0 : Rat} (h0 : Rt w b0 A0 n0 c0 B0 m0 d0 x0) (s0 : Sz x0 15) {j : Int} (j0 : 0 ≤ j) (j1 : j ≤ 40) :
    Calls Tryz.prog 16 #[.agg #[.bool b0, .slice A0 n0 c0, .slice B0 m0 d0], .int .i64 j] w (GotV w (.tuple #[.int .i64 (nI (nea x0 j.toNat)), .int .i64 (nE (nea x0 j.toNat))])) := by
  have cc := Below.refl w.heap.size w
  go_enter Tryz.func16, Tryz.ntmps16
  go_wp2_with fail
  have bA : Below w.heap.size w (w.alloc (.cells #[.bool b0, .slice A0 n0 c0, .slice B0 m0 d0] 33)) := ((Below.refl _ w).alloc (by simp) _)
  replace h0 := h0.on bA
  replace cc := bK cc bA
  clear bA
  have ka0 : (w.alloc (.cells #[.bool b0, .slice A0 n0 c0, .slice B0 m0 d0] 33)).cell? ⟨w.heap.size, 0, none⟩ = some (.bool b0) := by simp [go_sem]
  have ka1 : (w.alloc (.cells #[.bool b0, .slice A0 n0 c0, .slice B0 m0 d0] 33)).cell? ⟨w.heap.size, 1, none⟩ = some (.slice A0 n0 c0) := by simp [go_sem]
  have ka2 : (w.alloc (.cells #[.bool b0, .slice A0 n0 c0, .slice B0 m0 d0] 33)).cell? ⟨w.heap.size, 2, none⟩ = some (.slice B0 m0 d0) := by simp [go_sem]
  have kal : w.heap.size < (w.alloc (.cells #[.bool b0, .slice A0 n0 c0, .slice B0 m0 d0] 33)).heap.size := by simp <;> omega
  generalize w.alloc (.cells #[.bool b0, .slice A0 n0 c0, .slice B0 m0 d0] 33) = v1 at *
  refine (frac_2 _ j0 j1).mono ?_
  rintro e w2 ⟨rfl, b⟩
  replace h0 := h0.on b
  replace ka0 := cK b ka0 kal
  replace ka1 := cK b ka1 kal
  replace ka2 := cK b ka2 kal
  replace kal := lK b kal
  replace cc := bK cc b
  clear b
  go_wp2_with fail
  refine (near_N h0 s0 j0 (by omega)).mono ?_
  rintro e w3 ⟨rfl, b⟩
  replace h0 := h0.on b
  replace ka0 := cK b ka0 kal
  replace ka1 := cK b ka1 kal
  replace ka2 := cK b ka2 kal
  replace kal := lK b kal
  replace cc := bK cc b
  clear b
  go_wp2_with fail
  go_ret2
  exact ⟨rfl, cc⟩

set_option maxRecDepth 100000 in
set_option maxHeartbeats 8000000 in
theorem rof8_no {w : World} {b0 : Bool} {A0 B0 : Option Addr} {n0 c0 m0 d0 : Nat} {j : Int} (h : j < 0 ∨ 40 < j) :
    Calls Tryz.prog 16 #[.agg #[.bool b0, .slice A0 n0 c0, .slice B0 m0 d0], .int .i64 j] w (GotV w (.tuple #[.int .i64 (0), .int .i64 (1)])) := by
  have cc := Below.refl w.heap.size w
  go_enter Tryz.func16, Tryz.ntmps16
  go_wp2_with fail
  have bA : Below w.heap.size w (w.alloc (.cells #[.bool b0, .slice A0 n0 c0, .slice B0 m0 d0] 33)) := ((Below.refl _ w).alloc (by simp) _)
  replace cc := bK cc bA
  clear bA
  have ka0 : (w.alloc (.cells #[.bool b0, .slice A0 n0 c0, .slice B0 m0 d0] 33)).cell? ⟨w.heap.size, 0, none⟩ = some (.bool b0) := by simp [go_sem]
  have ka1 : (w.alloc (.cells #[.bool b0, .slice A0 n0 c0, .slice B0 m0 d0] 33)).cell? ⟨w.heap.size, 1, none⟩ = some (.slice A0 n0 c0) := by simp [go_sem]
  have ka2 : (w.alloc (.cells #[.bool b0, .slice A0 n0 c0, .slice B0 m0 d0] 33)).cell? ⟨w.heap.size, 2, none⟩ = some (.slice B0 m0 d0) := by simp [go_sem]
  have kal : w.heap.size < (w.alloc (.cells #[.bool b0, .slice A0 n0 c0, .slice B0 m0 d0] 33)).heap.size := by simp <;> omega
  generalize w.alloc (.cells #[.bool b0, .slice A0 n0 c0, .slice B0 m0 d0] 33) = v1 at *
  refine (frac_no _ h).mono ?_
  rintro e w2 ⟨rfl, b⟩
  replace ka0 := cK b ka0 kal
  replace ka1 := cK b ka1 kal
  replace ka2 := cK b ka2 kal
  replace kal := lK b kal
  replace cc := bK cc b
  clear b
  go_wp2_with fail
  go_ret2
  exact ⟨rfl, cc⟩

set_option maxRecDepth 100000 in
set_option maxHeartbeats 8000000 in
theorem rrat8_N {w : World} {a j : Int} (ha : I64 a) (j0 : 0 ≤ j) (j1 : j ≤ 40) :
    Calls Tryz.prog 18 #[.int .i64 a, .int .i64 j] w (GotRp w (bak a j.toNat) 0) := by
  have cc := Below.refl w.heap.size w
  go_enter Tryz.func18, Tryz.ntmps18
  go_wp2_with fail
  have f0 : (w.alloc (.cells #[.bool false, .slice none 0 0, .slice none 0 0] 33)).frozen? ⟨w.heap.size, 0, none⟩ = false := by simp [go_sem]
  have f1 : (w.alloc (.cells #[.bool false, .slice none 0 0, .slice none 0 0] 33)).frozen? ⟨w.heap.size, 1, none⟩ = false := by simp [go_sem]
  have f2 : (w.alloc (.cells #[.bool false, .slice none 0 0, .slice none 0 0] 33)).frozen? ⟨w.heap.size, 2, none⟩ = false := by simp [go_sem]
  have bA : Below w.heap.size w (w.alloc (.cells #[.bool false, .slice none 0 0, .slice none 0 0] 33)) := ((Below.refl _ w).alloc (by simp) _)
  replace cc := bK cc bA
  clear bA
  have g_0 : (w.alloc (.cells #[.bool false, .slice none 0 0, .slice none 0 0] 33)).cell? ⟨w.heap.size, 0, none⟩ = some (.bool false) := by simp [go_sem]
  have g_1 : (w.alloc (.cells #[.bool false, .slice none 0 0, .slice none 0 0] 33)).cell? ⟨w.heap.size, 1, none⟩ = some (.slice none 0 0) := by simp [go_sem]
  have g_2 : (w.alloc (.cells #[.bool false, .slice none 0 0, .slice none 0 0] 33)).cell? ⟨w.heap.size, 2, none⟩ = some (.slice none 0 0) := by simp [go_sem]
  have g_l : w.heap.size < (w.alloc (.cells #[.bool false, .slice none 0 0, .slice none 0 0] 33)).heap.size := by simp <;> omega
  generalize w.alloc (.cells #[.bool false, .slice none 0 0, .slice none 0 0] 33) = v1 at *
  refine (frac_2 _ j0 j1).mono ?_
  rintro e w2 ⟨rfl, b⟩
  replace f0 := fK b f0 g_l
  replace f1 := fK b f1 g_l
  replace f2 := fK b f2 g_l
  replace g_0 := cK b g_0 g_l
  replace g_1 := cK b g_1 g_l
  replace g_2 := cK b g_2 g_l
  replace g_l := lK b g_l
  replace cc := bK cc b
  clear b
  go_wp2_with fail
  refine (rzof_N _ a ha).mono ?_
  rintro e w3 ⟨bz, Az, nz, cz, rfl, hz, b⟩
  replace f0 := fK b f0 g_l
  replace f1 := fK b f1 g_l
  replace f2 := fK b f2 g_l
  replace g_0 := cK b g_0 g_l
  replace g_1 := cK b g_1 g_l
  replace g_2 := cK b g_2 g_l
  replace g_l := lK b g_l
  replace cc := bK cc b
  clear b
  go_wp2_with fail
  refine (rback_N hz (Nat.le_trans (len_one ha.abs) (by omega)) j0 (by omega)).mono ?_
  rintro e w4 ⟨bx, Ax, nx, cx, Bx, mx, dx, rfl, hx, b⟩
  replace f0 := fK b f0 g_l
  replace f1 := fK b f1 g_l
  replace f2 := fK b f2 g_l
  replace hz := hz.on b
  replace g_0 := cK b g_0 g_l
  replace g_1 := cK b g_1 g_l
  replace g_2 := cK b g_2 g_l
  replace g_l := lK b g_l
  replace cc := bK cc b
  clear b
  have hn : Rt w4 bx Ax nx cx Bx mx dx (bak a j.toNat) := hx
  have eb : BoxR w4 (w.heap.size) false none 0 0 none 0 0 := ⟨g_0, g_1, g_2⟩
  have HZ : Hid (Rt (putR w4 (w.heap.size) (.bool bx) (.slice Ax nx cx) (.slice Bx mx dx)) bx Ax nx cx Bx mx dx (bak a j.toNat)) := Lib.hid (Rt.putR hn eb _ _ _)
  clear hn
  go_wp2_with fail
  refine bodyPost_ret (v := .tuple #[.agg #[.bool bx, .slice Ax nx cx, .slice Bx mx dx], .int .i64 0]) (by simp [results, Tryz.results18, go_sem, g_0, g_1, g_2]) rfl ⟨_, _, _, _, _, _, _, rfl, HZ.out, below_putR cc (by omega) _ _ _⟩

set_option maxRecDepth 100000 in
set_option maxHeartbeats 8000000 in
theorem rrat8_no {w : World} {a j : Int} (h : j < 0 ∨ 40 < j) :
    Calls Tryz.prog 18 #[.int .i64 a, .int .i64 j] w (GotV w (.tuple #[.agg #[.bool false, .slice none 0 0, .slice none 0 0], .int .i64 1])) := by
  have cc := Below.refl w.heap.size w
  go_enter Tryz.func18, Tryz.ntmps18
  go_wp2_with fail
  have f0 : (w.alloc (.cells #[.bool false, .slice none 0 0, .slice none 0 0] 33)).frozen? ⟨w.heap.size, 0, none⟩ = false := by simp [go_sem]
  have f1 : (w.alloc (.cells #[.bool false, .slice none 0 0, .slice none 0 0] 33)).frozen? ⟨w.heap.size, 1, none⟩ = false := by simp [go_sem]
  have f2 : (w.alloc (.cells #[.bool false, .slice none 0 0, .slice none 0 0] 33)).frozen? ⟨w.heap.size, 2, none⟩ = false := by simp [go_sem]
  have bA : Below w.heap.size w (w.alloc (.cells #[.bool false, .slice none 0 0, .slice none 0 0] 33)) := ((Below.refl _ w).alloc (by simp) _)
  replace cc := bK cc bA
  clear bA
  have g_0 : (w.alloc (.cells #[.bool false, .slice none 0 0, .slice none 0 0] 33)).cell? ⟨w.heap.size, 0, none⟩ = some (.bool false) := by simp [go_sem]
  have g_1 : (w.alloc (.cells #[.bool false, .slice none 0 0, .slice none 0 0] 33)).cell? ⟨w.heap.size, 1, none⟩ = some (.slice none 0 0) := by simp [go_sem]
  have g_2 : (w.alloc (.cells #[.bool false, .slice none 0 0, .slice none 0 0] 33)).cell? ⟨w.heap.size, 2, none⟩ = some (.slice none 0 0) := by simp [go_sem]
  have g_l : w.heap.size < (w.alloc (.cells #[.bool false, .slice none 0 0, .slice none 0 0] 33)).heap.size := by simp <;> omega
  generalize w.alloc (.cells #[.bool false, .slice none 0 0, .slice none 0 0] 33) = v1 at *
  refine (frac_no _ h).mono ?_
  rintro e w2 ⟨rfl, b⟩
  replace f0 := fK b f0 g_l
  replace f1 := fK b f1 g_l
  replace f2 := fK b f2 g_l
  replace g_0 := cK b g_0 g_l
  replace g_1 := cK b g_1 g_l
  replace g_2 := cK b g_2 g_l
  replace g_l := lK b g_l
  replace cc := bK cc b
  clear b
  go_wp2_with fail
  exact bodyPost_ret (v := .tuple #[.agg #[.bool false, .slice none 0 0, .slice none 0 0], .int .i64 1]) (by simp [results, Tryz.results18, go_sem, g_0, g_1, g_2]) rfl ⟨rfl, below_putR cc (by omega) _ _ _⟩

end Go.Proofs.YtccigpnebejbiaaGreat
