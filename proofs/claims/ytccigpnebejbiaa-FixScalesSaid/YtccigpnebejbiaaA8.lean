/-
  Several texts in one: F8, K8, V1.
-/
import Derived.Test.YtccigpnebejbiaaA7
import Derived.Test.YtccigpnebejbiaaA3
import Derived.Test.YtccigpnebejbiaaA5

/-
  The contracts of the sixth reference: Near.
-/
namespace Go.Proofs.Ytccigpnebejbiaa
set_option maxRecDepth 100000
open Go.RowKit
set_option linter.unusedVariables false
set_option linter.unusedSimpArgs false

set_option maxRecDepth 100000 in
set_option maxHeartbeats 8000000 in
theorem rnear_lt {w : World} {b0 : Bool} {A0 B0 : Option Addr} {n0 c0 m0 d0 : Nat} {x0 : Rat} (hx : Rt w b0 A0 n0 c0 B0 m0 d0 x0) (s0 : Sz x0 15) {j : Int} (h0 : 0 ≤ j) (h1 : j ≤ 500) (hc : cmpQ (x0 - bak (flo x0 j.toNat) j.toNat) (bak (cei x0 j.toNat) j.toNat - x0) < 0) :
    Calls Try.prog 49 #[.agg #[.bool b0, .slice A0 n0 c0, .slice B0 m0 d0], .int .i64 j] w (GotZp w (nea x0 j.toNat) 0) := by
  have jl : j.toNat ≤ 500 := by omega
  have ll := flo_len s0 jl
  have lh := cei_len s0 jl
  have hn : nea x0 j.toNat = flo x0 j.toNat := by rw [nea_by]; rw [if_pos (.inl hc)]
  have CF : ∀ {W : World} {b : Bool} {A B : Option Addr} {n c m d : Nat}, Rt W b A n c B m d x0 → Calls Try.prog 72 #[.agg #[.bool b, .slice A n c, .slice B m d], .int .i64 j] W (GotZp W (flo x0 j.toNat) 0) := fun hh => rfloor_N hh (s0.le (by omega)) h0 h1
  have CC : ∀ {W : World} {b : Bool} {A B : Option Addr} {n c m d : Nat}, Rt W b A n c B m d x0 → Calls Try.prog 73 #[.agg #[.bool b, .slice A n c, .slice B m d], .int .i64 j] W (GotZp W (cei x0 j.toNat) 0) := fun hh => rceil_N hh (s0.le (by omega)) h0 h1
  obtain ⟨lo, hlo⟩ : ∃ lo, flo x0 j.toNat = lo := ⟨_, rfl⟩
  obtain ⟨hi, hhi⟩ : ∃ hi, cei x0 j.toNat = hi := ⟨_, rfl⟩
  rw [hlo] at CF ll
  rw [hhi] at CC lh
  rw [hlo, hhi] at hc
  skip
  rw [hlo] at hn
  have CB : ∀ {W : World} {z : Int} {b : Bool} {A : Option Addr} {n c : Nat}, Zn W b A n c z → (limbs z.natAbs).length ≤ 24 → Calls Try.prog 15 #[.agg #[.bool b, .slice A n c], .int .i64 j] W (GotRp W (bak z j.toNat) 0) := fun hh hl => rback_N hh (by omega) h0 h1
  have sl : Sz (bak lo j.toNat) 24 := bak_sz ll (by omega) jl
  have sh : Sz (bak hi j.toNat) 24 := bak_sz lh (by omega) jl
  obtain ⟨x, hxx⟩ : ∃ x, bak lo j.toNat = x := ⟨_, rfl⟩
  obtain ⟨y, hyy⟩ : ∃ y, bak hi j.toNat = y := ⟨_, rfl⟩
  have CX : ∀ {W : World} {b : Bool} {A : Option Addr} {n c : Nat}, Zn W b A n c lo → Calls Try.prog 15 #[.agg #[.bool b, .slice A n c], .int .i64 j] W (GotRp W x 0) := fun hh => by rw [← hxx]; exact CB hh ll
  have CY : ∀ {W : World} {b : Bool} {A : Option Addr} {n c : Nat}, Zn W b A n c hi → Calls Try.prog 15 #[.agg #[.bool b, .slice A n c], .int .i64 j] W (GotRp W y 0) := fun hh => by rw [← hyy]; exact CB hh lh
  rw [hxx] at sl
  rw [hyy] at sh
  rw [hxx, hyy] at hc
  skip
  obtain ⟨cn, hcn⟩ : ∃ cn, cmpQ (x0 - x) (y - x0) = cn := ⟨_, rfl⟩
  have HC := Lib.hid hcn
  rw [hcn] at hc
  skip
  have su := s0.sub sl
  have sv := sh.sub s0
  have HN := Lib.hid hn
  have t1 : decide (cn < 0) = true := decide_eq_true hc
  clear CB hxx hyy hcn hlo hhi hn hc h0 h1
  have cc := Below.refl w.heap.size w
  go_enter Try.func49, Try.ntmps49
  go_wp2_with fail
  have f0 : ((w.alloc (.cells #[.bool b0, .slice A0 n0 c0, .slice B0 m0 d0] 35)).alloc (.cells #[.bool false, .slice none 0 0] 33)).frozen? ⟨w.heap.size + 1, 0, none⟩ = false := by simp [go_sem]
  have f1 : ((w.alloc (.cells #[.bool b0, .slice A0 n0 c0, .slice B0 m0 d0] 35)).alloc (.cells #[.bool false, .slice none 0 0] 33)).frozen? ⟨w.heap.size + 1, 1, none⟩ = false := by simp [go_sem]
  have bA : Below w.heap.size w ((w.alloc (.cells #[.bool b0, .slice A0 n0 c0, .slice B0 m0 d0] 35)).alloc (.cells #[.bool false, .slice none 0 0] 33)) := (((Below.refl _ w).alloc (by simp) _).alloc (by simp) _)
  replace hx := hx.on bA
  replace cc := bK cc bA
  clear bA
  have k0 : ((w.alloc (.cells #[.bool b0, .slice A0 n0 c0, .slice B0 m0 d0] 35)).alloc (.cells #[.bool false, .slice none 0 0] 33)).cell? ⟨w.heap.size, 0, none⟩ = some (.bool b0) := by simp [go_sem]
  have k1 : ((w.alloc (.cells #[.bool b0, .slice A0 n0 c0, .slice B0 m0 d0] 35)).alloc (.cells #[.bool false, .slice none 0 0] 33)).cell? ⟨w.heap.size, 1, none⟩ = some (.slice A0 n0 c0) := by simp [go_sem]
  have k2 : ((w.alloc (.cells #[.bool b0, .slice A0 n0 c0, .slice B0 m0 d0] 35)).alloc (.cells #[.bool false, .slice none 0 0] 33)).cell? ⟨w.heap.size, 2, none⟩ = some (.slice B0 m0 d0) := by simp [go_sem]
  have kl : w.heap.size < ((w.alloc (.cells #[.bool b0, .slice A0 n0 c0, .slice B0 m0 d0] 35)).alloc (.cells #[.bool false, .slice none 0 0] 33)).heap.size := by simp <;> omega
  have g0 : ((w.alloc (.cells #[.bool b0, .slice A0 n0 c0, .slice B0 m0 d0] 35)).alloc (.cells #[.bool false, .slice none 0 0] 33)).cell? ⟨w.heap.size + 1, 0, none⟩ = some (.bool false) := by simp [go_sem]
  have g1 : ((w.alloc (.cells #[.bool b0, .slice A0 n0 c0, .slice B0 m0 d0] 35)).alloc (.cells #[.bool false, .slice none 0 0] 33)).cell? ⟨w.heap.size + 1, 1, none⟩ = some (.slice none 0 0) := by simp [go_sem]
  have gl : w.heap.size + 1 < ((w.alloc (.cells #[.bool b0, .slice A0 n0 c0, .slice B0 m0 d0] 35)).alloc (.cells #[.bool false, .slice none 0 0] 33)).heap.size := by simp <;> omega
  generalize (w.alloc (.cells #[.bool b0, .slice A0 n0 c0, .slice B0 m0 d0] 35)).alloc (.cells #[.bool false, .slice none 0 0] 33) = v1 at *
  refine (CF hx).mono ?_
  rintro e w2 ⟨bl, Al, nl, cl, rfl, zl, b⟩
  replace f0 := fK b f0 gl
  replace f1 := fK b f1 gl
  replace hx := hx.on b
  replace k0 := cK b k0 kl
  replace k1 := cK b k1 kl
  replace k2 := cK b k2 kl
  replace kl := lK b kl
  replace g0 := cK b g0 gl
  replace g1 := cK b g1 gl
  replace gl := lK b gl
  replace cc := bK cc b
  clear b
  go_wp2_with fail
  have bA := below_one w2 (.cells #[.bool bl, .slice Al nl cl] 33)
  replace f0 := fK bA f0 gl
  replace f1 := fK bA f1 gl
  replace hx := hx.on bA
  replace zl := zl.on bA
  replace k0 := cK bA k0 kl
  replace k1 := cK bA k1 kl
  replace k2 := cK bA k2 kl
  replace kl := lK bA kl
  replace g0 := cK bA g0 gl
  replace g1 := cK bA g1 gl
  replace gl := lK bA gl
  replace cc := bK cc bA
  clear bA
  have ba0 : (w2.alloc (.cells #[.bool bl, .slice Al nl cl] 33)).cell? ⟨w2.heap.size, 0, none⟩ = some (.bool bl) := by simp [go_sem]
  have ba1 : (w2.alloc (.cells #[.bool bl, .slice Al nl cl] 33)).cell? ⟨w2.heap.size, 1, none⟩ = some (.slice Al nl cl) := by simp [go_sem]
  have bal : w2.heap.size < (w2.alloc (.cells #[.bool bl, .slice Al nl cl] 33)).heap.size := by simp
  generalize w2.alloc (.cells #[.bool bl, .slice Al nl cl] 33) = v3 at *
  refine (CC hx).mono ?_
  rintro e w4 ⟨bh, Ah, nh, ch, rfl, zh, b⟩
  replace f0 := fK b f0 gl
  replace f1 := fK b f1 gl
  replace hx := hx.on b
  replace zl := zl.on b
  replace k0 := cK b k0 kl
  replace k1 := cK b k1 kl
  replace k2 := cK b k2 kl
  replace kl := lK b kl
  replace g0 := cK b g0 gl
  replace g1 := cK b g1 gl
  replace gl := lK b gl
  replace ba0 := cK b ba0 bal
  replace ba1 := cK b ba1 bal
  replace bal := lK b bal
  replace cc := bK cc b
  clear b
  go_wp2_with fail
  have bA := below_one w4 (.cells #[.bool bh, .slice Ah nh ch] 33)
  replace f0 := fK bA f0 gl
  replace f1 := fK bA f1 gl
  replace hx := hx.on bA
  replace zl := zl.on bA
  replace zh := zh.on bA
  replace k0 := cK bA k0 kl
  replace k1 := cK bA k1 kl
  replace k2 := cK bA k2 kl
  replace kl := lK bA kl
  replace g0 := cK bA g0 gl
  replace g1 := cK bA g1 gl
  replace gl := lK bA gl
  replace ba0 := cK bA ba0 bal
  replace ba1 := cK bA ba1 bal
  replace bal := lK bA bal
  replace cc := bK cc bA
  clear bA
  have bb0 : (w4.alloc (.cells #[.bool bh, .slice Ah nh ch] 33)).cell? ⟨w4.heap.size, 0, none⟩ = some (.bool bh) := by simp [go_sem]
  have bb1 : (w4.alloc (.cells #[.bool bh, .slice Ah nh ch] 33)).cell? ⟨w4.heap.size, 1, none⟩ = some (.slice Ah nh ch) := by simp [go_sem]
  have bbl : w4.heap.size < (w4.alloc (.cells #[.bool bh, .slice Ah nh ch] 33)).heap.size := by simp
  generalize w4.alloc (.cells #[.bool bh, .slice Ah nh ch] 33) = v5 at *
  refine (CX zl).mono ?_
  rintro e w6 ⟨bx, Ax, nx, cx, Bx, mx, dx, rfl, rx, b⟩
  replace f0 := fK b f0 gl
  replace f1 := fK b f1 gl
  replace hx := hx.on b
  replace zl := zl.on b
  replace zh := zh.on b
  replace k0 := cK b k0 kl
  replace k1 := cK b k1 kl
  replace k2 := cK b k2 kl
  replace kl := lK b kl
  replace g0 := cK b g0 gl
  replace g1 := cK b g1 gl
  replace gl := lK b gl
  replace ba0 := cK b ba0 bal
  replace ba1 := cK b ba1 bal
  replace bal := lK b bal
  replace bb0 := cK b bb0 bbl
  replace bb1 := cK b bb1 bbl
  replace bbl := lK b bbl
  replace cc := bK cc b
  clear b
  go_wp2_with fail
  have bA := below_one w6 (.cells #[.bool bx, .slice Ax nx cx, .slice Bx mx dx] 35)
  replace f0 := fK bA f0 gl
  replace f1 := fK bA f1 gl
  replace hx := hx.on bA
  replace zl := zl.on bA
  replace zh := zh.on bA
  replace rx := rx.on bA
  replace k0 := cK bA k0 kl
  replace k1 := cK bA k1 kl
  replace k2 := cK bA k2 kl
  replace kl := lK bA kl
  replace g0 := cK bA g0 gl
  replace g1 := cK bA g1 gl
  replace gl := lK bA gl
  replace ba0 := cK bA ba0 bal
  replace ba1 := cK bA ba1 bal
  replace bal := lK bA bal
  replace bb0 := cK bA bb0 bbl
  replace bb1 := cK bA bb1 bbl
  replace bbl := lK bA bbl
  replace cc := bK cc bA
  clear bA
  have bc0 : (w6.alloc (.cells #[.bool bx, .slice Ax nx cx, .slice Bx mx dx] 35)).cell? ⟨w6.heap.size, 0, none⟩ = some (.bool bx) := by simp [go_sem]
  have bc1 : (w6.alloc (.cells #[.bool bx, .slice Ax nx cx, .slice Bx mx dx] 35)).cell? ⟨w6.heap.size, 1, none⟩ = some (.slice Ax nx cx) := by simp [go_sem]
  have bc2 : (w6.alloc (.cells #[.bool bx, .slice Ax nx cx, .slice Bx mx dx] 35)).cell? ⟨w6.heap.size, 2, none⟩ = some (.slice Bx mx dx) := by simp [go_sem]
  have bcl : w6.heap.size < (w6.alloc (.cells #[.bool bx, .slice Ax nx cx, .slice Bx mx dx] 35)).heap.size := by simp
  generalize w6.alloc (.cells #[.bool bx, .slice Ax nx cx, .slice Bx mx dx] 35) = v7 at *
  refine (CY zh).mono ?_
  rintro e w8 ⟨bY, Ay, ny, cy, By, my, dy, rfl, ry, b⟩
  replace f0 := fK b f0 gl
  replace f1 := fK b f1 gl
  replace hx := hx.on b
  replace zl := zl.on b
  replace zh := zh.on b
  replace rx := rx.on b
  replace k0 := cK b k0 kl
  replace k1 := cK b k1 kl
  replace k2 := cK b k2 kl
  replace kl := lK b kl
  replace g0 := cK b g0 gl
  replace g1 := cK b g1 gl
  replace gl := lK b gl
  replace ba0 := cK b ba0 bal
  replace ba1 := cK b ba1 bal
  replace bal := lK b bal
  replace bb0 := cK b bb0 bbl
  replace bb1 := cK b bb1 bbl
  replace bbl := lK b bbl
  replace bc0 := cK b bc0 bcl
  replace bc1 := cK b bc1 bcl
  replace bc2 := cK b bc2 bcl
  replace bcl := lK b bcl
  replace cc := bK cc b
  clear b
  go_wp2_with fail
  have bA := below_one w8 (.cells #[.bool bY, .slice Ay ny cy, .slice By my dy] 35)
  replace f0 := fK bA f0 gl
  replace f1 := fK bA f1 gl
  replace hx := hx.on bA
  replace zl := zl.on bA
  replace zh := zh.on bA
  replace rx := rx.on bA
  replace ry := ry.on bA
  replace k0 := cK bA k0 kl
  replace k1 := cK bA k1 kl
  replace k2 := cK bA k2 kl
  replace kl := lK bA kl
  replace g0 := cK bA g0 gl
  replace g1 := cK bA g1 gl
  replace gl := lK bA gl
  replace ba0 := cK bA ba0 bal
  replace ba1 := cK bA ba1 bal
  replace bal := lK bA bal
  replace bb0 := cK bA bb0 bbl
  replace bb1 := cK bA bb1 bbl
  replace bbl := lK bA bbl
  replace bc0 := cK bA bc0 bcl
  replace bc1 := cK bA bc1 bcl
  replace bc2 := cK bA bc2 bcl
  replace bcl := lK bA bcl
  replace cc := bK cc bA
  clear bA
  have bd0 : (w8.alloc (.cells #[.bool bY, .slice Ay ny cy, .slice By my dy] 35)).cell? ⟨w8.heap.size, 0, none⟩ = some (.bool bY) := by simp [go_sem]
  have bd1 : (w8.alloc (.cells #[.bool bY, .slice Ay ny cy, .slice By my dy] 35)).cell? ⟨w8.heap.size, 1, none⟩ = some (.slice Ay ny cy) := by simp [go_sem]
  have bd2 : (w8.alloc (.cells #[.bool bY, .slice Ay ny cy, .slice By my dy] 35)).cell? ⟨w8.heap.size, 2, none⟩ = some (.slice By my dy) := by simp [go_sem]
  have bdl : w8.heap.size < (w8.alloc (.cells #[.bool bY, .slice Ay ny cy, .slice By my dy] 35)).heap.size := by simp
  generalize w8.alloc (.cells #[.bool bY, .slice Ay ny cy, .slice By my dy] 35) = v9 at *
  refine (rtsub_N hx (s0.le (by omega)) rx (sl.le (by omega))).mono ?_
  rintro e w10 ⟨bu, Au, nu, cu, Bu, mu, du, rfl, ru, b⟩
  replace f0 := fK b f0 gl
  replace f1 := fK b f1 gl
  replace hx := hx.on b
  replace zl := zl.on b
  replace zh := zh.on b
  replace rx := rx.on b
  replace ry := ry.on b
  replace k0 := cK b k0 kl
  replace k1 := cK b k1 kl
  replace k2 := cK b k2 kl
  replace kl := lK b kl
  replace g0 := cK b g0 gl
  replace g1 := cK b g1 gl
  replace gl := lK b gl
  replace ba0 := cK b ba0 bal
  replace ba1 := cK b ba1 bal
  replace bal := lK b bal
  replace bb0 := cK b bb0 bbl
  replace bb1 := cK b bb1 bbl
  replace bbl := lK b bbl
  replace bc0 := cK b bc0 bcl
  replace bc1 := cK b bc1 bcl
  replace bc2 := cK b bc2 bcl
  replace bcl := lK b bcl
  replace bd0 := cK b bd0 bdl
  replace bd1 := cK b bd1 bdl
  replace bd2 := cK b bd2 bdl
  replace bdl := lK b bdl
  replace cc := bK cc b
  clear b
  go_wp2_with fail
  have bA := below_one w10 (.cells #[.bool bu, .slice Au nu cu, .slice Bu mu du] 35)
  replace f0 := fK bA f0 gl
  replace f1 := fK bA f1 gl
  replace hx := hx.on bA
  replace zl := zl.on bA
  replace zh := zh.on bA
  replace rx := rx.on bA
  replace ry := ry.on bA
  replace ru := ru.on bA
  replace k0 := cK bA k0 kl
  replace k1 := cK bA k1 kl
  replace k2 := cK bA k2 kl
  replace kl := lK bA kl
  replace g0 := cK bA g0 gl
  replace g1 := cK bA g1 gl
  replace gl := lK bA gl
  replace ba0 := cK bA ba0 bal
  replace ba1 := cK bA ba1 bal
  replace bal := lK bA bal
  replace bb0 := cK bA bb0 bbl
  replace bb1 := cK bA bb1 bbl
  replace bbl := lK bA bbl
  replace bc0 := cK bA bc0 bcl
  replace bc1 := cK bA bc1 bcl
  replace bc2 := cK bA bc2 bcl
  replace bcl := lK bA bcl
  replace bd0 := cK bA bd0 bdl
  replace bd1 := cK bA bd1 bdl
  replace bd2 := cK bA bd2 bdl
  replace bdl := lK bA bdl
  replace cc := bK cc bA
  clear bA
  have be0 : (w10.alloc (.cells #[.bool bu, .slice Au nu cu, .slice Bu mu du] 35)).cell? ⟨w10.heap.size, 0, none⟩ = some (.bool bu) := by simp [go_sem]
  have be1 : (w10.alloc (.cells #[.bool bu, .slice Au nu cu, .slice Bu mu du] 35)).cell? ⟨w10.heap.size, 1, none⟩ = some (.slice Au nu cu) := by simp [go_sem]
  have be2 : (w10.alloc (.cells #[.bool bu, .slice Au nu cu, .slice Bu mu du] 35)).cell? ⟨w10.heap.size, 2, none⟩ = some (.slice Bu mu du) := by simp [go_sem]
  have bel : w10.heap.size < (w10.alloc (.cells #[.bool bu, .slice Au nu cu, .slice Bu mu du] 35)).heap.size := by simp
  generalize w10.alloc (.cells #[.bool bu, .slice Au nu cu, .slice Bu mu du] 35) = v11 at *
  refine (rtsub_N ry (sh.le (by omega)) hx (s0.le (by omega))).mono ?_
  rintro e w12 ⟨bv, Av, nv, cv, Bv, mv, dv, rfl, rv, b⟩
  replace f0 := fK b f0 gl
  replace f1 := fK b f1 gl
  replace hx := hx.on b
  replace zl := zl.on b
  replace zh := zh.on b
  replace rx := rx.on b
  replace ry := ry.on b
  replace ru := ru.on b
  replace k0 := cK b k0 kl
  replace k1 := cK b k1 kl
  replace k2 := cK b k2 kl
  replace kl := lK b kl
  replace g0 := cK b g0 gl
  replace g1 := cK b g1 gl
  replace gl := lK b gl
  replace ba0 := cK b ba0 bal
  replace ba1 := cK b ba1 bal
  replace bal := lK b bal
  replace bb0 := cK b bb0 bbl
  replace bb1 := cK b bb1 bbl
  replace bbl := lK b bbl
  replace bc0 := cK b bc0 bcl
  replace bc1 := cK b bc1 bcl
  replace bc2 := cK b bc2 bcl
  replace bcl := lK b bcl
  replace bd0 := cK b bd0 bdl
  replace bd1 := cK b bd1 bdl
  replace bd2 := cK b bd2 bdl
  replace bdl := lK b bdl
  replace be0 := cK b be0 bel
  replace be1 := cK b be1 bel
  replace be2 := cK b be2 bel
  replace bel := lK b bel
  replace cc := bK cc b
  clear b
  go_wp2_with fail
  have bA := below_one w12 (.cells #[.bool bv, .slice Av nv cv, .slice Bv mv dv] 35)
  replace f0 := fK bA f0 gl
  replace f1 := fK bA f1 gl
  replace hx := hx.on bA
  replace zl := zl.on bA
  replace zh := zh.on bA
  replace rx := rx.on bA
  replace ry := ry.on bA
  replace ru := ru.on bA
  replace rv := rv.on bA
  replace k0 := cK bA k0 kl
  replace k1 := cK bA k1 kl
  replace k2 := cK bA k2 kl
  replace kl := lK bA kl
  replace g0 := cK bA g0 gl
  replace g1 := cK bA g1 gl
  replace gl := lK bA gl
  replace ba0 := cK bA ba0 bal
  replace ba1 := cK bA ba1 bal
  replace bal := lK bA bal
  replace bb0 := cK bA bb0 bbl
  replace bb1 := cK bA bb1 bbl
  replace bbl := lK bA bbl
  replace bc0 := cK bA bc0 bcl
  replace bc1 := cK bA bc1 bcl
  replace bc2 := cK bA bc2 bcl
  replace bcl := lK bA bcl
  replace bd0 := cK bA bd0 bdl
  replace bd1 := cK bA bd1 bdl
  replace bd2 := cK bA bd2 bdl
  replace bdl := lK bA bdl
  replace be0 := cK bA be0 bel
  replace be1 := cK bA be1 bel
  replace be2 := cK bA be2 bel
  replace bel := lK bA bel
  replace cc := bK cc bA
  clear bA
  have bf0 : (w12.alloc (.cells #[.bool bv, .slice Av nv cv, .slice Bv mv dv] 35)).cell? ⟨w12.heap.size, 0, none⟩ = some (.bool bv) := by simp [go_sem]
  have bf1 : (w12.alloc (.cells #[.bool bv, .slice Av nv cv, .slice Bv mv dv] 35)).cell? ⟨w12.heap.size, 1, none⟩ = some (.slice Av nv cv) := by simp [go_sem]
  have bf2 : (w12.alloc (.cells #[.bool bv, .slice Av nv cv, .slice Bv mv dv] 35)).cell? ⟨w12.heap.size, 2, none⟩ = some (.slice Bv mv dv) := by simp [go_sem]
  have bfl : w12.heap.size < (w12.alloc (.cells #[.bool bv, .slice Av nv cv, .slice Bv mv dv] 35)).heap.size := by simp
  generalize w12.alloc (.cells #[.bool bv, .slice Av nv cv, .slice Bv mv dv] 35) = v13 at *
  refine (rtcmp_v cn ru (su.le (by omega)) rv (sv.le (by omega)) HC.out).mono ?_
  rintro e w14 ⟨rfl, b⟩
  replace f0 := fK b f0 gl
  replace f1 := fK b f1 gl
  replace hx := hx.on b
  replace zl := zl.on b
  replace zh := zh.on b
  replace rx := rx.on b
  replace ry := ry.on b
  replace ru := ru.on b
  replace rv := rv.on b
  replace k0 := cK b k0 kl
  replace k1 := cK b k1 kl
  replace k2 := cK b k2 kl
  replace kl := lK b kl
  replace g0 := cK b g0 gl
  replace g1 := cK b g1 gl
  replace gl := lK b gl
  replace ba0 := cK b ba0 bal
  replace ba1 := cK b ba1 bal
  replace bal := lK b bal
  replace bb0 := cK b bb0 bbl
  replace bb1 := cK b bb1 bbl
  replace bbl := lK b bbl
  replace bc0 := cK b bc0 bcl
  replace bc1 := cK b bc1 bcl
  replace bc2 := cK b bc2 bcl
  replace bcl := lK b bcl
  replace bd0 := cK b bd0 bdl
  replace bd1 := cK b bd1 bdl
  replace bd2 := cK b bd2 bdl
  replace bdl := lK b bdl
  replace be0 := cK b be0 bel
  replace be1 := cK b be1 bel
  replace be2 := cK b be2 bel
  replace bel := lK b bel
  replace bf0 := cK b bf0 bfl
  replace bf1 := cK b bf1 bfl
  replace bf2 := cK b bf2 bfl
  replace bfl := lK b bfl
  replace cc := bK cc b
  clear b
  have hn : Zn w14 bl Al nl cl (nea x0 j.toNat) := by rw [HN.out]; exact zl
  have eb : Box w14 (w.heap.size + 1) false none 0 0 := ⟨g0, g1⟩
  have HZ : Hid (Zn ((w14.setCell ⟨w.heap.size + 1, 0, none⟩ (.bool bl)).setCell ⟨w.heap.size + 1, 1, none⟩ (.slice Al nl cl)) bl Al nl cl (nea x0 j.toNat)) := Lib.hid (hn.put eb _ _)
  clear hn
  go_wp2_with fail
  refine bodyPost_ret (v := .tuple #[.agg #[.bool bl, .slice Al nl cl], .int .i64 0]) (by simp [results, Try.results49, go_sem, g0, g1]) rfl ⟨_, _, _, _, rfl, HZ.out, below_put cc (by omega) _ _⟩

set_option maxRecDepth 100000 in
set_option maxHeartbeats 8000000 in
theorem rnear_even {w : World} {b0 : Bool} {A0 B0 : Option Addr} {n0 c0 m0 d0 : Nat} {x0 : Rat} (hx : Rt w b0 A0 n0 c0 B0 m0 d0 x0) (s0 : Sz x0 15) {j : Int} (h0 : 0 ≤ j) (h1 : j ≤ 500) (hc : cmpQ (x0 - bak (flo x0 j.toNat) j.toNat) (bak (cei x0 j.toNat) j.toNat - x0) = 0) (he : flo x0 j.toNat % 2 = 0) :
    Calls Try.prog 49 #[.agg #[.bool b0, .slice A0 n0 c0, .slice B0 m0 d0], .int .i64 j] w (GotZp w (nea x0 j.toNat) 0) := by
  have jl : j.toNat ≤ 500 := by omega
  have ll := flo_len s0 jl
  have lh := cei_len s0 jl
  have hn : nea x0 j.toNat = flo x0 j.toNat := by rw [nea_by]; rw [if_pos (.inr ⟨hc, he⟩)]
  have CF : ∀ {W : World} {b : Bool} {A B : Option Addr} {n c m d : Nat}, Rt W b A n c B m d x0 → Calls Try.prog 72 #[.agg #[.bool b, .slice A n c, .slice B m d], .int .i64 j] W (GotZp W (flo x0 j.toNat) 0) := fun hh => rfloor_N hh (s0.le (by omega)) h0 h1
  have CC : ∀ {W : World} {b : Bool} {A B : Option Addr} {n c m d : Nat}, Rt W b A n c B m d x0 → Calls Try.prog 73 #[.agg #[.bool b, .slice A n c, .slice B m d], .int .i64 j] W (GotZp W (cei x0 j.toNat) 0) := fun hh => rceil_N hh (s0.le (by omega)) h0 h1
  obtain ⟨lo, hlo⟩ : ∃ lo, flo x0 j.toNat = lo := ⟨_, rfl⟩
  obtain ⟨hi, hhi⟩ : ∃ hi, cei x0 j.toNat = hi := ⟨_, rfl⟩
  rw [hlo] at CF ll
  rw [hhi] at CC lh
  rw [hlo, hhi] at hc
  rw [hlo] at he
  rw [hlo] at hn
  have CB : ∀ {W : World} {z : Int} {b : Bool} {A : Option Addr} {n c : Nat}, Zn W b A n c z → (limbs z.natAbs).length ≤ 24 → Calls Try.prog 15 #[.agg #[.bool b, .slice A n c], .int .i64 j] W (GotRp W (bak z j.toNat) 0) := fun hh hl => rback_N hh (by omega) h0 h1
  have sl : Sz (bak lo j.toNat) 24 := bak_sz ll (by omega) jl
  have sh : Sz (bak hi j.toNat) 24 := bak_sz lh (by omega) jl
  obtain ⟨x, hxx⟩ : ∃ x, bak lo j.toNat = x := ⟨_, rfl⟩
  obtain ⟨y, hyy⟩ : ∃ y, bak hi j.toNat = y := ⟨_, rfl⟩
  have CX : ∀ {W : World} {b : Bool} {A : Option Addr} {n c : Nat}, Zn W b A n c lo → Calls Try.prog 15 #[.agg #[.bool b, .slice A n c], .int .i64 j] W (GotRp W x 0) := fun hh => by rw [← hxx]; exact CB hh ll
  have CY : ∀ {W : World} {b : Bool} {A : Option Addr} {n c : Nat}, Zn W b A n c hi → Calls Try.prog 15 #[.agg #[.bool b, .slice A n c], .int .i64 j] W (GotRp W y 0) := fun hh => by rw [← hyy]; exact CB hh lh
  rw [hxx] at sl
  rw [hyy] at sh
  rw [hxx, hyy] at hc
  skip
  obtain ⟨cn, hcn⟩ : ∃ cn, cmpQ (x0 - x) (y - x0) = cn := ⟨_, rfl⟩
  have HC := Lib.hid hcn
  rw [hcn] at hc
  skip
  have su := s0.sub sl
  have sv := sh.sub s0
  have HN := Lib.hid hn
  have t1 : decide (cn < 0) = false := decide_eq_false (by omega)
  have t2 : (cn == 0) = true := beq_iff_eq.2 hc
  have HO : Hid (decide (lo % 2 = 1) = false) := Lib.hid (decide_eq_false (by omega))
  clear CB hxx hyy hcn hlo hhi hn hc h0 h1 he
  have cc := Below.refl w.heap.size w
  go_enter Try.func49, Try.ntmps49
  go_wp2_with fail
  have f0 : ((w.alloc (.cells #[.bool b0, .slice A0 n0 c0, .slice B0 m0 d0] 35)).alloc (.cells #[.bool false, .slice none 0 0] 33)).frozen? ⟨w.heap.size + 1, 0, none⟩ = false := by simp [go_sem]
  have f1 : ((w.alloc (.cells #[.bool b0, .slice A0 n0 c0, .slice B0 m0 d0] 35)).alloc (.cells #[.bool false, .slice none 0 0] 33)).frozen? ⟨w.heap.size + 1, 1, none⟩ = false := by simp [go_sem]
  have bA : Below w.heap.size w ((w.alloc (.cells #[.bool b0, .slice A0 n0 c0, .slice B0 m0 d0] 35)).alloc (.cells #[.bool false, .slice none 0 0] 33)) := (((Below.refl _ w).alloc (by simp) _).alloc (by simp) _)
  replace hx := hx.on bA
  replace cc := bK cc bA
  clear bA
  have k0 : ((w.alloc (.cells #[.bool b0, .slice A0 n0 c0, .slice B0 m0 d0] 35)).alloc (.cells #[.bool false, .slice none 0 0] 33)).cell? ⟨w.heap.size, 0, none⟩ = some (.bool b0) := by simp [go_sem]
  have k1 : ((w.alloc (.cells #[.bool b0, .slice A0 n0 c0, .slice B0 m0 d0] 35)).alloc (.cells #[.bool false, .slice none 0 0] 33)).cell? ⟨w.heap.size, 1, none⟩ = some (.slice A0 n0 c0) := by simp [go_sem]
  have k2 : ((w.alloc (.cells #[.bool b0, .slice A0 n0 c0, .slice B0 m0 d0] 35)).alloc (.cells #[.bool false, .slice none 0 0] 33)).cell? ⟨w.heap.size, 2, none⟩ = some (.slice B0 m0 d0) := by simp [go_sem]
  have kl : w.heap.size < ((w.alloc (.cells #[.bool b0, .slice A0 n0 c0, .slice B0 m0 d0] 35)).alloc (.cells #[.bool false, .slice none 0 0] 33)).heap.size := by simp <;> omega
  have g0 : ((w.alloc (.cells #[.bool b0, .slice A0 n0 c0, .slice B0 m0 d0] 35)).alloc (.cells #[.bool false, .slice none 0 0] 33)).cell? ⟨w.heap.size + 1, 0, none⟩ = some (.bool false) := by simp [go_sem]
  have g1 : ((w.alloc (.cells #[.bool b0, .slice A0 n0 c0, .slice B0 m0 d0] 35)).alloc (.cells #[.bool false, .slice none 0 0] 33)).cell? ⟨w.heap.size + 1, 1, none⟩ = some (.slice none 0 0) := by simp [go_sem]
  have gl : w.heap.size + 1 < ((w.alloc (.cells #[.bool b0, .slice A0 n0 c0, .slice B0 m0 d0] 35)).alloc (.cells #[.bool false, .slice none 0 0] 33)).heap.size := by simp <;> omega
  generalize (w.alloc (.cells #[.bool b0, .slice A0 n0 c0, .slice B0 m0 d0] 35)).alloc (.cells #[.bool false, .slice none 0 0] 33) = v1 at *
  refine (CF hx).mono ?_
  rintro e w2 ⟨bl, Al, nl, cl, rfl, zl, b⟩
  replace f0 := fK b f0 gl
  replace f1 := fK b f1 gl
  replace hx := hx.on b
  replace k0 := cK b k0 kl
  replace k1 := cK b k1 kl
  replace k2 := cK b k2 kl
  replace kl := lK b kl
  replace g0 := cK b g0 gl
  replace g1 := cK b g1 gl
  replace gl := lK b gl
  replace cc := bK cc b
  clear b
  go_wp2_with fail
  have bA := below_one w2 (.cells #[.bool bl, .slice Al nl cl] 33)
  replace f0 := fK bA f0 gl
  replace f1 := fK bA f1 gl
  replace hx := hx.on bA
  replace zl := zl.on bA
  replace k0 := cK bA k0 kl
  replace k1 := cK bA k1 kl
  replace k2 := cK bA k2 kl
  replace kl := lK bA kl
  replace g0 := cK bA g0 gl
  replace g1 := cK bA g1 gl
  replace gl := lK bA gl
  replace cc := bK cc bA
  clear bA
  have ba0 : (w2.alloc (.cells #[.bool bl, .slice Al nl cl] 33)).cell? ⟨w2.heap.size, 0, none⟩ = some (.bool bl) := by simp [go_sem]
  have ba1 : (w2.alloc (.cells #[.bool bl, .slice Al nl cl] 33)).cell? ⟨w2.heap.size, 1, none⟩ = some (.slice Al nl cl) := by simp [go_sem]
  have bal : w2.heap.size < (w2.alloc (.cells #[.bool bl, .slice Al nl cl] 33)).heap.size := by simp
  generalize w2.alloc (.cells #[.bool bl, .slice Al nl cl] 33) = v3 at *
  refine (CC hx).mono ?_
  rintro e w4 ⟨bh, Ah, nh, ch, rfl, zh, b⟩
  replace f0 := fK b f0 gl
  replace f1 := fK b f1 gl
  replace hx := hx.on b
  replace zl := zl.on b
  replace k0 := cK b k0 kl
  replace k1 := cK b k1 kl
  replace k2 := cK b k2 kl
  replace kl := lK b kl
  replace g0 := cK b g0 gl
  replace g1 := cK b g1 gl
  replace gl := lK b gl
  replace ba0 := cK b ba0 bal
  replace ba1 := cK b ba1 bal
  replace bal := lK b bal
  replace cc := bK cc b
  clear b
  go_wp2_with fail
  have bA := below_one w4 (.cells #[.bool bh, .slice Ah nh ch] 33)
  replace f0 := fK bA f0 gl
  replace f1 := fK bA f1 gl
  replace hx := hx.on bA
  replace zl := zl.on bA
  replace zh := zh.on bA
  replace k0 := cK bA k0 kl
  replace k1 := cK bA k1 kl
  replace k2 := cK bA k2 kl
  replace kl := lK bA kl
  replace g0 := cK bA g0 gl
  replace g1 := cK bA g1 gl
  replace gl := lK bA gl
  replace ba0 := cK bA ba0 bal
  replace ba1 := cK bA ba1 bal
  replace bal := lK bA bal
  replace cc := bK cc bA
  clear bA
  have bb0 : (w4.alloc (.cells #[.bool bh, .slice Ah nh ch] 33)).cell? ⟨w4.heap.size, 0, none⟩ = some (.bool bh) := by simp [go_sem]
  have bb1 : (w4.alloc (.cells #[.bool bh, .slice Ah nh ch] 33)).cell? ⟨w4.heap.size, 1, none⟩ = some (.slice Ah nh ch) := by simp [go_sem]
  have bbl : w4.heap.size < (w4.alloc (.cells #[.bool bh, .slice Ah nh ch] 33)).heap.size := by simp
  generalize w4.alloc (.cells #[.bool bh, .slice Ah nh ch] 33) = v5 at *
  refine (CX zl).mono ?_
  rintro e w6 ⟨bx, Ax, nx, cx, Bx, mx, dx, rfl, rx, b⟩
  replace f0 := fK b f0 gl
  replace f1 := fK b f1 gl
  replace hx := hx.on b
  replace zl := zl.on b
  replace zh := zh.on b
  replace k0 := cK b k0 kl
  replace k1 := cK b k1 kl
  replace k2 := cK b k2 kl
  replace kl := lK b kl
  replace g0 := cK b g0 gl
  replace g1 := cK b g1 gl
  replace gl := lK b gl
  replace ba0 := cK b ba0 bal
  replace ba1 := cK b ba1 bal
  replace bal := lK b bal
  replace bb0 := cK b bb0 bbl
  replace bb1 := cK b bb1 bbl
  replace bbl := lK b bbl
  replace cc := bK cc b
  clear b
  go_wp2_with fail
  have bA := below_one w6 (.cells #[.bool bx, .slice Ax nx cx, .slice Bx mx dx] 35)
  replace f0 := fK bA f0 gl
  replace f1 := fK bA f1 gl
  replace hx := hx.on bA
  replace zl := zl.on bA
  replace zh := zh.on bA
  replace rx := rx.on bA
  replace k0 := cK bA k0 kl
  replace k1 := cK bA k1 kl
  replace k2 := cK bA k2 kl
  replace kl := lK bA kl
  replace g0 := cK bA g0 gl
  replace g1 := cK bA g1 gl
  replace gl := lK bA gl
  replace ba0 := cK bA ba0 bal
  replace ba1 := cK bA ba1 bal
  replace bal := lK bA bal
  replace bb0 := cK bA bb0 bbl
  replace bb1 := cK bA bb1 bbl
  replace bbl := lK bA bbl
  replace cc := bK cc bA
  clear bA
  have bc0 : (w6.alloc (.cells #[.bool bx, .slice Ax nx cx, .slice Bx mx dx] 35)).cell? ⟨w6.heap.size, 0, none⟩ = some (.bool bx) := by simp [go_sem]
  have bc1 : (w6.alloc (.cells #[.bool bx, .slice Ax nx cx, .slice Bx mx dx] 35)).cell? ⟨w6.heap.size, 1, none⟩ = some (.slice Ax nx cx) := by simp [go_sem]
  have bc2 : (w6.alloc (.cells #[.bool bx, .slice Ax nx cx, .slice Bx mx dx] 35)).cell? ⟨w6.heap.size, 2, none⟩ = some (.slice Bx mx dx) := by simp [go_sem]
  have bcl : w6.heap.size < (w6.alloc (.cells #[.bool bx, .slice Ax nx cx, .slice Bx mx dx] 35)).heap.size := by simp
  generalize w6.alloc (.cells #[.bool bx, .slice Ax nx cx, .slice Bx mx dx] 35) = v7 at *
  refine (CY zh).mono ?_
  rintro e w8 ⟨bY, Ay, ny, cy, By, my, dy, rfl, ry, b⟩
  replace f0 := fK b f0 gl
  replace f1 := fK b f1 gl
  replace hx := hx.on b
  replace zl := zl.on b
  replace zh := zh.on b
  replace rx := rx.on b
  replace k0 := cK b k0 kl
  replace k1 := cK b k1 kl
  replace k2 := cK b k2 kl
  replace kl := lK b kl
  replace g0 := cK b g0 gl
  replace g1 := cK b g1 gl
  replace gl := lK b gl
  replace ba0 := cK b ba0 bal
  replace ba1 := cK b ba1 bal
  replace bal := lK b bal
  replace bb0 := cK b bb0 bbl
  replace bb1 := cK b bb1 bbl
  replace bbl := lK b bbl
  replace bc0 := cK b bc0 bcl
  replace bc1 := cK b bc1 bcl
  replace bc2 := cK b bc2 bcl
  replace bcl := lK b bcl
  replace cc := bK cc b
  clear b
  go_wp2_with fail
  have bA := below_one w8 (.cells #[.bool bY, .slice Ay ny cy, .slice By my dy] 35)
  replace f0 := fK bA f0 gl
  replace f1 := fK bA f1 gl
  replace hx := hx.on bA
  replace zl := zl.on bA
  replace zh := zh.on bA
  replace rx := rx.on bA
  replace ry := ry.on bA
  replace k0 := cK bA k0 kl
  replace k1 := cK bA k1 kl
  replace k2 := cK bA k2 kl
  replace kl := lK bA kl
  replace g0 := cK bA g0 gl
  replace g1 := cK bA g1 gl
  replace gl := lK bA gl
  replace ba0 := cK bA ba0 bal
  replace ba1 := cK bA ba1 bal
  replace bal := lK bA bal
  replace bb0 := cK bA bb0 bbl
  replace bb1 := cK bA bb1 bbl
  replace bbl := lK bA bbl
  replace bc0 := cK bA bc0 bcl
  replace bc1 := cK bA bc1 bcl
  replace bc2 := cK bA bc2 bcl
  replace bcl := lK bA bcl
  replace cc := bK cc bA
  clear bA
  have bd0 : (w8.alloc (.cells #[.bool bY, .slice Ay ny cy, .slice By my dy] 35)).cell? ⟨w8.heap.size, 0, none⟩ = some (.bool bY) := by simp [go_sem]
  have bd1 : (w8.alloc (.cells #[.bool bY, .slice Ay ny cy, .slice By my dy] 35)).cell? ⟨w8.heap.size, 1, none⟩ = some (.slice Ay ny cy) := by simp [go_sem]
  have bd2 : (w8.alloc (.cells #[.bool bY, .slice Ay ny cy, .slice By my dy] 35)).cell? ⟨w8.heap.size, 2, none⟩ = some (.slice By my dy) := by simp [go_sem]
  have bdl : w8.heap.size < (w8.alloc (.cells #[.bool bY, .slice Ay ny cy, .slice By my dy] 35)).heap.size := by simp
  generalize w8.alloc (.cells #[.bool bY, .slice Ay ny cy, .slice By my dy] 35) = v9 at *
  refine (rtsub_N hx (s0.le (by omega)) rx (sl.le (by omega))).mono ?_
  rintro e w10 ⟨bu, Au, nu, cu, Bu, mu, du, rfl, ru, b⟩
  replace f0 := fK b f0 gl
  replace f1 := fK b f1 gl
  replace hx := hx.on b
  replace zl := zl.on b
  replace zh := zh.on b
  replace rx := rx.on b
  replace ry := ry.on b
  replace k0 := cK b k0 kl
  replace k1 := cK b k1 kl
  replace k2 := cK b k2 kl
  replace kl := lK b kl
  replace g0 := cK b g0 gl
  replace g1 := cK b g1 gl
  replace gl := lK b gl
  replace ba0 := cK b ba0 bal
  replace ba1 := cK b ba1 bal
  replace bal := lK b bal
  replace bb0 := cK b bb0 bbl
  replace bb1 := cK b bb1 bbl
  replace bbl := lK b bbl
  replace bc0 := cK b bc0 bcl
  replace bc1 := cK b bc1 bcl
  replace bc2 := cK b bc2 bcl
  replace bcl := lK b bcl
  replace bd0 := cK b bd0 bdl
  replace bd1 := cK b bd1 bdl
  replace bd2 := cK b bd2 bdl
  replace bdl := lK b bdl
  replace cc := bK cc b
  clear b
  go_wp2_with fail
  have bA := below_one w10 (.cells #[.bool bu, .slice Au nu cu, .slice Bu mu du] 35)
  replace f0 := fK bA f0 gl
  replace f1 := fK bA f1 gl
  replace hx := hx.on bA
  replace zl := zl.on bA
  replace zh := zh.on bA
  replace rx := rx.on bA
  replace ry := ry.on bA
  replace ru := ru.on bA
  replace k0 := cK bA k0 kl
  replace k1 := cK bA k1 kl
  replace k2 := cK bA k2 kl
  replace kl := lK bA kl
  replace g0 := cK bA g0 gl
  replace g1 := cK bA g1 gl
  replace gl := lK bA gl
  replace ba0 := cK bA ba0 bal
  replace ba1 := cK bA ba1 bal
  replace bal := lK bA bal
  replace bb0 := cK bA bb0 bbl
  replace bb1 := cK bA bb1 bbl
  replace bbl := lK bA bbl
  replace bc0 := cK bA bc0 bcl
  replace bc1 := cK bA bc1 bcl
  replace bc2 := cK bA bc2 bcl
  replace bcl := lK bA bcl
  replace bd0 := cK bA bd0 bdl
  replace bd1 := cK bA bd1 bdl
  replace bd2 := cK bA bd2 bdl
  replace bdl := lK bA bdl
  replace cc := bK cc bA
  clear bA
  have be0 : (w10.alloc (.cells #[.bool bu, .slice Au nu cu, .slice Bu mu du] 35)).cell? ⟨w10.heap.size, 0, none⟩ = some (.bool bu) := by simp [go_sem]
  have be1 : (w10.alloc (.cells #[.bool bu, .slice Au nu cu, .slice Bu mu du] 35)).cell? ⟨w10.heap.size, 1, none⟩ = some (.slice Au nu cu) := by simp [go_sem]
  have be2 : (w10.alloc (.cells #[.bool bu, .slice Au nu cu, .slice Bu mu du] 35)).cell? ⟨w10.heap.size, 2, none⟩ = some (.slice Bu mu du) := by simp [go_sem]
  have bel : w10.heap.size < (w10.alloc (.cells #[.bool bu, .slice Au nu cu, .slice Bu mu du] 35)).heap.size := by simp
  generalize w10.alloc (.cells #[.bool bu, .slice Au nu cu, .slice Bu mu du] 35) = v11 at *
  refine (rtsub_N ry (sh.le (by omega)) hx (s0.le (by omega))).mono ?_
  rintro e w12 ⟨bv, Av, nv, cv, Bv, mv, dv, rfl, rv, b⟩
  replace f0 := fK b f0 gl
  replace f1 := fK b f1 gl
  replace hx := hx.on b
  replace zl := zl.on b
  replace zh := zh.on b
  replace rx := rx.on b
  replace ry := ry.on b
  replace ru := ru.on b
  replace k0 := cK b k0 kl
  replace k1 := cK b k1 kl
  replace k2 := cK b k2 kl
  replace kl := lK b kl
  replace g0 := cK b g0 gl
  replace g1 := cK b g1 gl
  replace gl := lK b gl
  replace ba0 := cK b ba0 bal
  replace ba1 := cK b ba1 bal
  replace bal := lK b bal
  replace bb0 := cK b bb0 bbl
  replace bb1 := cK b bb1 bbl
  replace bbl := lK b bbl
  replace bc0 := cK b bc0 bcl
  replace bc1 := cK b bc1 bcl
  replace bc2 := cK b bc2 bcl
  replace bcl := lK b bcl
  replace bd0 := cK b bd0 bdl
  replace bd1 := cK b bd1 bdl
  replace bd2 := cK b bd2 bdl
  replace bdl := lK b bdl
  replace be0 := cK b be0 bel
  replace be1 := cK b be1 bel
  replace be2 := cK b be2 bel
  replace bel := lK b bel
  replace cc := bK cc b
  clear b
  go_wp2_with fail
  have bA := below_one w12 (.cells #[.bool bv, .slice Av nv cv, .slice Bv mv dv] 35)
  replace f0 := fK bA f0 gl
  replace f1 := fK bA f1 gl
  replace hx := hx.on bA
  replace zl := zl.on bA
  replace zh := zh.on bA
  replace rx := rx.on bA
  replace ry := ry.on bA
  replace ru := ru.on bA
  replace rv := rv.on bA
  replace k0 := cK bA k0 kl
  replace k1 := cK bA k1 kl
  replace k2 := cK bA k2 kl
  replace kl := lK bA kl
  replace g0 := cK bA g0 gl
  replace g1 := cK bA g1 gl
  replace gl := lK bA gl
  replace ba0 := cK bA ba0 bal
  replace ba1 := cK bA ba1 bal
  replace bal := lK bA bal
  replace bb0 := cK bA bb0 bbl
  replace bb1 := cK bA bb1 bbl
  replace bbl := lK bA bbl
  replace bc0 := cK bA bc0 bcl
  replace bc1 := cK bA bc1 bcl
  replace bc2 := cK bA bc2 bcl
  replace bcl := lK bA bcl
  replace bd0 := cK bA bd0 bdl
  replace bd1 := cK bA bd1 bdl
  replace bd2 := cK bA bd2 bdl
  replace bdl := lK bA bdl
  replace be0 := cK bA be0 bel
  replace be1 := cK bA be1 bel
  replace be2 := cK bA be2 bel
  replace bel := lK bA bel
  replace cc := bK cc bA
  clear bA
  have bf0 : (w12.alloc (.cells #[.bool bv, .slice Av nv cv, .slice Bv mv dv] 35)).cell? ⟨w12.heap.size, 0, none⟩ = some (.bool bv) := by simp [go_sem]
  have bf1 : (w12.alloc (.cells #[.bool bv, .slice Av nv cv, .slice Bv mv dv] 35)).cell? ⟨w12.heap.size, 1, none⟩ = some (.slice Av nv cv) := by simp [go_sem]
  have bf2 : (w12.alloc (.cells #[.bool bv, .slice Av nv cv, .slice Bv mv dv] 35)).cell? ⟨w12.heap.size, 2, none⟩ = some (.slice Bv mv dv) := by simp [go_sem]
  have bfl : w12.heap.size < (w12.alloc (.cells #[.bool bv, .slice Av nv cv, .slice Bv mv dv] 35)).heap.size := by simp
  generalize w12.alloc (.cells #[.bool bv, .slice Av nv cv, .slice Bv mv dv] 35) = v13 at *
  refine (rtcmp_v cn ru (su.le (by omega)) rv (sv.le (by omega)) HC.out).mono ?_
  rintro e w14 ⟨rfl, b⟩
  replace f0 := fK b f0 gl
  replace f1 := fK b f1 gl
  replace hx := hx.on b
  replace zl := zl.on b
  replace zh := zh.on b
  replace rx := rx.on b
  replace ry := ry.on b
  replace ru := ru.on b
  replace rv := rv.on b
  replace k0 := cK b k0 kl
  replace k1 := cK b k1 kl
  replace k2 := cK b k2 kl
  replace kl := lK b kl
  replace g0 := cK b g0 gl
  replace g1 := cK b g1 gl
  replace gl := lK b gl
  replace ba0 := cK b ba0 bal
  replace ba1 := cK b ba1 bal
  replace bal := lK b bal
  replace bb0 := cK b bb0 bbl
  replace bb1 := cK b bb1 bbl
  replace bbl := lK b bbl
  replace bc0 := cK b bc0 bcl
  replace bc1 := cK b bc1 bcl
  replace bc2 := cK b bc2 bcl
  replace bcl := lK b bcl
  replace bd0 := cK b bd0 bdl
  replace bd1 := cK b bd1 bdl
  replace bd2 := cK b bd2 bdl
  replace bdl := lK b bdl
  replace be0 := cK b be0 bel
  replace be1 := cK b be1 bel
  replace be2 := cK b be2 bel
  replace bel := lK b bel
  replace bf0 := cK b bf0 bfl
  replace bf1 := cK b bf1 bfl
  replace bf2 := cK b bf2 bfl
  replace bfl := lK b bfl
  replace cc := bK cc b
  clear b
  go_wp2_with fail
  refine (rodd_N false zl HO.out).mono ?_
  rintro e w15 ⟨rfl, b⟩
  replace f0 := fK b f0 gl
  replace f1 := fK b f1 gl
  replace hx := hx.on b
  replace zl := zl.on b
  replace zh := zh.on b
  replace rx := rx.on b
  replace ry := ry.on b
  replace ru := ru.on b
  replace rv := rv.on b
  replace k0 := cK b k0 kl
  replace k1 := cK b k1 kl
  replace k2 := cK b k2 kl
  replace kl := lK b kl
  replace g0 := cK b g0 gl
  replace g1 := cK b g1 gl
  replace gl := lK b gl
  replace ba0 := cK b ba0 bal
  replace ba1 := cK b ba1 bal
  replace bal := lK b bal
  replace bb0 := cK b bb0 bbl
  replace bb1 := cK b bb1 bbl
  replace bbl := lK b bbl
  replace bc0 := cK b bc0 bcl
  replace bc1 := cK b bc1 bcl
  replace bc2 := cK b bc2 bcl
  replace bcl := lK b bcl
  replace bd0 := cK b bd0 bdl
  replace bd1 := cK b bd1 bdl
  replace bd2 := cK b bd2 bdl
  replace bdl := lK b bdl
  replace be0 := cK b be0 bel
  replace be1 := cK b be1 bel
  replace be2 := cK b be2 bel
  replace bel := lK b bel
  replace bf0 := cK b bf0 bfl
  replace bf1 := cK b bf1 bfl
  replace bf2 := cK b bf2 bfl
  replace bfl := lK b bfl
  replace cc := bK cc b
  clear b
  have hn : Zn w15 bl Al nl cl (nea x0 j.toNat) := by rw [HN.out]; exact zl
  have eb : Box w15 (w.heap.size + 1) false none 0 0 := ⟨g0, g1⟩
  have HZ : Hid (Zn ((w15.setCell ⟨w.heap.size + 1, 0, none⟩ (.bool bl)).setCell ⟨w.heap.size + 1, 1, none⟩ (.slice Al nl cl)) bl Al nl cl (nea x0 j.toNat)) := Lib.hid (hn.put eb _ _)
  clear hn
  go_wp2_with fail
  refine bodyPost_ret (v := .tuple #[.agg #[.bool bl, .slice Al nl cl], .int .i64 0]) (by simp [results, Try.results49, go_sem, g0, g1]) rfl ⟨_, _, _, _, rfl, HZ.out, below_put cc (by omega) _ _⟩

set_option maxRecDepth 100000 in
set_option maxHeartbeats 8000000 in
theorem rnear_odd {w : World} {b0 : Bool} {A0 B0 : Option Addr} {n0 c0 m0 d0 : Nat} {x0 : Rat} (hx : Rt w b0 A0 n0 c0 B0 m0 d0 x0) (s0 : Sz x0 15) {j : Int} (h0 : 0 ≤ j) (h1 : j ≤ 500) (hc : cmpQ (x0 - bak (flo x0 j.toNat) j.toNat) (bak (cei x0 j.toNat) j.toNat - x0) = 0) (he : ¬ flo x0 j.toNat % 2 = 0) :
    Calls Try.prog 49 #[.agg #[.bool b0, .slice A0 n0 c0, .slice B0 m0 d0], .int .i64 j] w (GotZp w (nea x0 j.toNat) 0) := by
  have jl : j.toNat ≤ 500 := by omega
  have ll := flo_len s0 jl
  have lh := cei_len s0 jl
  have hn : nea x0 j.toNat = cei x0 j.toNat := by rw [nea_by]; rw [if_neg (fun h => h.elim (fun a => by omega) (fun a => he a.2))]
  have CF : ∀ {W : World} {b : Bool} {A B : Option Addr} {n c m d : Nat}, Rt W b A n c B m d x0 → Calls Try.prog 72 #[.agg #[.bool b, .slice A n c, .slice B m d], .int .i64 j] W (GotZp W (flo x0 j.toNat) 0) := fun hh => rfloor_N hh (s0.le (by omega)) h0 h1
  have CC : ∀ {W : World} {b : Bool} {A B : Option Addr} {n c m d : Nat}, Rt W b A n c B m d x0 → Calls Try.prog 73 #[.agg #[.bool b, .slice A n c, .slice B m d], .int .i64 j] W (GotZp W (cei x0 j.toNat) 0) := fun hh => rceil_N hh (s0.le (by omega)) h0 h1
  obtain ⟨lo, hlo⟩ : ∃ lo, flo x0 j.toNat = lo := ⟨_, rfl⟩
  obtain ⟨hi, hhi⟩ : ∃ hi, cei x0 j.toNat = hi := ⟨_, rfl⟩
  rw [hlo] at CF ll
  rw [hhi] at CC lh
  rw [hlo, hhi] at hc
  rw [hlo] at he
  rw [hhi] at hn
  have CB : ∀ {W : World} {z : Int} {b : Bool} {A : Option Addr} {n c : Nat}, Zn W b A n c z → (limbs z.natAbs).length ≤ 24 → Calls Try.prog 15 #[.agg #[.bool b, .slice A n c], .int .i64 j] W (GotRp W (bak z j.toNat) 0) := fun hh hl => rback_N hh (by omega) h0 h1
  have sl : Sz (bak lo j.toNat) 24 := bak_sz ll (by omega) jl
  have sh : Sz (bak hi j.toNat) 24 := bak_sz lh (by omega) jl
  obtain ⟨x, hxx⟩ : ∃ x, bak lo j.toNat = x := ⟨_, rfl⟩
  obtain ⟨y, hyy⟩ : ∃ y, bak hi j.toNat = y := ⟨_, rfl⟩
  have CX : ∀ {W : World} {b : Bool} {A : Option Addr} {n c : Nat}, Zn W b A n c lo → Calls Try.prog 15 #[.agg #[.bool b, .slice A n c], .int .i64 j] W (GotRp W x 0) := fun hh => by rw [← hxx]; exact CB hh ll
  have CY : ∀ {W : World} {b : Bool} {A : Option Addr} {n c : Nat}, Zn W b A n c hi → Calls Try.prog 15 #[.agg #[.bool b, .slice A n c], .int .i64 j] W (GotRp W y 0) := fun hh => by rw [← hyy]; exact CB hh lh
  rw [hxx] at sl
  rw [hyy] at sh
  rw [hxx, hyy] at hc
  skip
  obtain ⟨cn, hcn⟩ : ∃ cn, cmpQ (x0 - x) (y - x0) = cn := ⟨_, rfl⟩
  have HC := Lib.hid hcn
  rw [hcn] at hc
  skip
  have su := s0.sub sl
  have sv := sh.sub s0
  have HN := Lib.hid hn
  have t1 : decide (cn < 0) = false := decide_eq_false (by omega)
  have t2 : (cn == 0) = true := beq_iff_eq.2 hc
  have HO : Hid (decide (lo % 2 = 1) = true) := Lib.hid (decide_eq_true (by omega))
  clear CB hxx hyy hcn hlo hhi hn hc h0 h1 he
  have cc := Below.refl w.heap.size w
  go_enter Try.func49, Try.ntmps49
  go_wp2_with fail
  have f0 : ((w.alloc (.cells #[.bool b0, .slice A0 n0 c0, .slice B0 m0 d0] 35)).alloc (.cells #[.bool false, .slice none 0 0] 33)).frozen? ⟨w.heap.size + 1, 0, none⟩ = false := by simp [go_sem]
  have f1 : ((w.alloc (.cells #[.bool b0, .slice A0 n0 c0, .slice B0 m0 d0] 35)).alloc (.cells #[.bool false, .slice none 0 0] 33)).frozen? ⟨w.heap.size + 1, 1, none⟩ = false := by simp [go_sem]
  have bA : Below w.heap.size w ((w.alloc (.cells #[.bool b0, .slice A0 n0 c0, .slice B0 m0 d0] 35)).alloc (.cells #[.bool false, .slice none 0 0] 33)) := (((Below.refl _ w).alloc (by simp) _).alloc (by simp) _)
  replace hx := hx.on bA
  replace cc := bK cc bA
  clear bA
  have k0 : ((w.alloc (.cells #[.bool b0, .slice A0 n0 c0, .slice B0 m0 d0] 35)).alloc (.cells #[.bool false, .slice none 0 0] 33)).cell? ⟨w.heap.size, 0, none⟩ = some (.bool b0) := by simp [go_sem]
  have k1 : ((w.alloc (.cells #[.bool b0, .slice A0 n0 c0, .slice B0 m0 d0] 35)).alloc (.cells #[.bool false, .slice none 0 0] 33)).cell? ⟨w.heap.size, 1, none⟩ = some (.slice A0 n0 c0) := by simp [go_sem]
  have k2 : ((w.alloc (.cells #[.bool b0, .slice A0 n0 c0, .slice B0 m0 d0] 35)).alloc (.cells #[.bool false, .slice none 0 0] 33)).cell? ⟨w.heap.size, 2, none⟩ = some (.slice B0 m0 d0) := by simp [go_sem]
  have kl : w.heap.size < ((w.alloc (.cells #[.bool b0, .slice A0 n0 c0, .slice B0 m0 d0] 35)).alloc (.cells #[.bool false, .slice none 0 0] 33)).heap.size := by simp <;> omega
  have g0 : ((w.alloc (.cells #[.bool b0, .slice A0 n0 c0, .slice B0 m0 d0] 35)).alloc (.cells #[.bool false, .slice none 0 0] 33)).cell? ⟨w.heap.size + 1, 0, none⟩ = some (.bool false) := by simp [go_sem]
  have g1 : ((w.alloc (.cells #[.bool b0, .slice A0 n0 c0, .slice B0 m0 d0] 35)).alloc (.cells #[.bool false, .slice none 0 0] 33)).cell? ⟨w.heap.size + 1, 1, none⟩ = some (.slice none 0 0) := by simp [go_sem]
  have gl : w.heap.size + 1 < ((w.alloc (.cells #[.bool b0, .slice A0 n0 c0, .slice B0 m0 d0] 35)).alloc (.cells #[.bool false, .slice none 0 0] 33)).heap.size := by simp <;> omega
  generalize (w.alloc (.cells #[.bool b0, .slice A0 n0 c0, .slice B0 m0 d0] 35)).alloc (.cells #[.bool false, .slice none 0 0] 33) = v1 at *
  refine (CF hx).mono ?_
  rintro e w2 ⟨bl, Al, nl, cl, rfl, zl, b⟩
  replace f0 := fK b f0 gl
  replace f1 := fK b f1 gl
  replace hx := hx.on b
  replace k0 := cK b k0 kl
  replace k1 := cK b k1 kl
  replace k2 := cK b k2 kl
  replace kl := lK b kl
  replace g0 := cK b g0 gl
  replace g1 := cK b g1 gl
  replace gl := lK b gl
  replace cc := bK cc b
  clear b
  go_wp2_with fail
  have bA := below_one w2 (.cells #[.bool bl, .slice Al nl cl] 33)
  replace f0 := fK bA f0 gl
  replace f1 := fK bA f1 gl
  replace hx := hx.on bA
  replace zl := zl.on bA
  replace k0 := cK bA k0 kl
  replace k1 := cK bA k1 kl
  replace k2 := cK bA k2 kl
  replace kl := lK bA kl
  replace g0 := cK bA g0 gl
  replace g1 := cK bA g1 gl
  replace gl := lK bA gl
  replace cc := bK cc bA
  clear bA
  have ba0 : (w2.alloc (.cells #[.bool bl, .slice Al nl cl] 33)).cell? ⟨w2.heap.size, 0, none⟩ = some (.bool bl) := by simp [go_sem]
  have ba1 : (w2.alloc (.cells #[.bool bl, .slice Al nl cl] 33)).cell? ⟨w2.heap.size, 1, none⟩ = some (.slice Al nl cl) := by simp [go_sem]
  have bal : w2.heap.size < (w2.alloc (.cells #[.bool bl, .slice Al nl cl] 33)).heap.size := by simp
  generalize w2.alloc (.cells #[.bool bl, .slice Al nl cl] 33) = v3 at *
  refine (CC hx).mono ?_
  rintro e w4 ⟨bh, Ah, nh, ch, rfl, zh, b⟩
  replace f0 := fK b f0 gl
  replace f1 := fK b f1 gl
  replace hx := hx.on b
  replace zl := zl.on b
  replace k0 := cK b k0 kl
  replace k1 := cK b k1 kl
  replace k2 := cK b k2 kl
  replace kl := lK b kl
  replace g0 := cK b g0 gl
  replace g1 := cK b g1 gl
  replace gl := lK b gl
  replace ba0 := cK b ba0 bal
  replace ba1 := cK b ba1 bal
  replace bal := lK b bal
  replace cc := bK cc b
  clear b
  go_wp2_with fail
  have bA := below_one w4 (.cells #[.bool bh, .slice Ah nh ch] 33)
  replace f0 := fK bA f0 gl
  replace f1 := fK bA f1 gl
  replace hx := hx.on bA
  replace zl := zl.on bA
  replace zh := zh.on bA
  replace k0 := cK bA k0 kl
  replace k1 := cK bA k1 kl
  replace k2 := cK bA k2 kl
  replace kl := lK bA kl
  replace g0 := cK bA g0 gl
  replace g1 := cK bA g1 gl
  replace gl := lK bA gl
  replace ba0 := cK bA ba0 bal
  replace ba1 := cK bA ba1 bal
  replace bal := lK bA bal
  replace cc := bK cc bA
  clear bA
  have bb0 : (w4.alloc (.cells #[.bool bh, .slice Ah nh ch] 33)).cell? ⟨w4.heap.size, 0, none⟩ = some (.bool bh) := by simp [go_sem]
  have bb1 : (w4.alloc (.cells #[.bool bh, .slice Ah nh ch] 33)).cell? ⟨w4.heap.size, 1, none⟩ = some (.slice Ah nh ch) := by simp [go_sem]
  have bbl : w4.heap.size < (w4.alloc (.cells #[.bool bh, .slice Ah nh ch] 33)).heap.size := by simp
  generalize w4.alloc (.cells #[.bool bh, .slice Ah nh ch] 33) = v5 at *
  refine (CX zl).mono ?_
  rintro e w6 ⟨bx, Ax, nx, cx, Bx, mx, dx, rfl, rx, b⟩
  replace f0 := fK b f0 gl
  replace f1 := fK b f1 gl
  replace hx := hx.on b
  replace zl := zl.on b
  replace zh := zh.on b
  replace k0 := cK b k0 kl
  replace k1 := cK b k1 kl
  replace k2 := cK b k2 kl
  replace kl := lK b kl
  replace g0 := cK b g0 gl
  replace g1 := cK b g1 gl
  replace gl := lK b gl
  replace ba0 := cK b ba0 bal
  replace ba1 := cK b ba1 bal
  replace bal := lK b bal
  replace bb0 := cK b bb0 bbl
  replace bb1 := cK b bb1 bbl
  replace bbl := lK b bbl
  replace cc := bK cc b
  clear b
  go_wp2_with fail
  have bA := below_one w6 (.cells #[.bool bx, .slice Ax nx cx, .slice Bx mx dx] 35)
  replace f0 := fK bA f0 gl
  replace f1 := fK bA f1 gl
  replace hx := hx.on bA
  replace zl := zl.on bA
  replace zh := zh.on bA
  replace rx := rx.on bA
  replace k0 := cK bA k0 kl
  replace k1 := cK bA k1 kl
  replace k2 := cK bA k2 kl
  replace kl := lK bA kl
  replace g0 := cK bA g0 gl
  replace g1 := cK bA g1 gl
  replace gl := lK bA gl
  replace ba0 := cK bA ba0 bal
  replace ba1 := cK bA ba1 bal
  replace bal := lK bA bal
  replace bb0 := cK bA bb0 bbl
  replace bb1 := cK bA bb1 bbl
  replace bbl := lK bA bbl
  replace cc := bK cc bA
  clear bA
  have bc0 : (w6.alloc (.cells #[.bool bx, .slice Ax nx cx, .slice Bx mx dx] 35)).cell? ⟨w6.heap.size, 0, none⟩ = some (.bool bx) := by simp [go_sem]
  have bc1 : (w6.alloc (.cells #[.bool bx, .slice Ax nx cx, .slice Bx mx dx] 35)).cell? ⟨w6.heap.size, 1, none⟩ = some (.slice Ax nx cx) := by simp [go_sem]
  have bc2 : (w6.alloc (.cells #[.bool bx, .slice Ax nx cx, .slice Bx mx dx] 35)).cell? ⟨w6.heap.size, 2, none⟩ = some (.slice Bx mx dx) := by simp [go_sem]
  have bcl : w6.heap.size < (w6.alloc (.cells #[.bool bx, .slice Ax nx cx, .slice Bx mx dx] 35)).heap.size := by simp
  generalize w6.alloc (.cells #[.bool bx, .slice Ax nx cx, .slice Bx mx dx] 35) = v7 at *
  refine (CY zh).mono ?_
  rintro e w8 ⟨bY, Ay, ny, cy, By, my, dy, rfl, ry, b⟩
  replace f0 := fK b f0 gl
  replace f1 := fK b f1 gl
  replace hx := hx.on b
  replace zl := zl.on b
  replace zh := zh.on b
  replace rx := rx.on b
  replace k0 := cK b k0 kl
  replace k1 := cK b k1 kl
  replace k2 := cK b k2 kl
  replace kl := lK b kl
  replace g0 := cK b g0 gl
  replace g1 := cK b g1 gl
  replace gl := lK b gl
  replace ba0 := cK b ba0 bal
  replace ba1 := cK b ba1 bal
  replace bal := lK b bal
  replace bb0 := cK b bb0 bbl
  replace bb1 := cK b bb1 bbl
  replace bbl := lK b bbl
  replace bc0 := cK b bc0 bcl
  replace bc1 := cK b bc1 bcl
  replace bc2 := cK b bc2 bcl
  replace bcl := lK b bcl
  replace cc := bK cc b
  clear b
  go_wp2_with fail
  have bA := below_one w8 (.cells #[.bool bY, .slice Ay ny cy, .slice By my dy] 35)
  replace f0 := fK bA f0 gl
  replace f1 := fK bA f1 gl
  replace hx := hx.on bA
  replace zl := zl.on bA
  replace zh := zh.on bA
  replace rx := rx.on bA
  replace ry := ry.on bA
  replace k0 := cK bA k0 kl
  replace k1 := cK bA k1 kl
  replace k2 := cK bA k2 kl
  replace kl := lK bA kl
  replace g0 := cK bA g0 gl
  replace g1 := cK bA g1 gl
  replace gl := lK bA gl
  replace ba0 := cK bA ba0 bal
  replace ba1 := cK bA ba1 bal
  replace bal := lK bA bal
  replace bb0 := cK bA bb0 bbl
  replace bb1 := cK bA bb1 bbl
  replace bbl := lK bA bbl
  replace bc0 := cK bA bc0 bcl
  replace bc1 := cK bA bc1 bcl
  replace bc2 := cK bA bc2 bcl
  replace bcl := lK bA bcl
  replace cc := bK cc bA
  clear bA
  have bd0 : (w8.alloc (.cells #[.bool bY, .slice Ay ny cy, .slice By my dy] 35)).cell? ⟨w8.heap.size, 0, none⟩ = some (.bool bY) := by simp [go_sem]
  have bd1 : (w8.alloc (.cells #[.bool bY, .slice Ay ny cy, .slice By my dy] 35)).cell? ⟨w8.heap.size, 1, none⟩ = some (.slice Ay ny cy) := by simp [go_sem]
  have bd2 : (w8.alloc (.cells #[.bool bY, .slice Ay ny cy, .slice By my dy] 35)).cell? ⟨w8.heap.size, 2, none⟩ = some (.slice By my dy) := by simp [go_sem]
  have bdl : w8.heap.size < (w8.alloc (.cells #[.bool bY, .slice Ay ny cy, .slice By my dy] 35)).heap.size := by simp
  generalize w8.alloc (.cells #[.bool bY, .slice Ay ny cy, .slice By my dy] 35) = v9 at *
  refine (rtsub_N hx (s0.le (by omega)) rx (sl.le (by omega))).mono ?_
  rintro e w10 ⟨bu, Au, nu, cu, Bu, mu, du, rfl, ru, b⟩
  replace f0 := fK b f0 gl
  replace f1 := fK b f1 gl
  replace hx := hx.on b
  replace zl := zl.on b
  replace zh := zh.on b
  replace rx := rx.on b
  replace ry := ry.on b
  replace k0 := cK b k0 kl
  replace k1 := cK b k1 kl
  replace k2 := cK b k2 kl
  replace kl := lK b kl
  replace g0 := cK b g0 gl
  replace g1 := cK b g1 gl
  replace gl := lK b gl
  replace ba0 := cK b ba0 bal
  replace ba1 := cK b ba1 bal
  replace bal := lK b bal
  replace bb0 := cK b bb0 bbl
  replace bb1 := cK b bb1 bbl
  replace bbl := lK b bbl
  replace bc0 := cK b bc0 bcl
  replace bc1 := cK b bc1 bcl
  replace bc2 := cK b bc2 bcl
  replace bcl := lK b bcl
  replace bd0 := cK b bd0 bdl
  replace bd1 := cK b bd1 bdl
  replace bd2 := cK b bd2 bdl
  replace bdl := lK b bdl
  replace cc := bK cc b
  clear b
  go_wp2_with fail
  have bA := below_one w10 (.cells #[.bool bu, .slice Au nu cu, .slice Bu mu du] 35)
  replace f0 := fK bA f0 gl
  replace f1 := fK bA f1 gl
  replace hx := hx.on bA
  replace zl := zl.on bA
  replace zh := zh.on bA
  replace rx := rx.on bA
  replace ry := ry.on bA
  replace ru := ru.on bA
  replace k0 := cK bA k0 kl
  replace k1 := cK bA k1 kl
  replace k2 := cK bA k2 kl
  replace kl := lK bA kl
  replace g0 := cK bA g0 gl
  replace g1 := cK bA g1 gl
  replace gl := lK bA gl
  replace ba0 := cK bA ba0 bal
  replace ba1 := cK bA ba1 bal
  replace bal := lK bA bal
  replace bb0 := cK bA bb0 bbl
  replace bb1 := cK bA bb1 bbl
  replace bbl := lK bA bbl
  replace bc0 := cK bA bc0 bcl
  replace bc1 := cK bA bc1 bcl
  replace bc2 := cK bA bc2 bcl
  replace bcl := lK bA bcl
  replace bd0 := cK bA bd0 bdl
  replace bd1 := cK bA bd1 bdl
  replace bd2 := cK bA bd2 bdl
  replace bdl := lK bA bdl
  replace cc := bK cc bA
  clear bA
  have be0 : (w10.alloc (.cells #[.bool bu, .slice Au nu cu, .slice Bu mu du] 35)).cell? ⟨w10.heap.size, 0, none⟩ = some (.bool bu) := by simp [go_sem]
  have be1 : (w10.alloc (.cells #[.bool bu, .slice Au nu cu, .slice Bu mu du] 35)).cell? ⟨w10.heap.size, 1, none⟩ = some (.slice Au nu cu) := by simp [go_sem]
  have be2 : (w10.alloc (.cells #[.bool bu, .slice Au nu cu, .slice Bu mu du] 35)).cell? ⟨w10.heap.size, 2, none⟩ = some (.slice Bu mu du) := by simp [go_sem]
  have bel : w10.heap.size < (w10.alloc (.cells #[.bool bu, .slice Au nu cu, .slice Bu mu du] 35)).heap.size := by simp
  generalize w10.alloc (.cells #[.bool bu, .slice Au nu cu, .slice Bu mu du] 35) = v11 at *
  refine (rtsub_N ry (sh.le (by omega)) hx (s0.le (by omega))).mono ?_
  rintro e w12 ⟨bv, Av, nv, cv, Bv, mv, dv, rfl, rv, b⟩
  replace f0 := fK b f0 gl
  replace f1 := fK b f1 gl
  replace hx := hx.on b
  replace zl := zl.on b
  replace zh := zh.on b
  replace rx := rx.on b
  replace ry := ry.on b
  replace ru := ru.on b
  replace k0 := cK b k0 kl
  replace k1 := cK b k1 kl
  replace k2 := cK b k2 kl
  replace kl := lK b kl
  replace g0 := cK b g0 gl
  replace g1 := cK b g1 gl
  replace gl := lK b gl
  replace ba0 := cK b ba0 bal
  replace ba1 := cK b ba1 bal
  replace bal := lK b bal
  replace bb0 := cK b bb0 bbl
  replace bb1 := cK b bb1 bbl
  replace bbl := lK b bbl
  replace bc0 := cK b bc0 bcl
  replace bc1 := cK b bc1 bcl
  replace bc2 := cK b bc2 bcl
  replace bcl := lK b bcl
  replace bd0 := cK b bd0 bdl
  replace bd1 := cK b bd1 bdl
  replace bd2 := cK b bd2 bdl
  replace bdl := lK b bdl
  replace be0 := cK b be0 bel
  replace be1 := cK b be1 bel
  replace be2 := cK b be2 bel
  replace bel := lK b bel
  replace cc := bK cc b
  clear b
  go_wp2_with fail
  have bA := below_one w12 (.cells #[.bool bv, .slice Av nv cv, .slice Bv mv dv] 35)
  replace f0 := fK bA f0 gl
  replace f1 := fK bA f1 gl
  replace hx := hx.on bA
  replace zl := zl.on bA
  replace zh := zh.on bA
  replace rx := rx.on bA
  replace ry := ry.on bA
  replace ru := ru.on bA
  replace rv := rv.on bA
  replace k0 := cK bA k0 kl
  replace k1 := cK bA k1 kl
  replace k2 := cK bA k2 kl
  replace kl := lK bA kl
  replace g0 := cK bA g0 gl
  replace g1 := cK bA g1 gl
  replace gl := lK bA gl
  replace ba0 := cK bA ba0 bal
  replace ba1 := cK bA ba1 bal
  replace bal := lK bA bal
  replace bb0 := cK bA bb0 bbl
  replace bb1 := cK bA bb1 bbl
  replace bbl := lK bA bbl
  replace bc0 := cK bA bc0 bcl
  replace bc1 := cK bA bc1 bcl
  replace bc2 := cK bA bc2 bcl
  replace bcl := lK bA bcl
  replace bd0 := cK bA bd0 bdl
  replace bd1 := cK bA bd1 bdl
  replace bd2 := cK bA bd2 bdl
  replace bdl := lK bA bdl
  replace be0 := cK bA be0 bel
  replace be1 := cK bA be1 bel
  replace be2 := cK bA be2 bel
  replace bel := lK bA bel
  replace cc := bK cc bA
  clear bA
  have bf0 : (w12.alloc (.cells #[.bool bv, .slice Av nv cv, .slice Bv mv dv] 35)).cell? ⟨w12.heap.size, 0, none⟩ = some (.bool bv) := by simp [go_sem]
  have bf1 : (w12.alloc (.cells #[.bool bv, .slice Av nv cv, .slice Bv mv dv] 35)).cell? ⟨w12.heap.size, 1, none⟩ = some (.slice Av nv cv) := by simp [go_sem]
  have bf2 : (w12.alloc (.cells #[.bool bv, .slice Av nv cv, .slice Bv mv dv] 35)).cell? ⟨w12.heap.size, 2, none⟩ = some (.slice Bv mv dv) := by simp [go_sem]
  have bfl : w12.heap.size < (w12.alloc (.cells #[.bool bv, .slice Av nv cv, .slice Bv mv dv] 35)).heap.size := by simp
  generalize w12.alloc (.cells #[.bool bv, .slice Av nv cv, .slice Bv mv dv] 35) = v13 at *
  refine (rtcmp_v cn ru (su.le (by omega)) rv (sv.le (by omega)) HC.out).mono ?_
  rintro e w14 ⟨rfl, b⟩
  replace f0 := fK b f0 gl
  replace f1 := fK b f1 gl
  replace hx := hx.on b
  replace zl := zl.on b
  replace zh := zh.on b
  replace rx := rx.on b
  replace ry := ry.on b
  replace ru := ru.on b
  replace rv := rv.on b
  replace k0 := cK b k0 kl
  replace k1 := cK b k1 kl
  replace k2 := cK b k2 kl
  replace kl := lK b kl
  replace g0 := cK b g0 gl
  replace g1 := cK b g1 gl
  replace gl := lK b gl
  replace ba0 := cK b ba0 bal
  replace ba1 := cK b ba1 bal
  replace bal := lK b bal
  replace bb0 := cK b bb0 bbl
  replace bb1 := cK b bb1 bbl
  replace bbl := lK b bbl
  replace bc0 := cK b bc0 bcl
  replace bc1 := cK b bc1 bcl
  replace bc2 := cK b bc2 bcl
  replace bcl := lK b bcl
  replace bd0 := cK b bd0 bdl
  replace bd1 := cK b bd1 bdl
  replace bd2 := cK b bd2 bdl
  replace bdl := lK b bdl
  replace be0 := cK b be0 bel
  replace be1 := cK b be1 bel
  replace be2 := cK b be2 bel
  replace bel := lK b bel
  replace bf0 := cK b bf0 bfl
  replace bf1 := cK b bf1 bfl
  replace bf2 := cK b bf2 bfl
  replace bfl := lK b bfl
  replace cc := bK cc b
  clear b
  go_wp2_with fail
  refine (rodd_N true zl HO.out).mono ?_
  rintro e w15 ⟨rfl, b⟩
  replace f0 := fK b f0 gl
  replace f1 := fK b f1 gl
  replace hx := hx.on b
  replace zl := zl.on b
  replace zh := zh.on b
  replace rx := rx.on b
  replace ry := ry.on b
  replace ru := ru.on b
  replace rv := rv.on b
  replace k0 := cK b k0 kl
  replace k1 := cK b k1 kl
  replace k2 := cK b k2 kl
  replace kl := lK b kl
  replace g0 := cK b g0 gl
  replace g1 := cK b g1 gl
  replace gl := lK b gl
  replace ba0 := cK b ba0 bal
  replace ba1 := cK b ba1 bal
  replace bal := lK b bal
  replace bb0 := cK b bb0 bbl
  replace bb1 := cK b bb1 bbl
  replace bbl := lK b bbl
  replace bc0 := cK b bc0 bcl
  replace bc1 := cK b bc1 bcl
  replace bc2 := cK b bc2 bcl
  replace bcl := lK b bcl
  replace bd0 := cK b bd0 bdl
  replace bd1 := cK b bd1 bdl
  replace bd2 := cK b bd2 bdl
  replace bdl := lK b bdl
  replace be0 := cK b be0 bel
  replace be1 := cK b be1 bel
  replace be2 := cK b be2 bel
  replace bel := lK b bel
  replace bf0 := cK b bf0 bfl
  replace bf1 := cK b bf1 bfl
  replace bf2 := cK b bf2 bfl
  replace bfl := lK b bfl
  replace cc := bK cc b
  clear b
  have hn : Zn w15 bh Ah nh ch (nea x0 j.toNat) := by rw [HN.out]; exact zh
  have eb : Box w15 (w.heap.size + 1) false none 0 0 := ⟨g0, g1⟩
  have HZ : Hid (Zn ((w15.setCell ⟨w.heap.size + 1, 0, none⟩ (.bool bh)).setCell ⟨w.heap.size + 1, 1, none⟩ (.slice Ah nh ch)) bh Ah nh ch (nea x0 j.toNat)) := Lib.hid (hn.put eb _ _)
  clear hn
  go_wp2_with fail
  refine bodyPost_ret (v := .tuple #[.agg #[.bool bh, .slice Ah nh ch], .int .i64 0]) (by simp [results, Try.results49, go_sem, g0, g1]) rfl ⟨_, _, _, _, rfl, HZ.out, below_put cc (by omega) _ _⟩

set_option maxRecDepth 100000 in
set_option maxHeartbeats 8000000 in
theorem rnear_gt {w : World} {b0 : Bool} {A0 B0 : Option Addr} {n0 c0 m0 d0 : Nat} {x0 : Rat} (hx : Rt w b0 A0 n0 c0 B0 m0 d0 x0) (s0 : Sz x0 15) {j : Int} (h0 : 0 ≤ j) (h1 : j ≤ 500) (hc : ¬ cmpQ (x0 - bak (flo x0 j.toNat) j.toNat) (bak (cei x0 j.toNat) j.toNat - x0) < 0) (he : ¬ cmpQ (x0 - bak (flo x0 j.toNat) j.toNat) (bak (cei x0 j.toNat) j.toNat - x0) = 0) :
    Calls Try.prog 49 #[.agg #[.bool b0, .slice A0 n0 c0, .slice B0 m0 d0], .int .i64 j] w (GotZp w (nea x0 j.toNat) 0) := by
  have jl : j.toNat ≤ 500 := by omega
  have ll := flo_len s0 jl
  have lh := cei_len s0 jl
  have hn : nea x0 j.toNat = cei x0 j.toNat := by rw [nea_by]; rw [if_neg (fun h => h.elim (fun a => hc a) (fun a => he a.1))]
  have CF : ∀ {W : World} {b : Bool} {A B : Option Addr} {n c m d : Nat}, Rt W b A n c B m d x0 → Calls Try.prog 72 #[.agg #[.bool b, .slice A n c, .slice B m d], .int .i64 j] W (GotZp W (flo x0 j.toNat) 0) := fun hh => rfloor_N hh (s0.le (by omega)) h0 h1
  have CC : ∀ {W : World} {b : Bool} {A B : Option Addr} {n c m d : Nat}, Rt W b A n c B m d x0 → Calls Try.prog 73 #[.agg #[.bool b, .slice A n c, .slice B m d], .int .i64 j] W (GotZp W (cei x0 j.toNat) 0) := fun hh => rceil_N hh (s0.le (by omega)) h0 h1
  obtain ⟨lo, hlo⟩ : ∃ lo, flo x0 j.toNat = lo := ⟨_, rfl⟩
  obtain ⟨hi, hhi⟩ : ∃ hi, cei x0 j.toNat = hi := ⟨_, rfl⟩
  rw [hlo] at CF ll
  rw [hhi] at CC lh
  rw [hlo, hhi] at hc
  rw [hlo, hhi] at he
  rw [hhi] at hn
  have CB : ∀ {W : World} {z : Int} {b : Bool} {A : Option Addr} {n c : Nat}, Zn W b A n c z → (limbs z.natAbs).length ≤ 24 → Calls Try.prog 15 #[.agg #[.bool b, .slice A n c], .int .i64 j] W (GotRp W (bak z j.toNat) 0) := fun hh hl => rback_N hh (by omega) h0 h1
  have sl : Sz (bak lo j.toNat) 24 := bak_sz ll (by omega) jl
  have sh : Sz (bak hi j.toNat) 24 := bak_sz lh (by omega) jl
  obtain ⟨x, hxx⟩ : ∃ x, bak lo j.toNat = x := ⟨_, rfl⟩
  obtain ⟨y, hyy⟩ : ∃ y, bak hi j.toNat = y := ⟨_, rfl⟩
  have CX : ∀ {W : World} {b : Bool} {A : Option Addr} {n c : Nat}, Zn W b A n c lo → Calls Try.prog 15 #[.agg #[.bool b, .slice A n c], .int .i64 j] W (GotRp W x 0) := fun hh => by rw [← hxx]; exact CB hh ll
  have CY : ∀ {W : World} {b : Bool} {A : Option Addr} {n c : Nat}, Zn W b A n c hi → Calls Try.prog 15 #[.agg #[.bool b, .slice A n c], .int .i64 j] W (GotRp W y 0) := fun hh => by rw [← hyy]; exact CB hh lh
  rw [hxx] at sl
  rw [hyy] at sh
  rw [hxx, hyy] at hc
  rw [hxx, hyy] at he
  obtain ⟨cn, hcn⟩ : ∃ cn, cmpQ (x0 - x) (y - x0) = cn := ⟨_, rfl⟩
  have HC := Lib.hid hcn
  rw [hcn] at hc
  rw [hcn] at he
  have su := s0.sub sl
  have sv := sh.sub s0
  have HN := Lib.hid hn
  have t1 : decide (cn < 0) = false := decide_eq_false (by omega)
  have t2 : (cn == 0) = false := beq_eq_false_iff_ne.2 he
  clear CB hxx hyy hcn hlo hhi hn hc h0 h1 he
  have cc := Below.refl w.heap.size w
  go_enter Try.func49, Try.ntmps49
  go_wp2_with fail
  have f0 : ((w.alloc (.cells #[.bool b0, .slice A0 n0 c0, .slice B0 m0 d0] 35)).alloc (.cells #[.bool false, .slice none 0 0] 33)).frozen? ⟨w.heap.size + 1, 0, none⟩ = false := by simp [go_sem]
  have f1 : ((w.alloc (.cells #[.bool b0, .slice A0 n0 c0, .slice B0 m0 d0] 35)).alloc (.cells #[.bool false, .slice none 0 0] 33)).frozen? ⟨w.heap.size + 1, 1, none⟩ = false := by simp [go_sem]
  have bA : Below w.heap.size w ((w.alloc (.cells #[.bool b0, .slice A0 n0 c0, .slice B0 m0 d0] 35)).alloc (.cells #[.bool false, .slice none 0 0] 33)) := (((Below.refl _ w).alloc (by simp) _).alloc (by simp) _)
  replace hx := hx.on bA
  replace cc := bK cc bA
  clear bA
  have k0 : ((w.alloc (.cells #[.bool b0, .slice A0 n0 c0, .slice B0 m0 d0] 35)).alloc (.cells #[.bool false, .slice none 0 0] 33)).cell? ⟨w.heap.size, 0, none⟩ = some (.bool b0) := by simp [go_sem]
  have k1 : ((w.alloc (.cells #[.bool b0, .slice A0 n0 c0, .slice B0 m0 d0] 35)).alloc (.cells #[.bool false, .slice none 0 0] 33)).cell? ⟨w.heap.size, 1, none⟩ = some (.slice A0 n0 c0) := by simp [go_sem]
  have k2 : ((w.alloc (.cells #[.bool b0, .slice A0 n0 c0, .slice B0 m0 d0] 35)).alloc (.cells #[.bool false, .slice none 0 0] 33)).cell? ⟨w.heap.size, 2, none⟩ = some (.slice B0 m0 d0) := by simp [go_sem]
  have kl : w.heap.size < ((w.alloc (.cells #[.bool b0, .slice A0 n0 c0, .slice B0 m0 d0] 35)).alloc (.cells #[.bool false, .slice none 0 0] 33)).heap.size := by simp <;> omega
  have g0 : ((w.alloc (.cells #[.bool b0, .slice A0 n0 c0, .slice B0 m0 d0] 35)).alloc (.cells #[.bool false, .slice none 0 0] 33)).cell? ⟨w.heap.size + 1, 0, none⟩ = some (.bool false) := by simp [go_sem]
  have g1 : ((w.alloc (.cells #[.bool b0, .slice A0 n0 c0, .slice B0 m0 d0] 35)).alloc (.cells #[.bool false, .slice none 0 0] 33)).cell? ⟨w.heap.size + 1, 1, none⟩ = some (.slice none 0 0) := by simp [go_sem]
  have gl : w.heap.size + 1 < ((w.alloc (.cells #[.bool b0, .slice A0 n0 c0, .slice B0 m0 d0] 35)).alloc (.cells #[.bool false, .slice none 0 0] 33)).heap.size := by simp <;> omega
  generalize (w.alloc (.cells #[.bool b0, .slice A0 n0 c0, .slice B0 m0 d0] 35)).alloc (.cells #[.bool false, .slice none 0 0] 33) = v1 at *
  refine (CF hx).mono ?_
  rintro e w2 ⟨bl, Al, nl, cl, rfl, zl, b⟩
  replace f0 := fK b f0 gl
  replace f1 := fK b f1 gl
  replace hx := hx.on b
  replace k0 := cK b k0 kl
  replace k1 := cK b k1 kl
  replace k2 := cK b k2 kl
  replace kl := lK b kl
  replace g0 := cK b g0 gl
  replace g1 := cK b g1 gl
  replace gl := lK b gl
  replace cc := bK cc b
  clear b
  go_wp2_with fail
  have bA := below_one w2 (.cells #[.bool bl, .slice Al nl cl] 33)
  replace f0 := fK bA f0 gl
  replace f1 := fK bA f1 gl
  replace hx := hx.on bA
  replace zl := zl.on bA
  replace k0 := cK bA k0 kl
  replace k1 := cK bA k1 kl
  replace k2 := cK bA k2 kl
  replace kl := lK bA kl
  replace g0 := cK bA g0 gl
  replace g1 := cK bA g1 gl
  replace gl := lK bA gl
  replace cc := bK cc bA
  clear bA
  have ba0 : (w2.alloc (.cells #[.bool bl, .slice Al nl cl] 33)).cell? ⟨w2.heap.size, 0, none⟩ = some (.bool bl) := by simp [go_sem]
  have ba1 : (w2.alloc (.cells #[.bool bl, .slice Al nl cl] 33)).cell? ⟨w2.heap.size, 1, none⟩ = some (.slice Al nl cl) := by simp [go_sem]
  have bal : w2.heap.size < (w2.alloc (.cells #[.bool bl, .slice Al nl cl] 33)).heap.size := by simp
  generalize w2.alloc (.cells #[.bool bl, .slice Al nl cl] 33) = v3 at *
  refine (CC hx).mono ?_
  rintro e w4 ⟨bh, Ah, nh, ch, rfl, zh, b⟩
  replace f0 := fK b f0 gl
  replace f1 := fK b f1 gl
  replace hx := hx.on b
  replace zl := zl.on b
  replace k0 := cK b k0 kl
  replace k1 := cK b k1 kl
  replace k2 := cK b k2 kl
  replace kl := lK b kl
  replace g0 := cK b g0 gl
  replace g1 := cK b g1 gl
  replace gl := lK b gl
  replace ba0 := cK b ba0 bal
  replace ba1 := cK b ba1 bal
  replace bal := lK b bal
  replace cc := bK cc b
  clear b
  go_wp2_with fail
  have bA := below_one w4 (.cells #[.bool bh, .slice Ah nh ch] 33)
  replace f0 := fK bA f0 gl
  replace f1 := fK bA f1 gl
  replace hx := hx.on bA
  replace zl := zl.on bA
  replace zh := zh.on bA
  replace k0 := cK bA k0 kl
  replace k1 := cK bA k1 kl
  replace k2 := cK bA k2 kl
  replace kl := lK bA kl
  replace g0 := cK bA g0 gl
  replace g1 := cK bA g1 gl
  replace gl := lK bA gl
  replace ba0 := cK bA ba0 bal
  replace ba1 := cK bA ba1 bal
  replace bal := lK bA bal
  replace cc := bK cc bA
  clear bA
  have bb0 : (w4.alloc (.cells #[.bool bh, .slice Ah nh ch] 33)).cell? ⟨w4.heap.size, 0, none⟩ = some (.bool bh) := by simp [go_sem]
  have bb1 : (w4.alloc (.cells #[.bool bh, .slice Ah nh ch] 33)).cell? ⟨w4.heap.size, 1, none⟩ = some (.slice Ah nh ch) := by simp [go_sem]
  have bbl : w4.heap.size < (w4.alloc (.cells #[.bool bh, .slice Ah nh ch] 33)).heap.size := by simp
  generalize w4.alloc (.cells #[.bool bh, .slice Ah nh ch] 33) = v5 at *
  refine (CX zl).mono ?_
  rintro e w6 ⟨bx, Ax, nx, cx, Bx, mx, dx, rfl, rx, b⟩
  replace f0 := fK b f0 gl
  replace f1 := fK b f1 gl
  replace hx := hx.on b
  replace zl := zl.on b
  replace zh := zh.on b
  replace k0 := cK b k0 kl
  replace k1 := cK b k1 kl
  replace k2 := cK b k2 kl
  replace kl := lK b kl
  replace g0 := cK b g0 gl
  replace g1 := cK b g1 gl
  replace gl := lK b gl
  replace ba0 := cK b ba0 bal
  replace ba1 := cK b ba1 bal
  replace bal := lK b bal
  replace bb0 := cK b bb0 bbl
  replace bb1 := cK b bb1 bbl
  replace bbl := lK b bbl
  replace cc := bK cc b
  clear b
  go_wp2_with fail
  have bA := below_one w6 (.cells #[.bool bx, .slice Ax nx cx, .slice Bx mx dx] 35)
  replace f0 := fK bA f0 gl
  replace f1 := fK bA f1 gl
  replace hx := hx.on bA
  replace zl := zl.on bA
  replace zh := zh.on bA
  replace rx := rx.on bA
  replace k0 := cK bA k0 kl
  replace k1 := cK bA k1 kl
  replace k2 := cK bA k2 kl
  replace kl := lK bA kl
  replace g0 := cK bA g0 gl
  replace g1 := cK bA g1 gl
  replace gl := lK bA gl
  replace ba0 := cK bA ba0 bal
  replace ba1 := cK bA ba1 bal
  replace bal := lK bA bal
  replace bb0 := cK bA bb0 bbl
  replace bb1 := cK bA bb1 bbl
  replace bbl := lK bA bbl
  replace cc := bK cc bA
  clear bA
  have bc0 : (w6.alloc (.cells #[.bool bx, .slice Ax nx cx, .slice Bx mx dx] 35)).cell? ⟨w6.heap.size, 0, none⟩ = some (.bool bx) := by simp [go_sem]
  have bc1 : (w6.alloc (.cells #[.bool bx, .slice Ax nx cx, .slice Bx mx dx] 35)).cell? ⟨w6.heap.size, 1, none⟩ = some (.slice Ax nx cx) := by simp [go_sem]
  have bc2 : (w6.alloc (.cells #[.bool bx, .slice Ax nx cx, .slice Bx mx dx] 35)).cell? ⟨w6.heap.size, 2, none⟩ = some (.slice Bx mx dx) := by simp [go_sem]
  have bcl : w6.heap.size < (w6.alloc (.cells #[.bool bx, .slice Ax nx cx, .slice Bx mx dx] 35)).heap.size := by simp
  generalize w6.alloc (.cells #[.bool bx, .slice Ax nx cx, .slice Bx mx dx] 35) = v7 at *
  refine (CY zh).mono ?_
  rintro e w8 ⟨bY, Ay, ny, cy, By, my, dy, rfl, ry, b⟩
  replace f0 := fK b f0 gl
  replace f1 := fK b f1 gl
  replace hx := hx.on b
  replace zl := zl.on b
  replace zh := zh.on b
  replace rx := rx.on b
  replace k0 := cK b k0 kl
  replace k1 := cK b k1 kl
  replace k2 := cK b k2 kl
  replace kl := lK b kl
  replace g0 := cK b g0 gl
  replace g1 := cK b g1 gl
  replace gl := lK b gl
  replace ba0 := cK b ba0 bal
  replace ba1 := cK b ba1 bal
  replace bal := lK b bal
  replace bb0 := cK b bb0 bbl
  replace bb1 := cK b bb1 bbl
  replace bbl := lK b bbl
  replace bc0 := cK b bc0 bcl
  replace bc1 := cK b bc1 bcl
  replace bc2 := cK b bc2 bcl
  replace bcl := lK b bcl
  replace cc := bK cc b
  clear b
  go_wp2_with fail
  have bA := below_one w8 (.cells #[.bool bY, .slice Ay ny cy, .slice By my dy] 35)
  replace f0 := fK bA f0 gl
  replace f1 := fK bA f1 gl
  replace hx := hx.on bA
  replace zl := zl.on bA
  replace zh := zh.on bA
  replace rx := rx.on bA
  replace ry := ry.on bA
  replace k0 := cK bA k0 kl
  replace k1 := cK bA k1 kl
  replace k2 := cK bA k2 kl
  replace kl := lK bA kl
  replace g0 := cK bA g0 gl
  replace g1 := cK bA g1 gl
  replace gl := lK bA gl
  replace ba0 := cK bA ba0 bal
  replace ba1 := cK bA ba1 bal
  replace bal := lK bA bal
  replace bb0 := cK bA bb0 bbl
  replace bb1 := cK bA bb1 bbl
  replace bbl := lK bA bbl
  replace bc0 := cK bA bc0 bcl
  replace bc1 := cK bA bc1 bcl
  replace bc2 := cK bA bc2 bcl
  replace bcl := lK bA bcl
  replace cc := bK cc bA
  clear bA
  have bd0 : (w8.alloc (.cells #[.bool bY, .slice Ay ny cy, .slice By my dy] 35)).cell? ⟨w8.heap.size, 0, none⟩ = some (.bool bY) := by simp [go_sem]
  have bd1 : (w8.alloc (.cells #[.bool bY, .slice Ay ny cy, .slice By my dy] 35)).cell? ⟨w8.heap.size, 1, none⟩ = some (.slice Ay ny cy) := by simp [go_sem]
  have bd2 : (w8.alloc (.cells #[.bool bY, .slice Ay ny cy, .slice By my dy] 35)).cell? ⟨w8.heap.size, 2, none⟩ = some (.slice By my dy) := by simp [go_sem]
  have bdl : w8.heap.size < (w8.alloc (.cells #[.bool bY, .slice Ay ny cy, .slice By my dy] 35)).heap.size := by simp
  generalize w8.alloc (.cells #[.bool bY, .slice Ay ny cy, .slice By my dy] 35) = v9 at *
  refine (rtsub_N hx (s0.le (by omega)) rx (sl.le (by omega))).mono ?_
  rintro e w10 ⟨bu, Au, nu, cu, Bu, mu, du, rfl, ru, b⟩
  replace f0 := fK b f0 gl
  replace f1 := fK b f1 gl
  replace hx := hx.on b
  replace zl := zl.on b
  replace zh := zh.on b
  replace rx := rx.on b
  replace ry := ry.on b
  replace k0 := cK b k0 kl
  replace k1 := cK b k1 kl
  replace k2 := cK b k2 kl
  replace kl := lK b kl
  replace g0 := cK b g0 gl
  replace g1 := cK b g1 gl
  replace gl := lK b gl
  replace ba0 := cK b ba0 bal
  replace ba1 := cK b ba1 bal
  replace bal := lK b bal
  replace bb0 := cK b bb0 bbl
  replace bb1 := cK b bb1 bbl
  replace bbl := lK b bbl
  replace bc0 := cK b bc0 bcl
  replace bc1 := cK b bc1 bcl
  replace bc2 := cK b bc2 bcl
  replace bcl := lK b bcl
  replace bd0 := cK b bd0 bdl
  replace bd1 := cK b bd1 bdl
  replace bd2 := cK b bd2 bdl
  replace bdl := lK b bdl
  replace cc := bK cc b
  clear b
  go_wp2_with fail
  have bA := below_one w10 (.cells #[.bool bu, .slice Au nu cu, .slice Bu mu du] 35)
  replace f0 := fK bA f0 gl
  replace f1 := fK bA f1 gl
  replace hx := hx.on bA
  replace zl := zl.on bA
  replace zh := zh.on bA
  replace rx := rx.on bA
  replace ry := ry.on bA
  replace ru := ru.on bA
  replace k0 := cK bA k0 kl
  replace k1 := cK bA k1 kl
  replace k2 := cK bA k2 kl
  replace kl := lK bA kl
  replace g0 := cK bA g0 gl
  replace g1 := cK bA g1 gl
  replace gl := lK bA gl
  replace ba0 := cK bA ba0 bal
  replace ba1 := cK bA ba1 bal
  replace bal := lK bA bal
  replace bb0 := cK bA bb0 bbl
  replace bb1 := cK bA bb1 bbl
  replace bbl := lK bA bbl
  replace bc0 := cK bA bc0 bcl
  replace bc1 := cK bA bc1 bcl
  replace bc2 := cK bA bc2 bcl
  replace bcl := lK bA bcl
  replace bd0 := cK bA bd0 bdl
  replace bd1 := cK bA bd1 bdl
  replace bd2 := cK bA bd2 bdl
  replace bdl := lK bA bdl
  replace cc := bK cc bA
  clear bA
  have be0 : (w10.alloc (.cells #[.bool bu, .slice Au nu cu, .slice Bu mu du] 35)).cell? ⟨w10.heap.size, 0, none⟩ = some (.bool bu) := by simp [go_sem]
  have be1 : (w10.alloc (.cells #[.bool bu, .slice Au nu cu, .slice Bu mu du] 35)).cell? ⟨w10.heap.size, 1, none⟩ = some (.slice Au nu cu) := by simp [go_sem]
  have be2 : (w10.alloc (.cells #[.bool bu, .slice Au nu cu, .slice Bu mu du] 35)).cell? ⟨w10.heap.size, 2, none⟩ = some (.slice Bu mu du) := by simp [go_sem]
  have bel : w10.heap.size < (w10.alloc (.cells #[.bool bu, .slice Au nu cu, .slice Bu mu du] 35)).heap.size := by simp
  generalize w10.alloc (.cells #[.bool bu, .slice Au nu cu, .slice Bu mu du] 35) = v11 at *
  refine (rtsub_N ry (sh.le (by omega)) hx (s0.le (by omega))).mono ?_
  rintro e w12 ⟨bv, Av, nv, cv, Bv, mv, dv, rfl, rv, b⟩
  replace f0 := fK b f0 gl
  replace f1 := fK b f1 gl
  replace hx := hx.on b
  replace zl := zl.on b
  replace zh := zh.on b
  replace rx := rx.on b
  replace ry := ry.on b
  replace ru := ru.on b
  replace k0 := cK b k0 kl
  replace k1 := cK b k1 kl
  replace k2 := cK b k2 kl
  replace kl := lK b kl
  replace g0 := cK b g0 gl
  replace g1 := cK b g1 gl
  replace gl := lK b gl
  replace ba0 := cK b ba0 bal
  replace ba1 := cK b ba1 bal
  replace bal := lK b bal
  replace bb0 := cK b bb0 bbl
  replace bb1 := cK b bb1 bbl
  replace bbl := lK b bbl
  replace bc0 := cK b bc0 bcl
  replace bc1 := cK b bc1 bcl
  replace bc2 := cK b bc2 bcl
  replace bcl := lK b bcl
  replace bd0 := cK b bd0 bdl
  replace bd1 := cK b bd1 bdl
  replace bd2 := cK b bd2 bdl
  replace bdl := lK b bdl
  replace be0 := cK b be0 bel
  replace be1 := cK b be1 bel
  replace be2 := cK b be2 bel
  replace bel := lK b bel
  replace cc := bK cc b
  clear b
  go_wp2_with fail
  have bA := below_one w12 (.cells #[.bool bv, .slice Av nv cv, .slice Bv mv dv] 35)
  replace f0 := fK bA f0 gl
  replace f1 := fK bA f1 gl
  replace hx := hx.on bA
  replace zl := zl.on bA
  replace zh := zh.on bA
  replace rx := rx.on bA
  replace ry := ry.on bA
  replace ru := ru.on bA
  replace rv := rv.on bA
  replace k0 := cK bA k0 kl
  replace k1 := cK bA k1 kl
  replace k2 := cK bA k2 kl
  replace kl := lK bA kl
  replace g0 := cK bA g0 gl
  replace g1 := cK bA g1 gl
  replace gl := lK bA gl
  replace ba0 := cK bA ba0 bal
  replace ba1 := cK bA ba1 bal
  replace bal := lK bA bal
  replace bb0 := cK bA bb0 bbl
  replace bb1 := cK bA bb1 bbl
  replace bbl := lK bA bbl
  replace bc0 := cK bA bc0 bcl
  replace bc1 := cK bA bc1 bcl
  replace bc2 := cK bA bc2 bcl
  replace bcl := lK bA bcl
  replace bd0 := cK bA bd0 bdl
  replace bd1 := cK bA bd1 bdl
  replace bd2 := cK bA bd2 bdl
  replace bdl := lK bA bdl
  replace be0 := cK bA be0 bel
  replace be1 := cK bA be1 bel
  replace be2 := cK bA be2 bel
  replace bel := lK bA bel
  replace cc := bK cc bA
  clear bA
  have bf0 : (w12.alloc (.cells #[.bool bv, .slice Av nv cv, .slice Bv mv dv] 35)).cell? ⟨w12.heap.size, 0, none⟩ = some (.bool bv) := by simp [go_sem]
  have bf1 : (w12.alloc (.cells #[.bool bv, .slice Av nv cv, .slice Bv mv dv] 35)).cell? ⟨w12.heap.size, 1, none⟩ = some (.slice Av nv cv) := by simp [go_sem]
  have bf2 : (w12.alloc (.cells #[.bool bv, .slice Av nv cv, .slice Bv mv dv] 35)).cell? ⟨w12.heap.size, 2, none⟩ = some (.slice Bv mv dv) := by simp [go_sem]
  have bfl : w12.heap.size < (w12.alloc (.cells #[.bool bv, .slice Av nv cv, .slice Bv mv dv] 35)).heap.size := by simp
  generalize w12.alloc (.cells #[.bool bv, .slice Av nv cv, .slice Bv mv dv] 35) = v13 at *
  refine (rtcmp_v cn ru (su.le (by omega)) rv (sv.le (by omega)) HC.out).mono ?_
  rintro e w14 ⟨rfl, b⟩
  replace f0 := fK b f0 gl
  replace f1 := fK b f1 gl
  replace hx := hx.on b
  replace zl := zl.on b
  replace zh := zh.on b
  replace rx := rx.on b
  replace ry := ry.on b
  replace ru := ru.on b
  replace rv := rv.on b
  replace k0 := cK b k0 kl
  replace k1 := cK b k1 kl
  replace k2 := cK b k2 kl
  replace kl := lK b kl
  replace g0 := cK b g0 gl
  replace g1 := cK b g1 gl
  replace gl := lK b gl
  replace ba0 := cK b ba0 bal
  replace ba1 := cK b ba1 bal
  replace bal := lK b bal
  replace bb0 := cK b bb0 bbl
  replace bb1 := cK b bb1 bbl
  replace bbl := lK b bbl
  replace bc0 := cK b bc0 bcl
  replace bc1 := cK b bc1 bcl
  replace bc2 := cK b bc2 bcl
  replace bcl := lK b bcl
  replace bd0 := cK b bd0 bdl
  replace bd1 := cK b bd1 bdl
  replace bd2 := cK b bd2 bdl
  replace bdl := lK b bdl
  replace be0 := cK b be0 bel
  replace be1 := cK b be1 bel
  replace be2 := cK b be2 bel
  replace bel := lK b bel
  replace bf0 := cK b bf0 bfl
  replace bf1 := cK b bf1 bfl
  replace bf2 := cK b bf2 bfl
  replace bfl := lK b bfl
  replace cc := bK cc b
  clear b
  have hn : Zn w14 bh Ah nh ch (nea x0 j.toNat) := by rw [HN.out]; exact zh
  have eb : Box w14 (w.heap.size + 1) false none 0 0 := ⟨g0, g1⟩
  have HZ : Hid (Zn ((w14.setCell ⟨w.heap.size + 1, 0, none⟩ (.bool bh)).setCell ⟨w.heap.size + 1, 1, none⟩ (.slice Ah nh ch)) bh Ah nh ch (nea x0 j.toNat)) := Lib.hid (hn.put eb _ _)
  clear hn
  go_wp2_with fail
  refine bodyPost_ret (v := .tuple #[.agg #[.bool bh, .slice Ah nh ch], .int .i64 0]) (by simp [results, Try.results49, go_sem, g0, g1]) rfl ⟨_, _, _, _, rfl, HZ.out, below_put cc (by omega) _ _⟩

set_option maxRecDepth 100000 in
set_option maxHeartbeats 8000000 in
theorem rnear_N {w : World} {b0 : Bool} {A0 B0 : Option Addr} {n0 c0 m0 d0 : Nat} {x0 : Rat} (hx : Rt w b0 A0 n0 c0 B0 m0 d0 x0) (s0 : Sz x0 15) {j : Int} (h0 : 0 ≤ j) (h1 : j ≤ 500) :
    Calls Try.prog 49 #[.agg #[.bool b0, .slice A0 n0 c0, .slice B0 m0 d0], .int .i64 j] w (GotZp w (nea x0 j.toNat) 0) := by
  by_cases hc : cmpQ (x0 - bak (flo x0 j.toNat) j.toNat) (bak (cei x0 j.toNat) j.toNat - x0) < 0
  · exact rnear_lt hx s0 h0 h1 hc
  · by_cases he : cmpQ (x0 - bak (flo x0 j.toNat) j.toNat) (bak (cei x0 j.toNat) j.toNat - x0) = 0
    · by_cases h2 : flo x0 j.toNat % 2 = 0
      · exact rnear_even hx s0 h0 h1 he h2
      · exact rnear_odd hx s0 h0 h1 he h2
    · exact rnear_gt hx s0 h0 h1 hc he

set_option maxRecDepth 100000 in
set_option maxHeartbeats 8000000 in
theorem rnear_no {w : World} {b0 : Bool} {A0 B0 : Option Addr} {n0 c0 m0 d0 : Nat} {x0 : Rat} (hx : Rt w b0 A0 n0 c0 B0 m0 d0 x0) (s0 : Sz x0 15)  {j : Int} (h : j < 0 ∨ 2000 < j) :
    Calls Try.prog 49 #[.agg #[.bool b0, .slice A0 n0 c0, .slice B0 m0 d0], .int .i64 j] w (GotZp w 0 1) := by
  have cc := Below.refl w.heap.size w
  go_enter Try.func49, Try.ntmps49
  go_wp2_with fail
  have f0 : ((w.alloc (.cells #[.bool b0, .slice A0 n0 c0, .slice B0 m0 d0] 35)).alloc (.cells #[.bool false, .slice none 0 0] 33)).frozen? ⟨w.heap.size + 1, 0, none⟩ = false := by simp [go_sem]
  have f1 : ((w.alloc (.cells #[.bool b0, .slice A0 n0 c0, .slice B0 m0 d0] 35)).alloc (.cells #[.bool false, .slice none 0 0] 33)).frozen? ⟨w.heap.size + 1, 1, none⟩ = false := by simp [go_sem]
  have bA : Below w.heap.size w ((w.alloc (.cells #[.bool b0, .slice A0 n0 c0, .slice B0 m0 d0] 35)).alloc (.cells #[.bool false, .slice none 0 0] 33)) := (((Below.refl _ w).alloc (by simp) _).alloc (by simp) _)
  replace hx := hx.on bA
  replace cc := bK cc bA
  clear bA
  have k0 : ((w.alloc (.cells #[.bool b0, .slice A0 n0 c0, .slice B0 m0 d0] 35)).alloc (.cells #[.bool false, .slice none 0 0] 33)).cell? ⟨w.heap.size, 0, none⟩ = some (.bool b0) := by simp [go_sem]
  have k1 : ((w.alloc (.cells #[.bool b0, .slice A0 n0 c0, .slice B0 m0 d0] 35)).alloc (.cells #[.bool false, .slice none 0 0] 33)).cell? ⟨w.heap.size, 1, none⟩ = some (.slice A0 n0 c0) := by simp [go_sem]
  have k2 : ((w.alloc (.cells #[.bool b0, .slice A0 n0 c0, .slice B0 m0 d0] 35)).alloc (.cells #[.bool false, .slice none 0 0] 33)).cell? ⟨w.heap.size, 2, none⟩ = some (.slice B0 m0 d0) := by simp [go_sem]
  have kl : w.heap.size < ((w.alloc (.cells #[.bool b0, .slice A0 n0 c0, .slice B0 m0 d0] 35)).alloc (.cells #[.bool false, .slice none 0 0] 33)).heap.size := by simp <;> omega
  have g0 : ((w.alloc (.cells #[.bool b0, .slice A0 n0 c0, .slice B0 m0 d0] 35)).alloc (.cells #[.bool false, .slice none 0 0] 33)).cell? ⟨w.heap.size + 1, 0, none⟩ = some (.bool false) := by simp [go_sem]
  have g1 : ((w.alloc (.cells #[.bool b0, .slice A0 n0 c0, .slice B0 m0 d0] 35)).alloc (.cells #[.bool false, .slice none 0 0] 33)).cell? ⟨w.heap.size + 1, 1, none⟩ = some (.slice none 0 0) := by simp [go_sem]
  have gl : w.heap.size + 1 < ((w.alloc (.cells #[.bool b0, .slice A0 n0 c0, .slice B0 m0 d0] 35)).alloc (.cells #[.bool false, .slice none 0 0] 33)).heap.size := by simp <;> omega
  generalize (w.alloc (.cells #[.bool b0, .slice A0 n0 c0, .slice B0 m0 d0] 35)).alloc (.cells #[.bool false, .slice none 0 0] 33) = v1 at *
  refine (rfloor_no h).mono ?_
  rintro e w2 ⟨bl, Al, nl, cl, rfl, zl, b⟩
  replace f0 := fK b f0 gl
  replace f1 := fK b f1 gl
  replace hx := hx.on b
  replace k0 := cK b k0 kl
  replace k1 := cK b k1 kl
  replace k2 := cK b k2 kl
  replace kl := lK b kl
  replace g0 := cK b g0 gl
  replace g1 := cK b g1 gl
  replace gl := lK b gl
  replace cc := bK cc b
  clear b
  have eb : Box w2 (w.heap.size + 1) false none 0 0 := ⟨g0, g1⟩
  have HC := Lib.hid ((eb.put bl Al nl cl).alloc (.cells #[.bool bl, .slice Al nl cl] 33))
  have HZ := Lib.hid ((zl.put eb (.bool bl) (.slice Al nl cl)).alloc (.cells #[.bool bl, .slice Al nl cl] 33))
  have HB := Lib.hid ((below_put cc (show w.heap.size ≤ w.heap.size + 1 by omega) (.bool bl) (.slice Al nl cl)).alloc (by simp; omega) (.cells #[.bool bl, .slice Al nl cl] 33))
  go_wp2_with fail
  obtain ⟨e0, e1⟩ := HC.out
  refine bodyPost_ret (v := .tuple #[.agg #[.bool bl, .slice Al nl cl], .int .i64 1]) (by simp only [results, Try.results49]; simp [go_sem, e0, e1]) rfl ⟨_, _, _, _, rfl, HZ.out, HB.out⟩

end Go.Proofs.Ytccigpnebejbiaa

/-
  The contracts of the eighth reference: near, frac, Of, Rat.
-/
namespace Go.Proofs.Ytccigpnebejbiaa
set_option maxRecDepth 100000
open Go.RowKit
set_option linter.unusedVariables false
set_option linter.unusedSimpArgs false

/-- What is told of a whole number: itself, where 64 bits hold it; else 0 and ErrRange. -/
def nI (z : Int) : Int := if -9223372036854775808 ≤ z ∧ z ≤ 9223372036854775807 then z else 0
def nE (z : Int) : Int := if -9223372036854775808 ≤ z ∧ z ≤ 9223372036854775807 then 0 else 2
theorem nI_yes {z : Int} (h : I64 z) : nI z = z ∧ nE z = 0 := ⟨if_pos h, if_pos h⟩
theorem nI_no {z : Int} (h : ¬ I64 z) : nI z = 0 ∧ nE z = 2 := ⟨if_neg h, if_neg h⟩

set_option maxRecDepth 100000 in
set_option maxHeartbeats 8000000 in
theorem near_yes {w : World} {b0 : Bool} {A0 B0 : Option Addr} {n0 c0 m0 d0 : Nat} {x0 : Rat} (h0 : Rt w b0 A0 n0 c0 B0 m0 d0 x0) (s0 : Sz x0 15) {j : Int} (j0 : 0 ≤ j) (j1 : j ≤ 500) (hi : I64 (nea x0 j.toNat)) :
    Calls Try.prog 28 #[.agg #[.bool b0, .slice A0 n0 c0, .slice B0 m0 d0], .int .i64 j] w (GotV w (.tuple #[.int .i64 (nea x0 j.toNat), .int .i64 (0)])) := by
  have lz_ := nea_len s0 (show j.toNat ≤ 500 by omega)
  have cc := Below.refl w.heap.size w
  go_enter Try.func28, Try.ntmps28
  go_wp2_with fail
  have bA : Below w.heap.size w (w.alloc (.cells #[.bool b0, .slice A0 n0 c0, .slice B0 m0 d0] 35)) := ((Below.refl _ w).alloc (by simp) _)
  replace h0 := h0.on bA
  replace cc := bK cc bA
  clear bA
  have ka0 : (w.alloc (.cells #[.bool b0, .slice A0 n0 c0, .slice B0 m0 d0] 35)).cell? ⟨w.heap.size, 0, none⟩ = some (.bool b0) := by simp [go_sem]
  have ka1 : (w.alloc (.cells #[.bool b0, .slice A0 n0 c0, .slice B0 m0 d0] 35)).cell? ⟨w.heap.size, 1, none⟩ = some (.slice A0 n0 c0) := by simp [go_sem]
  have ka2 : (w.alloc (.cells #[.bool b0, .slice A0 n0 c0, .slice B0 m0 d0] 35)).cell? ⟨w.heap.size, 2, none⟩ = some (.slice B0 m0 d0) := by simp [go_sem]
  have kal : w.heap.size < (w.alloc (.cells #[.bool b0, .slice A0 n0 c0, .slice B0 m0 d0] 35)).heap.size := by simp <;> omega
  generalize w.alloc (.cells #[.bool b0, .slice A0 n0 c0, .slice B0 m0 d0] 35) = v1 at *
  refine (rnear_N h0 s0 j0 j1).mono ?_
  rintro e w2 ⟨bz, Az, nz, cz, rfl, hz, b⟩
  replace h0 := h0.on b
  replace ka0 := cK b ka0 kal
  replace ka1 := cK b ka1 kal
  replace ka2 := cK b ka2 kal
  replace kal := lK b kal
  replace cc := bK cc b
  clear b
  go_wp2_with fail
  have bA := below_one w2 (.cells #[.bool bz, .slice Az nz cz] 33)
  replace h0 := h0.on bA
  replace hz := hz.on bA
  replace ka0 := cK bA ka0 kal
  replace ka1 := cK bA ka1 kal
  replace ka2 := cK bA ka2 kal
  replace kal := lK bA kal
  replace cc := bK cc bA
  clear bA
  have zb0 : (w2.alloc (.cells #[.bool bz, .slice Az nz cz] 33)).cell? ⟨w2.heap.size, 0, none⟩ = some (.bool bz) := by simp [go_sem]
  have zb1 : (w2.alloc (.cells #[.bool bz, .slice Az nz cz] 33)).cell? ⟨w2.heap.size, 1, none⟩ = some (.slice Az nz cz) := by simp [go_sem]
  have zbl : w2.heap.size < (w2.alloc (.cells #[.bool bz, .slice Az nz cz] 33)).heap.size := by simp
  generalize w2.alloc (.cells #[.bool bz, .slice Az nz cz] 33) = v3 at *
  refine (rzint_yes hz hi).mono ?_
  rintro e w4 ⟨rfl, b⟩
  replace h0 := h0.on b
  replace hz := hz.on b
  replace ka0 := cK b ka0 kal
  replace ka1 := cK b ka1 kal
  replace ka2 := cK b ka2 kal
  replace kal := lK b kal
  replace zb0 := cK b zb0 zbl
  replace zb1 := cK b zb1 zbl
  replace zbl := lK b zbl
  replace cc := bK cc b
  clear b
  go_wp2_with fail
  go_ret2
  exact ⟨rfl, cc⟩

set_option maxRecDepth 100000 in
set_option maxHeartbeats 8000000 in
theorem near_no {w : World} {b0 : Bool} {A0 B0 : Option Addr} {n0 c0 m0 d0 : Nat} {x0 : Rat} (h0 : Rt w b0 A0 n0 c0 B0 m0 d0 x0) (s0 : Sz x0 15) {j : Int} (j0 : 0 ≤ j) (j1 : j ≤ 500) (hi : ¬ I64 (nea x0 j.toNat)) :
    Calls Try.prog 28 #[.agg #[.bool b0, .slice A0 n0 c0, .slice B0 m0 d0], .int .i64 j] w (GotV w (.tuple #[.int .i64 (0), .int .i64 (2)])) := by
  have lz_ := nea_len s0 (show j.toNat ≤ 500 by omega)
  have cc := Below.refl w.heap.size w
  go_enter Try.func28, Try.ntmps28
  go_wp2_with fail
  have bA : Below w.heap.size w (w.alloc (.cells #[.bool b0, .slice A0 n0 c0, .slice B0 m0 d0] 35)) := ((Below.refl _ w).alloc (by simp) _)
  replace h0 := h0.on bA
  replace cc := bK cc bA
  clear bA
  have ka0 : (w.alloc (.cells #[.bool b0, .slice A0 n0 c0, .slice B0 m0 d0] 35)).cell? ⟨w.heap.size, 0, none⟩ = some (.bool b0) := by simp [go_sem]
  have ka1 : (w.alloc (.cells #[.bool b0, .slice A0 n0 c0, .slice B0 m0 d0] 35)).cell? ⟨w.heap.size, 1, none⟩ = some (.slice A0 n0 c0) := by simp [go_sem]
  have ka2 : (w.alloc (.cells #[.bool b0, .slice A0 n0 c0, .slice B0 m0 d0] 35)).cell? ⟨w.heap.size, 2, none⟩ = some (.slice B0 m0 d0) := by simp [go_sem]
  have kal : w.heap.size < (w.alloc (.cells #[.bool b0, .slice A0 n0 c0, .slice B0 m0 d0] 35)).heap.size := by simp <;> omega
  generalize w.alloc (.cells #[.bool b0, .slice A0 n0 c0, .slice B0 m0 d0] 35) = v1 at *
  refine (rnear_N h0 s0 j0 j1).mono ?_
  rintro e w2 ⟨bz, Az, nz, cz, rfl, hz, b⟩
  replace h0 := h0.on b
  replace ka0 := cK b ka0 kal
  replace ka1 := cK b ka1 kal
  replace ka2 := cK b ka2 kal
  replace kal := lK b kal
  replace cc := bK cc b
  clear b
  go_wp2_with fail
  have bA := below_one w2 (.cells #[.bool bz, .slice Az nz cz] 33)
  replace h0 := h0.on bA
  replace hz := hz.on bA
  replace ka0 := cK bA ka0 kal
  replace ka1 := cK bA ka1 kal
  replace ka2 := cK bA ka2 kal
  replace kal := lK bA kal
  replace cc := bK cc bA
  clear bA
  have zb0 : (w2.alloc (.cells #[.bool bz, .slice Az nz cz] 33)).cell? ⟨w2.heap.size, 0, none⟩ = some (.bool bz) := by simp [go_sem]
  have zb1 : (w2.alloc (.cells #[.bool bz, .slice Az nz cz] 33)).cell? ⟨w2.heap.size, 1, none⟩ = some (.slice Az nz cz) := by simp [go_sem]
  have zbl : w2.heap.size < (w2.alloc (.cells #[.bool bz, .slice Az nz cz] 33)).heap.size := by simp
  generalize w2.alloc (.cells #[.bool bz, .slice Az nz cz] 33) = v3 at *
  refine (rzint_no hz (Nat.le_trans lz_ (by omega)) hi).mono ?_
  rintro e w4 ⟨rfl, b⟩
  replace h0 := h0.on b
  replace hz := hz.on b
  replace ka0 := cK b ka0 kal
  replace ka1 := cK b ka1 kal
  replace ka2 := cK b ka2 kal
  replace kal := lK b kal
  replace zb0 := cK b zb0 zbl
  replace zb1 := cK b zb1 zbl
  replace zbl := lK b zbl
  replace cc := bK cc b
  clear b
  go_wp2_with fail
  go_ret2
  exact ⟨rfl, cc⟩

set_option maxRecDepth 100000 in
set_option maxHeartbeats 8000000 in
theorem near_N {w : World} {b0 : Bool} {A0 B0 : Option Addr} {n0 c0 m0 d0 : Nat} {x0 : Rat} (h0 : Rt w b0 A0 n0 c0 B0 m0 d0 x0) (s0 : Sz x0 15) {j : Int} (j0 : 0 ≤ j) (j1 : j ≤ 500) :
    Calls Try.prog 28 #[.agg #[.bool b0, .slice A0 n0 c0, .slice B0 m0 d0], .int .i64 j] w (GotV w (.tuple #[.int .i64 (nI (nea x0 j.toNat)), .int .i64 (nE (nea x0 j.toNat))])) := by
  by_cases hi : I64 (nea x0 j.toNat)
  · rw [(nI_yes hi).1, (nI_yes hi).2]; exact near_yes h0 s0 j0 j1 hi
  · rw [(nI_no hi).1, (nI_no hi).2]; exact near_no h0 s0 j0 j1 hi

set_option maxRecDepth 100000 in
set_option maxHeartbeats 8000000 in
theorem frac_0 (w : World) {j : Int} (h : j < 0) :
    Calls Try.prog 34 #[.int .i64 j] w (GotV w (.bool false)) := by
  have t1 : decide (0 ≤ j) = false := decide_eq_false (by omega)
  go_enter Try.func34, Try.ntmps34
  go_wp2_with fail
  go_ret
  exact ⟨rfl, Below.refl _ _⟩

set_option maxRecDepth 100000 in
set_option maxHeartbeats 8000000 in
theorem frac_1 (w : World) {j : Int} (h0 : 0 ≤ j) (h1 : 40 < j) :
    Calls Try.prog 34 #[.int .i64 j] w (GotV w (.bool false)) := by
  have t1 : decide (0 ≤ j) = true := decide_eq_true h0
  have t2 : decide (j ≤ 40) = false := decide_eq_false (by omega)
  go_enter Try.func34, Try.ntmps34
  go_wp2_with fail
  go_ret
  exact ⟨rfl, Below.refl _ _⟩

set_option maxRecDepth 100000 in
set_option maxHeartbeats 8000000 in
theorem frac_2 (w : World) {j : Int} (h0 : 0 ≤ j) (h1 : j ≤ 40) :
    Calls Try.prog 34 #[.int .i64 j] w (GotV w (.bool true)) := by
  have t1 : decide (0 ≤ j) = true := decide_eq_true h0
  have t2 : decide (j ≤ 40) = true := decide_eq_true (by omega)
  go_enter Try.func34, Try.ntmps34
  go_wp2_with fail
  go_ret
  exact ⟨rfl, Below.refl _ _⟩

set_option maxRecDepth 100000 in
set_option maxHeartbeats 8000000 in
theorem frac_no (w : World) {j : Int} (h : j < 0 ∨ 40 < j) :
    Calls Try.prog 34 #[.int .i64 j] w (GotV w (.bool false)) := by
  by_cases h0 : 0 ≤ j
  · exact frac_1 w h0 (by omega)
  · exact frac_0 w (by omega)





end Go.Proofs.Ytccigpnebejbiaa

/-
  The contract of the library's Div64, for any divisor.
-/
namespace Go.Proofs.Ytccigpnebejbiaa
set_option maxRecDepth 100000
open Go.RowKit

theorem norm64 {H L Y s : Nat} (hs : s = 64 - blen Y) (hH : H < Y) (hL : L < B64) (hY : Y < B64) :
    s < 64 ∧ Y * 2 ^ s < B64 ∧ B64 ≤ 2 * (Y * 2 ^ s) ∧ shlD H s + shrD L s < Y * 2 ^ s ∧ shlD L s < B64 ∧
    ((shlD H s + shrD L s) * B64 + shlD L s) / (Y * 2 ^ s) = (H * B64 + L) / Y ∧ ((shlD H s + shrD L s) * B64 + shlD L s) % (Y * 2 ^ s) / 2 ^ s = (H * B64 + L) % Y := by
  have h0 : Y ≠ 0 := by omega
  have b1 := blen_pos h0
  have b2 : blen Y ≤ 64 := blen_le (by rw [← B64_two]; exact hY)
  have b3 := lt_blen Y
  have b4 := blen_ge h0
  have e1 : 2 ^ blen Y * 2 ^ s = B64 := by rw [B64_two, ← Nat.pow_add]; congr 1; omega
  have e2 : 2 * (2 ^ (blen Y - 1) * 2 ^ s) = B64 := by
    rw [← e1, ← Nat.mul_assoc, Nat.mul_comm 2, ← Nat.pow_succ]; congr 3; omega
  have hp : 0 < 2 ^ s := Nat.pow_pos (by omega)
  have c1 : Y * 2 ^ s < B64 := by rw [← e1]; exact Nat.mul_lt_mul_of_pos_right b3 hp
  have c2 : B64 ≤ 2 * (Y * 2 ^ s) := by rw [← e2]; exact Nat.mul_le_mul_left _ (Nat.mul_le_mul_right _ b4)
  have c3 : H * 2 ^ s < B64 := Nat.lt_of_le_of_lt (Nat.mul_le_mul_right _ (by omega)) c1
  have c4 : shlD H s = H * 2 ^ s := Nat.mod_eq_of_lt c3
  have c5 : shlD L s + B64 * shrD L s = L * 2 ^ s := sh_split L (by omega)
  have c6 : shlD L s < B64 := Nat.mod_lt _ B64_pos
  have c7 : (shlD H s + shrD L s) * B64 + shlD L s = (H * B64 + L) * 2 ^ s := by
    rw [c4, Nat.add_mul, Nat.add_mul, ← c5]
    have : H * 2 ^ s * B64 = H * B64 * 2 ^ s := by ac_rfl
    rw [this, Nat.mul_comm (shrD L s)]
    omega
  have c8 : shlD H s + shrD L s < Y * 2 ^ s := by
    refine Nat.lt_of_mul_lt_mul_right (a := B64) ?_
    have k1 : H * B64 + L < Y * B64 := by
      have := Nat.mul_le_mul_right B64 (show H + 1 ≤ Y from hH)
      rw [Nat.add_mul] at this
      omega
    have k2 := Nat.mul_lt_mul_of_pos_right k1 hp
    have k3 : Y * 2 ^ s * B64 = Y * B64 * 2 ^ s := by ac_rfl
    rw [k3]
    omega
  refine ⟨by omega, c1, c2, c8, c6, ?_, ?_⟩
  · rw [c7, Nat.mul_div_mul_right _ _ hp]
  · rw [c7, Nat.mul_mod_mul_right, Nat.mul_div_cancel _ hp]
theorem shr_nat (n s : Nat) : ((n : Int)) / 2 ^ s = ((n / 2 ^ s : Nat) : Int) := by simp

set_option maxRecDepth 100000 in
set_option maxHeartbeats 4000000 in
theorem div64_full (H L Y : Nat) (w : World) (h0 : H ≠ 0) (hH : H < Y) (hL : L < B64) (hYB : Y < B64) :
    Calls Try.prog 47 #[.int .u64 (H : Int), .int .u64 (L : Int), .int .u64 (Y : Int)] w fun e w' => e = .returned (.tuple #[.int .u64 ((H * B64 + L) / Y : Nat), .int .u64 ((H * B64 + L) % Y : Nat)]) ∧ w = w' := by
  have hy0 : ((Y : Int) == 0) = false := by simp; omega
  have hle : decide (Y ≤ H) = false := by simp; omega
  have hh0 : ((H : Int) == 0) = false := by simp; omega
  obtain ⟨s, hs⟩ : ∃ s, s = 64 - blen Y := ⟨_, rfl⟩
  have hn := norm64 hs hH hL hYB
  have hc := shrD_lt (s := s) hL (by omega)
  have hor := or_shl H (s := s) (c := shrD L s) (by omega) hc
  have CL : Calls Try.prog 71 #[.int .u64 (Y : Int)] w fun e w' => e = .returned (.int .i64 (s : Int)) ∧ w = w' := by rw [hs]; exact lead_any Y w hYB
  obtain ⟨y, hyd⟩ : ∃ y, y = Y * 2 ^ s := ⟨_, rfl⟩
  obtain ⟨hi, hhd⟩ : ∃ hi, hi = shlD H s + shrD L s := ⟨_, rfl⟩
  obtain ⟨lo, hld⟩ : ∃ lo, lo = shlD L s := ⟨_, rfl⟩
  obtain ⟨t, htd⟩ : ∃ t, t = 64 - s := ⟨_, rfl⟩
  obtain ⟨c, hcd⟩ : ∃ c, c = shrD L s := ⟨_, rfl⟩
  rw [← hyd, ← hhd, ← hld] at hn
  rw [← hhd, ← hcd] at hor
  obtain ⟨hs64, hy, ht, hhi, hlo, hdiv, hmod⟩ := hn
  rw [← hdiv, ← hmod]
  have HN := Lib.hid (show y = Y * 2 ^ s from hyd)
  have as1 : IntKind.u64.wrap (s : Int) = (s : Int) := by rw [IntKind.wrap_u64]; omega
  have as2 : IntKind.u64.wrap (64 - (s : Int)) = (t : Int) := by rw [IntKind.wrap_u64, htd]; omega
  have as3 : IntKind.u64.wrap ((Y : Int) * 2 ^ s) = (y : Int) := by
    have : ((Y : Int) * 2 ^ s) = ((Y * 2 ^ s : Nat) : Int) := by simp
    rw [this, ← hyd]; exact wrap_nat hy
  have as4 : IntKind.u64.wrap ((L : Int) * 2 ^ s) = (lo : Int) := by
    rw [hld, IntKind.wrap_u64, show (18446744073709551616 : Int) = (B64 : Int) from rfl]
    unfold shlD
    simp
  have am : min t 64 = t := by omega
  have as5 : (L : Int) / 2 ^ t = (c : Int) := by rw [htd, hcd]; exact shr_eq L s
  clear hs hcd hhd hld hyd htd hc hdiv hmod hH hL
  have HS := Lib.hid hs64
  obtain ⟨y1, hy1⟩ : ∃ y1, y1 = hiH y := ⟨_, rfl⟩
  obtain ⟨y0, hyl⟩ : ∃ y0, y0 = loH y := ⟨_, rfl⟩
  obtain ⟨l1, hl1⟩ : ∃ l1, l1 = hiH lo := ⟨_, rfl⟩
  obtain ⟨l0, hll⟩ : ∃ l0, l0 = loH lo := ⟨_, rfl⟩
  have a2 : (y : Int) / 4294967296 = (y1 : Int) := by rw [hy1]; unfold hiH H32; omega
  have a3 : bits .and .u64 (y : Int) 4294967295 = (y0 : Int) := by rw [u64_and32, hyl]; unfold loH H32; omega
  have a5 : (lo : Int) / 4294967296 = (l1 : Int) := by rw [hl1]; unfold hiH H32; omega
  have a6 : bits .and .u64 (lo : Int) 4294967295 = (l0 : Int) := by rw [u64_and32, hll]; unfold loH H32; omega
  have hY := Half.start (u := hi) (y := y) (y1 := y1) (y0 := y0) (d := l1) (by rw [hy1, hyl]; unfold hiH loH; rw [Nat.mul_comm]; exact (Nat.div_add_mod y H32).symm) (by rw [hyl]; exact loH_lt y) (by rw [hy1]; exact hiH_lt hy)
    (by rw [hy1]; unfold hiH H32; unfold B64 at ht; omega) hhi (by rw [hl1]; exact hiH_lt hlo)
  have b1 : ¬ y1 = 0 := by have := hY.top; unfold H32 at this; omega
  have hr := Half.r_lt (u := hi) hY.top
  obtain ⟨q, hq⟩ : ∃ q, q = hi / y1 := ⟨_, rfl⟩
  obtain ⟨r, hr'⟩ : ∃ r, r = hi % y1 := ⟨_, rfl⟩
  rw [← hq, ← hr'] at hY
  rw [← hr'] at hr
  have a10 : IntKind.u64.wrap ((hi : Int) / (y1 : Int)) = (q : Int) := by
    rw [hq, IntKind.wrap_u64]
    have h1 : hi / y1 ≤ hi := Nat.div_le_self _ _
    have h2 : ((hi / y1 : Nat) : Int) = (hi : Int) / (y1 : Int) := by simp
    rw [← h2]
    unfold B64 at hy
    omega
  have a11 : IntKind.u64.wrap ((hi : Int) - IntKind.u64.wrap ((q : Int) * (y1 : Int))) = (r : Int) := by
    have h1 := hY.hq
    have h2 : ((q * y1 : Nat) : Int) = (q : Int) * (y1 : Int) := by simp
    rw [← h2, IntKind.wrap_u64, IntKind.wrap_u64]
    unfold B64 at hy
    omega
  have HQ := Lib.hid hq
  have HR := Lib.hid hr'
  have HY1 := Lib.hid hy1
  have HYL := Lib.hid hyl
  have HL1 := Lib.hid hl1
  have HLL := Lib.hid hll
  have HYY := Lib.hid hY
  clear hq hr' hy1 hyl hl1 hll hY
  go_enter Try.func47, Try.ntmps47
  go_upto_block 0 with (go_at_call 71; refine CL.mono ?_; rintro e w' ⟨rfl, rfl⟩)
  go_cut [15] (fun qv wx => ∃ q : Nat, qv = .int .u64 (q : Int) ∧ q < H32 ∧ Hid (q = (hi * H32 + l1) / y) ∧ w = wx)
  case first =>
    go_wp2_with fail
    go_loop [15, 16] (fun qv rv => ∃ q r : Nat, qv = .int .u64 (q : Int) ∧ rv = .int .u64 (r : Int) ∧ Half hi y y1 y0 l1 q r ∧ r < H32) (fun qv _ => (intOf qv).toNat)
    case atStart => exact ⟨q, r, rfl, rfl, HYY.out, by have := HYY.out.h1; omega⟩
    case round =>
      obtain ⟨q, r, rfl, rfl, hH, hr32⟩ := hrel
      have hq2 := hH.q_le
      have hd32 := hH.hd
      have hy32 := hH.h1
      obtain ⟨m1, hm1⟩ : ∃ m1, m1 = q * y0 := ⟨_, rfl⟩
      obtain ⟨m2, hm2⟩ : ∃ m2, m2 = H32 * r + l1 := ⟨_, rfl⟩
      have c4 : IntKind.u64.wrap (IntKind.u64.wrap (4294967296 * (r : Int)) + (l1 : Int)) = (m2 : Int) := by rw [hm2]; exact wrap_fit hr32 hd32
      by_cases hb : tooBig q y0 r l1
      · have hH' := hH.step hb
        have hpos := (hH.pos hb).2
        have hask := hH.ask hb hm1 hm2
        obtain ⟨q', hq'⟩ : ∃ q', q' = q - 1 := ⟨_, rfl⟩
        obtain ⟨r', hr'⟩ : ∃ r', r' = r + y1 := ⟨_, rfl⟩
        rw [← hq', ← hr'] at hH'
        have c1 : IntKind.u64.wrap ((q : Int) - 1) = (q' : Int) := by
          rw [IntKind.wrap_u64]; unfold H32 at hq2; omega
        have c2 : IntKind.u64.wrap ((r : Int) + (y1 : Int)) = (r' : Int) := by
          rw [IntKind.wrap_u64]; unfold H32 at hr32 hy32; omega
        have hlt : q' < q := by omega
        have HH := Lib.hid hH'
        clear hH' hH hb hm1 hm2 hq' hr' hpos hq2 hd32 hy32
        by_cases hx : H32 ≤ r'
        · have g2 : (4294967296 : Int) ≤ (r' : Int) := by unfold H32 at hx; omega
          have hfin := HH.out.fin (.inl hx)
          have HF := Lib.hid hfin
          clear hfin hx
          rcases hask with g1 | ⟨g1, c3, g3⟩
          all_goals
            go_wp2_with fail
            go_meet
            exact ⟨q', rfl, HF.out.2, Lib.hid HF.out.1, rfl⟩
        · have g2 : ¬ (4294967296 : Int) ≤ (r' : Int) := by unfold H32 at hx; omega
          have hr3 : r' < H32 := by omega
          clear hx
          rcases hask with g1 | ⟨g1, c3, g3⟩
          all_goals
            go_wp2_with fail
            go_round
            case rel => exact ⟨q', r', rfl, rfl, HH.out, hr3⟩
            case measure => simp [intOf]; omega
      · have hfin := hH.fin (.inr hb)
        obtain ⟨g1, c3, g3⟩ := hH.ask_no hb hm1 hm2
        have HF := Lib.hid hfin
        clear hfin hH hb hm1 hm2 hq2 hd32 hy32
        go_wp2_with fail
        go_meet
        exact ⟨q, rfl, HF.out.2, Lib.hid HF.out.1, rfl⟩
  case rest =>
    obtain ⟨q1, rfl, hq1, HQ1, rfl⟩ := hcut
    obtain ⟨u, hu⟩ : ∃ u, u = (hi * H32 + l1) % y := ⟨_, rfl⟩
    have hy0' : 0 < y := by omega
    have huy : u < y := by rw [hu]; exact Nat.mod_lt _ hy0'
    have d1 : IntKind.u64.wrap (IntKind.u64.wrap (IntKind.u64.wrap ((hi : Int) * 4294967296) + (l1 : Int)) - IntKind.u64.wrap ((q1 : Int) * (y : Int))) = (u : Int) := by
      have e : u + y * q1 = hi * H32 + l1 := by rw [hu, HQ1.out]; exact Nat.mod_add_div _ _
      have e2 : ((q1 : Int) * (y : Int)) = ((y * q1 : Nat) : Int) := by rw [Nat.mul_comm]; simp
      rw [e2, IntKind.wrap_u64, IntKind.wrap_u64, IntKind.wrap_u64, IntKind.wrap_u64]
      generalize y * q1 = z at *
      unfold H32 at e
      unfold B64 at hy
      omega
    have hY := Half.start (u := u) (d := l0) HYY.out.hy HYY.out.h0 HYY.out.h1 HYY.out.top huy (by rw [HLL.out]; exact loH_lt lo)
    have hr2 := Half.r_lt (u := u) hY.top
    obtain ⟨q2, hq2⟩ : ∃ q, q = u / y1 := ⟨_, rfl⟩
    obtain ⟨r2, hr2'⟩ : ∃ r, r = u % y1 := ⟨_, rfl⟩
    rw [← hq2, ← hr2'] at hY
    rw [← hr2'] at hr2
    have d2 : IntKind.u64.wrap ((u : Int) / (y1 : Int)) = (q2 : Int) := by
      rw [hq2, IntKind.wrap_u64]
      have h1 : u / y1 ≤ u := Nat.div_le_self _ _
      have h2 : ((u / y1 : Nat) : Int) = (u : Int) / (y1 : Int) := by simp
      rw [← h2]
      unfold B64 at hy
      omega
    have d3 : IntKind.u64.wrap ((u : Int) - IntKind.u64.wrap ((q2 : Int) * (y1 : Int))) = (r2 : Int) := by
      have h1 := hY.hq
      have h2 : ((q2 * y1 : Nat) : Int) = (q2 : Int) * (y1 : Int) := by simp
      rw [← h2, IntKind.wrap_u64, IntKind.wrap_u64]
      unfold B64 at hy
      omega
    have HU := Lib.hid hu
    have HZ := Lib.hid hY
    clear hu hY hq2 hr2'
    go_upto_block 2 with fail
    go_cut [18] (fun qv wx => ∃ q : Nat, qv = .int .u64 (q : Int) ∧ q < H32 ∧ Hid (q = (u * H32 + l0) / y) ∧ w = wx)
    case first =>
      go_wp2_with fail
      go_loop [18, 16] (fun qv rv => ∃ q r : Nat, qv = .int .u64 (q : Int) ∧ rv = .int .u64 (r : Int) ∧ Half u y y1 y0 l0 q r ∧ r < H32) (fun qv _ => (intOf qv).toNat)
      case atStart => exact ⟨q2, r2, rfl, rfl, HZ.out, by have := HZ.out.h1; omega⟩
      case round =>
        obtain ⟨q, r, rfl, rfl, hH, hr32⟩ := hrel
        have hq2 := hH.q_le
        have hd32 := hH.hd
        have hy32 := hH.h1
        obtain ⟨m1, hm1⟩ : ∃ m1, m1 = q * y0 := ⟨_, rfl⟩
        obtain ⟨m2, hm2⟩ : ∃ m2, m2 = H32 * r + l0 := ⟨_, rfl⟩
        have c4 : IntKind.u64.wrap (IntKind.u64.wrap (4294967296 * (r : Int)) + (l0 : Int)) = (m2 : Int) := by rw [hm2]; exact wrap_fit hr32 hd32
        by_cases hb : tooBig q y0 r l0
        · have hH' := hH.step hb
          have hpos := (hH.pos hb).2
          have hask := hH.ask hb hm1 hm2
          obtain ⟨q', hq'⟩ : ∃ q', q' = q - 1 := ⟨_, rfl⟩
          obtain ⟨r', hr'⟩ : ∃ r', r' = r + y1 := ⟨_, rfl⟩
          rw [← hq', ← hr'] at hH'
          have c1 : IntKind.u64.wrap ((q : Int) - 1) = (q' : Int) := by
            rw [IntKind.wrap_u64]; unfold H32 at hq2; omega
          have c2 : IntKind.u64.wrap ((r : Int) + (y1 : Int)) = (r' : Int) := by
            rw [IntKind.wrap_u64]; unfold H32 at hr32 hy32; omega
          have hlt : q' < q := by omega
          have HH := Lib.hid hH'
          clear hH' hH hb hm1 hm2 hq' hr' hpos hq2 hd32 hy32
          by_cases hx : H32 ≤ r'
          · have g2 : (4294967296 : Int) ≤ (r' : Int) := by unfold H32 at hx; omega
            have hfin := HH.out.fin (.inl hx)
            have HF := Lib.hid hfin
            clear hfin hx
            rcases hask with g1 | ⟨g1, c3, g3⟩
            all_goals
              go_wp2_with fail
              go_meet
              exact ⟨q', rfl, HF.out.2, Lib.hid HF.out.1, rfl⟩
          · have g2 : ¬ (4294967296 : Int) ≤ (r' : Int) := by unfold H32 at hx; omega
            have hr3 : r' < H32 := by omega
            clear hx
            rcases hask with g1 | ⟨g1, c3, g3⟩
            all_goals
              go_wp2_with fail
              go_round
              case rel => exact ⟨q', r', rfl, rfl, HH.out, hr3⟩
              case measure => simp [intOf]; omega
        · have hfin := hH.fin (.inr hb)
          obtain ⟨g1, c3, g3⟩ := hH.ask_no hb hm1 hm2
          have HF := Lib.hid hfin
          clear hfin hH hb hm1 hm2 hq2 hd32 hy32
          go_wp2_with fail
          go_meet
          exact ⟨q, rfl, HF.out.2, Lib.hid HF.out.1, rfl⟩
    case rest =>
      obtain ⟨q0, rfl, hq0, HQ0, rfl⟩ := hcut
      have hB := both_halves (hi := hi) (l1 := l1) (l0 := l0) hy0' HQ1.out HU.out HQ0.out
      have hlo2 : l1 * H32 + l0 = lo := by rw [HL1.out, HLL.out]; unfold hiH loH; rw [Nat.mul_comm]; exact Nat.div_add_mod lo H32
      rw [hlo2] at hB
      have e1 : IntKind.u64.wrap (IntKind.u64.wrap ((q1 : Int) * 4294967296) + (q0 : Int)) = ((q1 * H32 + q0 : Nat) : Int) := by
        rw [IntKind.wrap_u64, IntKind.wrap_u64]
        unfold H32 at hq1 hq0 ⊢
        omega
      have e2 : IntKind.u64.wrap (IntKind.u64.wrap (IntKind.u64.wrap ((u : Int) * 4294967296) + (l0 : Int)) - IntKind.u64.wrap ((q0 : Int) * (y : Int))) = (((u * H32 + l0) % y : Nat) : Int) := by
        have e : (u * H32 + l0) % y + y * q0 = u * H32 + l0 := by rw [HQ0.out]; exact Nat.mod_add_div _ _
        have hlt : (u * H32 + l0) % y < y := Nat.mod_lt _ hy0'
        have e2 : ((q0 : Int) * (y : Int)) = ((y * q0 : Nat) : Int) := by rw [Nat.mul_comm]; simp
        rw [e2, IntKind.wrap_u64, IntKind.wrap_u64, IntKind.wrap_u64, IntKind.wrap_u64]
        generalize y * q0 = z at *
        generalize (u * H32 + l0) % y = v at *
        unfold H32 at e
        unfold B64 at hy
        omega
      have HB := Lib.hid hB
      have E1 := Lib.hid e1
      have E2 := Lib.hid e2
      clear hB hlo2 e1 e2
      go_wp2_with fail
      go_ret2
      refine ⟨ret_two ?_ ?_, rfl⟩
      · rw [E1.out, HB.out.1]
      · rw [← HB.out.2, ← shr_nat, ← E2.out]

theorem div64_N (H L Y : Nat) (w : World) (hH : H < Y) (hL : L < B64) (hY : Y < B64) :
    Calls Try.prog 47 #[.int .u64 (H : Int), .int .u64 (L : Int), .int .u64 (Y : Int)] w fun e w' => e = .returned (.tuple #[.int .u64 ((H * B64 + L) / Y : Nat), .int .u64 ((H * B64 + L) % Y : Nat)]) ∧ ∃ n, w' = w.drewN n := by
  by_cases h0 : H = 0
  · subst h0
    rw [Nat.zero_mul, Nat.zero_add]
    exact div64_zero L Y w hL hH
  · refine (div64_full H L Y w h0 hH hL hY).mono ?_
    rintro e w' ⟨rfl, rfl⟩
    exact ⟨rfl, 0, rfl⟩
end Go.Proofs.Ytccigpnebejbiaa
