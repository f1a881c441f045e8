/-
  Several texts in one: F8, K8, M11, C10, D10, B11, FrK, FrU, MathR, M16.
-/
import Derived.Test.YtpephogadljncaaGreatA6
import Derived.Test.YtpephogadljncaaGreatA3
import Derived.Test.YtpephogadljncaaGreatA2
import Derived.Test.YtpephogadljncaaGreatA4

/-
  The contracts of the sixth reference: Near.
-/
namespace Go.Proofs.YtpephogadljncaaGreat
set_option maxRecDepth 100000
set_option maxHeartbeats 8000000
open Go.RowKit
set_option linter.unusedVariables false
set_option linter.unusedSimpArgs false

theorem rnear_lt {w : World} {b0 : Bool} {A0 B0 : Option Addr} {n0 c0 m0 d0 : Nat} {x0 : Rat} (hx : Rt w b0 A0 n0 c0 B0 m0 d0 x0) (s0 : Sz x0 15) {j : Int} (h0 : 0 ≤ j) (h1 : j ≤ 500) (hc : cmpQ (x0 - bak (flo x0 j.toNat) j.toNat) (bak (cei x0 j.toNat) j.toNat - x0) < 0) :
    Calls Tryz.prog 84 #[.agg #[.bool b0, .slice A0 n0 c0, .slice B0 m0 d0], .int .i64 j] w (GotZp w (nea x0 j.toNat) 0) := by
  have jl : j.toNat ≤ 500 := by omega
  have ll := flo_len s0 jl
  have lh := cei_len s0 jl
  have hn : nea x0 j.toNat = flo x0 j.toNat := by rw [nea_by]; rw [if_pos (.inl hc)]
  have CF : ∀ {W : World} {b : Bool} {A B : Option Addr} {n c m d : Nat}, Rt W b A n c B m d x0 → Calls Tryz.prog 108 #[.agg #[.bool b, .slice A n c, .slice B m d], .int .i64 j] W (GotZp W (flo x0 j.toNat) 0) := fun hh => rfloor_N hh (s0.le (by omega)) h0 h1
  have CC : ∀ {W : World} {b : Bool} {A B : Option Addr} {n c m d : Nat}, Rt W b A n c B m d x0 → Calls Tryz.prog 109 #[.agg #[.bool b, .slice A n c, .slice B m d], .int .i64 j] W (GotZp W (cei x0 j.toNat) 0) := fun hh => rceil_N hh (s0.le (by omega)) h0 h1
  obtain ⟨lo, hlo⟩ : ∃ lo, flo x0 j.toNat = lo := ⟨_, rfl⟩
  obtain ⟨hi, hhi⟩ : ∃ hi, cei x0 j.toNat = hi := ⟨_, rfl⟩
  rw [hlo] at CF ll
  rw [hhi] at CC lh
  rw [hlo, hhi] at hc
  skip
  rw [hlo] at hn
  have CB : ∀ {W : World} {z : Int} {b : Bool} {A : Option Addr} {n c : Nat}, Zn W b A n c z → (limbs z.natAbs).length ≤ 24 → Calls Tryz.prog 110 #[.agg #[.bool b, .slice A n c], .int .i64 j] W (GotRp W (bak z j.toNat) 0) := fun hh hl => rback_N hh (by omega) h0 h1
  have sl : Sz (bak lo j.toNat) 24 := bak_sz ll (by omega) jl
  have sh : Sz (bak hi j.toNat) 24 := bak_sz lh (by omega) jl
  obtain ⟨x, hxx⟩ : ∃ x, bak lo j.toNat = x := ⟨_, rfl⟩
  obtain ⟨y, hyy⟩ : ∃ y, bak hi j.toNat = y := ⟨_, rfl⟩
  have CX : ∀ {W : World} {b : Bool} {A : Option Addr} {n c : Nat}, Zn W b A n c lo → Calls Tryz.prog 110 #[.agg #[.bool b, .slice A n c], .int .i64 j] W (GotRp W x 0) := fun hh => by rw [← hxx]; exact CB hh ll
  have CY : ∀ {W : World} {b : Bool} {A : Option Addr} {n c : Nat}, Zn W b A n c hi → Calls Tryz.prog 110 #[.agg #[.bool b, .slice A n c], .int .i64 j] W (GotRp W y 0) := fun hh => by rw [← hyy]; exact CB hh lh
  rw [hxx] at sl
  rw [hyy] at sh
  rw [hxx, hyy] at hc
  skip
  obtain ⟨cn, hcn⟩ : ∃ cn, cmpQ (x0 - x) (y - x0) = cn := ⟨_, rfl⟩
  have HC := Lib.hid hcn
  rw [hcn] at hc
  skip
  have su := s0.sub sl
  have sv := sh.sub s0
  have HN := Lib.hid hn
  have t1 : decide (cn < 0) = true := decide_eq_true hc
  clear CB hxx hyy hcn hlo hhi hn hc h0 h1
  have cc := Below.refl w.heap.size w
  go_enter Tryz.func84, Tryz.ntmps84
  go_wp2_with fail
  generalize hv_ : (w.alloc (.cells #[.bool b0, .slice A0 n0 c0, .slice B0 m0 d0] 48)).alloc (.cells #[.bool false, .slice none 0 0] 42) = v1
  obtain ⟨f0, f1⟩ : Fz2 v1 (w.heap.size + 1) := by simp [Fz2, ← hv_, go_sem]
  have bA : Below w.heap.size w v1 := by rw [← hv_]; exact (((Below.refl _ w).alloc (by simp) _).alloc (by simp) _)
  replace hx := hx.on bA
  replace cc := bK cc bA
  clear bA
  obtain ⟨k0, k1, k2⟩ : Cs3 v1 w.heap.size (.bool b0) (.slice A0 n0 c0) (.slice B0 m0 d0) := by simp [Cs3, ← hv_, go_sem]
  have kl : w.heap.size < v1.heap.size := by simp [← hv_] <;> omega
  obtain ⟨g0, g1⟩ : Cs2 v1 (w.heap.size + 1) (.bool false) (.slice none 0 0) := by simp [Cs2, ← hv_, go_sem]
  have gl : w.heap.size + 1 < v1.heap.size := by simp [← hv_] <;> omega
  clear hv_
  refine (CF hx).mono ?_
  rintro e w2 ⟨bl, Al, nl, cl, rfl, zl, b⟩
  rewrite [fR b gl] at f0 f1
  replace hx := hx.on b
  rewrite [cR b kl] at k0 k1 k2
  replace kl := lK b kl
  rewrite [cR b gl] at g0 g1
  replace gl := lK b gl
  replace cc := bK cc b
  clear b
  go_wp2_with fail
  generalize hv_ : w2.alloc (.cells #[.bool bl, .slice Al nl cl] 42) = v3
  have bA : Below w2.heap.size w2 v3 := by rw [← hv_]; exact below_one _ _
  rewrite [fR bA gl] at f0 f1
  replace hx := hx.on bA
  replace zl := zl.on bA
  rewrite [cR bA kl] at k0 k1 k2
  replace kl := lK bA kl
  rewrite [cR bA gl] at g0 g1
  replace gl := lK bA gl
  replace cc := bK cc bA
  clear bA
  obtain ⟨ba0, ba1⟩ : Cs2 v3 w2.heap.size (.bool bl) (.slice Al nl cl) := by simp [Cs2, ← hv_, go_sem]
  have bal : w2.heap.size < v3.heap.size := by simp [← hv_]
  clear hv_
  refine (CC hx).mono ?_
  rintro e w4 ⟨bh, Ah, nh, ch, rfl, zh, b⟩
  rewrite [fR b gl] at f0 f1
  replace hx := hx.on b
  replace zl := zl.on b
  rewrite [cR b kl] at k0 k1 k2
  replace kl := lK b kl
  rewrite [cR b gl] at g0 g1
  replace gl := lK b gl
  rewrite [cR b bal] at ba0 ba1
  replace bal := lK b bal
  replace cc := bK cc b
  clear b
  go_wp2_with fail
  generalize hv_ : w4.alloc (.cells #[.bool bh, .slice Ah nh ch] 42) = v5
  have bA : Below w4.heap.size w4 v5 := by rw [← hv_]; exact below_one _ _
  rewrite [fR bA gl] at f0 f1
  replace hx := hx.on bA
  replace zl := zl.on bA
  replace zh := zh.on bA
  rewrite [cR bA kl] at k0 k1 k2
  replace kl := lK bA kl
  rewrite [cR bA gl] at g0 g1
  replace gl := lK bA gl
  rewrite [cR bA bal] at ba0 ba1
  replace bal := lK bA bal
  replace cc := bK cc bA
  clear bA
  obtain ⟨bb0, bb1⟩ : Cs2 v5 w4.heap.size (.bool bh) (.slice Ah nh ch) := by simp [Cs2, ← hv_, go_sem]
  have bbl : w4.heap.size < v5.heap.size := by simp [← hv_]
  clear hv_
  refine (CX zl).mono ?_
  rintro e w6 ⟨bx, Ax, nx, cx, Bx, mx, dx, rfl, rx, b⟩
  rewrite [fR b gl] at f0 f1
  replace hx := hx.on b
  replace zl := zl.on b
  replace zh := zh.on b
  rewrite [cR b kl] at k0 k1 k2
  replace kl := lK b kl
  rewrite [cR b gl] at g0 g1
  replace gl := lK b gl
  rewrite [cR b bal] at ba0 ba1
  replace bal := lK b bal
  rewrite [cR b bbl] at bb0 bb1
  replace bbl := lK b bbl
  replace cc := bK cc b
  clear b
  go_wp2_with fail
  generalize hv_ : w6.alloc (.cells #[.bool bx, .slice Ax nx cx, .slice Bx mx dx] 48) = v7
  have bA : Below w6.heap.size w6 v7 := by rw [← hv_]; exact below_one _ _
  rewrite [fR bA gl] at f0 f1
  replace hx := hx.on bA
  replace zl := zl.on bA
  replace zh := zh.on bA
  replace rx := rx.on bA
  rewrite [cR bA kl] at k0 k1 k2
  replace kl := lK bA kl
  rewrite [cR bA gl] at g0 g1
  replace gl := lK bA gl
  rewrite [cR bA bal] at ba0 ba1
  replace bal := lK bA bal
  rewrite [cR bA bbl] at bb0 bb1
  replace bbl := lK bA bbl
  replace cc := bK cc bA
  clear bA
  obtain ⟨bc0, bc1, bc2⟩ : Cs3 v7 w6.heap.size (.bool bx) (.slice Ax nx cx) (.slice Bx mx dx) := by simp [Cs3, ← hv_, go_sem]
  have bcl : w6.heap.size < v7.heap.size := by simp [← hv_]
  clear hv_
  refine (CY zh).mono ?_
  rintro e w8 ⟨bY, Ay, ny, cy, By, my, dy, rfl, ry, b⟩
  rewrite [fR b gl] at f0 f1
  replace hx := hx.on b
  replace zl := zl.on b
  replace zh := zh.on b
  replace rx := rx.on b
  rewrite [cR b kl] at k0 k1 k2
  replace kl := lK b kl
  rewrite [cR b gl] at g0 g1
  replace gl := lK b gl
  rewrite [cR b bal] at ba0 ba1
  replace bal := lK b bal
  rewrite [cR b bbl] at bb0 bb1
  replace bbl := lK b bbl
  rewrite [cR b bcl] at bc0 bc1 bc2
  replace bcl := lK b bcl
  replace cc := bK cc b
  clear b
  go_wp2_with fail
  generalize hv_ : w8.alloc (.cells #[.bool bY, .slice Ay ny cy, .slice By my dy] 48) = v9
  have bA : Below w8.heap.size w8 v9 := by rw [← hv_]; exact below_one _ _
  rewrite [fR bA gl] at f0 f1
  replace hx := hx.on bA
  replace zl := zl.on bA
  replace zh := zh.on bA
  replace rx := rx.on bA
  replace ry := ry.on bA
  rewrite [cR bA kl] at k0 k1 k2
  replace kl := lK bA kl
  rewrite [cR bA gl] at g0 g1
  replace gl := lK bA gl
  rewrite [cR bA bal] at ba0 ba1
  replace bal := lK bA bal
  rewrite [cR bA bbl] at bb0 bb1
  replace bbl := lK bA bbl
  rewrite [cR bA bcl] at bc0 bc1 bc2
  replace bcl := lK bA bcl
  replace cc := bK cc bA
  clear bA
  obtain ⟨bd0, bd1, bd2⟩ : Cs3 v9 w8.heap.size (.bool bY) (.slice Ay ny cy) (.slice By my dy) := by simp [Cs3, ← hv_, go_sem]
  have bdl : w8.heap.size < v9.heap.size := by simp [← hv_]
  clear hv_
  refine (rtsub_N hx (s0.le (by omega)) rx (sl.le (by omega))).mono ?_
  rintro e w10 ⟨bu, Au, nu, cu, Bu, mu, du, rfl, ru, b⟩
  rewrite [fR b gl] at f0 f1
  replace hx := hx.on b
  replace zl := zl.on b
  replace zh := zh.on b
  replace rx := rx.on b
  replace ry := ry.on b
  rewrite [cR b kl] at k0 k1 k2
  replace kl := lK b kl
  rewrite [cR b gl] at g0 g1
  replace gl := lK b gl
  rewrite [cR b bal] at ba0 ba1
  replace bal := lK b bal
  rewrite [cR b bbl] at bb0 bb1
  replace bbl := lK b bbl
  rewrite [cR b bcl] at bc0 bc1 bc2
  replace bcl := lK b bcl
  rewrite [cR b bdl] at bd0 bd1 bd2
  replace bdl := lK b bdl
  replace cc := bK cc b
  clear b
  go_wp2_with fail
  generalize hv_ : w10.alloc (.cells #[.bool bu, .slice Au nu cu, .slice Bu mu du] 48) = v11
  have bA : Below w10.heap.size w10 v11 := by rw [← hv_]; exact below_one _ _
  rewrite [fR bA gl] at f0 f1
  replace hx := hx.on bA
  replace zl := zl.on bA
  replace zh := zh.on bA
  replace rx := rx.on bA
  replace ry := ry.on bA
  replace ru := ru.on bA
  rewrite [cR bA kl] at k0 k1 k2
  replace kl := lK bA kl
  rewrite [cR bA gl] at g0 g1
  replace gl := lK bA gl
  rewrite [cR bA bal] at ba0 ba1
  replace bal := lK bA bal
  rewrite [cR bA bbl] at bb0 bb1
  replace bbl := lK bA bbl
  rewrite [cR bA bcl] at bc0 bc1 bc2
  replace bcl := lK bA bcl
  rewrite [cR bA bdl] at bd0 bd1 bd2
  replace bdl := lK bA bdl
  replace cc := bK cc bA
  clear bA
  obtain ⟨be0, be1, be2⟩ : Cs3 v11 w10.heap.size (.bool bu) (.slice Au nu cu) (.slice Bu mu du) := by simp [Cs3, ← hv_, go_sem]
  have bel : w10.heap.size < v11.heap.size := by simp [← hv_]
  clear hv_
  refine (rtsub_N ry (sh.le (by omega)) hx (s0.le (by omega))).mono ?_
  rintro e w12 ⟨bv, Av, nv, cv, Bv, mv, dv, rfl, rv, b⟩
  rewrite [fR b gl] at f0 f1
  replace hx := hx.on b
  replace zl := zl.on b
  replace zh := zh.on b
  replace rx := rx.on b
  replace ry := ry.on b
  replace ru := ru.on b
  rewrite [cR b kl] at k0 k1 k2
  replace kl := lK b kl
  rewrite [cR b gl] at g0 g1
  replace gl := lK b gl
  rewrite [cR b bal] at ba0 ba1
  replace bal := lK b bal
  rewrite [cR b bbl] at bb0 bb1
  replace bbl := lK b bbl
  rewrite [cR b bcl] at bc0 bc1 bc2
  replace bcl := lK b bcl
  rewrite [cR b bdl] at bd0 bd1 bd2
  replace bdl := lK b bdl
  rewrite [cR b bel] at be0 be1 be2
  replace bel := lK b bel
  replace cc := bK cc b
  clear b
  go_wp2_with fail
  generalize hv_ : w12.alloc (.cells #[.bool bv, .slice Av nv cv, .slice Bv mv dv] 48) = v13
  have bA : Below w12.heap.size w12 v13 := by rw [← hv_]; exact below_one _ _
  rewrite [fR bA gl] at f0 f1
  replace hx := hx.on bA
  replace zl := zl.on bA
  replace zh := zh.on bA
  replace rx := rx.on bA
  replace ry := ry.on bA
  replace ru := ru.on bA
  replace rv := rv.on bA
  rewrite [cR bA kl] at k0 k1 k2
  replace kl := lK bA kl
  rewrite [cR bA gl] at g0 g1
  replace gl := lK bA gl
  rewrite [cR bA bal] at ba0 ba1
  replace bal := lK bA bal
  rewrite [cR bA bbl] at bb0 bb1
  replace bbl := lK bA bbl
  rewrite [cR bA bcl] at bc0 bc1 bc2
  replace bcl := lK bA bcl
  rewrite [cR bA bdl] at bd0 bd1 bd2
  replace bdl := lK bA bdl
  rewrite [cR bA bel] at be0 be1 be2
  replace bel := lK bA bel
  replace cc := bK cc bA
  clear bA
  obtain ⟨bf0, bf1, bf2⟩ : Cs3 v13 w12.heap.size (.bool bv) (.slice Av nv cv) (.slice Bv mv dv) := by simp [Cs3, ← hv_, go_sem]
  have bfl : w12.heap.size < v13.heap.size := by simp [← hv_]
  clear hv_
  refine (rtcmp_v cn ru (su.le (by omega)) rv (sv.le (by omega)) HC.out).mono ?_
  rintro e w14 ⟨rfl, b⟩
  rewrite [fR b gl] at f0 f1
  replace hx := hx.on b
  replace zl := zl.on b
  replace zh := zh.on b
  replace rx := rx.on b
  replace ry := ry.on b
  replace ru := ru.on b
  replace rv := rv.on b
  rewrite [cR b kl] at k0 k1 k2
  replace kl := lK b kl
  rewrite [cR b gl] at g0 g1
  replace gl := lK b gl
  rewrite [cR b bal] at ba0 ba1
  replace bal := lK b bal
  rewrite [cR b bbl] at bb0 bb1
  replace bbl := lK b bbl
  rewrite [cR b bcl] at bc0 bc1 bc2
  replace bcl := lK b bcl
  rewrite [cR b bdl] at bd0 bd1 bd2
  replace bdl := lK b bdl
  rewrite [cR b bel] at be0 be1 be2
  replace bel := lK b bel
  rewrite [cR b bfl] at bf0 bf1 bf2
  replace bfl := lK b bfl
  replace cc := bK cc b
  clear b
  have hn : Zn w14 bl Al nl cl (nea x0 j.toNat) := by rw [HN.out]; exact zl
  have eb : Box w14 (w.heap.size + 1) false none 0 0 := ⟨g0, g1⟩
  have HZ : Hid (Zn ((w14.setCell ⟨w.heap.size + 1, 0, none⟩ (.bool bl)).setCell ⟨w.heap.size + 1, 1, none⟩ (.slice Al nl cl)) bl Al nl cl (nea x0 j.toNat)) := Lib.hid (hn.put eb _ _)
  clear hn
  go_wp2_with fail
  refine bodyPost_ret (v := .tuple #[.agg #[.bool bl, .slice Al nl cl], .int .i64 0]) (by simp [results, Tryz.results84, go_sem, g0, g1]) rfl ⟨_, _, _, _, rfl, HZ.out, below_put cc (by omega) _ _⟩

theorem rnear_even {w : World} {b0 : Bool} {A0 B0 : Option Addr} {n0 c0 m0 d0 : Nat} {x0 : Rat} (hx : Rt w b0 A0 n0 c0 B0 m0 d0 x0) (s0 : Sz x0 15) {j : Int} (h0 : 0 ≤ j) (h1 : j ≤ 500) (hc : cmpQ (x0 - bak (flo x0 j.toNat) j.toNat) (bak (cei x0 j.toNat) j.toNat - x0) = 0) (he : flo x0 j.toNat % 2 = 0) :
    Calls Tryz.prog 84 #[.agg #[.bool b0, .slice A0 n0 c0, .slice B0 m0 d0], .int .i64 j] w (GotZp w (nea x0 j.toNat) 0) := by
  have jl : j.toNat ≤ 500 := by omega
  have ll := flo_len s0 jl
  have lh := cei_len s0 jl
  have hn : nea x0 j.toNat = flo x0 j.toNat := by rw [nea_by]; rw [if_pos (.inr ⟨hc, he⟩)]
  have CF : ∀ {W : World} {b : Bool} {A B : Option Addr} {n c m d : Nat}, Rt W b A n c B m d x0 → Calls Tryz.prog 108 #[.agg #[.bool b, .slice A n c, .slice B m d], .int .i64 j] W (GotZp W (flo x0 j.toNat) 0) := fun hh => rfloor_N hh (s0.le (by omega)) h0 h1
  have CC : ∀ {W : World} {b : Bool} {A B : Option Addr} {n c m d : Nat}, Rt W b A n c B m d x0 → Calls Tryz.prog 109 #[.agg #[.bool b, .slice A n c, .slice B m d], .int .i64 j] W (GotZp W (cei x0 j.toNat) 0) := fun hh => rceil_N hh (s0.le (by omega)) h0 h1
  obtain ⟨lo, hlo⟩ : ∃ lo, flo x0 j.toNat = lo := ⟨_, rfl⟩
  obtain ⟨hi, hhi⟩ : ∃ hi, cei x0 j.toNat = hi := ⟨_, rfl⟩
  rw [hlo] at CF ll
  rw [hhi] at CC lh
  rw [hlo, hhi] at hc
  rw [hlo] at he
  rw [hlo] at hn
  have CB : ∀ {W : World} {z : Int} {b : Bool} {A : Option Addr} {n c : Nat}, Zn W b A n c z → (limbs z.natAbs).length ≤ 24 → Calls Tryz.prog 110 #[.agg #[.bool b, .slice A n c], .int .i64 j] W (GotRp W (bak z j.toNat) 0) := fun hh hl => rback_N hh (by omega) h0 h1
  have sl : Sz (bak lo j.toNat) 24 := bak_sz ll (by omega) jl
  have sh : Sz (bak hi j.toNat) 24 := bak_sz lh (by omega) jl
  obtain ⟨x, hxx⟩ : ∃ x, bak lo j.toNat = x := ⟨_, rfl⟩
  obtain ⟨y, hyy⟩ : ∃ y, bak hi j.toNat = y := ⟨_, rfl⟩
  have CX : ∀ {W : World} {b : Bool} {A : Option Addr} {n c : Nat}, Zn W b A n c lo → Calls Tryz.prog 110 #[.agg #[.bool b, .slice A n c], .int .i64 j] W (GotRp W x 0) := fun hh => by rw [← hxx]; exact CB hh ll
  have CY : ∀ {W : World} {b : Bool} {A : Option Addr} {n c : Nat}, Zn W b A n c hi → Calls Tryz.prog 110 #[.agg #[.bool b, .slice A n c], .int .i64 j] W (GotRp W y 0) := fun hh => by rw [← hyy]; exact CB hh lh
  rw [hxx] at sl
  rw [hyy] at sh
  rw [hxx, hyy] at hc
  skip
  obtain ⟨cn, hcn⟩ : ∃ cn, cmpQ (x0 - x) (y - x0) = cn := ⟨_, rfl⟩
  have HC := Lib.hid hcn
  rw [hcn] at hc
  skip
  have su := s0.sub sl
  have sv := sh.sub s0
  have HN := Lib.hid hn
  have t1 : decide (cn < 0) = false := decide_eq_false (by omega)
  have t2 : (cn == 0) = true := beq_iff_eq.2 hc
  have HO : Hid (decide (lo % 2 = 1) = false) := Lib.hid (decide_eq_false (by omega))
  clear CB hxx hyy hcn hlo hhi hn hc h0 h1 he
  have cc := Below.refl w.heap.size w
  go_enter Tryz.func84, Tryz.ntmps84
  go_wp2_with fail
  generalize hv_ : (w.alloc (.cells #[.bool b0, .slice A0 n0 c0, .slice B0 m0 d0] 48)).alloc (.cells #[.bool false, .slice none 0 0] 42) = v1
  obtain ⟨f0, f1⟩ : Fz2 v1 (w.heap.size + 1) := by simp [Fz2, ← hv_, go_sem]
  have bA : Below w.heap.size w v1 := by rw [← hv_]; exact (((Below.refl _ w).alloc (by simp) _).alloc (by simp) _)
  replace hx := hx.on bA
  replace cc := bK cc bA
  clear bA
  obtain ⟨k0, k1, k2⟩ : Cs3 v1 w.heap.size (.bool b0) (.slice A0 n0 c0) (.slice B0 m0 d0) := by simp [Cs3, ← hv_, go_sem]
  have kl : w.heap.size < v1.heap.size := by simp [← hv_] <;> omega
  obtain ⟨g0, g1⟩ : Cs2 v1 (w.heap.size + 1) (.bool false) (.slice none 0 0) := by simp [Cs2, ← hv_, go_sem]
  have gl : w.heap.size + 1 < v1.heap.size := by simp [← hv_] <;> omega
  clear hv_
  refine (CF hx).mono ?_
  rintro e w2 ⟨bl, Al, nl, cl, rfl, zl, b⟩
  rewrite [fR b gl] at f0 f1
  replace hx := hx.on b
  rewrite [cR b kl] at k0 k1 k2
  replace kl := lK b kl
  rewrite [cR b gl] at g0 g1
  replace gl := lK b gl
  replace cc := bK cc b
  clear b
  go_wp2_with fail
  generalize hv_ : w2.alloc (.cells #[.bool bl, .slice Al nl cl] 42) = v3
  have bA : Below w2.heap.size w2 v3 := by rw [← hv_]; exact below_one _ _
  rewrite [fR bA gl] at f0 f1
  replace hx := hx.on bA
  replace zl := zl.on bA
  rewrite [cR bA kl] at k0 k1 k2
  replace kl := lK bA kl
  rewrite [cR bA gl] at g0 g1
  replace gl := lK bA gl
  replace cc := bK cc bA
  clear bA
  obtain ⟨ba0, ba1⟩ : Cs2 v3 w2.heap.size (.bool bl) (.slice Al nl cl) := by simp [Cs2, ← hv_, go_sem]
  have bal : w2.heap.size < v3.heap.size := by simp [← hv_]
  clear hv_
  refine (CC hx).mono ?_
  rintro e w4 ⟨bh, Ah, nh, ch, rfl, zh, b⟩
  rewrite [fR b gl] at f0 f1
  replace hx := hx.on b
  replace zl := zl.on b
  rewrite [cR b kl] at k0 k1 k2
  replace kl := lK b kl
  rewrite [cR b gl] at g0 g1
  replace gl := lK b gl
  rewrite [cR b bal] at ba0 ba1
  replace bal := lK b bal
  replace cc := bK cc b
  clear b
  go_wp2_with fail
  generalize hv_ : w4.alloc (.cells #[.bool bh, .slice Ah nh ch] 42) = v5
  have bA : Below w4.heap.size w4 v5 := by rw [← hv_]; exact below_one _ _
  rewrite [fR bA gl] at f0 f1
  replace hx := hx.on bA
  replace zl := zl.on bA
  replace zh := zh.on bA
  rewrite [cR bA kl] at k0 k1 k2
  replace kl := lK bA kl
  rewrite [cR bA gl] at g0 g1
  replace gl := lK bA gl
  rewrite [cR bA bal] at ba0 ba1
  replace bal := lK bA bal
  replace cc := bK cc bA
  clear bA
  obtain ⟨bb0, bb1⟩ : Cs2 v5 w4.heap.size (.bool bh) (.slice Ah nh ch) := by simp [Cs2, ← hv_, go_sem]
  have bbl : w4.heap.size < v5.heap.size := by simp [← hv_]
  clear hv_
  refine (CX zl).mono ?_
  rintro e w6 ⟨bx, Ax, nx, cx, Bx, mx, dx, rfl, rx, b⟩
  rewrite [fR b gl] at f0 f1
  replace hx := hx.on b
  replace zl := zl.on b
  replace zh := zh.on b
  rewrite [cR b kl] at k0 k1 k2
  replace kl := lK b kl
  rewrite [cR b gl] at g0 g1
  replace gl := lK b gl
  rewrite [cR b bal] at ba0 ba1
  replace bal := lK b bal
  rewrite [cR b bbl] at bb0 bb1
  replace bbl := lK b bbl
  replace cc := bK cc b
  clear b
  go_wp2_with fail
  generalize hv_ : w6.alloc (.cells #[.bool bx, .slice Ax nx cx, .slice Bx mx dx] 48) = v7
  have bA : Below w6.heap.size w6 v7 := by rw [← hv_]; exact below_one _ _
  rewrite [fR bA gl] at f0 f1
  replace hx := hx.on bA
  replace zl := zl.on bA
  replace zh := zh.on bA
  replace rx := rx.on bA
  rewrite [cR bA kl] at k0 k1 k2
  replace kl := lK bA kl
  rewrite [cR bA gl] at g0 g1
  replace gl := lK bA gl
  rewrite [cR bA bal] at ba0 ba1
  replace bal := lK bA bal
  rewrite [cR bA bbl] at bb0 bb1
  replace bbl := lK bA bbl
  replace cc := bK cc bA
  clear bA
  obtain ⟨bc0, bc1, bc2⟩ : Cs3 v7 w6.heap.size (.bool bx) (.slice Ax nx cx) (.slice Bx mx dx) := by simp [Cs3, ← hv_, go_sem]
  have bcl : w6.heap.size < v7.heap.size := by simp [← hv_]
  clear hv_
  refine (CY zh).mono ?_
  rintro e w8 ⟨bY, Ay, ny, cy, By, my, dy, rfl, ry, b⟩
  rewrite [fR b gl] at f0 f1
  replace hx := hx.on b
  replace zl := zl.on b
  replace zh := zh.on b
  replace rx := rx.on b
  rewrite [cR b kl] at k0 k1 k2
  replace kl := lK b kl
  rewrite [cR b gl] at g0 g1
  replace gl := lK b gl
  rewrite [cR b bal] at ba0 ba1
  replace bal := lK b bal
  rewrite [cR b bbl] at bb0 bb1
  replace bbl := lK b bbl
  rewrite [cR b bcl] at bc0 bc1 bc2
  replace bcl := lK b bcl
  replace cc := bK cc b
  clear b
  go_wp2_with fail
  generalize hv_ : w8.alloc (.cells #[.bool bY, .slice Ay ny cy, .slice By my dy] 48) = v9
  have bA : Below w8.heap.size w8 v9 := by rw [← hv_]; exact below_one _ _
  rewrite [fR bA gl] at f0 f1
  replace hx := hx.on bA
  replace zl := zl.on bA
  replace zh := zh.on bA
  replace rx := rx.on bA
  replace ry := ry.on bA
  rewrite [cR bA kl] at k0 k1 k2
  replace kl := lK bA kl
  rewrite [cR bA gl] at g0 g1
  replace gl := lK bA gl
  rewrite [cR bA bal] at ba0 ba1
  replace bal := lK bA bal
  rewrite [cR bA bbl] at bb0 bb1
  replace bbl := lK bA bbl
  rewrite [cR bA bcl] at bc0 bc1 bc2
  replace bcl := lK bA bcl
  replace cc := bK cc bA
  clear bA
  obtain ⟨bd0, bd1, bd2⟩ : Cs3 v9 w8.heap.size (.bool bY) (.slice Ay ny cy) (.slice By my dy) := by simp [Cs3, ← hv_, go_sem]
  have bdl : w8.heap.size < v9.heap.size := by simp [← hv_]
  clear hv_
  refine (rtsub_N hx (s0.le (by omega)) rx (sl.le (by omega))).mono ?_
  rintro e w10 ⟨bu, Au, nu, cu, Bu, mu, du, rfl, ru, b⟩
  rewrite [fR b gl] at f0 f1
  replace hx := hx.on b
  replace zl := zl.on b
  replace zh := zh.on b
  replace rx := rx.on b
  replace ry := ry.on b
  rewrite [cR b kl] at k0 k1 k2
  replace kl := lK b kl
  rewrite [cR b gl] at g0 g1
  replace gl := lK b gl
  rewrite [cR b bal] at ba0 ba1
  replace bal := lK b bal
  rewrite [cR b bbl] at bb0 bb1
  replace bbl := lK b bbl
  rewrite [cR b bcl] at bc0 bc1 bc2
  replace bcl := lK b bcl
  rewrite [cR b bdl] at bd0 bd1 bd2
  replace bdl := lK b bdl
  replace cc := bK cc b
  clear b
  go_wp2_with fail
  generalize hv_ : w10.alloc (.cells #[.bool bu, .slice Au nu cu, .slice Bu mu du] 48) = v11
  have bA : Below w10.heap.size w10 v11 := by rw [← hv_]; exact below_one _ _
  rewrite [fR bA gl] at f0 f1
  replace hx := hx.on bA
  replace zl := zl.on bA
  replace zh := zh.on bA
  replace rx := rx.on bA
  replace ry := ry.on bA
  replace ru := ru.on bA
  rewrite [cR bA kl] at k0 k1 k2
  replace kl := lK bA kl
  rewrite [cR bA gl] at g0 g1
  replace gl := lK bA gl
  rewrite [cR bA bal] at ba0 ba1
  replace bal := lK bA bal
  rewrite [cR bA bbl] at bb0 bb1
  replace bbl := lK bA bbl
  rewrite [cR bA bcl] at bc0 bc1 bc2
  replace bcl := lK bA bcl
  rewrite [cR bA bdl] at bd0 bd1 bd2
  replace bdl := lK bA bdl
  replace cc := bK cc bA
  clear bA
  obtain ⟨be0, be1, be2⟩ : Cs3 v11 w10.heap.size (.bool bu) (.slice Au nu cu) (.slice Bu mu du) := by simp [Cs3, ← hv_, go_sem]
  have bel : w10.heap.size < v11.heap.size := by simp [← hv_]
  clear hv_
  refine (rtsub_N ry (sh.le (by omega)) hx (s0.le (by omega))).mono ?_
  rintro e w12 ⟨bv, Av, nv, cv, Bv, mv, dv, rfl, rv, b⟩
  rewrite [fR b gl] at f0 f1
  replace hx := hx.on b
  replace zl := zl.on b
  replace zh := zh.on b
  replace rx := rx.on b
  replace ry := ry.on b
  replace ru := ru.on b
  rewrite [cR b kl] at k0 k1 k2
  replace kl := lK b kl
  rewrite [cR b gl] at g0 g1
  replace gl := lK b gl
  rewrite [cR b bal] at ba0 ba1
  replace bal := lK b bal
  rewrite [cR b bbl] at bb0 bb1
  replace bbl := lK b bbl
  rewrite [cR b bcl] at bc0 bc1 bc2
  replace bcl := lK b bcl
  rewrite [cR b bdl] at bd0 bd1 bd2
  replace bdl := lK b bdl
  rewrite [cR b bel] at be0 be1 be2
  replace bel := lK b bel
  replace cc := bK cc b
  clear b
  go_wp2_with fail
  generalize hv_ : w12.alloc (.cells #[.bool bv, .slice Av nv cv, .slice Bv mv dv] 48) = v13
  have bA : Below w12.heap.size w12 v13 := by rw [← hv_]; exact below_one _ _
  rewrite [fR bA gl] at f0 f1
  replace hx := hx.on bA
  replace zl := zl.on bA
  replace zh := zh.on bA
  replace rx := rx.on bA
  replace ry := ry.on bA
  replace ru := ru.on bA
  replace rv := rv.on bA
  rewrite [cR bA kl] at k0 k1 k2
  replace kl := lK bA kl
  rewrite [cR bA gl] at g0 g1
  replace gl := lK bA gl
  rewrite [cR bA bal] at ba0 ba1
  replace bal := lK bA bal
  rewrite [cR bA bbl] at bb0 bb1
  replace bbl := lK bA bbl
  rewrite [cR bA bcl] at bc0 bc1 bc2
  replace bcl := lK bA bcl
  rewrite [cR bA bdl] at bd0 bd1 bd2
  replace bdl := lK bA bdl
  rewrite [cR bA bel] at be0 be1 be2
  replace bel := lK bA bel
  replace cc := bK cc bA
  clear bA
  obtain ⟨bf0, bf1, bf2⟩ : Cs3 v13 w12.heap.size (.bool bv) (.slice Av nv cv) (.slice Bv mv dv) := by simp [Cs3, ← hv_, go_sem]
  have bfl : w12.heap.size < v13.heap.size := by simp [← hv_]
  clear hv_
  refine (rtcmp_v cn ru (su.le (by omega)) rv (sv.le (by omega)) HC.out).mono ?_
  rintro e w14 ⟨rfl, b⟩
  rewrite [fR b gl] at f0 f1
  replace hx := hx.on b
  replace zl := zl.on b
  replace zh := zh.on b
  replace rx := rx.on b
  replace ry := ry.on b
  replace ru := ru.on b
  replace rv := rv.on b
  rewrite [cR b kl] at k0 k1 k2
  replace kl := lK b kl
  rewrite [cR b gl] at g0 g1
  replace gl := lK b gl
  rewrite [cR b bal] at ba0 ba1
  replace bal := lK b bal
  rewrite [cR b bbl] at bb0 bb1
  replace bbl := lK b bbl
  rewrite [cR b bcl] at bc0 bc1 bc2
  replace bcl := lK b bcl
  rewrite [cR b bdl] at bd0 bd1 bd2
  replace bdl := lK b bdl
  rewrite [cR b bel] at be0 be1 be2
  replace bel := lK b bel
  rewrite [cR b bfl] at bf0 bf1 bf2
  replace bfl := lK b bfl
  replace cc := bK cc b
  clear b
  go_wp2_with fail
  refine (rodd_N false zl HO.out).mono ?_
  rintro e w15 ⟨rfl, b⟩
  rewrite [fR b gl] at f0 f1
  replace hx := hx.on b
  replace zl := zl.on b
  replace zh := zh.on b
  replace rx := rx.on b
  replace ry := ry.on b
  replace ru := ru.on b
  replace rv := rv.on b
  rewrite [cR b kl] at k0 k1 k2
  replace kl := lK b kl
  rewrite [cR b gl] at g0 g1
  replace gl := lK b gl
  rewrite [cR b bal] at ba0 ba1
  replace bal := lK b bal
  rewrite [cR b bbl] at bb0 bb1
  replace bbl := lK b bbl
  rewrite [cR b bcl] at bc0 bc1 bc2
  replace bcl := lK b bcl
  rewrite [cR b bdl] at bd0 bd1 bd2
  replace bdl := lK b bdl
  rewrite [cR b bel] at be0 be1 be2
  replace bel := lK b bel
  rewrite [cR b bfl] at bf0 bf1 bf2
  replace bfl := lK b bfl
  replace cc := bK cc b
  clear b
  have hn : Zn w15 bl Al nl cl (nea x0 j.toNat) := by rw [HN.out]; exact zl
  have eb : Box w15 (w.heap.size + 1) false none 0 0 := ⟨g0, g1⟩
  have HZ : Hid (Zn ((w15.setCell ⟨w.heap.size + 1, 0, none⟩ (.bool bl)).setCell ⟨w.heap.size + 1, 1, none⟩ (.slice Al nl cl)) bl Al nl cl (nea x0 j.toNat)) := Lib.hid (hn.put eb _ _)
  clear hn
  go_wp2_with fail
  refine bodyPost_ret (v := .tuple #[.agg #[.bool bl, .slice Al nl cl], .int .i64 0]) (by simp [results, Tryz.results84, go_sem, g0, g1]) rfl ⟨_, _, _, _, rfl, HZ.out, below_put cc (by omega) _ _⟩

theorem rnear_odd {w : World} {b0 : Bool} {A0 B0 : Option Addr} {n0 c0 m0 d0 : Nat} {x0 : Rat} (hx : Rt w b0 A0 n0 c0 B0 m0 d0 x0) (s0 : Sz x0 15) {j : Int} (h0 : 0 ≤ j) (h1 : j ≤ 500) (hc : cmpQ (x0 - bak (flo x0 j.toNat) j.toNat) (bak (cei x0 j.toNat) j.toNat - x0) = 0) (he : ¬ flo x0 j.toNat % 2 = 0) :
    Calls Tryz.prog 84 #[.agg #[.bool b0, .slice A0 n0 c0, .slice B0 m0 d0], .int .i64 j] w (GotZp w (nea x0 j.toNat) 0) := by
  have jl : j.toNat ≤ 500 := by omega
  have ll := flo_len s0 jl
  have lh := cei_len s0 jl
  have hn : nea x0 j.toNat = cei x0 j.toNat := by rw [nea_by]; rw [if_neg (fun h => h.elim (fun a => by omega) (fun a => he a.2))]
  have CF : ∀ {W : World} {b : Bool} {A B : Option Addr} {n c m d : Nat}, Rt W b A n c B m d x0 → Calls Tryz.prog 108 #[.agg #[.bool b, .slice A n c, .slice B m d], .int .i64 j] W (GotZp W (flo x0 j.toNat) 0) := fun hh => rfloor_N hh (s0.le (by omega)) h0 h1
  have CC : ∀ {W : World} {b : Bool} {A B : Option Addr} {n c m d : Nat}, Rt W b A n c B m d x0 → Calls Tryz.prog 109 #[.agg #[.bool b, .slice A n c, .slice B m d], .int .i64 j] W (GotZp W (cei x0 j.toNat) 0) := fun hh => rceil_N hh (s0.le (by omega)) h0 h1
  obtain ⟨lo, hlo⟩ : ∃ lo, flo x0 j.toNat = lo := ⟨_, rfl⟩
  obtain ⟨hi, hhi⟩ : ∃ hi, cei x0 j.toNat = hi := ⟨_, rfl⟩
  rw [hlo] at CF ll
  rw [hhi] at CC lh
  rw [hlo, hhi] at hc
  rw [hlo] at he
  rw [hhi] at hn
  have CB : ∀ {W : World} {z : Int} {b : Bool} {A : Option Addr} {n c : Nat}, Zn W b A n c z → (limbs z.natAbs).length ≤ 24 → Calls Tryz.prog 110 #[.agg #[.bool b, .slice A n c], .int .i64 j] W (GotRp W (bak z j.toNat) 0) := fun hh hl => rback_N hh (by omega) h0 h1
  have sl : Sz (bak lo j.toNat) 24 := bak_sz ll (by omega) jl
  have sh : Sz (bak hi j.toNat) 24 := bak_sz lh (by omega) jl
  obtain ⟨x, hxx⟩ : ∃ x, bak lo j.toNat = x := ⟨_, rfl⟩
  obtain ⟨y, hyy⟩ : ∃ y, bak hi j.toNat = y := ⟨_, rfl⟩
  have CX : ∀ {W : World} {b : Bool} {A : Option Addr} {n c : Nat}, Zn W b A n c lo → Calls Tryz.prog 110 #[.agg #[.bool b, .slice A n c], .int .i64 j] W (GotRp W x 0) := fun hh => by rw [← hxx]; exact CB hh ll
  have CY : ∀ {W : World} {b : Bool} {A : Option Addr} {n c : Nat}, Zn W b A n c hi → Calls Tryz.prog 110 #[.agg #[.bool b, .slice A n c], .int .i64 j] W (GotRp W y 0) := fun hh => by rw [← hyy]; exact CB hh lh
  rw [hxx] at sl
  rw [hyy] at sh
  rw [hxx, hyy] at hc
  skip
  obtain ⟨cn, hcn⟩ : ∃ cn, cmpQ (x0 - x) (y - x0) = cn := ⟨_, rfl⟩
  have HC := Lib.hid hcn
  rw [hcn] at hc
  skip
  have su := s0.sub sl
  have sv := sh.sub s0
  have HN := Lib.hid hn
  have t1 : decide (cn < 0) = false := decide_eq_false (by omega)
  have t2 : (cn == 0) = true := beq_iff_eq.2 hc
  have HO : Hid (decide (lo % 2 = 1) = true) := Lib.hid (decide_eq_true (by omega))
  clear CB hxx hyy hcn hlo hhi hn hc h0 h1 he
  have cc := Below.refl w.heap.size w
  go_enter Tryz.func84, Tryz.ntmps84
  go_wp2_with fail
  generalize hv_ : (w.alloc (.cells #[.bool b0, .slice A0 n0 c0, .slice B0 m0 d0] 48)).alloc (.cells #[.bool false, .slice none 0 0] 42) = v1
  obtain ⟨f0, f1⟩ : Fz2 v1 (w.heap.size + 1) := by simp [Fz2, ← hv_, go_sem]
  have bA : Below w.heap.size w v1 := by rw [← hv_]; exact (((Below.refl _ w).alloc (by simp) _).alloc (by simp) _)
  replace hx := hx.on bA
  replace cc := bK cc bA
  clear bA
  obtain ⟨k0, k1, k2⟩ : Cs3 v1 w.heap.size (.bool b0) (.slice A0 n0 c0) (.slice B0 m0 d0) := by simp [Cs3, ← hv_, go_sem]
  have kl : w.heap.size < v1.heap.size := by simp [← hv_] <;> omega
  obtain ⟨g0, g1⟩ : Cs2 v1 (w.heap.size + 1) (.bool false) (.slice none 0 0) := by simp [Cs2, ← hv_, go_sem]
  have gl : w.heap.size + 1 < v1.heap.size := by simp [← hv_] <;> omega
  clear hv_
  refine (CF hx).mono ?_
  rintro e w2 ⟨bl, Al, nl, cl, rfl, zl, b⟩
  rewrite [fR b gl] at f0 f1
  replace hx := hx.on b
  rewrite [cR b kl] at k0 k1 k2
  replace kl := lK b kl
  rewrite [cR b gl] at g0 g1
  replace gl := lK b gl
  replace cc := bK cc b
  clear b
  go_wp2_with fail
  generalize hv_ : w2.alloc (.cells #[.bool bl, .slice Al nl cl] 42) = v3
  have bA : Below w2.heap.size w2 v3 := by rw [← hv_]; exact below_one _ _
  rewrite [fR bA gl] at f0 f1
  replace hx := hx.on bA
  replace zl := zl.on bA
  rewrite [cR bA kl] at k0 k1 k2
  replace kl := lK bA kl
  rewrite [cR bA gl] at g0 g1
  replace gl := lK bA gl
  replace cc := bK cc bA
  clear bA
  obtain ⟨ba0, ba1⟩ : Cs2 v3 w2.heap.size (.bool bl) (.slice Al nl cl) := by simp [Cs2, ← hv_, go_sem]
  have bal : w2.heap.size < v3.heap.size := by simp [← hv_]
  clear hv_
  refine (CC hx).mono ?_
  rintro e w4 ⟨bh, Ah, nh, ch, rfl, zh, b⟩
  rewrite [fR b gl] at f0 f1
  replace hx := hx.on b
  replace zl := zl.on b
  rewrite [cR b kl] at k0 k1 k2
  replace kl := lK b kl
  rewrite [cR b gl] at g0 g1
  replace gl := lK b gl
  rewrite [cR b bal] at ba0 ba1
  replace bal := lK b bal
  replace cc := bK cc b
  clear b
  go_wp2_with fail
  generalize hv_ : w4.alloc (.cells #[.bool bh, .slice Ah nh ch] 42) = v5
  have bA : Below w4.heap.size w4 v5 := by rw [← hv_]; exact below_one _ _
  rewrite [fR bA gl] at f0 f1
  replace hx := hx.on bA
  replace zl := zl.on bA
  replace zh := zh.on bA
  rewrite [cR bA kl] at k0 k1 k2
  replace kl := lK bA kl
  rewrite [cR bA gl] at g0 g1
  replace gl := lK bA gl
  rewrite [cR bA bal] at ba0 ba1
  replace bal := lK bA bal
  replace cc := bK cc bA
  clear bA
  obtain ⟨bb0, bb1⟩ : Cs2 v5 w4.heap.size (.bool bh) (.slice Ah nh ch) := by simp [Cs2, ← hv_, go_sem]
  have bbl : w4.heap.size < v5.heap.size := by simp [← hv_]
  clear hv_
  refine (CX zl).mono ?_
  rintro e w6 ⟨bx, Ax, nx, cx, Bx, mx, dx, rfl, rx, b⟩
  rewrite [fR b gl] at f0 f1
  replace hx := hx.on b
  replace zl := zl.on b
  replace zh := zh.on b
  rewrite [cR b kl] at k0 k1 k2
  replace kl := lK b kl
  rewrite [cR b gl] at g0 g1
  replace gl := lK b gl
  rewrite [cR b bal] at ba0 ba1
  replace bal := lK b bal
  rewrite [cR b bbl] at bb0 bb1
  replace bbl := lK b bbl
  replace cc := bK cc b
  clear b
  go_wp2_with fail
  generalize hv_ : w6.alloc (.cells #[.bool bx, .slice Ax nx cx, .slice Bx mx dx] 48) = v7
  have bA : Below w6.heap.size w6 v7 := by rw [← hv_]; exact below_one _ _
  rewrite [fR bA gl] at f0 f1
  replace hx := hx.on bA
  replace zl := zl.on bA
  replace zh := zh.on bA
  replace rx := rx.on bA
  rewrite [cR bA kl] at k0 k1 k2
  replace kl := lK bA kl
  rewrite [cR bA gl] at g0 g1
  replace gl := lK bA gl
  rewrite [cR bA bal] at ba0 ba1
  replace bal := lK bA bal
  rewrite [cR bA bbl] at bb0 bb1
  replace bbl := lK bA bbl
  replace cc := bK cc bA
  clear bA
  obtain ⟨bc0, bc1, bc2⟩ : Cs3 v7 w6.heap.size (.bool bx) (.slice Ax nx cx) (.slice Bx mx dx) := by simp [Cs3, ← hv_, go_sem]
  have bcl : w6.heap.size < v7.heap.size := by simp [← hv_]
  clear hv_
  refine (CY zh).mono ?_
  rintro e w8 ⟨bY, Ay, ny, cy, By, my, dy, rfl, ry, b⟩
  rewrite [fR b gl] at f0 f1
  replace hx := hx.on b
  replace zl := zl.on b
  replace zh := zh.on b
  replace rx := rx.on b
  rewrite [cR b kl] at k0 k1 k2
  replace kl := lK b kl
  rewrite [cR b gl] at g0 g1
  replace gl := lK b gl
  rewrite [cR b bal] at ba0 ba1
  replace bal := lK b bal
  rewrite [cR b bbl] at bb0 bb1
  replace bbl := lK b bbl
  rewrite [cR b bcl] at bc0 bc1 bc2
  replace bcl := lK b bcl
  replace cc := bK cc b
  clear b
  go_wp2_with fail
  generalize hv_ : w8.alloc (.cells #[.bool bY, .slice Ay ny cy, .slice By my dy] 48) = v9
  have bA : Below w8.heap.size w8 v9 := by rw [← hv_]; exact below_one _ _
  rewrite [fR bA gl] at f0 f1
  replace hx := hx.on bA
  replace zl := zl.on bA
  replace zh := zh.on bA
  replace rx := rx.on bA
  replace ry := ry.on bA
  rewrite [cR bA kl] at k0 k1 k2
  replace kl := lK bA kl
  rewrite [cR bA gl] at g0 g1
  replace gl := lK bA gl
  rewrite [cR bA bal] at ba0 ba1
  replace bal := lK bA bal
  rewrite [cR bA bbl] at bb0 bb1
  replace bbl := lK bA bbl
  rewrite [cR bA bcl] at bc0 bc1 bc2
  replace bcl := lK bA bcl
  replace cc := bK cc bA
  clear bA
  obtain ⟨bd0, bd1, bd2⟩ : Cs3 v9 w8.heap.size (.bool bY) (.slice Ay ny cy) (.slice By my dy) := by simp [Cs3, ← hv_, go_sem]
  have bdl : w8.heap.size < v9.heap.size := by simp [← hv_]
  clear hv_
  refine (rtsub_N hx (s0.le (by omega)) rx (sl.le (by omega))).mono ?_
  rintro e w10 ⟨bu, Au, nu, cu, Bu, mu, du, rfl, ru, b⟩
  rewrite [fR b gl] at f0 f1
  replace hx := hx.on b
  replace zl := zl.on b
  replace zh := zh.on b
  replace rx := rx.on b
  replace ry := ry.on b
  rewrite [cR b kl] at k0 k1 k2
  replace kl := lK b kl
  rewrite [cR b gl] at g0 g1
  replace gl := lK b gl
  rewrite [cR b bal] at ba0 ba1
  replace bal := lK b bal
  rewrite [cR b bbl] at bb0 bb1
  replace bbl := lK b bbl
  rewrite [cR b bcl] at bc0 bc1 bc2
  replace bcl := lK b bcl
  rewrite [cR b bdl] at bd0 bd1 bd2
  replace bdl := lK b bdl
  replace cc := bK cc b
  clear b
  go_wp2_with fail
  generalize hv_ : w10.alloc (.cells #[.bool bu, .slice Au nu cu, .slice Bu mu du] 48) = v11
  have bA : Below w10.heap.size w10 v11 := by rw [← hv_]; exact below_one _ _
  rewrite [fR bA gl] at f0 f1
  replace hx := hx.on bA
  replace zl := zl.on bA
  replace zh := zh.on bA
  replace rx := rx.on bA
  replace ry := ry.on bA
  replace ru := ru.on bA
  rewrite [cR bA kl] at k0 k1 k2
  replace kl := lK bA kl
  rewrite [cR bA gl] at g0 g1
  replace gl := lK bA gl
  rewrite [cR bA bal] at ba0 ba1
  replace bal := lK bA bal
  rewrite [cR bA bbl] at bb0 bb1
  replace bbl := lK bA bbl
  rewrite [cR bA bcl] at bc0 bc1 bc2
  replace bcl := lK bA bcl
  rewrite [cR bA bdl] at bd0 bd1 bd2
  replace bdl := lK bA bdl
  replace cc := bK cc bA
  clear bA
  obtain ⟨be0, be1, be2⟩ : Cs3 v11 w10.heap.size (.bool bu) (.slice Au nu cu) (.slice Bu mu du) := by simp [Cs3, ← hv_, go_sem]
  have bel : w10.heap.size < v11.heap.size := by simp [← hv_]
  clear hv_
  refine (rtsub_N ry (sh.le (by omega)) hx (s0.le (by omega))).mono ?_
  rintro e w12 ⟨bv, Av, nv, cv, Bv, mv, dv, rfl, rv, b⟩
  rewrite [fR b gl] at f0 f1
  replace hx := hx.on b
  replace zl := zl.on b
  replace zh := zh.on b
  replace rx := rx.on b
  replace ry := ry.on b
  replace ru := ru.on b
  rewrite [cR b kl] at k0 k1 k2
  replace kl := lK b kl
  rewrite [cR b gl] at g0 g1
  replace gl := lK b gl
  rewrite [cR b bal] at ba0 ba1
  replace bal := lK b bal
  rewrite [cR b bbl] at bb0 bb1
  replace bbl := lK b bbl
  rewrite [cR b bcl] at bc0 bc1 bc2
  replace bcl := lK b bcl
  rewrite [cR b bdl] at bd0 bd1 bd2
  replace bdl := lK b bdl
  rewrite [cR b bel] at be0 be1 be2
  replace bel := lK b bel
  replace cc := bK cc b
  clear b
  go_wp2_with fail
  generalize hv_ : w12.alloc (.cells #[.bool bv, .slice Av nv cv, .slice Bv mv dv] 48) = v13
  have bA : Below w12.heap.size w12 v13 := by rw [← hv_]; exact below_one _ _
  rewrite [fR bA gl] at f0 f1
  replace hx := hx.on bA
  replace zl := zl.on bA
  replace zh := zh.on bA
  replace rx := rx.on bA
  replace ry := ry.on bA
  replace ru := ru.on bA
  replace rv := rv.on bA
  rewrite [cR bA kl] at k0 k1 k2
  replace kl := lK bA kl
  rewrite [cR bA gl] at g0 g1
  replace gl := lK bA gl
  rewrite [cR bA bal] at ba0 ba1
  replace bal := lK bA bal
  rewrite [cR bA bbl] at bb0 bb1
  replace bbl := lK bA bbl
  rewrite [cR bA bcl] at bc0 bc1 bc2
  replace bcl := lK bA bcl
  rewrite [cR bA bdl] at bd0 bd1 bd2
  replace bdl := lK bA bdl
  rewrite [cR bA bel] at be0 be1 be2
  replace bel := lK bA bel
  replace cc := bK cc bA
  clear bA
  obtain ⟨bf0, bf1, bf2⟩ : Cs3 v13 w12.heap.size (.bool bv) (.slice Av nv cv) (.slice Bv mv dv) := by simp [Cs3, ← hv_, go_sem]
  have bfl : w12.heap.size < v13.heap.size := by simp [← hv_]
  clear hv_
  refine (rtcmp_v cn ru (su.le (by omega)) rv (sv.le (by omega)) HC.out).mono ?_
  rintro e w14 ⟨rfl, b⟩
  rewrite [fR b gl] at f0 f1
  replace hx := hx.on b
  replace zl := zl.on b
  replace zh := zh.on b
  replace rx := rx.on b
  replace ry := ry.on b
  replace ru := ru.on b
  replace rv := rv.on b
  rewrite [cR b kl] at k0 k1 k2
  replace kl := lK b kl
  rewrite [cR b gl] at g0 g1
  replace gl := lK b gl
  rewrite [cR b bal] at ba0 ba1
  replace bal := lK b bal
  rewrite [cR b bbl] at bb0 bb1
  replace bbl := lK b bbl
  rewrite [cR b bcl] at bc0 bc1 bc2
  replace bcl := lK b bcl
  rewrite [cR b bdl] at bd0 bd1 bd2
  replace bdl := lK b bdl
  rewrite [cR b bel] at be0 be1 be2
  replace bel := lK b bel
  rewrite [cR b bfl] at bf0 bf1 bf2
  replace bfl := lK b bfl
  replace cc := bK cc b
  clear b
  go_wp2_with fail
  refine (rodd_N true zl HO.out).mono ?_
  rintro e w15 ⟨rfl, b⟩
  rewrite [fR b gl] at f0 f1
  replace hx := hx.on b
  replace zl := zl.on b
  replace zh := zh.on b
  replace rx := rx.on b
  replace ry := ry.on b
  replace ru := ru.on b
  replace rv := rv.on b
  rewrite [cR b kl] at k0 k1 k2
  replace kl := lK b kl
  rewrite [cR b gl] at g0 g1
  replace gl := lK b gl
  rewrite [cR b bal] at ba0 ba1
  replace bal := lK b bal
  rewrite [cR b bbl] at bb0 bb1
  replace bbl := lK b bbl
  rewrite [cR b bcl] at bc0 bc1 bc2
  replace bcl := lK b bcl
  rewrite [cR b bdl] at bd0 bd1 bd2
  replace bdl := lK b bdl
  rewrite [cR b bel] at be0 be1 be2
  replace bel := lK b bel
  rewrite [cR b bfl] at bf0 bf1 bf2
  replace bfl := lK b bfl
  replace cc := bK cc b
  clear b
  have hn : Zn w15 bh Ah nh ch (nea x0 j.toNat) := by rw [HN.out]; exact zh
  have eb : Box w15 (w.heap.size + 1) false none 0 0 := ⟨g0, g1⟩
  have HZ : Hid (Zn ((w15.setCell ⟨w.heap.size + 1, 0, none⟩ (.bool bh)).setCell ⟨w.heap.size + 1, 1, none⟩ (.slice Ah nh ch)) bh Ah nh ch (nea x0 j.toNat)) := Lib.hid (hn.put eb _ _)
  clear hn
  go_wp2_with fail
  refine bodyPost_ret (v := .tuple #[.agg #[.bool bh, .slice Ah nh ch], .int .i64 0]) (by simp [results, Tryz.results84, go_sem, g0, g1]) rfl ⟨_, _, _, _, rfl, HZ.out, below_put cc (by omega) _ _⟩

theorem rnear_gt {w : World} {b0 : Bool} {A0 B0 : Option Addr} {n0 c0 m0 d0 : Nat} {x0 : Rat} (hx : Rt w b0 A0 n0 c0 B0 m0 d0 x0) (s0 : Sz x0 15) {j : Int} (h0 : 0 ≤ j) (h1 : j ≤ 500) (hc : ¬ cmpQ (x0 - bak (flo x0 j.toNat) j.toNat) (bak (cei x0 j.toNat) j.toNat - x0) < 0) (he : ¬ cmpQ (x0 - bak (flo x0 j.toNat) j.toNat) (bak (cei x0 j.toNat) j.toNat - x0) = 0) :
    Calls Tryz.prog 84 #[.agg #[.bool b0, .slice A0 n0 c0, .slice B0 m0 d0], .int .i64 j] w (GotZp w (nea x0 j.toNat) 0) := by
  have jl : j.toNat ≤ 500 := by omega
  have ll := flo_len s0 jl
  have lh := cei_len s0 jl
  have hn : nea x0 j.toNat = cei x0 j.toNat := by rw [nea_by]; rw [if_neg (fun h => h.elim (fun a => hc a) (fun a => he a.1))]
  have CF : ∀ {W : World} {b : Bool} {A B : Option Addr} {n c m d : Nat}, Rt W b A n c B m d x0 → Calls Tryz.prog 108 #[.agg #[.bool b, .slice A n c, .slice B m d], .int .i64 j] W (GotZp W (flo x0 j.toNat) 0) := fun hh => rfloor_N hh (s0.le (by omega)) h0 h1
  have CC : ∀ {W : World} {b : Bool} {A B : Option Addr} {n c m d : Nat}, Rt W b A n c B m d x0 → Calls Tryz.prog 109 #[.agg #[.bool b, .slice A n c, .slice B m d], .int .i64 j] W (GotZp W (cei x0 j.toNat) 0) := fun hh => rceil_N hh (s0.le (by omega)) h0 h1
  obtain ⟨lo, hlo⟩ : ∃ lo, flo x0 j.toNat = lo := ⟨_, rfl⟩
  obtain ⟨hi, hhi⟩ : ∃ hi, cei x0 j.toNat = hi := ⟨_, rfl⟩
  rw [hlo] at CF ll
  rw [hhi] at CC lh
  rw [hlo, hhi] at hc
  rw [hlo, hhi] at he
  rw [hhi] at hn
  have CB : ∀ {W : World} {z : Int} {b : Bool} {A : Option Addr} {n c : Nat}, Zn W b A n c z → (limbs z.natAbs).length ≤ 24 → Calls Tryz.prog 110 #[.agg #[.bool b, .slice A n c], .int .i64 j] W (GotRp W (bak z j.toNat) 0) := fun hh hl => rback_N hh (by omega) h0 h1
  have sl : Sz (bak lo j.toNat) 24 := bak_sz ll (by omega) jl
  have sh : Sz (bak hi j.toNat) 24 := bak_sz lh (by omega) jl
  obtain ⟨x, hxx⟩ : ∃ x, bak lo j.toNat = x := ⟨_, rfl⟩
  obtain ⟨y, hyy⟩ : ∃ y, bak hi j.toNat = y := ⟨_, rfl⟩
  have CX : ∀ {W : World} {b : Bool} {A : Option Addr} {n c : Nat}, Zn W b A n c lo → Calls Tryz.prog 110 #[.agg #[.bool b, .slice A n c], .int .i64 j] W (GotRp W x 0) := fun hh => by rw [← hxx]; exact CB hh ll
  have CY : ∀ {W : World} {b : Bool} {A : Option Addr} {n c : Nat}, Zn W b A n c hi → Calls Tryz.prog 110 #[.agg #[.bool b, .slice A n c], .int .i64 j] W (GotRp W y 0) := fun hh => by rw [← hyy]; exact CB hh lh
  rw [hxx] at sl
  rw [hyy] at sh
  rw [hxx, hyy] at hc
  rw [hxx, hyy] at he
  obtain ⟨cn, hcn⟩ : ∃ cn, cmpQ (x0 - x) (y - x0) = cn := ⟨_, rfl⟩
  have HC := Lib.hid hcn
  rw [hcn] at hc
  rw [hcn] at he
  have su := s0.sub sl
  have sv := sh.sub s0
  have HN := Lib.hid hn
  have t1 : decide (cn < 0) = false := decide_eq_false (by omega)
  have t2 : (cn == 0) = false := beq_eq_false_iff_ne.2 he
  clear CB hxx hyy hcn hlo hhi hn hc h0 h1 he
  have cc := Below.refl w.heap.size w
  go_enter Tryz.func84, Tryz.ntmps84
  go_wp2_with fail
  generalize hv_ : (w.alloc (.cells #[.bool b0, .slice A0 n0 c0, .slice B0 m0 d0] 48)).alloc (.cells #[.bool false, .slice none 0 0] 42) = v1
  obtain ⟨f0, f1⟩ : Fz2 v1 (w.heap.size + 1) := by simp [Fz2, ← hv_, go_sem]
  have bA : Below w.heap.size w v1 := by rw [← hv_]; exact (((Below.refl _ w).alloc (by simp) _).alloc (by simp) _)
  replace hx := hx.on bA
  replace cc := bK cc bA
  clear bA
  obtain ⟨k0, k1, k2⟩ : Cs3 v1 w.heap.size (.bool b0) (.slice A0 n0 c0) (.slice B0 m0 d0) := by simp [Cs3, ← hv_, go_sem]
  have kl : w.heap.size < v1.heap.size := by simp [← hv_] <;> omega
  obtain ⟨g0, g1⟩ : Cs2 v1 (w.heap.size + 1) (.bool false) (.slice none 0 0) := by simp [Cs2, ← hv_, go_sem]
  have gl : w.heap.size + 1 < v1.heap.size := by simp [← hv_] <;> omega
  clear hv_
  refine (CF hx).mono ?_
  rintro e w2 ⟨bl, Al, nl, cl, rfl, zl, b⟩
  rewrite [fR b gl] at f0 f1
  replace hx := hx.on b
  rewrite [cR b kl] at k0 k1 k2
  replace kl := lK b kl
  rewrite [cR b gl] at g0 g1
  replace gl := lK b gl
  replace cc := bK cc b
  clear b
  go_wp2_with fail
  generalize hv_ : w2.alloc (.cells #[.bool bl, .slice Al nl cl] 42) = v3
  have bA : Below w2.heap.size w2 v3 := by rw [← hv_]; exact below_one _ _
  rewrite [fR bA gl] at f0 f1
  replace hx := hx.on bA
  replace zl := zl.on bA
  rewrite [cR bA kl] at k0 k1 k2
  replace kl := lK bA kl
  rewrite [cR bA gl] at g0 g1
  replace gl := lK bA gl
  replace cc := bK cc bA
  clear bA
  obtain ⟨ba0, ba1⟩ : Cs2 v3 w2.heap.size (.bool bl) (.slice Al nl cl) := by simp [Cs2, ← hv_, go_sem]
  have bal : w2.heap.size < v3.heap.size := by simp [← hv_]
  clear hv_
  refine (CC hx).mono ?_
  rintro e w4 ⟨bh, Ah, nh, ch, rfl, zh, b⟩
  rewrite [fR b gl] at f0 f1
  replace hx := hx.on b
  replace zl := zl.on b
  rewrite [cR b kl] at k0 k1 k2
  replace kl := lK b kl
  rewrite [cR b gl] at g0 g1
  replace gl := lK b gl
  rewrite [cR b bal] at ba0 ba1
  replace bal := lK b bal
  replace cc := bK cc b
  clear b
  go_wp2_with fail
  generalize hv_ : w4.alloc (.cells #[.bool bh, .slice Ah nh ch] 42) = v5
  have bA : Below w4.heap.size w4 v5 := by rw [← hv_]; exact below_one _ _
  rewrite [fR bA gl] at f0 f1
  replace hx := hx.on bA
  replace zl := zl.on bA
  replace zh := zh.on bA
  rewrite [cR bA kl] at k0 k1 k2
  replace kl := lK bA kl
  rewrite [cR bA gl] at g0 g1
  replace gl := lK bA gl
  rewrite [cR bA bal] at ba0 ba1
  replace bal := lK bA bal
  replace cc := bK cc bA
  clear bA
  obtain ⟨bb0, bb1⟩ : Cs2 v5 w4.heap.size (.bool bh) (.slice Ah nh ch) := by simp [Cs2, ← hv_, go_sem]
  have bbl : w4.heap.size < v5.heap.size := by simp [← hv_]
  clear hv_
  refine (CX zl).mono ?_
  rintro e w6 ⟨bx, Ax, nx, cx, Bx, mx, dx, rfl, rx, b⟩
  rewrite [fR b gl] at f0 f1
  replace hx := hx.on b
  replace zl := zl.on b
  replace zh := zh.on b
  rewrite [cR b kl] at k0 k1 k2
  replace kl := lK b kl
  rewrite [cR b gl] at g0 g1
  replace gl := lK b gl
  rewrite [cR b bal] at ba0 ba1
  replace bal := lK b bal
  rewrite [cR b bbl] at bb0 bb1
  replace bbl := lK b bbl
  replace cc := bK cc b
  clear b
  go_wp2_with fail
  generalize hv_ : w6.alloc (.cells #[.bool bx, .slice Ax nx cx, .slice Bx mx dx] 48) = v7
  have bA : Below w6.heap.size w6 v7 := by rw [← hv_]; exact below_one _ _
  rewrite [fR bA gl] at f0 f1
  replace hx := hx.on bA
  replace zl := zl.on bA
  replace zh := zh.on bA
  replace rx := rx.on bA
  rewrite [cR bA kl] at k0 k1 k2
  replace kl := lK bA kl
  rewrite [cR bA gl] at g0 g1
  replace gl := lK bA gl
  rewrite [cR bA bal] at ba0 ba1
  replace bal := lK bA bal
  rewrite [cR bA bbl] at bb0 bb1
  replace bbl := lK bA bbl
  replace cc := bK cc bA
  clear bA
  obtain ⟨bc0, bc1, bc2⟩ : Cs3 v7 w6.heap.size (.bool bx) (.slice Ax nx cx) (.slice Bx mx dx) := by simp [Cs3, ← hv_, go_sem]
  have bcl : w6.heap.size < v7.heap.size := by simp [← hv_]
  clear hv_
  refine (CY zh).mono ?_
  rintro e w8 ⟨bY, Ay, ny, cy, By, my, dy, rfl, ry, b⟩
  rewrite [fR b gl] at f0 f1
  replace hx := hx.on b
  replace zl := zl.on b
  replace zh := zh.on b
  replace rx := rx.on b
  rewrite [cR b kl] at k0 k1 k2
  replace kl := lK b kl
  rewrite [cR b gl] at g0 g1
  replace gl := lK b gl
  rewrite [cR b bal] at ba0 ba1
  replace bal := lK b bal
  rewrite [cR b bbl] at bb0 bb1
  replace bbl := lK b bbl
  rewrite [cR b bcl] at bc0 bc1 bc2
  replace bcl := lK b bcl
  replace cc := bK cc b
  clear b
  go_wp2_with fail
  generalize hv_ : w8.alloc (.cells #[.bool bY, .slice Ay ny cy, .slice By my dy] 48) = v9
  have bA : Below w8.heap.size w8 v9 := by rw [← hv_]; exact below_one _ _
  rewrite [fR bA gl] at f0 f1
  replace hx := hx.on bA
  replace zl := zl.on bA
  replace zh := zh.on bA
  replace rx := rx.on bA
  replace ry := ry.on bA
  rewrite [cR bA kl] at k0 k1 k2
  replace kl := lK bA kl
  rewrite [cR bA gl] at g0 g1
  replace gl := lK bA gl
  rewrite [cR bA bal] at ba0 ba1
  replace bal := lK bA bal
  rewrite [cR bA bbl] at bb0 bb1
  replace bbl := lK bA bbl
  rewrite [cR bA bcl] at bc0 bc1 bc2
  replace bcl := lK bA bcl
  replace cc := bK cc bA
  clear bA
  obtain ⟨bd0, bd1, bd2⟩ : Cs3 v9 w8.heap.size (.bool bY) (.slice Ay ny cy) (.slice By my dy) := by simp [Cs3, ← hv_, go_sem]
  have bdl : w8.heap.size < v9.heap.size := by simp [← hv_]
  clear hv_
  refine (rtsub_N hx (s0.le (by omega)) rx (sl.le (by omega))).mono ?_
  rintro e w10 ⟨bu, Au, nu, cu, Bu, mu, du, rfl, ru, b⟩
  rewrite [fR b gl] at f0 f1
  replace hx := hx.on b
  replace zl := zl.on b
  replace zh := zh.on b
  replace rx := rx.on b
  replace ry := ry.on b
  rewrite [cR b kl] at k0 k1 k2
  replace kl := lK b kl
  rewrite [cR b gl] at g0 g1
  replace gl := lK b gl
  rewrite [cR b bal] at ba0 ba1
  replace bal := lK b bal
  rewrite [cR b bbl] at bb0 bb1
  replace bbl := lK b bbl
  rewrite [cR b bcl] at bc0 bc1 bc2
  replace bcl := lK b bcl
  rewrite [cR b bdl] at bd0 bd1 bd2
  replace bdl := lK b bdl
  replace cc := bK cc b
  clear b
  go_wp2_with fail
  generalize hv_ : w10.alloc (.cells #[.bool bu, .slice Au nu cu, .slice Bu mu du] 48) = v11
  have bA : Below w10.heap.size w10 v11 := by rw [← hv_]; exact below_one _ _
  rewrite [fR bA gl] at f0 f1
  replace hx := hx.on bA
  replace zl := zl.on bA
  replace zh := zh.on bA
  replace rx := rx.on bA
  replace ry := ry.on bA
  replace ru := ru.on bA
  rewrite [cR bA kl] at k0 k1 k2
  replace kl := lK bA kl
  rewrite [cR bA gl] at g0 g1
  replace gl := lK bA gl
  rewrite [cR bA bal] at ba0 ba1
  replace bal := lK bA bal
  rewrite [cR bA bbl] at bb0 bb1
  replace bbl := lK bA bbl
  rewrite [cR bA bcl] at bc0 bc1 bc2
  replace bcl := lK bA bcl
  rewrite [cR bA bdl] at bd0 bd1 bd2
  replace bdl := lK bA bdl
  replace cc := bK cc bA
  clear bA
  obtain ⟨be0, be1, be2⟩ : Cs3 v11 w10.heap.size (.bool bu) (.slice Au nu cu) (.slice Bu mu du) := by simp [Cs3, ← hv_, go_sem]
  have bel : w10.heap.size < v11.heap.size := by simp [← hv_]
  clear hv_
  refine (rtsub_N ry (sh.le (by omega)) hx (s0.le (by omega))).mono ?_
  rintro e w12 ⟨bv, Av, nv, cv, Bv, mv, dv, rfl, rv, b⟩
  rewrite [fR b gl] at f0 f1
  replace hx := hx.on b
  replace zl := zl.on b
  replace zh := zh.on b
  replace rx := rx.on b
  replace ry := ry.on b
  replace ru := ru.on b
  rewrite [cR b kl] at k0 k1 k2
  replace kl := lK b kl
  rewrite [cR b gl] at g0 g1
  replace gl := lK b gl
  rewrite [cR b bal] at ba0 ba1
  replace bal := lK b bal
  rewrite [cR b bbl] at bb0 bb1
  replace bbl := lK b bbl
  rewrite [cR b bcl] at bc0 bc1 bc2
  replace bcl := lK b bcl
  rewrite [cR b bdl] at bd0 bd1 bd2
  replace bdl := lK b bdl
  rewrite [cR b bel] at be0 be1 be2
  replace bel := lK b bel
  replace cc := bK cc b
  clear b
  go_wp2_with fail
  generalize hv_ : w12.alloc (.cells #[.bool bv, .slice Av nv cv, .slice Bv mv dv] 48) = v13
  have bA : Below w12.heap.size w12 v13 := by rw [← hv_]; exact below_one _ _
  rewrite [fR bA gl] at f0 f1
  replace hx := hx.on bA
  replace zl := zl.on bA
  replace zh := zh.on bA
  replace rx := rx.on bA
  replace ry := ry.on bA
  replace ru := ru.on bA
  replace rv := rv.on bA
  rewrite [cR bA kl] at k0 k1 k2
  replace kl := lK bA kl
  rewrite [cR bA gl] at g0 g1
  replace gl := lK bA gl
  rewrite [cR bA bal] at ba0 ba1
  replace bal := lK bA bal
  rewrite [cR bA bbl] at bb0 bb1
  replace bbl := lK bA bbl
  rewrite [cR bA bcl] at bc0 bc1 bc2
  replace bcl := lK bA bcl
  rewrite [cR bA bdl] at bd0 bd1 bd2
  replace bdl := lK bA bdl
  rewrite [cR bA bel] at be0 be1 be2
  replace bel := lK bA bel
  replace cc := bK cc bA
  clear bA
  obtain ⟨bf0, bf1, bf2⟩ : Cs3 v13 w12.heap.size (.bool bv) (.slice Av nv cv) (.slice Bv mv dv) := by simp [Cs3, ← hv_, go_sem]
  have bfl : w12.heap.size < v13.heap.size := by simp [← hv_]
  clear hv_
  refine (rtcmp_v cn ru (su.le (by omega)) rv (sv.le (by omega)) HC.out).mono ?_
  rintro e w14 ⟨rfl, b⟩
  rewrite [fR b gl] at f0 f1
  replace hx := hx.on b
  replace zl := zl.on b
  replace zh := zh.on b
  replace rx := rx.on b
  replace ry := ry.on b
  replace ru := ru.on b
  replace rv := rv.on b
  rewrite [cR b kl] at k0 k1 k2
  replace kl := lK b kl
  rewrite [cR b gl] at g0 g1
  replace gl := lK b gl
  rewrite [cR b bal] at ba0 ba1
  replace bal := lK b bal
  rewrite [cR b bbl] at bb0 bb1
  replace bbl := lK b bbl
  rewrite [cR b bcl] at bc0 bc1 bc2
  replace bcl := lK b bcl
  rewrite [cR b bdl] at bd0 bd1 bd2
  replace bdl := lK b bdl
  rewrite [cR b bel] at be0 be1 be2
  replace bel := lK b bel
  rewrite [cR b bfl] at bf0 bf1 bf2
  replace bfl := lK b bfl
  replace cc := bK cc b
  clear b
  have hn : Zn w14 bh Ah nh ch (nea x0 j.toNat) := by rw [HN.out]; exact zh
  have eb : Box w14 (w.heap.size + 1) false none 0 0 := ⟨g0, g1⟩
  have HZ : Hid (Zn ((w14.setCell ⟨w.heap.size + 1, 0, none⟩ (.bool bh)).setCell ⟨w.heap.size + 1, 1, none⟩ (.slice Ah nh ch)) bh Ah nh ch (nea x0 j.toNat)) := Lib.hid (hn.put eb _ _)
  clear hn
  go_wp2_with fail
  refine bodyPost_ret (v := .tuple #[.agg #[.bool bh, .slice Ah nh ch], .int .i64 0]) (by simp [results, Tryz.results84, go_sem, g0, g1]) rfl ⟨_, _, _, _, rfl, HZ.out, below_put cc (by omega) _ _⟩

theorem rnear_N {w : World} {b0 : Bool} {A0 B0 : Option Addr} {n0 c0 m0 d0 : Nat} {x0 : Rat} (hx : Rt w b0 A0 n0 c0 B0 m0 d0 x0) (s0 : Sz x0 15) {j : Int} (h0 : 0 ≤ j) (h1 : j ≤ 500) :
    Calls Tryz.prog 84 #[.agg #[.bool b0, .slice A0 n0 c0, .slice B0 m0 d0], .int .i64 j] w (GotZp w (nea x0 j.toNat) 0) := by
  by_cases hc : cmpQ (x0 - bak (flo x0 j.toNat) j.toNat) (bak (cei x0 j.toNat) j.toNat - x0) < 0
  · exact rnear_lt hx s0 h0 h1 hc
  · by_cases he : cmpQ (x0 - bak (flo x0 j.toNat) j.toNat) (bak (cei x0 j.toNat) j.toNat - x0) = 0
    · by_cases h2 : flo x0 j.toNat % 2 = 0
      · exact rnear_even hx s0 h0 h1 he h2
      · exact rnear_odd hx s0 h0 h1 he h2
    · exact rnear_gt hx s0 h0 h1 hc he

theorem rnear_no {w : World} {b0 : Bool} {A0 B0 : Option Addr} {n0 c0 m0 d0 : Nat} {x0 : Rat} (hx : Rt w b0 A0 n0 c0 B0 m0 d0 x0) (s0 : Sz x0 15)  {j : Int} (h : j < 0 ∨ 2000 < j) :
    Calls Tryz.prog 84 #[.agg #[.bool b0, .slice A0 n0 c0, .slice B0 m0 d0], .int .i64 j] w (GotZp w 0 1) := by
  have cc := Below.refl w.heap.size w
  go_enter Tryz.func84, Tryz.ntmps84
  go_wp2_with fail
  generalize hv_ : (w.alloc (.cells #[.bool b0, .slice A0 n0 c0, .slice B0 m0 d0] 48)).alloc (.cells #[.bool false, .slice none 0 0] 42) = v1
  obtain ⟨f0, f1⟩ : Fz2 v1 (w.heap.size + 1) := by simp [Fz2, ← hv_, go_sem]
  have bA : Below w.heap.size w v1 := by rw [← hv_]; exact (((Below.refl _ w).alloc (by simp) _).alloc (by simp) _)
  replace hx := hx.on bA
  replace cc := bK cc bA
  clear bA
  obtain ⟨k0, k1, k2⟩ : Cs3 v1 w.heap.size (.bool b0) (.slice A0 n0 c0) (.slice B0 m0 d0) := by simp [Cs3, ← hv_, go_sem]
  have kl : w.heap.size < v1.heap.size := by simp [← hv_] <;> omega
  obtain ⟨g0, g1⟩ : Cs2 v1 (w.heap.size + 1) (.bool false) (.slice none 0 0) := by simp [Cs2, ← hv_, go_sem]
  have gl : w.heap.size + 1 < v1.heap.size := by simp [← hv_] <;> omega
  clear hv_
  refine (rfloor_no h).mono ?_
  rintro e w2 ⟨bl, Al, nl, cl, rfl, zl, b⟩
  rewrite [fR b gl] at f0 f1
  replace hx := hx.on b
  rewrite [cR b kl] at k0 k1 k2
  replace kl := lK b kl
  rewrite [cR b gl] at g0 g1
  replace gl := lK b gl
  replace cc := bK cc b
  clear b
  have eb : Box w2 (w.heap.size + 1) false none 0 0 := ⟨g0, g1⟩
  have HC := Lib.hid ((eb.put bl Al nl cl).alloc (.cells #[.bool bl, .slice Al nl cl] 42))
  have HZ := Lib.hid ((zl.put eb (.bool bl) (.slice Al nl cl)).alloc (.cells #[.bool bl, .slice Al nl cl] 42))
  have HB := Lib.hid ((below_put cc (show w.heap.size ≤ w.heap.size + 1 by omega) (.bool bl) (.slice Al nl cl)).alloc (by simp; omega) (.cells #[.bool bl, .slice Al nl cl] 42))
  go_wp2_with fail
  obtain ⟨e0, e1⟩ := HC.out
  refine bodyPost_ret (v := .tuple #[.agg #[.bool bl, .slice Al nl cl], .int .i64 1]) (by simp only [results, Tryz.results84]; simp [go_sem, e0, e1]) rfl ⟨_, _, _, _, rfl, HZ.out, HB.out⟩

end Go.Proofs.YtpephogadljncaaGreat

/-
  The contracts of the eighth reference: near, frac, Of, Rat.
-/
namespace Go.Proofs.YtpephogadljncaaGreat
set_option maxRecDepth 100000
set_option maxHeartbeats 8000000
open Go.RowKit
set_option linter.unusedVariables false
set_option linter.unusedSimpArgs false

/-- What is told of a whole number: itself, where 64 bits hold it; else 0 and ErrRange. -/
def nI (z : Int) : Int := if -9223372036854775808 ≤ z ∧ z ≤ 9223372036854775807 then z else 0
def nE (z : Int) : Int := if -9223372036854775808 ≤ z ∧ z ≤ 9223372036854775807 then 0 else 2
theorem nI_yes {z : Int} (h : I64 z) : nI z = z ∧ nE z = 0 := ⟨if_pos h, if_pos h⟩
theorem nI_no {z : Int} (h : ¬ I64 z) : nI z = 0 ∧ nE z = 2 := ⟨if_neg h, if_neg h⟩

theorem near_yes {w : World} {b0 : Bool} {A0 B0 : Option Addr} {n0 c0 m0 d0 : Nat} {x0 : Rat} (h0 : Rt w b0 A0 n0 c0 B0 m0 d0 x0) (s0 : Sz x0 15) {j : Int} (j0 : 0 ≤ j) (j1 : j ≤ 500) (hi : I64 (nea x0 j.toNat)) :
    Calls Tryz.prog 53 #[.agg #[.bool b0, .slice A0 n0 c0, .slice B0 m0 d0], .int .i64 j] w (GotV w (.tuple #[.int .i64 (nea x0 j.toNat), .int .i64 (0)])) := by
  have lz_ := nea_len s0 (show j.toNat ≤ 500 by omega)
  have cc := Below.refl w.heap.size w
  go_enter Tryz.func53, Tryz.ntmps53
  go_wp2_with fail
  generalize hv_ : w.alloc (.cells #[.bool b0, .slice A0 n0 c0, .slice B0 m0 d0] 48) = v1
  have bA : Below w.heap.size w v1 := by rw [← hv_]; exact ((Below.refl _ w).alloc (by simp) _)
  replace h0 := h0.on bA
  replace cc := bK cc bA
  clear bA
  obtain ⟨ka0, ka1, ka2⟩ : Cs3 v1 w.heap.size (.bool b0) (.slice A0 n0 c0) (.slice B0 m0 d0) := by simp [Cs3, ← hv_, go_sem]
  have kal : w.heap.size < v1.heap.size := by simp [← hv_] <;> omega
  clear hv_
  refine (rnear_N h0 s0 j0 j1).mono ?_
  rintro e w2 ⟨bz, Az, nz, cz, rfl, hz, b⟩
  replace h0 := h0.on b
  rewrite [cR b kal] at ka0 ka1 ka2
  replace kal := lK b kal
  replace cc := bK cc b
  clear b
  go_wp2_with fail
  generalize hv_ : w2.alloc (.cells #[.bool bz, .slice Az nz cz] 42) = v3
  have bA : Below w2.heap.size w2 v3 := by rw [← hv_]; exact below_one _ _
  replace h0 := h0.on bA
  replace hz := hz.on bA
  rewrite [cR bA kal] at ka0 ka1 ka2
  replace kal := lK bA kal
  replace cc := bK cc bA
  clear bA
  obtain ⟨zb0, zb1⟩ : Cs2 v3 w2.heap.size (.bool bz) (.slice Az nz cz) := by simp [Cs2, ← hv_, go_sem]
  have zbl : w2.heap.size < v3.heap.size := by simp [← hv_]
  clear hv_
  refine (rzint_yes hz hi).mono ?_
  rintro e w4 ⟨rfl, b⟩
  replace h0 := h0.on b
  replace hz := hz.on b
  rewrite [cR b kal] at ka0 ka1 ka2
  replace kal := lK b kal
  rewrite [cR b zbl] at zb0 zb1
  replace zbl := lK b zbl
  replace cc := bK cc b
  clear b
  go_wp2_with fail
  go_ret2
  exact ⟨rfl, cc⟩

theorem near_no {w : World} {b0 : Bool} {A0 B0 : Option Addr} {n0 c0 m0 d0 : Nat} {x0 : Rat} (h0 : Rt w b0 A0 n0 c0 B0 m0 d0 x0) (s0 : Sz x0 15) {j : Int} (j0 : 0 ≤ j) (j1 : j ≤ 500) (hi : ¬ I64 (nea x0 j.toNat)) :
    Calls Tryz.prog 53 #[.agg #[.bool b0, .slice A0 n0 c0, .slice B0 m0 d0], .int .i64 j] w (GotV w (.tuple #[.int .i64 (0), .int .i64 (2)])) := by
  have lz_ := nea_len s0 (show j.toNat ≤ 500 by omega)
  have cc := Below.refl w.heap.size w
  go_enter Tryz.func53, Tryz.ntmps53
  go_wp2_with fail
  generalize hv_ : w.alloc (.cells #[.bool b0, .slice A0 n0 c0, .slice B0 m0 d0] 48) = v1
  have bA : Below w.heap.size w v1 := by rw [← hv_]; exact ((Below.refl _ w).alloc (by simp) _)
  replace h0 := h0.on bA
  replace cc := bK cc bA
  clear bA
  obtain ⟨ka0, ka1, ka2⟩ : Cs3 v1 w.heap.size (.bool b0) (.slice A0 n0 c0) (.slice B0 m0 d0) := by simp [Cs3, ← hv_, go_sem]
  have kal : w.heap.size < v1.heap.size := by simp [← hv_] <;> omega
  clear hv_
  refine (rnear_N h0 s0 j0 j1).mono ?_
  rintro e w2 ⟨bz, Az, nz, cz, rfl, hz, b⟩
  replace h0 := h0.on b
  rewrite [cR b kal] at ka0 ka1 ka2
  replace kal := lK b kal
  replace cc := bK cc b
  clear b
  go_wp2_with fail
  generalize hv_ : w2.alloc (.cells #[.bool bz, .slice Az nz cz] 42) = v3
  have bA : Below w2.heap.size w2 v3 := by rw [← hv_]; exact below_one _ _
  replace h0 := h0.on bA
  replace hz := hz.on bA
  rewrite [cR bA kal] at ka0 ka1 ka2
  replace kal := lK bA kal
  replace cc := bK cc bA
  clear bA
  obtain ⟨zb0, zb1⟩ : Cs2 v3 w2.heap.size (.bool bz) (.slice Az nz cz) := by simp [Cs2, ← hv_, go_sem]
  have zbl : w2.heap.size < v3.heap.size := by simp [← hv_]
  clear hv_
  refine (rzint_no hz (Nat.le_trans lz_ (by omega)) hi).mono ?_
  rintro e w4 ⟨rfl, b⟩
  replace h0 := h0.on b
  replace hz := hz.on b
  rewrite [cR b kal] at ka0 ka1 ka2
  replace kal := lK b kal
  rewrite [cR b zbl] at zb0 zb1
  replace zbl := lK b zbl
  replace cc := bK cc b
  clear b
  go_wp2_with fail
  go_ret2
  exact ⟨rfl, cc⟩

theorem near_N {w : World} {b0 : Bool} {A0 B0 : Option Addr} {n0 c0 m0 d0 : Nat} {x0 : Rat} (h0 : Rt w b0 A0 n0 c0 B0 m0 d0 x0) (s0 : Sz x0 15) {j : Int} (j0 : 0 ≤ j) (j1 : j ≤ 500) :
    Calls Tryz.prog 53 #[.agg #[.bool b0, .slice A0 n0 c0, .slice B0 m0 d0], .int .i64 j] w (GotV w (.tuple #[.int .i64 (nI (nea x0 j.toNat)), .int .i64 (nE (nea x0 j.toNat))])) := by
  by_cases hi : I64 (nea x0 j.toNat)
  · rw [(nI_yes hi).1, (nI_yes hi).2]; exact near_yes h0 s0 j0 j1 hi
  · rw [(nI_no hi).1, (nI_no hi).2]; exact near_no h0 s0 j0 j1 hi

theorem frac_0 (w : World) {j : Int} (h : j < 0) :
    Calls Tryz.prog 52 #[.int .i64 j] w (GotV w (.bool false)) := by
  have t1 : decide (0 ≤ j) = false := decide_eq_false (by omega)
  go_enter Tryz.func52, Tryz.ntmps52
  go_wp2_with fail
  go_ret
  exact ⟨rfl, Below.refl _ _⟩

theorem frac_1 (w : World) {j : Int} (h0 : 0 ≤ j) (h1 : 40 < j) :
    Calls Tryz.prog 52 #[.int .i64 j] w (GotV w (.bool false)) := by
  have t1 : decide (0 ≤ j) = true := decide_eq_true h0
  have t2 : decide (j ≤ 40) = false := decide_eq_false (by omega)
  go_enter Tryz.func52, Tryz.ntmps52
  go_wp2_with fail
  go_ret
  exact ⟨rfl, Below.refl _ _⟩

theorem frac_2 (w : World) {j : Int} (h0 : 0 ≤ j) (h1 : j ≤ 40) :
    Calls Tryz.prog 52 #[.int .i64 j] w (GotV w (.bool true)) := by
  have t1 : decide (0 ≤ j) = true := decide_eq_true h0
  have t2 : decide (j ≤ 40) = true := decide_eq_true (by omega)
  go_enter Tryz.func52, Tryz.ntmps52
  go_wp2_with fail
  go_ret
  exact ⟨rfl, Below.refl _ _⟩

theorem frac_no (w : World) {j : Int} (h : j < 0 ∨ 40 < j) :
    Calls Tryz.prog 52 #[.int .i64 j] w (GotV w (.bool false)) := by
  by_cases h0 : 0 ≤ j
  · exact frac_1 w h0 (by omega)
  · exact frac_0 w (by omega)

theorem rof8_N {w : World} {b0 : Bool} {A0 B0 : Option Addr} {n0 c0 m0 d0 : Nat} {x0 : Rat} (h0 : Rt w b0 A0 n0 c0 B0 m0 d0 x0) (s0 : Sz x0 15) {j : Int} (j0 : 0 ≤ j) (j1 : j ≤ 40) :
    Calls Tryz.prog 24 #[.agg #[.bool b0, .slice A0 n0 c0, .slice B0 m0 d0], .int .i64 j] w (GotV w (.tuple #[.int .i64 (nI (nea x0 j.toNat)), .int .i64 (nE (nea x0 j.toNat))])) := by
  have cc := Below.refl w.heap.size w
  go_enter Tryz.func24, Tryz.ntmps24
  go_wp2_with fail
  generalize hv_ : w.alloc (.cells #[.bool b0, .slice A0 n0 c0, .slice B0 m0 d0] 48) = v1
  have bA : Below w.heap.size w v1 := by rw [← hv_]; exact ((Below.refl _ w).alloc (by simp) _)
  replace h0 := h0.on bA
  replace cc := bK cc bA
  clear bA
  obtain ⟨ka0, ka1, ka2⟩ : Cs3 v1 w.heap.size (.bool b0) (.slice A0 n0 c0) (.slice B0 m0 d0) := by simp [Cs3, ← hv_, go_sem]
  have kal : w.heap.size < v1.heap.size := by simp [← hv_] <;> omega
  clear hv_
  refine (frac_2 _ j0 j1).mono ?_
  rintro e w2 ⟨rfl, b⟩
  replace h0 := h0.on b
  rewrite [cR b kal] at ka0 ka1 ka2
  replace kal := lK b kal
  replace cc := bK cc b
  clear b
  go_wp2_with fail
  refine (near_N h0 s0 j0 (by omega)).mono ?_
  rintro e w3 ⟨rfl, b⟩
  replace h0 := h0.on b
  rewrite [cR b kal] at ka0 ka1 ka2
  replace kal := lK b kal
  replace cc := bK cc b
  clear b
  go_wp2_with fail
  go_ret2
  exact ⟨rfl, cc⟩

theorem rof8_no {w : World} {b0 : Bool} {A0 B0 : Option Addr} {n0 c0 m0 d0 : Nat} {j : Int} (h : j < 0 ∨ 40 < j) :
    Calls Tryz.prog 24 #[.agg #[.bool b0, .slice A0 n0 c0, .slice B0 m0 d0], .int .i64 j] w (GotV w (.tuple #[.int .i64 (0), .int .i64 (1)])) := by
  have cc := Below.refl w.heap.size w
  go_enter Tryz.func24, Tryz.ntmps24
  go_wp2_with fail
  generalize hv_ : w.alloc (.cells #[.bool b0, .slice A0 n0 c0, .slice B0 m0 d0] 48) = v1
  have bA : Below w.heap.size w v1 := by rw [← hv_]; exact ((Below.refl _ w).alloc (by simp) _)
  replace cc := bK cc bA
  clear bA
  obtain ⟨ka0, ka1, ka2⟩ : Cs3 v1 w.heap.size (.bool b0) (.slice A0 n0 c0) (.slice B0 m0 d0) := by simp [Cs3, ← hv_, go_sem]
  have kal : w.heap.size < v1.heap.size := by simp [← hv_] <;> omega
  clear hv_
  refine (frac_no _ h).mono ?_
  rintro e w2 ⟨rfl, b⟩
  rewrite [cR b kal] at ka0 ka1 ka2
  replace kal := lK b kal
  replace cc := bK cc b
  clear b
  go_wp2_with fail
  go_ret2
  exact ⟨rfl, cc⟩



end Go.Proofs.YtpephogadljncaaGreat

/-
  Blocks: what is loaded of codes, how near it is, what is packed; numbers alone.
-/
namespace Go.Proofs.YtpephogadljncaaGreat
set_option linter.unusedVariables false
set_option linter.unusedSimpArgs false

/-- A number to the nearest is at most half a step away. -/
theorem rn_half (n : Int) {d : Nat} (hd : d ≠ 0) : 2 * (rn n d * (d : Int)) ≤ 2 * n + d ∧ 2 * n ≤ 2 * (rn n d * (d : Int)) + d := by
  have pos : ∀ u : Nat, 2 * (rn (u : Int) d * (d : Int)) ≤ 2 * (u : Int) + d ∧ 2 * (u : Int) ≤ 2 * (rn (u : Int) d * (d : Int)) + d := by
    intro u
    rw [rn_nat u d hd]
    have h1 := Nat.div_add_mod u d
    have h2 := Nat.mod_lt u (show 0 < d by omega)
    have h3 : ((u / d : Nat) : Int) * (d : Int) = ((d * (u / d) : Nat) : Int) := by rw [Nat.mul_comm, Int.natCast_mul]
    have hf : fars u d = (decide (d < u % d + u % d) || (decide (u % d + u % d = d) && decide (u / d % 2 = 1))) := rfl
    by_cases h : fars u d = true
    · rw [if_pos h, Int.natCast_add, Int.add_mul, h3]
      rw [hf, Bool.or_eq_true, Bool.and_eq_true, decide_eq_true_eq, decide_eq_true_eq] at h
      omega
    · rw [if_neg h, Nat.add_zero, h3]
      rw [hf, Bool.or_eq_true, Bool.and_eq_true, decide_eq_true_eq, decide_eq_true_eq] at h
      omega
  rcases Int.le_total 0 n with h | h
  · obtain ⟨u, rfl⟩ : ∃ u : Nat, n = (u : Int) := ⟨n.toNat, by omega⟩
    exact pos u
  · obtain ⟨u, rfl⟩ : ∃ u : Nat, n = -(u : Int) := ⟨(-n).toNat, by omega⟩
    have := pos u
    rw [rn_neg _ hd, Int.neg_mul]
    omega
theorem rn_nought {d : Nat} (hd : d ≠ 0) : rn 0 d = 0 := by have := rn_self 0 hd; rwa [Int.zero_mul] at this
/-- What a code is loaded as. -/
def ld (k s : Int) (c : Nat) : Int := rn (s * num10 k c) (den9 k).natAbs
theorem den9_nat {k : Int} (h : Kind9 k) : (((den9 k).natAbs : Nat) : Int) = den9 k ∧ (den9 k).natAbs ≠ 0 := by have := (facts10 h).2.2.2.2.2.2; omega
theorem num10_in {k : Int} (h : Kind9 k) {c : Nat} (hc : c ≤ 255) : -den9 k ≤ num10 k c ∧ num10 k c ≤ den9 k ∧ (sig9 k = false → 0 ≤ num10 k c) := by
  obtain ⟨_, h1, _, _, _, h2, h3⟩ := facts10 h
  have u : num10 k c ≤ den9 k := by
    rcases Nat.lt_or_ge c 255 with e | e
    · have := num10_up h e (Nat.le_refl _); omega
    · obtain rfl : c = 255 := by omega
      omega
  have l : num10 k 0 ≤ num10 k c := by
    rcases Nat.eq_zero_or_pos c with e | e
    · subst e; exact Int.le_refl _
    · exact Int.le_of_lt (num10_up h e hc)
  cases hs : sig9 k with
  | true => rw [hs] at h2; have := of_decide_eq_true (by simpa using h2 : decide (-den9 k ≤ num10 k 0) = true); exact ⟨by omega, u, fun h => by cases h⟩
  | false => rw [hs] at h2; have := of_decide_eq_true (by simpa using h2 : decide (num10 k 0 = 0) = true); exact ⟨by omega, u, fun _ => by omega⟩
theorem ld_in {k s : Int} (h : Kind9 k) (hs : 0 ≤ s) {c : Nat} (hc : c ≤ 255) : -s ≤ ld k s c ∧ ld k s c ≤ s ∧ (sig9 k = false → 0 ≤ ld k s c) := by
  obtain ⟨e, ne⟩ := den9_nat h
  obtain ⟨a, b, g⟩ := num10_in h hc
  unfold ld
  refine ⟨?_, ?_, fun hg => ?_⟩
  · have := rn_mono ne (n := -s * ((den9 k).natAbs : Int)) (m := s * num10 k c) (by rw [e, Int.neg_mul, ← Int.mul_neg]; exact Int.mul_le_mul_of_nonneg_left a hs)
    rwa [rn_self _ ne] at this
  · have := rn_mono ne (n := s * num10 k c) (m := s * ((den9 k).natAbs : Int)) (by rw [e]; exact Int.mul_le_mul_of_nonneg_left b hs)
    rwa [rn_self _ ne] at this
  · have := rn_mono ne (n := 0) (m := s * num10 k c) (Int.mul_nonneg hs (g hg))
    rwa [rn_nought ne] at this
theorem ld_i64 {k s : Int} (h : Kind9 k) (hs : 0 ≤ s) (hi : I64 s) {c : Nat} (hc : c ≤ 255) : I64 (ld k s c) := by have := ld_in h hs hc; unfold I64 at *; omega
theorem ld_top {k s : Int} (h : Kind9 k) : ld k s 255 = s := by
  obtain ⟨e, ne⟩ := den9_nat h
  have := rn_self s ne
  unfold ld
  rw [(facts10 h).2.1]
  rwa [e] at this
theorem ld_nought {k : Int} (h : Kind9 k) (c : Nat) : ld k 0 c = 0 := by unfold ld; rw [Int.zero_mul]; exact rn_nought (den9_nat h).2
theorem ld_mono {k s : Int} (h : Kind9 k) (hs : 0 ≤ s) {a b : Nat} (hab : a ≤ b) (hb : b ≤ 255) : ld k s a ≤ ld k s b := by
  rcases Nat.eq_or_lt_of_le hab with e | e
  · subst e; exact Int.le_refl _
  · exact rn_mono (den9_nat h).2 (Int.mul_le_mul_of_nonneg_left (Int.le_of_lt (num10_up h e hb)) hs)

/-- How a number is packed beside others the greatest of which is s. -/
def pk (k s x : Int) : Nat := near10 k x (max s 1)
theorem pk_le (k s x : Int) : pk k s x ≤ 255 := near10_le _ _ _
theorem pk_shr {k s x : Int} (h : Kind9 k) (h1 : -s ≤ x) (h2 : x ≤ s) (h3 : 0 ≤ x ∨ sig9 k = true) : Shr k x (max s 1) := ⟨h, by omega, by omega, by omega, h3⟩
theorem pk_near {k s x : Int} (h : Kind9 k) (h0 : 0 ≤ s) (h1 : -s ≤ x) (h2 : x ≤ s) (h3 : 0 ≤ x ∨ sig9 k = true) :
    2 * (x * den9 k - ld k s (pk k s x) * den9 k) ≤ gap9 k * s + den9 k ∧ 2 * (ld k s (pk k s x) * den9 k - x * den9 k) ≤ gap9 k * s + den9 k := by
  obtain ⟨e, ne⟩ := den9_nat h
  have hd := (facts10 h).2.2.2.2.2.2
  have hr := rn_half (s * num10 k (pk k s x)) ne
  rw [e] at hr
  rcases Int.lt_or_le 0 s with hp | hp
  · have hm : max s 1 = s := by omega
    have hh := near10_half (pk_shr h h1 h2 h3)
    unfold pk at hr ⊢
    unfold ld
    rw [hm] at hr hh ⊢
    unfold dst at hh
    rw [Int.mul_comm s] at hr ⊢
    generalize num10 k (near10 k x s) * s = y at *
    generalize rn y (den9 k).natAbs * den9 k = z at *
    generalize x * den9 k = q at *
    generalize gap9 k * s = g at *
    omega
  · obtain rfl : s = 0 := by omega
    obtain rfl : x = 0 := by omega
    rw [ld_nought h]
    simp
    omega
theorem pk_mono {k s x y : Int} (h : Kind9 k) (hxy : x ≤ y) : pk k s x ≤ pk k s y := near10_mono h (by omega) hxy
theorem pk_top {k s : Int} (h : Kind9 k) (h0 : 0 < s) : pk k s s = 255 := by
  have hm : max s 1 = s := by omega
  unfold pk; rw [hm]; exact near10_den h h0
theorem pk_low {k s : Int} (h0 : 0 < s) : pk k s (-s) = near10 k (-1) 1 := by
  have hm : max s 1 = s := by omega
  have := near10_scale (k := k) (num := -1) (den := 1) h0
  unfold pk; rw [hm]
  rwa [Int.one_mul, Int.neg_mul, Int.one_mul] at this
theorem near10_one {k : Int} (h : Kind9 k) : near10 k 1 1 = 255 := near10_den h (by omega)
theorem pk_nought {k : Int} : pk k 0 0 = near10 k 0 1 := rfl

/-- The greatest of numbers, whatever its side. -/
def grk (L : List Int) : Nat → Int
  | 0 => 0
  | m + 1 => max (max (grk L m) (L[m]?.getD 0)) (-(L[m]?.getD 0))
def gr (L : List Int) : Int := grk L L.length
theorem grk_pos (L : List Int) : ∀ m, 0 ≤ grk L m
  | 0 => Int.le_refl _
  | m + 1 => by have := grk_pos L m; unfold grk; omega
theorem grk_ge (L : List Int) : ∀ m j, j < m → L[j]?.getD 0 ≤ grk L m ∧ -(L[j]?.getD 0) ≤ grk L m
  | 0, j, h => by omega
  | m + 1, j, h => by
    unfold grk
    rcases Nat.lt_or_ge j m with e | e
    · have := grk_ge L m j e; omega
    · obtain rfl : j = m := by omega
      omega
theorem grk_some (L : List Int) : ∀ m, grk L m = 0 ∨ ∃ j, j < m ∧ (L[j]?.getD 0 = grk L m ∨ L[j]?.getD 0 = -grk L m)
  | 0 => .inl rfl
  | m + 1 => by
    have ih := grk_some L m
    have hp := grk_pos L m
    have e : grk L (m + 1) = max (max (grk L m) (L[m]?.getD 0)) (-(L[m]?.getD 0)) := rfl
    by_cases h1 : L[m]?.getD 0 = grk L (m + 1) ∨ L[m]?.getD 0 = -grk L (m + 1)
    · exact .inr ⟨m, by omega, h1⟩
    · have e2 : grk L (m + 1) = grk L m := by omega
      rcases ih with h | ⟨j, hj, h⟩
      · exact .inl (by omega)
      · exact .inr ⟨j, by omega, by rw [e2]; exact h⟩
theorem gr_pos (L : List Int) : 0 ≤ gr L := grk_pos L _
theorem gr_ge {L : List Int} {j : Nat} (h : j < L.length) : L[j]?.getD 0 ≤ gr L ∧ -(L[j]?.getD 0) ≤ gr L := grk_ge L _ j h
theorem gr_le {L : List Int} {s : Int} (h0 : 0 ≤ s) (h : ∀ j, j < L.length → L[j]?.getD 0 ≤ s ∧ -(L[j]?.getD 0) ≤ s) : gr L ≤ s := by
  rcases grk_some L L.length with e | ⟨j, hj, e⟩
  · unfold gr; omega
  · have := h j hj; unfold gr; omega
theorem grk_i64 {L : List Int} (h : ∀ j : Nat, I64 (L[j]?.getD 0) ∧ L[j]?.getD 0 ≠ -9223372036854775808) : ∀ m, I64 (grk L m)
  | 0 => by show I64 0; unfold I64; omega
  | m + 1 => by
    have h1 := grk_i64 h m
    have h2 := h m
    show I64 (max (max (grk L m) (L[m]?.getD 0)) (-(L[m]?.getD 0)))
    generalize grk L m = g at *
    unfold I64 at *; omega

/-- Is a code of the block whose greatest is 1 by 1, or -1 by 1? -/
def EndC (k : Int) (c : Nat) : Prop := c = near10 k 1 1 ∨ (Shr k (-1) 1 ∧ c = near10 k (-1) 1)
instance (k : Int) (c : Nat) : Decidable (EndC k c) := by unfold EndC; infer_instance
/-- May a block's codes be? -/
def OkC (k s : Int) (C : List Nat) : Prop := (s = 0 ∧ ∀ c ∈ C, c = near10 k 0 1) ∨ (0 < s ∧ ∃ c ∈ C, EndC k c)
/-- Is a block right? -/
def OkB (k s : Int) (C : List Nat) (W : List Int) : Prop :=
  (Kind9 k ∧ C.length + W.length ≤ 4096 ∧ W = [] ∧ OkC k s C) ∨ (k = 4 ∧ C.length + W.length ≤ 4096 ∧ (∀ x ∈ W, x ≠ -9223372036854775808) ∧ s = 0 ∧ C = [])
instance (k s : Int) (C : List Nat) : Decidable (OkC k s C) := by unfold OkC; infer_instance
instance (k s : Int) (C : List Nat) (W : List Int) : Decidable (OkB k s C W) := by unfold OkB; infer_instance
/-- What a right block is loaded as. -/
def ldB (k s : Int) (C : List Nat) (W : List Int) : List Int := if k = 4 then W else C.map (ld k s)
/-- May numbers be packed? -/
def OkP (k : Int) (L : List Int) : Prop := (0 ≤ k ∧ k ≤ 4) ∧ (∀ x ∈ L, x ≠ -9223372036854775808 ∧ (k = 1 ∨ k = 3 → 0 ≤ x))
instance (k : Int) (L : List Int) : Decidable (OkP k L) := by unfold OkP; infer_instance
/-- The codes of what is packed. -/
def pkC (k : Int) (L : List Int) : List Nat := if k = 4 then [] else L.map (pk k (gr L))
def pkS (k : Int) (L : List Int) : Int := if k = 4 then 0 else gr L
def pkW (k : Int) (L : List Int) : List Int := if k = 4 then L else []
theorem kind_or {k : Int} : 0 ≤ k ∧ k ≤ 4 ↔ Kind9 k ∨ k = 4 := by unfold Kind9; omega
theorem sig9_iff {k : Int} (h : Kind9 k) : sig9 k = true ↔ ¬ (k = 1 ∨ k = 3) := by unfold sig9 Kind9 at *; rw [decide_eq_true_eq]; omega
theorem okP_at {k : Int} {L : List Int} (h : OkP k L) (hk : Kind9 k) {x : Int} (hx : x ∈ L) : -gr L ≤ x ∧ x ≤ gr L ∧ (0 ≤ x ∨ sig9 k = true) := by
  obtain ⟨j, hj, rfl⟩ := at_mem 0 hx
  have := gr_ge hj
  refine ⟨by omega, by omega, ?_⟩
  by_cases e : k = 1 ∨ k = 3
  · exact .inl ((h.2 _ hx).2 e)
  · exact .inr ((sig9_iff hk).2 e)
theorem shr_m {k : Int} (hk : Kind9 k) (hs : sig9 k = true) : Shr k (-1) 1 := ⟨hk, by omega, by omega, by omega, .inr hs⟩
/-- What is packed is right. -/
theorem okB_pk {k : Int} {L : List Int} (h : OkP k L) (hl : L.length ≤ 4096) : OkB k (pkS k L) (pkC k L) (pkW k L) := by
  rcases kind_or.1 h.1 with hk | hk
  · have h4 : k ≠ 4 := by unfold Kind9 at hk; omega
    unfold pkS pkC pkW
    rw [if_neg h4, if_neg h4, if_neg h4]
    refine .inl ⟨hk, by simp; exact hl, rfl, ?_⟩
    rcases grk_some L L.length with e | ⟨j, hj, e⟩
    · refine .inl ⟨e, fun c hc => ?_⟩
      obtain ⟨x, hx, rfl⟩ := List.mem_map.1 hc
      have := okP_at h hk hx
      have e0 : gr L = 0 := e
      rw [e0] at this ⊢
      obtain rfl : x = 0 := by omega
      exact pk_nought
    · by_cases e0 : gr L = 0
      · refine .inl ⟨e0, fun c hc => ?_⟩
        obtain ⟨x, hx, rfl⟩ := List.mem_map.1 hc
        have := okP_at h hk hx
        rw [e0] at this ⊢
        obtain rfl : x = 0 := by omega
        exact pk_nought
      · have hp : 0 < gr L := by have := gr_pos L; omega
        have hx := mem_at (d := 0) hj
        refine .inr ⟨hp, pk k (gr L) (L[j]?.getD 0), List.mem_map.2 ⟨_, hx, rfl⟩, ?_⟩
        have e' : L[j]?.getD 0 = gr L ∨ L[j]?.getD 0 = -gr L := e
        rcases e' with e' | e'
        · left; rw [e', pk_top hk hp, near10_one hk]
        · have hs : sig9 k = true := by
            have := (okP_at h hk hx).2.2
            rcases this with h1 | h1
            · omega
            · exact h1
          right; rw [e', pk_low hp]; exact ⟨shr_m hk hs, rfl⟩
  · subst hk
    refine .inr ⟨rfl, by simp [pkC, pkW]; exact hl, fun x hx => (h.2 x hx).1, rfl, rfl⟩
end Go.Proofs.YtpephogadljncaaGreat

/-
  The contracts of the tenth reference: Sub of integers, share, Share, Num, far, Far.
-/
namespace Go.Proofs.YtpephogadljncaaGreat
open Go.RowKit
set_option linter.unusedVariables false
set_option linter.unusedSimpArgs false

theorem zn_size {w : World} {b : Bool} {A : Option Addr} {n c : Nat} {z : Int} (h : Zn w b A n c z) : Zn w false A n c ((z.natAbs : Nat) : Int) := ⟨by rw [Int.natAbs_natCast]; exact h.1, by simp⟩
theorem IR.cell {w : World} {b off n c j : Nat} {l : List Int} (h : IR w (some ⟨b, off, none⟩) n c l) (hj : j < n) : w.cell? ⟨b, off + j, none⟩ = some (.int .i64 (l[j]?.getD 0)) := by
  obtain ⟨b', off', e, hlt, hc⟩ := h.2.2 (by omega)
  injection e with e
  injection e with e1 e2
  subst e1
  subst e2
  exact hc j hj
theorem IR.some {w : World} {A : Option Addr} {n c : Nat} {l : List Int} (h : IR w A n c l) (hn : 0 < n) : ∃ b off, A = some ⟨b, off, none⟩ ∧ b < w.heap.size := by
  obtain ⟨b, off, e, hlt, hc⟩ := h.2.2 hn
  exact ⟨b, off, e, hlt⟩
theorem u8_nat {a : Int} (h : (Lit.int .u8 a).wf = true) : ∃ q : Nat, a = (q : Int) ∧ q < 256 := by
  have : 0 ≤ a ∧ a ≤ 255 := bounds_u8 h
  exact ⟨a.toNat, by omega, by omega⟩
theorem kind9_code {k : Int} (h : Kind9 k) : code9 k = 0 := if_pos h
theorem other9 {k : Int} (h : ¬ Kind9 k) : book9 k = [] ∧ code9 k = 1 := by
  refine ⟨?_, if_neg h⟩
  unfold book9; unfold Kind9 at h; rw [if_neg (fun e => h (.inl e)), if_neg (fun e => h (.inr (.inl e))), if_neg (fun e => h (.inr (.inr (.inl e)))), if_neg (fun e => h (.inr (.inr (.inr e))))]
theorem den9_i64 (k : Int) : I64 (den9 k) := by have := den9_bd k; unfold I64; omega
theorem num10_i64 (k : Int) (c : Nat) : I64 (num10 k c) := by have := num10_bd k c; unfold I64; omega
theorem gap9_i64 (k : Int) : I64 (gap9 k) := by have := gap9_bd k; unfold I64; omega
theorem len_prod {a b : Int} (ha : I64 a) (hb : I64 b) : (limbs (a * b).natAbs).length ≤ 2 := zlen_mul (len_one ha.abs) (len_one hb.abs)
theorem len_diff {a b : Int} {k : Nat} (ha : (limbs a.natAbs).length ≤ k) (hb : (limbs b.natAbs).length ≤ k) : (limbs (a - b).natAbs).length ≤ k + 1 := by rw [Int.sub_eq_add_neg]; exact zlen_add ha (by rw [Int.natAbs_neg]; exact hb)
theorem dst_len {k num den : Int} (hn : I64 num) (hd : I64 den) (c : Nat) : (limbs (dst k num den c).natAbs).length ≤ 3 := by
  unfold dst; rw [Int.natAbs_natCast]; exact len_diff (len_prod hn (den9_i64 k)) (len_prod (num10_i64 k c) hd)















end Go.Proofs.YtpephogadljncaaGreat

/-
  The contract of the tenth reference: Near.
-/
namespace Go.Proofs.YtpephogadljncaaGreat
set_option maxRecDepth 100000
open Go.RowKit
set_option linter.unusedVariables false
set_option linter.unusedSimpArgs false

theorem rzcmp_w {w : World} {b b' : Bool} {A B : Option Addr} {n c m d : Nat} {z z' : Int} (r : Int) (ha : Zn w b A n c z) (hb : Zn w b' B m d z') (hx : (limbs z.natAbs).length ≤ 300) (hy : (limbs z'.natAbs).length ≤ 300) (h : cmpZ z z' = r) : Calls Tryz.prog 126 #[.agg #[.bool b, .slice A n c], .agg #[.bool b', .slice B m d]] w (GotV w (.int .i64 r)) := by
  subst h
  exact rzcmp_N ha hb (by omega) (by omega)
theorem cmpZ_lt {a b : Int} : cmpZ a b < 0 ↔ a < b := by unfold cmpZ; split <;> (try split) <;> omega
theorem cmpZ_eq {a b : Int} : cmpZ a b = 0 ↔ a = b := by unfold cmpZ; split <;> (try split) <;> omega
theorem cmpZ_ngt {a b : Int} : cmpZ a b ≤ 0 ↔ a ≤ b := by unfold cmpZ; split <;> (try split) <;> omega
/-- As LoneZ; the box may be written. -/
def LoneF (V U : World) (g : Nat) (b : Bool) (A : Option Addr) (n k : Nat) (z : Int) : Prop := LoneZ V U g b A n k z ∧ U.frozen? ⟨g, 0, none⟩ = false ∧ U.frozen? ⟨g, 1, none⟩ = false
section
variable {V wz : World} {g : Nat} {b : Bool} {A : Option Addr} {n k : Nat} {z : Int}
theorem loneFA (h : Zn wz b A n k z) (qq : Below V.heap.size V wz) (T : TypeId) : LoneF V (wz.alloc (.cells #[.bool b, .slice A n k] T)) wz.heap.size b A n k z := ⟨loneZA h qq T, by simp [go_sem], by simp [go_sem]⟩
theorem loneFB (o0 : wz.cell? ⟨g, 0, none⟩ = some (.bool false)) (o1 : wz.cell? ⟨g, 1, none⟩ = some (.slice none 0 0)) (f0 : wz.frozen? ⟨g, 0, none⟩ = false) (f1 : wz.frozen? ⟨g, 1, none⟩ = false) (h : Zn wz b A n k z) (qq : Below V.heap.size V wz) (l : V.heap.size ≤ g) : LoneF V ((wz.setCell ⟨g, 0, none⟩ (.bool b)).setCell ⟨g, 1, none⟩ (.slice A n k)) g b A n k z := ⟨loneZB o0 o1 h qq l, by simpa [go_sem] using f0, by simpa [go_sem] using f1⟩
end



end Go.Proofs.YtpephogadljncaaGreat

/-
  Rows of bytes, blocks: what a slice value reads as, what keeps it, what is answered.
-/
namespace Go.Proofs.YtpephogadljncaaGreat
open Go.RowKit
set_option linter.unusedVariables false

/-- A block, and a code, are answered. -/
def GotBp (w : World) (k s : Int) (C : List Nat) (W : List Int) (r : Int) (e : Ending) (w' : World) : Prop :=
  ∃ A n c B m d, e = .returned (.tuple #[.agg #[.int .i64 k, .int .i64 s, .slice A n c, .slice B m d], .int .i64 r]) ∧ BR w' A n c C ∧ IR w' B m d W ∧ Below w.heap.size w w'
/-- What the first i are, one by one. -/
def anyK {α : Type} (P : α → Bool) (l : List α) (i : Nat) : Bool := (l.take i).any P
def allK {α : Type} (P : α → Bool) (l : List α) (i : Nat) : Bool := (l.take i).all P
theorem anyK_zero {α : Type} (P : α → Bool) (l : List α) : anyK P l 0 = false := by simp [anyK]
theorem allK_zero {α : Type} (P : α → Bool) (l : List α) : allK P l 0 = true := by simp [allK]
theorem take_at {α : Type} {l : List α} (d : α) {i : Nat} (h : i < l.length) : l.take (i + 1) = l.take i ++ [l[i]?.getD d] := by
  rw [List.take_add_one, List.getElem?_eq_getElem h]; rfl
theorem anyK_succ {α : Type} (P : α → Bool) {l : List α} (d : α) {i : Nat} (h : i < l.length) : anyK P l (i + 1) = (anyK P l i || P (l[i]?.getD d)) := by
  unfold anyK; rw [take_at d h, List.any_append]; simp
theorem allK_succ {α : Type} (P : α → Bool) {l : List α} (d : α) {i : Nat} (h : i < l.length) : allK P l (i + 1) = (allK P l i && P (l[i]?.getD d)) := by
  unfold allK; rw [take_at d h, List.all_append]; simp
theorem anyK_end {α : Type} (P : α → Bool) (l : List α) : anyK P l l.length = l.any P := by unfold anyK; rw [List.take_length]
theorem allK_end {α : Type} (P : α → Bool) (l : List α) : allK P l l.length = l.all P := by unfold allK; rw [List.take_length]
/-- A code of the greatest, told by what the tenth reference says of 1, and of -1. -/
def endP (top low : Nat) (sg : Bool) (c : Nat) : Bool := c == top || (sg && c == low)
theorem okC_eq {k s : Int} {C : List Nat} {sg : Bool} (hs : sg = decide (Shr k (-1) 1)) : decide (OkC k s C) = (if s = 0 then C.all (fun c => c == near10 k 0 1) else decide (0 < s) && C.any (endP (near10 k 1 1) (near10 k (-1) 1) sg)) := by
  have e : ∀ c, endP (near10 k 1 1) (near10 k (-1) 1) sg c = decide (EndC k c) := by
    intro c
    unfold endP
    rw [Bool.eq_iff_iff, Bool.or_eq_true, beq_iff_eq, Bool.and_eq_true, beq_iff_eq, hs, decide_eq_true_eq, decide_eq_true_eq]
    exact Iff.rfl
  split
  · rename_i h
    rw [Bool.eq_iff_iff, decide_eq_true_eq, List.all_eq_true]
    constructor
    · rintro (⟨_, g⟩ | ⟨g, _⟩)
      · intro c hc; rw [beq_iff_eq]; exact g c hc
      · omega
    · intro g; exact .inl ⟨h, fun c hc => beq_iff_eq.1 (g c hc)⟩
  · rename_i h
    rw [Bool.eq_iff_iff, decide_eq_true_eq, Bool.and_eq_true, decide_eq_true_eq, List.any_eq_true]
    constructor
    · rintro (⟨g, _⟩ | ⟨g, c, hc, g2⟩)
      · exact absurd g h
      · exact ⟨g, c, hc, by rw [e]; exact decide_eq_true g2⟩
    · rintro ⟨g, c, hc, g2⟩; exact .inr ⟨g, c, hc, by rw [e] at g2; exact of_decide_eq_true g2⟩
end Go.Proofs.YtpephogadljncaaGreat

/-
  Rows of integers and of bytes, blocks, two small integers that came in.
-/
namespace Go.Proofs.YtpephogadljncaaGreat
set_option maxRecDepth 100000
open Go.ChangeShapes Go.WideShapes Go.ChangeAt Go.RowKit Go.Joins

theorem ir_row {w : World} {a : Option Addr} {len cap : Nat} {zs : List Int}
    (h : (a = none ∧ len = 0 ∧ cap = 0 ∧ zs = []) ∨ ∃ x, a = some x ∧ len ≤ cap ∧ cap ≤ maxLen ∧ zs.length = cap ∧ (∀ i, i < zs.length → w.cell? (x.add i) = some (.int .i64 (zs.getD i 0))) ∧ ∀ n ∈ zs, (Lit.int .i64 n).wf = true) :
    ∃ l, IR w a len cap l ∧ len ≤ 9223372036854775807 ∧ ∀ x ∈ l, I64 x := by
  rcases h with ⟨rfl, rfl, rfl, rfl⟩ | ⟨x, rfl, hl, hm, hz, hc, hw⟩
  · exact ⟨[], IR.nil _ _ _, by omega, fun x hx => by simp at hx⟩
  · refine ⟨zs.take len, ⟨by simp; omega, hl, fun h0 => ?_⟩, by unfold maxLen at hm; omega, fun y hy => bounds_i64 (hw y (List.mem_of_mem_take hy))⟩
    obtain ⟨b, off, rfl, hcell⟩ := ints_at hc (by omega)
    refine ⟨b, off, rfl, block_lt (hcell 0 (by omega)), fun j hj => ?_⟩
    rw [hcell j (by omega), List.getElem?_take_of_lt hj]
    simp [List.getD_eq_getElem?_getD]
section
variable {H : Type} {enc : TypeId × Value → H} {W : World} {base : Nat} {held : Bool} {v : Value} {y : DataW H × List MemPlace} {n : Nat}
theorem trod_i64s (h : DataW.trod enc Tryz.prog W base (fun _ => true) held n 28 [v] = some y) :
    ∃ (a : Option Addr) (len cap : Nat) (l : List Int), v = .slice a len cap ∧ IR W a len cap l ∧ len ≤ 9223372036854775807 ∧ ∀ x ∈ l, I64 x := by
  rcases open_ints Tryz.underlying28 Tryz.underlying2 (by kernel_rfl) h with ⟨hcs, _⟩ | ⟨x, l, c, zs, hcs, _, hl, hm, hz, _, hcell, hwz⟩
  · injection hcs with hcs _
    subst hcs
    obtain ⟨l, hl⟩ := ir_row (w := W) (a := none) (len := 0) (cap := 0) (zs := []) (.inl ⟨rfl, rfl, rfl, rfl⟩)
    exact ⟨none, 0, 0, l, rfl, hl⟩
  · injection hcs with hcs _
    subst hcs
    obtain ⟨l', hl'⟩ := ir_row (w := W) (a := some x) (len := l) (cap := c) (zs := zs) (.inr ⟨x, rfl, hl, hm, by simpa using hz, hcell, hwz⟩)
    exact ⟨some x, l, c, l', rfl, hl'⟩
end
theorem open_i64s {H : Type} {enc : TypeId × Value → H} {W : World} {base b0 : Nat} {held : Bool} {r : Reach} {v : Value} {d : DataW H} {p : List MemPlace} (hv : Value.okWide Tryz.prog W r b0 28 v) (h : DataW.Trod enc Tryz.prog W base (fun _ => true) held 28 v d p) :
    ∃ (a : Option Addr) (len cap : Nat) (l : List Int), v = .slice a len cap ∧ IR W a len cap l ∧ len ≤ 9223372036854775807 ∧ ∀ x ∈ l, I64 x := by
  obtain ⟨a, len, cap, rfl⟩ := okWide_slice Tryz.underlying28 hv
  obtain ⟨fuel, hf⟩ := h
  exact trod_i64s hf
end Go.Proofs.YtpephogadljncaaGreat

/-
  Rows of int64 that came in, with how they are read: the form's reach bounds their length.
-/
namespace Go.Proofs.YtpephogadljncaaGreat
set_option maxRecDepth 100000
open Go.ChangeShapes Go.WideShapes Go.ChangeAt Go.RowKit Go.Joins
set_option linter.unusedVariables false

theorem open_i64r {H : Type} {enc : TypeId × Value → H} {W : World} {base b0 : Nat} {held : Bool} {r : Reach} {v : Value} {d : DataW H} {p : List MemPlace} (hv : Value.okWide Tryz.prog W r b0 28 v) (h : DataW.Trod enc Tryz.prog W base (fun _ => true) held 28 v d p) :
    ∃ (a : Option Addr) (len cap : Nat) (l : List Int), v = .slice a len cap ∧ IR W a len cap l ∧ len ≤ 9223372036854775807 ∧ (∀ x ∈ l, I64 x) ∧ Read cap d := by
  obtain ⟨a, len, cap, rfl⟩ := okWide_slice Tryz.underlying28 hv
  obtain ⟨fuel, hf⟩ := h
  obtain ⟨a', l', c', L, e, hI, hn, hi⟩ := trod_i64s hf
  injection e with e1 e2 e3
  subst e1 e2 e3
  refine ⟨_, _, _, L, rfl, hI, hn, hi, ?_⟩
  rcases open_ints Tryz.underlying28 Tryz.underlying2 (by kernel_rfl) hf with ⟨hcs, _⟩ | ⟨x, l, c, zs, hcs, _, hl, hm, hz, hy, hcell, hwz⟩
  · injection hcs with hcs _
    injection hcs with _ _ e3
    exact .inl e3
  · injection hcs with hcs _
    injection hcs with _ _ e3
    have hz2 : zs.length = c := by simpa using hz
    refine .inr ⟨_, _, congrArg Prod.fst hy, ?_⟩
    simp only [lits, List.length_map, List.length_take, List.length_drop]
    omega
/-- The form's own reach bounds a row of int64 that is read. -/
theorem read_reach8 {H : Type} {ts : List TypeId} {ds : List (DataW H)} (h : (DataW.weightsEach Tryz.prog ts ds).all (· ≤ reachBytes) = true) {j : Nat} {d : DataW H} {cap len : Nat} (ht : ts[j]? = some 28) (hd : ds[j]? = some d) (hr : Read cap d) (hl : len ≤ cap) : len ≤ 17592186044416 := by
  rcases hr with e | ⟨es, ss, rfl, e⟩
  · omega
  · have h1 := sized_slice h ht hd Tryz.underlying28
    have e1 : Tryz.prog.bytesOf 2 = 8 := by kernel_rfl
    rw [e1, e] at h1
    have h2 : reachBytes = 140737488351232 := by decide
    omega
end Go.Proofs.YtpephogadljncaaGreat

/-
  Plain arithmetic of powers and roots.
-/
namespace Go.Proofs.YtpephogadljncaaGreat

/-- The greatest number up to n whose power of k is at most x. -/
def irootTo (k x : Nat) : Nat → Nat
  | 0 => 0
  | n + 1 => if (n + 1) ^ k ≤ x then n + 1 else irootTo k x n
/-- A root, down. -/
def iroot (k x : Nat) : Nat := irootTo k x x
/-- A root, up. -/
def uroot (k x : Nat) : Nat := if iroot k x ^ k = x then iroot k x else iroot k x + 1

theorem irootTo_pow {k x : Nat} (hk : k ≠ 0) (n : Nat) : irootTo k x n ^ k ≤ x := by
  induction n with
  | zero => unfold irootTo; rw [Nat.zero_pow (by omega)]; omega
  | succ n ih =>
    unfold irootTo
    split
    · assumption
    · exact ih
theorem le_irootTo {k x r : Nat} (n : Nat) (hr : r ≤ n) (h : r ^ k ≤ x) : r ≤ irootTo k x n := by
  induction n with
  | zero => omega
  | succ n ih =>
    unfold irootTo
    split
    · exact hr
    · rename_i hn
      rcases Nat.lt_or_ge n r with h1 | h1
      · have : r = n + 1 := by omega
        subst this; exact absurd h hn
      · exact ih h1
theorem self_le_pow {k : Nat} (r : Nat) (hk : k ≠ 0) : r ≤ r ^ k := Nat.le_self_pow hk r
theorem pow_le {a b : Nat} (k : Nat) (h : a ≤ b) : a ^ k ≤ b ^ k := Nat.pow_le_pow_left h k
theorem pow_lt {a b k : Nat} (hk : k ≠ 0) (h : a < b) : a ^ k < b ^ k := Nat.pow_lt_pow_left h hk
/-- A number is at most the root just if its power is at most the number. -/
theorem le_iroot {k x r : Nat} (hk : k ≠ 0) : r ≤ iroot k x ↔ r ^ k ≤ x := by
  constructor
  · intro h
    exact Nat.le_trans (pow_le k h) (irootTo_pow hk x)
  · intro h
    exact le_irootTo x (Nat.le_trans (self_le_pow r hk) h) h
theorem iroot_pow {k : Nat} (x : Nat) (hk : k ≠ 0) : iroot k x ^ k ≤ x := irootTo_pow hk x
theorem lt_iroot {k : Nat} (x : Nat) (hk : k ≠ 0) : x < (iroot k x + 1) ^ k := by
  rcases Nat.lt_or_ge x ((iroot k x + 1) ^ k) with h | h
  · exact h
  · have := (le_iroot hk).2 h; omega
theorem iroot_eq {k x r : Nat} (hk : k ≠ 0) (h1 : r ^ k ≤ x) (h2 : x < (r + 1) ^ k) : iroot k x = r := by
  have a := (le_iroot hk).2 h1
  rcases Nat.lt_or_ge r (iroot k x) with h | h
  · have := (le_iroot (x := x) (r := r + 1) hk).1 h; omega
  · omega
theorem uroot_le {k x r : Nat} (hk : k ≠ 0) : uroot k x ≤ r ↔ x ≤ r ^ k := by
  unfold uroot
  have h1 := iroot_pow x hk
  have h2 := lt_iroot x hk
  split
  · rename_i e
    constructor
    · intro h
      rw [← e]; exact pow_le k h
    · intro h
      rcases Nat.lt_or_ge r (iroot k x) with h3 | h3
      · have := pow_lt hk h3; omega
      · exact h3
  · rename_i e
    constructor
    · intro h
      have := pow_le k h; omega
    · intro h
      rcases Nat.lt_or_ge (iroot k x) r with h3 | h3
      · exact h3
      · have := pow_le k h3; omega
theorem iroot_le {k : Nat} (x : Nat) (hk : k ≠ 0) : iroot k x ≤ x := Nat.le_trans (self_le_pow _ hk) (iroot_pow x hk)
theorem uroot_le_self {k : Nat} (x : Nat) (hk : k ≠ 0) : uroot k x ≤ x := (uroot_le hk).2 (self_le_pow x hk)

/-- P3.3: the root of a power. -/
theorem iroot_of_pow {k : Nat} (a : Nat) (hk : k ≠ 0) : iroot k (a ^ k) = a := iroot_eq hk (Nat.le_refl _) (pow_lt hk (Nat.lt_succ_self a))
theorem uroot_of_pow {k : Nat} (a : Nat) (hk : k ≠ 0) : uroot k (a ^ k) = a := by unfold uroot; rw [iroot_of_pow a hk, if_pos rfl]
theorem iroot_pred {k a : Nat} (hk : k ≠ 0) (ha : a ≠ 0) : iroot k (a ^ k - 1) = a - 1 := by
  have h1 := pow_lt hk (show a - 1 < a by omega)
  refine iroot_eq hk (by omega) ?_
  rw [Nat.sub_add_cancel (by omega)]
  omega
theorem uroot_pred {k a : Nat} (hk : 2 ≤ k) (ha : 2 ≤ a) : uroot k (a ^ k - 1) = a := by
  unfold uroot
  rw [iroot_pred (by omega) (by omega), if_neg, Nat.sub_add_cancel (by omega)]
  obtain ⟨b, rfl⟩ : ∃ b, a = b + 1 := ⟨a - 1, by omega⟩
  rw [Nat.add_sub_cancel]
  obtain ⟨j, rfl⟩ : ∃ j, k = j + 1 := ⟨k - 1, by omega⟩
  have h1 : b ^ j * 1 ≤ (b + 1) ^ j * 1 := Nat.mul_le_mul_right _ (pow_le j (by omega))
  have h2 : (b + 1) ^ (j + 1) = (b + 1) ^ j * b + (b + 1) ^ j := by rw [Nat.pow_succ, Nat.mul_add, Nat.mul_one]
  have h3 : b ^ (j + 1) ≤ (b + 1) ^ j * b := by rw [Nat.pow_succ]; exact Nat.mul_le_mul_right _ (pow_le j (by omega))
  have h4 : 1 < (b + 1) ^ j := Nat.one_lt_pow (by omega) (by omega)
  omega
theorem uroot_zero {k : Nat} (hk : k ≠ 0) : uroot k 0 = 0 := by
  have := uroot_le_self 0 hk; omega
theorem iroot_mono {k a b : Nat} (hk : k ≠ 0) (h : a ≤ b) : iroot k a ≤ iroot k b := (le_iroot hk).2 (Nat.le_trans (iroot_pow a hk) h)
theorem iroot_higher {k : Nat} (a : Nat) (hk : k ≠ 0) : iroot (k + 1) a ≤ iroot k a := by
  refine (le_iroot hk).2 ?_
  have h := iroot_pow a (k := k + 1) (by omega)
  rcases Nat.eq_zero_or_pos (iroot (k + 1) a) with h0 | h0
  · rw [h0, Nat.zero_pow (by omega)]; omega
  · exact Nat.le_trans (Nat.pow_le_pow_right h0 (by omega)) h
theorem iroot_one (a : Nat) : iroot 1 a = a := iroot_eq (by omega) (by rw [Nat.pow_one]; omega) (by rw [Nat.pow_one]; omega)
theorem iroot_iroot {k n : Nat} (a : Nat) (hk : k ≠ 0) (hn : n ≠ 0) : iroot n (iroot k a) = iroot (k * n) a := by
  have hkn : k * n ≠ 0 := Nat.mul_ne_zero hk hn
  have key : ∀ r, r ≤ iroot n (iroot k a) ↔ r ≤ iroot (k * n) a := fun r => by
    rw [le_iroot hn, le_iroot hk, le_iroot hkn, ← Nat.pow_mul, Nat.mul_comm n k]
  exact Nat.le_antisymm ((key _).1 (Nat.le_refl _)) ((key _).2 (Nat.le_refl _))
theorem iroot_mul {k : Nat} (a b : Nat) (hk : k ≠ 0) : iroot k a * iroot k b ≤ iroot k (a * b) := by
  rw [le_iroot hk, Nat.mul_pow]
  exact Nat.mul_le_mul (iroot_pow a hk) (iroot_pow b hk)
theorem le_uroot_pow {k : Nat} (x : Nat) (hk : k ≠ 0) : x ≤ uroot k x ^ k := (uroot_le hk).1 (Nat.le_refl _)
theorem uroot_mul {k : Nat} (a b : Nat) (hk : k ≠ 0) : uroot k (a * b) ≤ uroot k a * uroot k b := by
  rw [uroot_le hk, Nat.mul_pow]
  exact Nat.mul_le_mul (le_uroot_pow a hk) (le_uroot_pow b hk)

theorem limbs_length_pow {a m : Nat} (h : (limbs a).length ≤ m) (k : Nat) : (limbs (a ^ k)).length ≤ m * k + 1 := by
  refine Nat.le_trans (limbs_length_le (n := a ^ k) (k := m * k + 1) ?_) (Nat.le_refl _)
  have h1 : a ^ k ≤ (B64 ^ m) ^ k := pow_le k (Nat.le_of_lt (lt_of_limbs_length h))
  rw [← Nat.pow_mul] at h1
  have h2 : B64 ^ (m * k) < B64 ^ (m * k + 1) := Nat.pow_lt_pow_right B64_gt (Nat.lt_succ_self _)
  omega

/-- The reference's loop: its start, a step, its end. -/
theorem root_start {a b k : Nat} (hk : k ≠ 0) (ha : a < 2 ^ b) : a < (0 + 2 ^ (b / k + 1)) ^ k := by
  rw [Nat.zero_add, ← Nat.pow_mul]
  refine Nat.lt_of_lt_of_le ha (Nat.pow_le_pow_right (by omega) ?_)
  have := Nat.div_add_mod b k
  have := Nat.mod_lt b (show k > 0 by omega)
  rw [Nat.add_mul, Nat.one_mul, Nat.mul_comm (b / k)]
  omega
theorem root_step {out i : Nat} : out + 2 ^ (i + 1) = out + 2 ^ i + 2 ^ i := by rw [Nat.pow_succ]; omega

end Go.Proofs.YtpephogadljncaaGreat

/-
  What is clipped: squares, a norm, what is cut off, means; numbers alone.
-/
namespace Go.Proofs.YtpephogadljncaaGreat
set_option linter.unusedVariables false
set_option linter.unusedSimpArgs false

/-- The squares of a row's numbers; of all rows'. -/
def sq1 (x : Int) : Nat := x.natAbs * x.natAbs
def sqS : List Int → Nat
  | [] => 0
  | x :: l => sq1 x + sqS l
def sqA : List (List Int) → Nat
  | [] => 0
  | l :: L => sqS l + sqA L
theorem sqS_append (l m : List Int) : sqS (l ++ m) = sqS l + sqS m := by
  induction l with
  | nil => show sqS m = 0 + sqS m; omega
  | cons x l ih => show sq1 x + sqS (l ++ m) = sq1 x + sqS l + sqS m; omega
theorem sqA_append (L M : List (List Int)) : sqA (L ++ M) = sqA L + sqA M := by
  induction L with
  | nil => show sqA M = 0 + sqA M; omega
  | cons x l ih => show sqS x + sqA (l ++ M) = sqS x + sqA l + sqA M; omega
theorem sqS_take (l : List Int) (i : Nat) (h : i < l.length) : sqS (l.take (i + 1)) = sqS (l.take i) + sq1 (l[i]?.getD 0) := by
  rw [List.take_add_one, List.getElem?_eq_getElem h, sqS_append]
  show _ = _
  rfl
theorem sqA_take (L : List (List Int)) (i : Nat) (h : i < L.length) : sqA (L.take (i + 1)) = sqA (L.take i) + sqS (L[i]?.getD []) := by
  rw [List.take_add_one, List.getElem?_eq_getElem h, sqA_append]
  rfl
theorem sqA_flat (L : List (List Int)) : sqS L.flatten = sqA L := by
  induction L with
  | nil => rfl
  | cons l L ih => rw [List.flatten_cons, sqS_append, ih]; rfl
theorem sqA_reverse (L : List (List Int)) : sqA L.reverse = sqA L := by
  induction L with
  | nil => rfl
  | cons l L ih => rw [List.reverse_cons, sqA_append, ih]; show sqA L + (sqS l + 0) = sqS l + sqA L; omega
/-- The norm. -/
def norm16 (L : List (List Int)) : Nat := uroot 2 (sqA L)
theorem norm_up (L : List (List Int)) : sqA L ≤ norm16 L * norm16 L := by
  have := le_uroot_pow (k := 2) (sqA L) (by omega)
  rwa [Nat.pow_two] at this
theorem norm_least (L : List (List Int)) (h : norm16 L ≠ 0) : (norm16 L - 1) * (norm16 L - 1) < sqA L := by
  rcases Nat.lt_or_ge ((norm16 L - 1) * (norm16 L - 1)) (sqA L) with h1 | h1
  · exact h1
  · have := (uroot_le (k := 2) (x := sqA L) (r := norm16 L - 1) (by omega)).2 (by rw [Nat.pow_two]; exact h1)
    unfold norm16 at h this ⊢
    omega
theorem norm_zero (L : List (List Int)) : norm16 L = 0 ↔ sqA L = 0 := by
  constructor
  · intro h
    have := norm_up L
    rw [h] at this
    omega
  · intro h
    unfold norm16
    rw [h]
    exact uroot_zero (by omega)
theorem norm_mono {L M : List (List Int)} (h : sqA L ≤ sqA M) : norm16 L ≤ norm16 M := by
  unfold norm16
  exact (uroot_le (by omega)).2 (Nat.le_trans h (le_uroot_pow _ (by omega)))
theorem norm_one (n : Int) : norm16 [[n]] = n.natAbs := by
  have e : sqA [[n]] = n.natAbs ^ 2 := by rw [Nat.pow_two]; rfl
  unfold norm16
  rw [e, uroot_of_pow _ (by omega)]
/-- A number, clipped. -/
def clip1 (m n : Nat) (x : Int) : Int := x.sign * ((x.natAbs * m / n : Nat) : Int)
theorem clip_abs (m n : Nat) (x : Int) : (clip1 m n x).natAbs ≤ x.natAbs * m / n := by
  unfold clip1
  rw [Int.natAbs_mul, Int.natAbs_natCast]
  rcases Int.lt_trichotomy x 0 with h | h | h
  · rw [Int.sign_eq_neg_one_of_neg h]; simp
  · subst h; simp
  · rw [Int.sign_eq_one_of_pos h]; simp
theorem clip_le {m n : Nat} (h : m ≤ n) (hn : 0 < n) (k : Nat) : k * m / n ≤ k := by
  have h1 : k * m ≤ k * n := Nat.mul_le_mul_left _ h
  have h2 := Nat.div_le_div_right (c := n) h1
  rwa [Nat.mul_div_cancel _ hn] at h2
theorem clip_pos {m n : Nat} {x : Int} (h : 0 ≤ x) : clip1 m n x = ((x.natAbs * m / n : Nat) : Int) := by
  unfold clip1
  rcases Int.lt_trichotomy x 0 with h' | h' | h'
  · omega
  · subst h'; simp
  · rw [Int.sign_eq_one_of_pos h']; omega
theorem clip_neg {m n : Nat} {x : Int} (h : x ≤ 0) : clip1 m n x = -((x.natAbs * m / n : Nat) : Int) := by
  unfold clip1
  rcases Int.lt_trichotomy x 0 with h' | h' | h'
  · rw [Int.sign_eq_neg_one_of_neg h']; omega
  · subst h'; simp
  · omega
theorem clip_side {m n : Nat} (h : m ≤ n) (hn : 0 < n) (x : Int) : (0 ≤ x → 0 ≤ clip1 m n x ∧ clip1 m n x ≤ x) ∧ (x ≤ 0 → x ≤ clip1 m n x ∧ clip1 m n x ≤ 0) := by
  have h1 := clip_le h hn x.natAbs
  refine ⟨fun hx => ?_, fun hx => ?_⟩
  · rw [clip_pos hx]
    generalize x.natAbs * m / n = q at *
    omega
  · rw [clip_neg hx]
    generalize x.natAbs * m / n = q at *
    omega
theorem clip_mono {m n : Nat} (h : m ≤ n) (hn : 0 < n) {x y : Int} (hxy : x ≤ y) : clip1 m n x ≤ clip1 m n y := by
  rcases Int.le_total 0 x with hx | hx
  · rw [clip_pos hx, clip_pos (Int.le_trans hx hxy)]
    exact Int.ofNat_le.2 (Nat.div_le_div_right (Nat.mul_le_mul_right _ (by omega)))
  · rcases Int.le_total 0 y with hy | hy
    · have h1 := ((clip_side h hn x).2 hx).2
      have h2 := ((clip_side h hn y).1 hy).1
      omega
    · rw [clip_neg hx, clip_neg hy]
      have := Nat.div_le_div_right (c := n) (Nat.mul_le_mul_right m (show y.natAbs ≤ x.natAbs by omega))
      omega
theorem clip_sq {m n : Nat} (x : Int) : sq1 (clip1 m n x) * (n * n) ≤ sq1 x * (m * m) := by
  have h1 := clip_abs m n x
  have h2 : (clip1 m n x).natAbs * n ≤ x.natAbs * m := Nat.le_trans (Nat.mul_le_mul_right _ h1) (Nat.div_mul_le_self _ _)
  have h3 := Nat.mul_le_mul h2 h2
  unfold sq1
  have e1 : (clip1 m n x).natAbs * (clip1 m n x).natAbs * (n * n) = (clip1 m n x).natAbs * n * ((clip1 m n x).natAbs * n) := by ac_rfl
  have e2 : x.natAbs * x.natAbs * (m * m) = x.natAbs * m * (x.natAbs * m) := by ac_rfl
  rw [e1, e2]
  exact h3
theorem clip_sqS {m n : Nat} (l : List Int) : sqS (l.map (clip1 m n)) * (n * n) ≤ sqS l * (m * m) := by
  induction l with
  | nil => show 0 * _ ≤ _; omega
  | cons x l ih =>
    show (sq1 (clip1 m n x) + sqS (l.map (clip1 m n))) * (n * n) ≤ (sq1 x + sqS l) * (m * m)
    rw [Nat.add_mul, Nat.add_mul]
    exact Nat.add_le_add (clip_sq x) ih
theorem clip_sqA {m n : Nat} (L : List (List Int)) : sqA (L.map (fun l => l.map (clip1 m n))) * (n * n) ≤ sqA L * (m * m) := by
  induction L with
  | nil => show 0 * _ ≤ _; omega
  | cons l L ih =>
    show (sqS (l.map (clip1 m n)) + sqA (L.map (fun l => l.map (clip1 m n)))) * (n * n) ≤ (sqS l + sqA L) * (m * m)
    rw [Nat.add_mul, Nat.add_mul]
    exact Nat.add_le_add (clip_sqS l) ih
/-- What is clipped by its own norm. -/
theorem clip_norm {m : Nat} (L : List (List Int)) (hn : 0 < norm16 L) : sqA (L.map (fun l => l.map (clip1 m (norm16 L)))) ≤ m * m := by
  have h1 := clip_sqA (m := m) (n := norm16 L) L
  have h2 := Nat.mul_le_mul_right (m * m) (norm_up L)
  have h3 : sqA (L.map (fun l => l.map (clip1 m (norm16 L)))) * (norm16 L * norm16 L) ≤ m * m * (norm16 L * norm16 L) := by
    rw [Nat.mul_comm (m * m)]
    exact Nat.le_trans h1 h2
  exact Nat.le_of_mul_le_mul_right h3 (Nat.mul_pos hn hn)
/-- Rows' sums, of a place. -/
def colS (k : Nat) : List (List Int) → Int
  | [] => 0
  | l :: L => l[k]?.getD 0 + colS k L
def mean16 (L : List (List Int)) (k : Nat) : Int := rn (colS k L) L.length
theorem colS_append (k : Nat) (L M : List (List Int)) : colS k (L ++ M) = colS k L + colS k M := by
  induction L with
  | nil => show colS k M = 0 + colS k M; omega
  | cons x l ih => show x[k]?.getD 0 + colS k (l ++ M) = x[k]?.getD 0 + colS k l + colS k M; omega
theorem colS_take (k : Nat) (L : List (List Int)) (i : Nat) (h : i < L.length) : colS k (L.take (i + 1)) = colS k (L.take i) + (L[i]?.getD [])[k]?.getD 0 := by
  rw [List.take_add_one, List.getElem?_eq_getElem h, colS_append]
  show colS k (L.take i) + ((L[i])[k]?.getD 0 + 0) = _
  rw [Int.add_zero]
  rfl
theorem colS_in {k : Nat} {a b : Int} : ∀ {L : List (List Int)}, (∀ l ∈ L, a ≤ l[k]?.getD 0 ∧ l[k]?.getD 0 ≤ b) → a * (L.length : Int) ≤ colS k L ∧ colS k L ≤ b * (L.length : Int)
  | [], _ => by show a * 0 ≤ 0 ∧ 0 ≤ b * 0; omega
  | l :: L, h => by
    have h1 := colS_in (a := a) (b := b) (k := k) (L := L) (fun x hx => h x (by simp [hx]))
    have h2 := h l (by simp)
    have e : ∀ c : Int, c * (((l :: L).length : Nat) : Int) = c * (L.length : Int) + c := fun c => by rw [List.length_cons, Int.natCast_add, Int.mul_add]; simp
    show a * _ ≤ l[k]?.getD 0 + colS k L ∧ l[k]?.getD 0 + colS k L ≤ b * _
    rw [e, e]
    omega
theorem mean_in {L : List (List Int)} {k : Nat} {a b : Int} (h0 : L.length ≠ 0) (h : ∀ l ∈ L, a ≤ l[k]?.getD 0 ∧ l[k]?.getD 0 ≤ b) : a ≤ mean16 L k ∧ mean16 L k ≤ b := by
  obtain ⟨h1, h2⟩ := colS_in h
  unfold mean16
  have h3 := rn_mono (n := a * (L.length : Int)) (m := colS k L) h0 h1
  have h4 := rn_mono (n := colS k L) (m := b * (L.length : Int)) h0 h2
  rw [rn_self a h0] at h3
  rw [rn_self b h0] at h4
  exact ⟨h3, h4⟩
theorem rn_half16 (z : Int) (d : Nat) (hd : d ≠ 0) : 2 * (rn z d * (d : Int) - z) ≤ (d : Int) ∧ -(d : Int) ≤ 2 * (rn z d * (d : Int) - z) := by
  have key : ∀ u : Nat, 2 * (rn (u : Int) d * (d : Int) - (u : Int)) ≤ (d : Int) ∧ -(d : Int) ≤ 2 * (rn (u : Int) d * (d : Int) - (u : Int)) := by
    intro u
    rw [rn_nat u d hd]
    have h1 := Nat.div_add_mod u d
    have h2 := Nat.mod_lt u (Nat.pos_of_ne_zero hd)
    have e : ((u / d : Nat) : Int) * (d : Int) = (u : Int) - ((u % d : Nat) : Int) := by
      have : ((u / d * d : Nat) : Int) = (u : Int) - ((u % d : Nat) : Int) := by rw [Nat.mul_comm]; omega
      rw [← this, Int.natCast_mul]
    unfold fars
    by_cases hf : (decide (d < u % d + u % d) || (decide (u % d + u % d = d) && decide (u / d % 2 = 1))) = true
    · rw [if_pos hf, Int.natCast_add, Int.add_mul, e]
      have h3 : d ≤ u % d + u % d := by
        rw [Bool.or_eq_true, Bool.and_eq_true, decide_eq_true_eq, decide_eq_true_eq] at hf
        omega
      have h4 : ((1 : Nat) : Int) * (d : Int) = (d : Int) := by simp
      rw [h4]
      omega
    · rw [if_neg hf, Int.natCast_add, Int.add_mul, e]
      have h3 : u % d + u % d ≤ d := by
        rw [Bool.or_eq_true, decide_eq_true_eq] at hf
        omega
      have h4 : ((0 : Nat) : Int) * (d : Int) = 0 := by simp
      rw [h4]
      omega
  rcases Int.le_total 0 z with h | h
  · obtain ⟨u, rfl⟩ : ∃ u : Nat, z = (u : Int) := ⟨z.toNat, by omega⟩
    exact key u
  · obtain ⟨u, rfl⟩ : ∃ u : Nat, z = -(u : Int) := ⟨z.natAbs, by omega⟩
    rw [rn_neg _ hd]
    have := key u
    rw [Int.neg_mul]
    omega
theorem mean_half {L : List (List Int)} {k : Nat} (h0 : L.length ≠ 0) : 2 * (mean16 L k * (L.length : Int) - colS k L).natAbs ≤ L.length := by
  have := rn_half16 (colS k L) L.length h0
  unfold mean16
  omega
theorem mean_one (l : List Int) (k : Nat) : mean16 [l] k = l[k]?.getD 0 := by
  unfold mean16
  show rn (l[k]?.getD 0 + 0) 1 = _
  rw [Int.add_zero, rn_one]
end Go.Proofs.YtpephogadljncaaGreat
