/-
  Several texts in one: F8, K8, Fr, FrR, FrA, FrI, FrV, MathR, M15, B1.
-/
import Derived.Test.YtmaolhajeoigpaaGreatA6
import Derived.Test.YtmaolhajeoigpaaGreatA3
import Derived.WalkKit
import Derived.ProofKit
import Derived.OpenShut
import Derived.ShutString
import Derived.ChangeOld
import Derived.Below
import Derived.Lib.SmallJoins
import Derived.Test.YtmaolhajeoigpaaGreatA2
import Derived.Deep.Slices
import Derived.Deep.Strs
import Derived.Test.YtmaolhajeoigpaaGreatA1
import Derived.WalkSpells
import Derived.WalkLawsBesides
import Derived.Lib.Hide
import Derived.Lib.SliceRun
import Derived.Deep.RegionHeld3
import Derived.Deep.AppendLies
import Derived.Deep.QuietTactic
import Derived.Deep.DeepCutAuto
import Derived.Deep.CutBlock
import Derived.Deep.Draws
import Derived.Laws.OwnMore
import Derived.Test.YtmaolhajeoigpaaGreatRows

/-
  The contracts of the sixth reference: Near.
-/
namespace Go.Proofs.YtmaolhajeoigpaaGreat
set_option maxRecDepth 100000
set_option maxHeartbeats 8000000
open Go.RowKit
set_option linter.unusedVariables false
set_option linter.unusedSimpArgs false

theorem rnear_lt {w : World} {b0 : Bool} {A0 B0 : Option Addr} {n0 c0 m0 d0 : Nat} {x0 : Rat} (hx : Rt w b0 A0 n0 c0 B0 m0 d0 x0) (s0 : Sz x0 15) {j : Int} (h0 : 0 ≤ j) (h1 : j ≤ 500) (hc : cmpQ (x0 - bak (flo x0 j.toNat) j.toNat) (bak (cei x0 j.toNat) j.toNat - x0) < 0) :
    Calls Tryz.prog 55 #[.agg #[.bool b0, .slice A0 n0 c0, .slice B0 m0 d0], .int .i64 j] w (GotZp w (nea x0 j.toNat) 0) := by
  have jl : j.toNat ≤ 500 := by omega
  have ll := flo_len s0 jl
  have lh := cei_len s0 jl
  have hn : nea x0 j.toNat = flo x0 j.toNat := by rw [nea_by]; rw [if_pos (.inl hc)]
  have CF : ∀ {W : World} {b : Bool} {A B : Option Addr} {n c m d : Nat}, Rt W b A n c B m d x0 → Calls Tryz.prog 91 #[.agg #[.bool b, .slice A n c, .slice B m d], .int .i64 j] W (GotZp W (flo x0 j.toNat) 0) := fun hh => rfloor_N hh (s0.le (by omega)) h0 h1
  have CC : ∀ {W : World} {b : Bool} {A B : Option Addr} {n c m d : Nat}, Rt W b A n c B m d x0 → Calls Tryz.prog 92 #[.agg #[.bool b, .slice A n c, .slice B m d], .int .i64 j] W (GotZp W (cei x0 j.toNat) 0) := fun hh => rceil_N hh (s0.le (by omega)) h0 h1
  obtain ⟨lo, hlo⟩ : ∃ lo, flo x0 j.toNat = lo := ⟨_, rfl⟩
  obtain ⟨hi, hhi⟩ : ∃ hi, cei x0 j.toNat = hi := ⟨_, rfl⟩
  rw [hlo] at CF ll
  rw [hhi] at CC lh
  rw [hlo, hhi] at hc
  skip
  rw [hlo] at hn
  have CB : ∀ {W : World} {z : Int} {b : Bool} {A : Option Addr} {n c : Nat}, Zn W b A n c z → (limbs z.natAbs).length ≤ 24 → Calls Tryz.prog 69 #[.agg #[.bool b, .slice A n c], .int .i64 j] W (GotRp W (bak z j.toNat) 0) := fun hh hl => rback_N hh (by omega) h0 h1
  have sl : Sz (bak lo j.toNat) 24 := bak_sz ll (by omega) jl
  have sh : Sz (bak hi j.toNat) 24 := bak_sz lh (by omega) jl
  obtain ⟨x, hxx⟩ : ∃ x, bak lo j.toNat = x := ⟨_, rfl⟩
  obtain ⟨y, hyy⟩ : ∃ y, bak hi j.toNat = y := ⟨_, rfl⟩
  have CX : ∀ {W : World} {b : Bool} {A : Option Addr} {n c : Nat}, Zn W b A n c lo → Calls Tryz.prog 69 #[.agg #[.bool b, .slice A n c], .int .i64 j] W (GotRp W x 0) := fun hh => by rw [← hxx]; exact CB hh ll
  have CY : ∀ {W : World} {b : Bool} {A : Option Addr} {n c : Nat}, Zn W b A n c hi → Calls Tryz.prog 69 #[.agg #[.bool b, .slice A n c], .int .i64 j] W (GotRp W y 0) := fun hh => by rw [← hyy]; exact CB hh lh
  rw [hxx] at sl
  rw [hyy] at sh
  rw [hxx, hyy] at hc
  skip
  obtain ⟨cn, hcn⟩ : ∃ cn, cmpQ (x0 - x) (y - x0) = cn := ⟨_, rfl⟩
  have HC := Lib.hid hcn
  rw [hcn] at hc
  skip
  have su := s0.sub sl
  have sv := sh.sub s0
  have HN := Lib.hid hn
  have t1 : decide (cn < 0) = true := decide_eq_true hc
  clear CB hxx hyy hcn hlo hhi hn hc h0 h1
  have cc := Below.refl w.heap.size w
  go_enter Tryz.func55, Tryz.ntmps55
  go_wp2_with fail
  generalize hv_ : (w.alloc (.cells #[.bool b0, .slice A0 n0 c0, .slice B0 m0 d0] 51)).alloc (.cells #[.bool false, .slice none 0 0] 49) = v1
  obtain ⟨f0, f1⟩ : Fz2 v1 (w.heap.size + 1) := by simp [Fz2, ← hv_, go_sem]
  have bA : Below w.heap.size w v1 := by rw [← hv_]; exact (((Below.refl _ w).alloc (by simp) _).alloc (by simp) _)
  replace hx := hx.on bA
  replace cc := bK cc bA
  clear bA
  obtain ⟨k0, k1, k2⟩ : Cs3 v1 w.heap.size (.bool b0) (.slice A0 n0 c0) (.slice B0 m0 d0) := by simp [Cs3, ← hv_, go_sem]
  have kl : w.heap.size < v1.heap.size := by simp [← hv_] <;> omega
  obtain ⟨g0, g1⟩ : Cs2 v1 (w.heap.size + 1) (.bool false) (.slice none 0 0) := by simp [Cs2, ← hv_, go_sem]
  have gl : w.heap.size + 1 < v1.heap.size := by simp [← hv_] <;> omega
  clear hv_
  refine (CF hx).mono ?_
  rintro e w2 ⟨bl, Al, nl, cl, rfl, zl, b⟩
  rewrite [fR b gl] at f0 f1
  replace hx := hx.on b
  rewrite [cR b kl] at k0 k1 k2
  replace kl := lK b kl
  rewrite [cR b gl] at g0 g1
  replace gl := lK b gl
  replace cc := bK cc b
  clear b
  go_wp2_with fail
  generalize hv_ : w2.alloc (.cells #[.bool bl, .slice Al nl cl] 49) = v3
  have bA : Below w2.heap.size w2 v3 := by rw [← hv_]; exact below_one _ _
  rewrite [fR bA gl] at f0 f1
  replace hx := hx.on bA
  replace zl := zl.on bA
  rewrite [cR bA kl] at k0 k1 k2
  replace kl := lK bA kl
  rewrite [cR bA gl] at g0 g1
  replace gl := lK bA gl
  replace cc := bK cc bA
  clear bA
  obtain ⟨ba0, ba1⟩ : Cs2 v3 w2.heap.size (.bool bl) (.slice Al nl cl) := by simp [Cs2, ← hv_, go_sem]
  have bal : w2.heap.size < v3.heap.size := by simp [← hv_]
  clear hv_
  refine (CC hx).mono ?_
  rintro e w4 ⟨bh, Ah, nh, ch, rfl, zh, b⟩
  rewrite [fR b gl] at f0 f1
  replace hx := hx.on b
  replace zl := zl.on b
  rewrite [cR b kl] at k0 k1 k2
  replace kl := lK b kl
  rewrite [cR b gl] at g0 g1
  replace gl := lK b gl
  rewrite [cR b bal] at ba0 ba1
  replace bal := lK b bal
  replace cc := bK cc b
  clear b
  go_wp2_with fail
  generalize hv_ : w4.alloc (.cells #[.bool bh, .slice Ah nh ch] 49) = v5
  have bA : Below w4.heap.size w4 v5 := by rw [← hv_]; exact below_one _ _
  rewrite [fR bA gl] at f0 f1
  replace hx := hx.on bA
  replace zl := zl.on bA
  replace zh := zh.on bA
  rewrite [cR bA kl] at k0 k1 k2
  replace kl := lK bA kl
  rewrite [cR bA gl] at g0 g1
  replace gl := lK bA gl
  rewrite [cR bA bal] at ba0 ba1
  replace bal := lK bA bal
  replace cc := bK cc bA
  clear bA
  obtain ⟨bb0, bb1⟩ : Cs2 v5 w4.heap.size (.bool bh) (.slice Ah nh ch) := by simp [Cs2, ← hv_, go_sem]
  have bbl : w4.heap.size < v5.heap.size := by simp [← hv_]
  clear hv_
  refine (CX zl).mono ?_
  rintro e w6 ⟨bx, Ax, nx, cx, Bx, mx, dx, rfl, rx, b⟩
  rewrite [fR b gl] at f0 f1
  replace hx := hx.on b
  replace zl := zl.on b
  replace zh := zh.on b
  rewrite [cR b kl] at k0 k1 k2
  replace kl := lK b kl
  rewrite [cR b gl] at g0 g1
  replace gl := lK b gl
  rewrite [cR b bal] at ba0 ba1
  replace bal := lK b bal
  rewrite [cR b bbl] at bb0 bb1
  replace bbl := lK b bbl
  replace cc := bK cc b
  clear b
  go_wp2_with fail
  generalize hv_ : w6.alloc (.cells #[.bool bx, .slice Ax nx cx, .slice Bx mx dx] 51) = v7
  have bA : Below w6.heap.size w6 v7 := by rw [← hv_]; exact below_one _ _
  rewrite [fR bA gl] at f0 f1
  replace hx := hx.on bA
  replace zl := zl.on bA
  replace zh := zh.on bA
  replace rx := rx.on bA
  rewrite [cR bA kl] at k0 k1 k2
  replace kl := lK bA kl
  rewrite [cR bA gl] at g0 g1
  replace gl := lK bA gl
  rewrite [cR bA bal] at ba0 ba1
  replace bal := lK bA bal
  rewrite [cR bA bbl] at bb0 bb1
  replace bbl := lK bA bbl
  replace cc := bK cc bA
  clear bA
  obtain ⟨bc0, bc1, bc2⟩ : Cs3 v7 w6.heap.size (.bool bx) (.slice Ax nx cx) (.slice Bx mx dx) := by simp [Cs3, ← hv_, go_sem]
  have bcl : w6.heap.size < v7.heap.size := by simp [← hv_]
  clear hv_
  refine (CY zh).mono ?_
  rintro e w8 ⟨bY, Ay, ny, cy, By, my, dy, rfl, ry, b⟩
  rewrite [fR b gl] at f0 f1
  replace hx := hx.on b
  replace zl := zl.on b
  replace zh := zh.on b
  replace rx := rx.on b
  rewrite [cR b kl] at k0 k1 k2
  replace kl := lK b kl
  rewrite [cR b gl] at g0 g1
  replace gl := lK b gl
  rewrite [cR b bal] at ba0 ba1
  replace bal := lK b bal
  rewrite [cR b bbl] at bb0 bb1
  replace bbl := lK b bbl
  rewrite [cR b bcl] at bc0 bc1 bc2
  replace bcl := lK b bcl
  replace cc := bK cc b
  clear b
  go_wp2_with fail
  generalize hv_ : w8.alloc (.cells #[.bool bY, .slice Ay ny cy, .slice By my dy] 51) = v9
  have bA : Below w8.heap.size w8 v9 := by rw [← hv_]; exact below_one _ _
  rewrite [fR bA gl] at f0 f1
  replace hx := hx.on bA
  replace zl := zl.on bA
  replace zh := zh.on bA
  replace rx := rx.on bA
  replace ry := ry.on bA
  rewrite [cR bA kl] at k0 k1 k2
  replace kl := lK bA kl
  rewrite [cR bA gl] at g0 g1
  replace gl := lK bA gl
  rewrite [cR bA bal] at ba0 ba1
  replace bal := lK bA bal
  rewrite [cR bA bbl] at bb0 bb1
  replace bbl := lK bA bbl
  rewrite [cR bA bcl] at bc0 bc1 bc2
  replace bcl := lK bA bcl
  replace cc := bK cc bA
  clear bA
  obtain ⟨bd0, bd1, bd2⟩ : Cs3 v9 w8.heap.size (.bool bY) (.slice Ay ny cy) (.slice By my dy) := by simp [Cs3, ← hv_, go_sem]
  have bdl : w8.heap.size < v9.heap.size := by simp [← hv_]
  clear hv_
  refine (rtsub_N hx (s0.le (by omega)) rx (sl.le (by omega))).mono ?_
  rintro e w10 ⟨bu, Au, nu, cu, Bu, mu, du, rfl, ru, b⟩
  rewrite [fR b gl] at f0 f1
  replace hx := hx.on b
  replace zl := zl.on b
  replace zh := zh.on b
  replace rx := rx.on b
  replace ry := ry.on b
  rewrite [cR b kl] at k0 k1 k2
  replace kl := lK b kl
  rewrite [cR b gl] at g0 g1
  replace gl := lK b gl
  rewrite [cR b bal] at ba0 ba1
  replace bal := lK b bal
  rewrite [cR b bbl] at bb0 bb1
  replace bbl := lK b bbl
  rewrite [cR b bcl] at bc0 bc1 bc2
  replace bcl := lK b bcl
  rewrite [cR b bdl] at bd0 bd1 bd2
  replace bdl := lK b bdl
  replace cc := bK cc b
  clear b
  go_wp2_with fail
  generalize hv_ : w10.alloc (.cells #[.bool bu, .slice Au nu cu, .slice Bu mu du] 51) = v11
  have bA : Below w10.heap.size w10 v11 := by rw [← hv_]; exact below_one _ _
  rewrite [fR bA gl] at f0 f1
  replace hx := hx.on bA
  replace zl := zl.on bA
  replace zh := zh.on bA
  replace rx := rx.on bA
  replace ry := ry.on bA
  replace ru := ru.on bA
  rewrite [cR bA kl] at k0 k1 k2
  replace kl := lK bA kl
  rewrite [cR bA gl] at g0 g1
  replace gl := lK bA gl
  rewrite [cR bA bal] at ba0 ba1
  replace bal := lK bA bal
  rewrite [cR bA bbl] at bb0 bb1
  replace bbl := lK bA bbl
  rewrite [cR bA bcl] at bc0 bc1 bc2
  replace bcl := lK bA bcl
  rewrite [cR bA bdl] at bd0 bd1 bd2
  replace bdl := lK bA bdl
  replace cc := bK cc bA
  clear bA
  obtain ⟨be0, be1, be2⟩ : Cs3 v11 w10.heap.size (.bool bu) (.slice Au nu cu) (.slice Bu mu du) := by simp [Cs3, ← hv_, go_sem]
  have bel : w10.heap.size < v11.heap.size := by simp [← hv_]
  clear hv_
  refine (rtsub_N ry (sh.le (by omega)) hx (s0.le (by omega))).mono ?_
  rintro e w12 ⟨bv, Av, nv, cv, Bv, mv, dv, rfl, rv, b⟩
  rewrite [fR b gl] at f0 f1
  replace hx := hx.on b
  replace zl := zl.on b
  replace zh := zh.on b
  replace rx := rx.on b
  replace ry := ry.on b
  replace ru := ru.on b
  rewrite [cR b kl] at k0 k1 k2
  replace kl := lK b kl
  rewrite [cR b gl] at g0 g1
  replace gl := lK b gl
  rewrite [cR b bal] at ba0 ba1
  replace bal := lK b bal
  rewrite [cR b bbl] at bb0 bb1
  replace bbl := lK b bbl
  rewrite [cR b bcl] at bc0 bc1 bc2
  replace bcl := lK b bcl
  rewrite [cR b bdl] at bd0 bd1 bd2
  replace bdl := lK b bdl
  rewrite [cR b bel] at be0 be1 be2
  replace bel := lK b bel
  replace cc := bK cc b
  clear b
  go_wp2_with fail
  generalize hv_ : w12.alloc (.cells #[.bool bv, .slice Av nv cv, .slice Bv mv dv] 51) = v13
  have bA : Below w12.heap.size w12 v13 := by rw [← hv_]; exact below_one _ _
  rewrite [fR bA gl] at f0 f1
  replace hx := hx.on bA
  replace zl := zl.on bA
  replace zh := zh.on bA
  replace rx := rx.on bA
  replace ry := ry.on bA
  replace ru := ru.on bA
  replace rv := rv.on bA
  rewrite [cR bA kl] at k0 k1 k2
  replace kl := lK bA kl
  rewrite [cR bA gl] at g0 g1
  replace gl := lK bA gl
  rewrite [cR bA bal] at ba0 ba1
  replace bal := lK bA bal
  rewrite [cR bA bbl] at bb0 bb1
  replace bbl := lK bA bbl
  rewrite [cR bA bcl] at bc0 bc1 bc2
  replace bcl := lK bA bcl
  rewrite [cR bA bdl] at bd0 bd1 bd2
  replace bdl := lK bA bdl
  rewrite [cR bA bel] at be0 be1 be2
  replace bel := lK bA bel
  replace cc := bK cc bA
  clear bA
  obtain ⟨bf0, bf1, bf2⟩ : Cs3 v13 w12.heap.size (.bool bv) (.slice Av nv cv) (.slice Bv mv dv) := by simp [Cs3, ← hv_, go_sem]
  have bfl : w12.heap.size < v13.heap.size := by simp [← hv_]
  clear hv_
  refine (rtcmp_v cn ru (su.le (by omega)) rv (sv.le (by omega)) HC.out).mono ?_
  rintro e w14 ⟨rfl, b⟩
  rewrite [fR b gl] at f0 f1
  replace hx := hx.on b
  replace zl := zl.on b
  replace zh := zh.on b
  replace rx := rx.on b
  replace ry := ry.on b
  replace ru := ru.on b
  replace rv := rv.on b
  rewrite [cR b kl] at k0 k1 k2
  replace kl := lK b kl
  rewrite [cR b gl] at g0 g1
  replace gl := lK b gl
  rewrite [cR b bal] at ba0 ba1
  replace bal := lK b bal
  rewrite [cR b bbl] at bb0 bb1
  replace bbl := lK b bbl
  rewrite [cR b bcl] at bc0 bc1 bc2
  replace bcl := lK b bcl
  rewrite [cR b bdl] at bd0 bd1 bd2
  replace bdl := lK b bdl
  rewrite [cR b bel] at be0 be1 be2
  replace bel := lK b bel
  rewrite [cR b bfl] at bf0 bf1 bf2
  replace bfl := lK b bfl
  replace cc := bK cc b
  clear b
  have hn : Zn w14 bl Al nl cl (nea x0 j.toNat) := by rw [HN.out]; exact zl
  have eb : Box w14 (w.heap.size + 1) false none 0 0 := ⟨g0, g1⟩
  have HZ : Hid (Zn ((w14.setCell ⟨w.heap.size + 1, 0, none⟩ (.bool bl)).setCell ⟨w.heap.size + 1, 1, none⟩ (.slice Al nl cl)) bl Al nl cl (nea x0 j.toNat)) := Lib.hid (hn.put eb _ _)
  clear hn
  go_wp2_with fail
  refine bodyPost_ret (v := .tuple #[.agg #[.bool bl, .slice Al nl cl], .int .i64 0]) (by simp [results, Tryz.results55, go_sem, g0, g1]) rfl ⟨_, _, _, _, rfl, HZ.out, below_put cc (by omega) _ _⟩

theorem rnear_even {w : World} {b0 : Bool} {A0 B0 : Option Addr} {n0 c0 m0 d0 : Nat} {x0 : Rat} (hx : Rt w b0 A0 n0 c0 B0 m0 d0 x0) (s0 : Sz x0 15) {j : Int} (h0 : 0 ≤ j) (h1 : j ≤ 500) (hc : cmpQ (x0 - bak (flo x0 j.toNat) j.toNat) (bak (cei x0 j.toNat) j.toNat - x0) = 0) (he : flo x0 j.toNat % 2 = 0) :
    Calls Tryz.prog 55 #[.agg #[.bool b0, .slice A0 n0 c0, .slice B0 m0 d0], .int .i64 j] w (GotZp w (nea x0 j.toNat) 0) := by
  have jl : j.toNat ≤ 500 := by omega
  have ll := flo_len s0 jl
  have lh := cei_len s0 jl
  have hn : nea x0 j.toNat = flo x0 j.toNat := by rw [nea_by]; rw [if_pos (.inr ⟨hc, he⟩)]
  have CF : ∀ {W : World} {b : Bool} {A B : Option Addr} {n c m d : Nat}, Rt W b A n c B m d x0 → Calls Tryz.prog 91 #[.agg #[.bool b, .slice A n c, .slice B m d], .int .i64 j] W (GotZp W (flo x0 j.toNat) 0) := fun hh => rfloor_N hh (s0.le (by omega)) h0 h1
  have CC : ∀ {W : World} {b : Bool} {A B : Option Addr} {n c m d : Nat}, Rt W b A n c B m d x0 → Calls Tryz.prog 92 #[.agg #[.bool b, .slice A n c, .slice B m d], .int .i64 j] W (GotZp W (cei x0 j.toNat) 0) := fun hh => rceil_N hh (s0.le (by omega)) h0 h1
  obtain ⟨lo, hlo⟩ : ∃ lo, flo x0 j.toNat = lo := ⟨_, rfl⟩
  obtain ⟨hi, hhi⟩ : ∃ hi, cei x0 j.toNat = hi := ⟨_, rfl⟩
  rw [hlo] at CF ll
  rw [hhi] at CC lh
  rw [hlo, hhi] at hc
  rw [hlo] at he
  rw [hlo] at hn
  have CB : ∀ {W : World} {z : Int} {b : Bool} {A : Option Addr} {n c : Nat}, Zn W b A n c z → (limbs z.natAbs).length ≤ 24 → Calls Tryz.prog 69 #[.agg #[.bool b, .slice A n c], .int .i64 j] W (GotRp W (bak z j.toNat) 0) := fun hh hl => rback_N hh (by omega) h0 h1
  have sl : Sz (bak lo j.toNat) 24 := bak_sz ll (by omega) jl
  have sh : Sz (bak hi j.toNat) 24 := bak_sz lh (by omega) jl
  obtain ⟨x, hxx⟩ : ∃ x, bak lo j.toNat = x := ⟨_, rfl⟩
  obtain ⟨y, hyy⟩ : ∃ y, bak hi j.toNat = y := ⟨_, rfl⟩
  have CX : ∀ {W : World} {b : Bool} {A : Option Addr} {n c : Nat}, Zn W b A n c lo → Calls Tryz.prog 69 #[.agg #[.bool b, .slice A n c], .int .i64 j] W (GotRp W x 0) := fun hh => by rw [← hxx]; exact CB hh ll
  have CY : ∀ {W : World} {b : Bool} {A : Option Addr} {n c : Nat}, Zn W b A n c hi → Calls Tryz.prog 69 #[.agg #[.bool b, .slice A n c], .int .i64 j] W (GotRp W y 0) := fun hh => by rw [← hyy]; exact CB hh lh
  rw [hxx] at sl
  rw [hyy] at sh
  rw [hxx, hyy] at hc
  skip
  obtain ⟨cn, hcn⟩ : ∃ cn, cmpQ (x0 - x) (y - x0) = cn := ⟨_, rfl⟩
  have HC := Lib.hid hcn
  rw [hcn] at hc
  skip
  have su := s0.sub sl
  have sv := sh.sub s0
  have HN := Lib.hid hn
  have t1 : decide (cn < 0) = false := decide_eq_false (by omega)
  have t2 : (cn == 0) = true := beq_iff_eq.2 hc
  have HO : Hid (decide (lo % 2 = 1) = false) := Lib.hid (decide_eq_false (by omega))
  clear CB hxx hyy hcn hlo hhi hn hc h0 h1 he
  have cc := Below.refl w.heap.size w
  go_enter Tryz.func55, Tryz.ntmps55
  go_wp2_with fail
  generalize hv_ : (w.alloc (.cells #[.bool b0, .slice A0 n0 c0, .slice B0 m0 d0] 51)).alloc (.cells #[.bool false, .slice none 0 0] 49) = v1
  obtain ⟨f0, f1⟩ : Fz2 v1 (w.heap.size + 1) := by simp [Fz2, ← hv_, go_sem]
  have bA : Below w.heap.size w v1 := by rw [← hv_]; exact (((Below.refl _ w).alloc (by simp) _).alloc (by simp) _)
  replace hx := hx.on bA
  replace cc := bK cc bA
  clear bA
  obtain ⟨k0, k1, k2⟩ : Cs3 v1 w.heap.size (.bool b0) (.slice A0 n0 c0) (.slice B0 m0 d0) := by simp [Cs3, ← hv_, go_sem]
  have kl : w.heap.size < v1.heap.size := by simp [← hv_] <;> omega
  obtain ⟨g0, g1⟩ : Cs2 v1 (w.heap.size + 1) (.bool false) (.slice none 0 0) := by simp [Cs2, ← hv_, go_sem]
  have gl : w.heap.size + 1 < v1.heap.size := by simp [← hv_] <;> omega
  clear hv_
  refine (CF hx).mono ?_
  rintro e w2 ⟨bl, Al, nl, cl, rfl, zl, b⟩
  rewrite [fR b gl] at f0 f1
  replace hx := hx.on b
  rewrite [cR b kl] at k0 k1 k2
  replace kl := lK b kl
  rewrite [cR b gl] at g0 g1
  replace gl := lK b gl
  replace cc := bK cc b
  clear b
  go_wp2_with fail
  generalize hv_ : w2.alloc (.cells #[.bool bl, .slice Al nl cl] 49) = v3
  have bA : Below w2.heap.size w2 v3 := by rw [← hv_]; exact below_one _ _
  rewrite [fR bA gl] at f0 f1
  replace hx := hx.on bA
  replace zl := zl.on bA
  rewrite [cR bA kl] at k0 k1 k2
  replace kl := lK bA kl
  rewrite [cR bA gl] at g0 g1
  replace gl := lK bA gl
  replace cc := bK cc bA
  clear bA
  obtain ⟨ba0, ba1⟩ : Cs2 v3 w2.heap.size (.bool bl) (.slice Al nl cl) := by simp [Cs2, ← hv_, go_sem]
  have bal : w2.heap.size < v3.heap.size := by simp [← hv_]
  clear hv_
  refine (CC hx).mono ?_
  rintro e w4 ⟨bh, Ah, nh, ch, rfl, zh, b⟩
  rewrite [fR b gl] at f0 f1
  replace hx := hx.on b
  replace zl := zl.on b
  rewrite [cR b kl] at k0 k1 k2
  replace kl := lK b kl
  rewrite [cR b gl] at g0 g1
  replace gl := lK b gl
  rewrite [cR b bal] at ba0 ba1
  replace bal := lK b bal
  replace cc := bK cc b
  clear b
  go_wp2_with fail
  generalize hv_ : w4.alloc (.cells #[.bool bh, .slice Ah nh ch] 49) = v5
  have bA : Below w4.heap.size w4 v5 := by rw [← hv_]; exact below_one _ _
  rewrite [fR bA gl] at f0 f1
  replace hx := hx.on bA
  replace zl := zl.on bA
  replace zh := zh.on bA
  rewrite [cR bA kl] at k0 k1 k2
  replace kl := lK bA kl
  rewrite [cR bA gl] at g0 g1
  replace gl := lK bA gl
  rewrite [cR bA bal] at ba0 ba1
  replace bal := lK bA bal
  replace cc := bK cc bA
  clear bA
  obtain ⟨bb0, bb1⟩ : Cs2 v5 w4.heap.size (.bool bh) (.slice Ah nh ch) := by simp [Cs2, ← hv_, go_sem]
  have bbl : w4.heap.size < v5.heap.size := by simp [← hv_]
  clear hv_
  refine (CX zl).mono ?_
  rintro e w6 ⟨bx, Ax, nx, cx, Bx, mx, dx, rfl, rx, b⟩
  rewrite [fR b gl] at f0 f1
  replace hx := hx.on b
  replace zl := zl.on b
  replace zh := zh.on b
  rewrite [cR b kl] at k0 k1 k2
  replace kl := lK b kl
  rewrite [cR b gl] at g0 g1
  replace gl := lK b gl
  rewrite [cR b bal] at ba0 ba1
  replace bal := lK b bal
  rewrite [cR b bbl] at bb0 bb1
  replace bbl := lK b bbl
  replace cc := bK cc b
  clear b
  go_wp2_with fail
  generalize hv_ : w6.alloc (.cells #[.bool bx, .slice Ax nx cx, .slice Bx mx dx] 51) = v7
  have bA : Below w6.heap.size w6 v7 := by rw [← hv_]; exact below_one _ _
  rewrite [fR bA gl] at f0 f1
  replace hx := hx.on bA
  replace zl := zl.on bA
  replace zh := zh.on bA
  replace rx := rx.on bA
  rewrite [cR bA kl] at k0 k1 k2
  replace kl := lK bA kl
  rewrite [cR bA gl] at g0 g1
  replace gl := lK bA gl
  rewrite [cR bA bal] at ba0 ba1
  replace bal := lK bA bal
  rewrite [cR bA bbl] at bb0 bb1
  replace bbl := lK bA bbl
  replace cc := bK cc bA
  clear bA
  obtain ⟨bc0, bc1, bc2⟩ : Cs3 v7 w6.heap.size (.bool bx) (.slice Ax nx cx) (.slice Bx mx dx) := by simp [Cs3, ← hv_, go_sem]
  have bcl : w6.heap.size < v7.heap.size := by simp [← hv_]
  clear hv_
  refine (CY zh).mono ?_
  rintro e w8 ⟨bY, Ay, ny, cy, By, my, dy, rfl, ry, b⟩
  rewrite [fR b gl] at f0 f1
  replace hx := hx.on b
  replace zl := zl.on b
  replace zh := zh.on b
  replace rx := rx.on b
  rewrite [cR b kl] at k0 k1 k2
  replace kl := lK b kl
  rewrite [cR b gl] at g0 g1
  replace gl := lK b gl
  rewrite [cR b bal] at ba0 ba1
  replace bal := lK b bal
  rewrite [cR b bbl] at bb0 bb1
  replace bbl := lK b bbl
  rewrite [cR b bcl] at bc0 bc1 bc2
  replace bcl := lK b bcl
  replace cc := bK cc b
  clear b
  go_wp2_with fail
  generalize hv_ : w8.alloc (.cells #[.bool bY, .slice Ay ny cy, .slice By my dy] 51) = v9
  have bA : Below w8.heap.size w8 v9 := by rw [← hv_]; exact below_one _ _
  rewrite [fR bA gl] at f0 f1
  replace hx := hx.on bA
  replace zl := zl.on bA
  replace zh := zh.on bA
  replace rx := rx.on bA
  replace ry := ry.on bA
  rewrite [cR bA kl] at k0 k1 k2
  replace kl := lK bA kl
  rewrite [cR bA gl] at g0 g1
  replace gl := lK bA gl
  rewrite [cR bA bal] at ba0 ba1
  replace bal := lK bA bal
  rewrite [cR bA bbl] at bb0 bb1
  replace bbl := lK bA bbl
  rewrite [cR bA bcl] at bc0 bc1 bc2
  replace bcl := lK bA bcl
  replace cc := bK cc bA
  clear bA
  obtain ⟨bd0, bd1, bd2⟩ : Cs3 v9 w8.heap.size (.bool bY) (.slice Ay ny cy) (.slice By my dy) := by simp [Cs3, ← hv_, go_sem]
  have bdl : w8.heap.size < v9.heap.size := by simp [← hv_]
  clear hv_
  refine (rtsub_N hx (s0.le (by omega)) rx (sl.le (by omega))).mono ?_
  rintro e w10 ⟨bu, Au, nu, cu, Bu, mu, du, rfl, ru, b⟩
  rewrite [fR b gl] at f0 f1
  replace hx := hx.on b
  replace zl := zl.on b
  replace zh := zh.on b
  replace rx := rx.on b
  replace ry := ry.on b
  rewrite [cR b kl] at k0 k1 k2
  replace kl := lK b kl
  rewrite [cR b gl] at g0 g1
  replace gl := lK b gl
  rewrite [cR b bal] at ba0 ba1
  replace bal := lK b bal
  rewrite [cR b bbl] at bb0 bb1
  replace bbl := lK b bbl
  rewrite [cR b bcl] at bc0 bc1 bc2
  replace bcl := lK b bcl
  rewrite [cR b bdl] at bd0 bd1 bd2
  replace bdl := lK b bdl
  replace cc := bK cc b
  clear b
  go_wp2_with fail
  generalize hv_ : w10.alloc (.cells #[.bool bu, .slice Au nu cu, .slice Bu mu du] 51) = v11
  have bA : Below w10.heap.size w10 v11 := by rw [← hv_]; exact below_one _ _
  rewrite [fR bA gl] at f0 f1
  replace hx := hx.on bA
  replace zl := zl.on bA
  replace zh := zh.on bA
  replace rx := rx.on bA
  replace ry := ry.on bA
  replace ru := ru.on bA
  rewrite [cR bA kl] at k0 k1 k2
  replace kl := lK bA kl
  rewrite [cR bA gl] at g0 g1
  replace gl := lK bA gl
  rewrite [cR bA bal] at ba0 ba1
  replace bal := lK bA bal
  rewrite [cR bA bbl] at bb0 bb1
  replace bbl := lK bA bbl
  rewrite [cR bA bcl] at bc0 bc1 bc2
  replace bcl := lK bA bcl
  rewrite [cR bA bdl] at bd0 bd1 bd2
  replace bdl := lK bA bdl
  replace cc := bK cc bA
  clear bA
  obtain ⟨be0, be1, be2⟩ : Cs3 v11 w10.heap.size (.bool bu) (.slice Au nu cu) (.slice Bu mu du) := by simp [Cs3, ← hv_, go_sem]
  have bel : w10.heap.size < v11.heap.size := by simp [← hv_]
  clear hv_
  refine (rtsub_N ry (sh.le (by omega)) hx (s0.le (by omega))).mono ?_
  rintro e w12 ⟨bv, Av, nv, cv, Bv, mv, dv, rfl, rv, b⟩
  rewrite [fR b gl] at f0 f1
  replace hx := hx.on b
  replace zl := zl.on b
  replace zh := zh.on b
  replace rx := rx.on b
  replace ry := ry.on b
  replace ru := ru.on b
  rewrite [cR b kl] at k0 k1 k2
  replace kl := lK b kl
  rewrite [cR b gl] at g0 g1
  replace gl := lK b gl
  rewrite [cR b bal] at ba0 ba1
  replace bal := lK b bal
  rewrite [cR b bbl] at bb0 bb1
  replace bbl := lK b bbl
  rewrite [cR b bcl] at bc0 bc1 bc2
  replace bcl := lK b bcl
  rewrite [cR b bdl] at bd0 bd1 bd2
  replace bdl := lK b bdl
  rewrite [cR b bel] at be0 be1 be2
  replace bel := lK b bel
  replace cc := bK cc b
  clear b
  go_wp2_with fail
  generalize hv_ : w12.alloc (.cells #[.bool bv, .slice Av nv cv, .slice Bv mv dv] 51) = v13
  have bA : Below w12.heap.size w12 v13 := by rw [← hv_]; exact below_one _ _
  rewrite [fR bA gl] at f0 f1
  replace hx := hx.on bA
  replace zl := zl.on bA
  replace zh := zh.on bA
  replace rx := rx.on bA
  replace ry := ry.on bA
  replace ru := ru.on bA
  replace rv := rv.on bA
  rewrite [cR bA kl] at k0 k1 k2
  replace kl := lK bA kl
  rewrite [cR bA gl] at g0 g1
  replace gl := lK bA gl
  rewrite [cR bA bal] at ba0 ba1
  replace bal := lK bA bal
  rewrite [cR bA bbl] at bb0 bb1
  replace bbl := lK bA bbl
  rewrite [cR bA bcl] at bc0 bc1 bc2
  replace bcl := lK bA bcl
  rewrite [cR bA bdl] at bd0 bd1 bd2
  replace bdl := lK bA bdl
  rewrite [cR bA bel] at be0 be1 be2
  replace bel := lK bA bel
  replace cc := bK cc bA
  clear bA
  obtain ⟨bf0, bf1, bf2⟩ : Cs3 v13 w12.heap.size (.bool bv) (.slice Av nv cv) (.slice Bv mv dv) := by simp [Cs3, ← hv_, go_sem]
  have bfl : w12.heap.size < v13.heap.size := by simp [← hv_]
  clear hv_
  refine (rtcmp_v cn ru (su.le (by omega)) rv (sv.le (by omega)) HC.out).mono ?_
  rintro e w14 ⟨rfl, b⟩
  rewrite [fR b gl] at f0 f1
  replace hx := hx.on b
  replace zl := zl.on b
  replace zh := zh.on b
  replace rx := rx.on b
  replace ry := ry.on b
  replace ru := ru.on b
  replace rv := rv.on b
  rewrite [cR b kl] at k0 k1 k2
  replace kl := lK b kl
  rewrite [cR b gl] at g0 g1
  replace gl := lK b gl
  rewrite [cR b bal] at ba0 ba1
  replace bal := lK b bal
  rewrite [cR b bbl] at bb0 bb1
  replace bbl := lK b bbl
  rewrite [cR b bcl] at bc0 bc1 bc2
  replace bcl := lK b bcl
  rewrite [cR b bdl] at bd0 bd1 bd2
  replace bdl := lK b bdl
  rewrite [cR b bel] at be0 be1 be2
  replace bel := lK b bel
  rewrite [cR b bfl] at bf0 bf1 bf2
  replace bfl := lK b bfl
  replace cc := bK cc b
  clear b
  go_wp2_with fail
  refine (rodd_N false zl HO.out).mono ?_
  rintro e w15 ⟨rfl, b⟩
  rewrite [fR b gl] at f0 f1
  replace hx := hx.on b
  replace zl := zl.on b
  replace zh := zh.on b
  replace rx := rx.on b
  replace ry := ry.on b
  replace ru := ru.on b
  replace rv := rv.on b
  rewrite [cR b kl] at k0 k1 k2
  replace kl := lK b kl
  rewrite [cR b gl] at g0 g1
  replace gl := lK b gl
  rewrite [cR b bal] at ba0 ba1
  replace bal := lK b bal
  rewrite [cR b bbl] at bb0 bb1
  replace bbl := lK b bbl
  rewrite [cR b bcl] at bc0 bc1 bc2
  replace bcl := lK b bcl
  rewrite [cR b bdl] at bd0 bd1 bd2
  replace bdl := lK b bdl
  rewrite [cR b bel] at be0 be1 be2
  replace bel := lK b bel
  rewrite [cR b bfl] at bf0 bf1 bf2
  replace bfl := lK b bfl
  replace cc := bK cc b
  clear b
  have hn : Zn w15 bl Al nl cl (nea x0 j.toNat) := by rw [HN.out]; exact zl
  have eb : Box w15 (w.heap.size + 1) false none 0 0 := ⟨g0, g1⟩
  have HZ : Hid (Zn ((w15.setCell ⟨w.heap.size + 1, 0, none⟩ (.bool bl)).setCell ⟨w.heap.size + 1, 1, none⟩ (.slice Al nl cl)) bl Al nl cl (nea x0 j.toNat)) := Lib.hid (hn.put eb _ _)
  clear hn
  go_wp2_with fail
  refine bodyPost_ret (v := .tuple #[.agg #[.bool bl, .slice Al nl cl], .int .i64 0]) (by simp [results, Tryz.results55, go_sem, g0, g1]) rfl ⟨_, _, _, _, rfl, HZ.out, below_put cc (by omega) _ _⟩

theorem rnear_odd {w : World} {b0 : Bool} {A0 B0 : Option Addr} {n0 c0 m0 d0 : Nat} {x0 : Rat} (hx : Rt w b0 A0 n0 c0 B0 m0 d0 x0) (s0 : Sz x0 15) {j : Int} (h0 : 0 ≤ j) (h1 : j ≤ 500) (hc : cmpQ (x0 - bak (flo x0 j.toNat) j.toNat) (bak (cei x0 j.toNat) j.toNat - x0) = 0) (he : ¬ flo x0 j.toNat % 2 = 0) :
    Calls Tryz.prog 55 #[.agg #[.bool b0, .slice A0 n0 c0, .slice B0 m0 d0], .int .i64 j] w (GotZp w (nea x0 j.toNat) 0) := by
  have jl : j.toNat ≤ 500 := by omega
  have ll := flo_len s0 jl
  have lh := cei_len s0 jl
  have hn : nea x0 j.toNat = cei x0 j.toNat := by rw [nea_by]; rw [if_neg (fun h => h.elim (fun a => by omega) (fun a => he a.2))]
  have CF : ∀ {W : World} {b : Bool} {A B : Option Addr} {n c m d : Nat}, Rt W b A n c B m d x0 → Calls Tryz.prog 91 #[.agg #[.bool b, .slice A n c, .slice B m d], .int .i64 j] W (GotZp W (flo x0 j.toNat) 0) := fun hh => rfloor_N hh (s0.le (by omega)) h0 h1
  have CC : ∀ {W : World} {b : Bool} {A B : Option Addr} {n c m d : Nat}, Rt W b A n c B m d x0 → Calls Tryz.prog 92 #[.agg #[.bool b, .slice A n c, .slice B m d], .int .i64 j] W (GotZp W (cei x0 j.toNat) 0) := fun hh => rceil_N hh (s0.le (by omega)) h0 h1
  obtain ⟨lo, hlo⟩ : ∃ lo, flo x0 j.toNat = lo := ⟨_, rfl⟩
  obtain ⟨hi, hhi⟩ : ∃ hi, cei x0 j.toNat = hi := ⟨_, rfl⟩
  rw [hlo] at CF ll
  rw [hhi] at CC lh
  rw [hlo, hhi] at hc
  rw [hlo] at he
  rw [hhi] at hn
  have CB : ∀ {W : World} {z : Int} {b : Bool} {A : Option Addr} {n c : Nat}, Zn W b A n c z → (limbs z.natAbs).length ≤ 24 → Calls Tryz.prog 69 #[.agg #[.bool b, .slice A n c], .int .i64 j] W (GotRp W (bak z j.toNat) 0) := fun hh hl => rback_N hh (by omega) h0 h1
  have sl : Sz (bak lo j.toNat) 24 := bak_sz ll (by omega) jl
  have sh : Sz (bak hi j.toNat) 24 := bak_sz lh (by omega) jl
  obtain ⟨x, hxx⟩ : ∃ x, bak lo j.toNat = x := ⟨_, rfl⟩
  obtain ⟨y, hyy⟩ : ∃ y, bak hi j.toNat = y := ⟨_, rfl⟩
  have CX : ∀ {W : World} {b : Bool} {A : Option Addr} {n c : Nat}, Zn W b A n c lo → Calls Tryz.prog 69 #[.agg #[.bool b, .slice A n c], .int .i64 j] W (GotRp W x 0) := fun hh => by rw [← hxx]; exact CB hh ll
  have CY : ∀ {W : World} {b : Bool} {A : Option Addr} {n c : Nat}, Zn W b A n c hi → Calls Tryz.prog 69 #[.agg #[.bool b, .slice A n c], .int .i64 j] W (GotRp W y 0) := fun hh => by rw [← hyy]; exact CB hh lh
  rw [hxx] at sl
  rw [hyy] at sh
  rw [hxx, hyy] at hc
  skip
  obtain ⟨cn, hcn⟩ : ∃ cn, cmpQ (x0 - x) (y - x0) = cn := ⟨_, rfl⟩
  have HC := Lib.hid hcn
  rw [hcn] at hc
  skip
  have su := s0.sub sl
  have sv := sh.sub s0
  have HN := Lib.hid hn
  have t1 : decide (cn < 0) = false := decide_eq_false (by omega)
  have t2 : (cn == 0) = true := beq_iff_eq.2 hc
  have HO : Hid (decide (lo % 2 = 1) = true) := Lib.hid (decide_eq_true (by omega))
  clear CB hxx hyy hcn hlo hhi hn hc h0 h1 he
  have cc := Below.refl w.heap.size w
  go_enter Tryz.func55, Tryz.ntmps55
  go_wp2_with fail
  generalize hv_ : (w.alloc (.cells #[.bool b0, .slice A0 n0 c0, .slice B0 m0 d0] 51)).alloc (.cells #[.bool false, .slice none 0 0] 49) = v1
  obtain ⟨f0, f1⟩ : Fz2 v1 (w.heap.size + 1) := by simp [Fz2, ← hv_, go_sem]
  have bA : Below w.heap.size w v1 := by rw [← hv_]; exact (((Below.refl _ w).alloc (by simp) _).alloc (by simp) _)
  replace hx := hx.on bA
  replace cc := bK cc bA
  clear bA
  obtain ⟨k0, k1, k2⟩ : Cs3 v1 w.heap.size (.bool b0) (.slice A0 n0 c0) (.slice B0 m0 d0) := by simp [Cs3, ← hv_, go_sem]
  have kl : w.heap.size < v1.heap.size := by simp [← hv_] <;> omega
  obtain ⟨g0, g1⟩ : Cs2 v1 (w.heap.size + 1) (.bool false) (.slice none 0 0) := by simp [Cs2, ← hv_, go_sem]
  have gl : w.heap.size + 1 < v1.heap.size := by simp [← hv_] <;> omega
  clear hv_
  refine (CF hx).mono ?_
  rintro e w2 ⟨bl, Al, nl, cl, rfl, zl, b⟩
  rewrite [fR b gl] at f0 f1
  replace hx := hx.on b
  rewrite [cR b kl] at k0 k1 k2
  replace kl := lK b kl
  rewrite [cR b gl] at g0 g1
  replace gl := lK b gl
  replace cc := bK cc b
  clear b
  go_wp2_with fail
  generalize hv_ : w2.alloc (.cells #[.bool bl, .slice Al nl cl] 49) = v3
  have bA : Below w2.heap.size w2 v3 := by rw [← hv_]; exact below_one _ _
  rewrite [fR bA gl] at f0 f1
  replace hx := hx.on bA
  replace zl := zl.on bA
  rewrite [cR bA kl] at k0 k1 k2
  replace kl := lK bA kl
  rewrite [cR bA gl] at g0 g1
  replace gl := lK bA gl
  replace cc := bK cc bA
  clear bA
  obtain ⟨ba0, ba1⟩ : Cs2 v3 w2.heap.size (.bool bl) (.slice Al nl cl) := by simp [Cs2, ← hv_, go_sem]
  have bal : w2.heap.size < v3.heap.size := by simp [← hv_]
  clear hv_
  refine (CC hx).mono ?_
  rintro e w4 ⟨bh, Ah, nh, ch, rfl, zh, b⟩
  rewrite [fR b gl] at f0 f1
  replace hx := hx.on b
  replace zl := zl.on b
  rewrite [cR b kl] at k0 k1 k2
  replace kl := lK b kl
  rewrite [cR b gl] at g0 g1
  replace gl := lK b gl
  rewrite [cR b bal] at ba0 ba1
  replace bal := lK b bal
  replace cc := bK cc b
  clear b
  go_wp2_with fail
  generalize hv_ : w4.alloc (.cells #[.bool bh, .slice Ah nh ch] 49) = v5
  have bA : Below w4.heap.size w4 v5 := by rw [← hv_]; exact below_one _ _
  rewrite [fR bA gl] at f0 f1
  replace hx := hx.on bA
  replace zl := zl.on bA
  replace zh := zh.on bA
  rewrite [cR bA kl] at k0 k1 k2
  replace kl := lK bA kl
  rewrite [cR bA gl] at g0 g1
  replace gl := lK bA gl
  rewrite [cR bA bal] at ba0 ba1
  replace bal := lK bA bal
  replace cc := bK cc bA
  clear bA
  obtain ⟨bb0, bb1⟩ : Cs2 v5 w4.heap.size (.bool bh) (.slice Ah nh ch) := by simp [Cs2, ← hv_, go_sem]
  have bbl : w4.heap.size < v5.heap.size := by simp [← hv_]
  clear hv_
  refine (CX zl).mono ?_
  rintro e w6 ⟨bx, Ax, nx, cx, Bx, mx, dx, rfl, rx, b⟩
  rewrite [fR b gl] at f0 f1
  replace hx := hx.on b
  replace zl := zl.on b
  replace zh := zh.on b
  rewrite [cR b kl] at k0 k1 k2
  replace kl := lK b kl
  rewrite [cR b gl] at g0 g1
  replace gl := lK b gl
  rewrite [cR b bal] at ba0 ba1
  replace bal := lK b bal
  rewrite [cR b bbl] at bb0 bb1
  replace bbl := lK b bbl
  replace cc := bK cc b
  clear b
  go_wp2_with fail
  generalize hv_ : w6.alloc (.cells #[.bool bx, .slice Ax nx cx, .slice Bx mx dx] 51) = v7
  have bA : Below w6.heap.size w6 v7 := by rw [← hv_]; exact below_one _ _
  rewrite [fR bA gl] at f0 f1
  replace hx := hx.on bA
  replace zl := zl.on bA
  replace zh := zh.on bA
  replace rx := rx.on bA
  rewrite [cR bA kl] at k0 k1 k2
  replace kl := lK bA kl
  rewrite [cR bA gl] at g0 g1
  replace gl := lK bA gl
  rewrite [cR bA bal] at ba0 ba1
  replace bal := lK bA bal
  rewrite [cR bA bbl] at bb0 bb1
  replace bbl := lK bA bbl
  replace cc := bK cc bA
  clear bA
  obtain ⟨bc0, bc1, bc2⟩ : Cs3 v7 w6.heap.size (.bool bx) (.slice Ax nx cx) (.slice Bx mx dx) := by simp [Cs3, ← hv_, go_sem]
  have bcl : w6.heap.size < v7.heap.size := by simp [← hv_]
  clear hv_
  refine (CY zh).mono ?_
  rintro e w8 ⟨bY, Ay, ny, cy, By, my, dy, rfl, ry, b⟩
  rewrite [fR b gl] at f0 f1
  replace hx := hx.on b
  replace zl := zl.on b
  replace zh := zh.on b
  replace rx := rx.on b
  rewrite [cR b kl] at k0 k1 k2
  replace kl := lK b kl
  rewrite [cR b gl] at g0 g1
  replace gl := lK b gl
  rewrite [cR b bal] at ba0 ba1
  replace bal := lK b bal
  rewrite [cR b bbl] at bb0 bb1
  replace bbl := lK b bbl
  rewrite [cR b bcl] at bc0 bc1 bc2
  replace bcl := lK b bcl
  replace cc := bK cc b
  clear b
  go_wp2_with fail
  generalize hv_ : w8.alloc (.cells #[.bool bY, .slice Ay ny cy, .slice By my dy] 51) = v9
  have bA : Below w8.heap.size w8 v9 := by rw [← hv_]; exact below_one _ _
  rewrite [fR bA gl] at f0 f1
  replace hx := hx.on bA
  replace zl := zl.on bA
  replace zh := zh.on bA
  replace rx := rx.on bA
  replace ry := ry.on bA
  rewrite [cR bA kl] at k0 k1 k2
  replace kl := lK bA kl
  rewrite [cR bA gl] at g0 g1
  replace gl := lK bA gl
  rewrite [cR bA bal] at ba0 ba1
  replace bal := lK bA bal
  rewrite [cR bA bbl] at bb0 bb1
  replace bbl := lK bA bbl
  rewrite [cR bA bcl] at bc0 bc1 bc2
  replace bcl := lK bA bcl
  replace cc := bK cc bA
  clear bA
  obtain ⟨bd0, bd1, bd2⟩ : Cs3 v9 w8.heap.size (.bool bY) (.slice Ay ny cy) (.slice By my dy) := by simp [Cs3, ← hv_, go_sem]
  have bdl : w8.heap.size < v9.heap.size := by simp [← hv_]
  clear hv_
  refine (rtsub_N hx (s0.le (by omega)) rx (sl.le (by omega))).mono ?_
  rintro e w10 ⟨bu, Au, nu, cu, Bu, mu, du, rfl, ru, b⟩
  rewrite [fR b gl] at f0 f1
  replace hx := hx.on b
  replace zl := zl.on b
  replace zh := zh.on b
  replace rx := rx.on b
  replace ry := ry.on b
  rewrite [cR b kl] at k0 k1 k2
  replace kl := lK b kl
  rewrite [cR b gl] at g0 g1
  replace gl := lK b gl
  rewrite [cR b bal] at ba0 ba1
  replace bal := lK b bal
  rewrite [cR b bbl] at bb0 bb1
  replace bbl := lK b bbl
  rewrite [cR b bcl] at bc0 bc1 bc2
  replace bcl := lK b bcl
  rewrite [cR b bdl] at bd0 bd1 bd2
  replace bdl := lK b bdl
  replace cc := bK cc b
  clear b
  go_wp2_with fail
  generalize hv_ : w10.alloc (.cells #[.bool bu, .slice Au nu cu, .slice Bu mu du] 51) = v11
  have bA : Below w10.heap.size w10 v11 := by rw [← hv_]; exact below_one _ _
  rewrite [fR bA gl] at f0 f1
  replace hx := hx.on bA
  replace zl := zl.on bA
  replace zh := zh.on bA
  replace rx := rx.on bA
  replace ry := ry.on bA
  replace ru := ru.on bA
  rewrite [cR bA kl] at k0 k1 k2
  replace kl := lK bA kl
  rewrite [cR bA gl] at g0 g1
  replace gl := lK bA gl
  rewrite [cR bA bal] at ba0 ba1
  replace bal := lK bA bal
  rewrite [cR bA bbl] at bb0 bb1
  replace bbl := lK bA bbl
  rewrite [cR bA bcl] at bc0 bc1 bc2
  replace bcl := lK bA bcl
  rewrite [cR bA bdl] at bd0 bd1 bd2
  replace bdl := lK bA bdl
  replace cc := bK cc bA
  clear bA
  obtain ⟨be0, be1, be2⟩ : Cs3 v11 w10.heap.size (.bool bu) (.slice Au nu cu) (.slice Bu mu du) := by simp [Cs3, ← hv_, go_sem]
  have bel : w10.heap.size < v11.heap.size := by simp [← hv_]
  clear hv_
  refine (rtsub_N ry (sh.le (by omega)) hx (s0.le (by omega))).mono ?_
  rintro e w12 ⟨bv, Av, nv, cv, Bv, mv, dv, rfl, rv, b⟩
  rewrite [fR b gl] at f0 f1
  replace hx := hx.on b
  replace zl := zl.on b
  replace zh := zh.on b
  replace rx := rx.on b
  replace ry := ry.on b
  replace ru := ru.on b
  rewrite [cR b kl] at k0 k1 k2
  replace kl := lK b kl
  rewrite [cR b gl] at g0 g1
  replace gl := lK b gl
  rewrite [cR b bal] at ba0 ba1
  replace bal := lK b bal
  rewrite [cR b bbl] at bb0 bb1
  replace bbl := lK b bbl
  rewrite [cR b bcl] at bc0 bc1 bc2
  replace bcl := lK b bcl
  rewrite [cR b bdl] at bd0 bd1 bd2
  replace bdl := lK b bdl
  rewrite [cR b bel] at be0 be1 be2
  replace bel := lK b bel
  replace cc := bK cc b
  clear b
  go_wp2_with fail
  generalize hv_ : w12.alloc (.cells #[.bool bv, .slice Av nv cv, .slice Bv mv dv] 51) = v13
  have bA : Below w12.heap.size w12 v13 := by rw [← hv_]; exact below_one _ _
  rewrite [fR bA gl] at f0 f1
  replace hx := hx.on bA
  replace zl := zl.on bA
  replace zh := zh.on bA
  replace rx := rx.on bA
  replace ry := ry.on bA
  replace ru := ru.on bA
  replace rv := rv.on bA
  rewrite [cR bA kl] at k0 k1 k2
  replace kl := lK bA kl
  rewrite [cR bA gl] at g0 g1
  replace gl := lK bA gl
  rewrite [cR bA bal] at ba0 ba1
  replace bal := lK bA bal
  rewrite [cR bA bbl] at bb0 bb1
  replace bbl := lK bA bbl
  rewrite [cR bA bcl] at bc0 bc1 bc2
  replace bcl := lK bA bcl
  rewrite [cR bA bdl] at bd0 bd1 bd2
  replace bdl := lK bA bdl
  rewrite [cR bA bel] at be0 be1 be2
  replace bel := lK bA bel
  replace cc := bK cc bA
  clear bA
  obtain ⟨bf0, bf1, bf2⟩ : Cs3 v13 w12.heap.size (.bool bv) (.slice Av nv cv) (.slice Bv mv dv) := by simp [Cs3, ← hv_, go_sem]
  have bfl : w12.heap.size < v13.heap.size := by simp [← hv_]
  clear hv_
  refine (rtcmp_v cn ru (su.le (by omega)) rv (sv.le (by omega)) HC.out).mono ?_
  rintro e w14 ⟨rfl, b⟩
  rewrite [fR b gl] at f0 f1
  replace hx := hx.on b
  replace zl := zl.on b
  replace zh := zh.on b
  replace rx := rx.on b
  replace ry := ry.on b
  replace ru := ru.on b
  replace rv := rv.on b
  rewrite [cR b kl] at k0 k1 k2
  replace kl := lK b kl
  rewrite [cR b gl] at g0 g1
  replace gl := lK b gl
  rewrite [cR b bal] at ba0 ba1
  replace bal := lK b bal
  rewrite [cR b bbl] at bb0 bb1
  replace bbl := lK b bbl
  rewrite [cR b bcl] at bc0 bc1 bc2
  replace bcl := lK b bcl
  rewrite [cR b bdl] at bd0 bd1 bd2
  replace bdl := lK b bdl
  rewrite [cR b bel] at be0 be1 be2
  replace bel := lK b bel
  rewrite [cR b bfl] at bf0 bf1 bf2
  replace bfl := lK b bfl
  replace cc := bK cc b
  clear b
  go_wp2_with fail
  refine (rodd_N true zl HO.out).mono ?_
  rintro e w15 ⟨rfl, b⟩
  rewrite [fR b gl] at f0 f1
  replace hx := hx.on b
  replace zl := zl.on b
  replace zh := zh.on b
  replace rx := rx.on b
  replace ry := ry.on b
  replace ru := ru.on b
  replace rv := rv.on b
  rewrite [cR b kl] at k0 k1 k2
  replace kl := lK b kl
  rewrite [cR b gl] at g0 g1
  replace gl := lK b gl
  rewrite [cR b bal] at ba0 ba1
  replace bal := lK b bal
  rewrite [cR b bbl] at bb0 bb1
  replace bbl := lK b bbl
  rewrite [cR b bcl] at bc0 bc1 bc2
  replace bcl := lK b bcl
  rewrite [cR b bdl] at bd0 bd1 bd2
  replace bdl := lK b bdl
  rewrite [cR b bel] at be0 be1 be2
  replace bel := lK b bel
  rewrite [cR b bfl] at bf0 bf1 bf2
  replace bfl := lK b bfl
  replace cc := bK cc b
  clear b
  have hn : Zn w15 bh Ah nh ch (nea x0 j.toNat) := by rw [HN.out]; exact zh
  have eb : Box w15 (w.heap.size + 1) false none 0 0 := ⟨g0, g1⟩
  have HZ : Hid (Zn ((w15.setCell ⟨w.heap.size + 1, 0, none⟩ (.bool bh)).setCell ⟨w.heap.size + 1, 1, none⟩ (.slice Ah nh ch)) bh Ah nh ch (nea x0 j.toNat)) := Lib.hid (hn.put eb _ _)
  clear hn
  go_wp2_with fail
  refine bodyPost_ret (v := .tuple #[.agg #[.bool bh, .slice Ah nh ch], .int .i64 0]) (by simp [results, Tryz.results55, go_sem, g0, g1]) rfl ⟨_, _, _, _, rfl, HZ.out, below_put cc (by omega) _ _⟩

theorem rnear_gt {w : World} {b0 : Bool} {A0 B0 : Option Addr} {n0 c0 m0 d0 : Nat} {x0 : Rat} (hx : Rt w b0 A0 n0 c0 B0 m0 d0 x0) (s0 : Sz x0 15) {j : Int} (h0 : 0 ≤ j) (h1 : j ≤ 500) (hc : ¬ cmpQ (x0 - bak (flo x0 j.toNat) j.toNat) (bak (cei x0 j.toNat) j.toNat - x0) < 0) (he : ¬ cmpQ (x0 - bak (flo x0 j.toNat) j.toNat) (bak (cei x0 j.toNat) j.toNat - x0) = 0) :
    Calls Tryz.prog 55 #[.agg #[.bool b0, .slice A0 n0 c0, .slice B0 m0 d0], .int .i64 j] w (GotZp w (nea x0 j.toNat) 0) := by
  have jl : j.toNat ≤ 500 := by omega
  have ll := flo_len s0 jl
  have lh := cei_len s0 jl
  have hn : nea x0 j.toNat = cei x0 j.toNat := by rw [nea_by]; rw [if_neg (fun h => h.elim (fun a => hc a) (fun a => he a.1))]
  have CF : ∀ {W : World} {b : Bool} {A B : Option Addr} {n c m d : Nat}, Rt W b A n c B m d x0 → Calls Tryz.prog 91 #[.agg #[.bool b, .slice A n c, .slice B m d], .int .i64 j] W (GotZp W (flo x0 j.toNat) 0) := fun hh => rfloor_N hh (s0.le (by omega)) h0 h1
  have CC : ∀ {W : World} {b : Bool} {A B : Option Addr} {n c m d : Nat}, Rt W b A n c B m d x0 → Calls Tryz.prog 92 #[.agg #[.bool b, .slice A n c, .slice B m d], .int .i64 j] W (GotZp W (cei x0 j.toNat) 0) := fun hh => rceil_N hh (s0.le (by omega)) h0 h1
  obtain ⟨lo, hlo⟩ : ∃ lo, flo x0 j.toNat = lo := ⟨_, rfl⟩
  obtain ⟨hi, hhi⟩ : ∃ hi, cei x0 j.toNat = hi := ⟨_, rfl⟩
  rw [hlo] at CF ll
  rw [hhi] at CC lh
  rw [hlo, hhi] at hc
  rw [hlo, hhi] at he
  rw [hhi] at hn
  have CB : ∀ {W : World} {z : Int} {b : Bool} {A : Option Addr} {n c : Nat}, Zn W b A n c z → (limbs z.natAbs).length ≤ 24 → Calls Tryz.prog 69 #[.agg #[.bool b, .slice A n c], .int .i64 j] W (GotRp W (bak z j.toNat) 0) := fun hh hl => rback_N hh (by omega) h0 h1
  have sl : Sz (bak lo j.toNat) 24 := bak_sz ll (by omega) jl
  have sh : Sz (bak hi j.toNat) 24 := bak_sz lh (by omega) jl
  obtain ⟨x, hxx⟩ : ∃ x, bak lo j.toNat = x := ⟨_, rfl⟩
  obtain ⟨y, hyy⟩ : ∃ y, bak hi j.toNat = y := ⟨_, rfl⟩
  have CX : ∀ {W : World} {b : Bool} {A : Option Addr} {n c : Nat}, Zn W b A n c lo → Calls Tryz.prog 69 #[.agg #[.bool b, .slice A n c], .int .i64 j] W (GotRp W x 0) := fun hh => by rw [← hxx]; exact CB hh ll
  have CY : ∀ {W : World} {b : Bool} {A : Option Addr} {n c : Nat}, Zn W b A n c hi → Calls Tryz.prog 69 #[.agg #[.bool b, .slice A n c], .int .i64 j] W (GotRp W y 0) := fun hh => by rw [← hyy]; exact CB hh lh
  rw [hxx] at sl
  rw [hyy] at sh
  rw [hxx, hyy] at hc
  rw [hxx, hyy] at he
  obtain ⟨cn, hcn⟩ : ∃ cn, cmpQ (x0 - x) (y - x0) = cn := ⟨_, rfl⟩
  have HC := Lib.hid hcn
  rw [hcn] at hc
  rw [hcn] at he
  have su := s0.sub sl
  have sv := sh.sub s0
  have HN := Lib.hid hn
  have t1 : decide (cn < 0) = false := decide_eq_false (by omega)
  have t2 : (cn == 0) = false := beq_eq_false_iff_ne.2 he
  clear CB hxx hyy hcn hlo hhi hn hc h0 h1 he
  have cc := Below.refl w.heap.size w
  go_enter Tryz.func55, Tryz.ntmps55
  go_wp2_with fail
  generalize hv_ : (w.alloc (.cells #[.bool b0, .slice A0 n0 c0, .slice B0 m0 d0] 51)).alloc (.cells #[.bool false, .slice none 0 0] 49) = v1
  obtain ⟨f0, f1⟩ : Fz2 v1 (w.heap.size + 1) := by simp [Fz2, ← hv_, go_sem]
  have bA : Below w.heap.size w v1 := by rw [← hv_]; exact (((Below.refl _ w).alloc (by simp) _).alloc (by simp) _)
  replace hx := hx.on bA
  replace cc := bK cc bA
  clear bA
  obtain ⟨k0, k1, k2⟩ : Cs3 v1 w.heap.size (.bool b0) (.slice A0 n0 c0) (.slice B0 m0 d0) := by simp [Cs3, ← hv_, go_sem]
  have kl : w.heap.size < v1.heap.size := by simp [← hv_] <;> omega
  obtain ⟨g0, g1⟩ : Cs2 v1 (w.heap.size + 1) (.bool false) (.slice none 0 0) := by simp [Cs2, ← hv_, go_sem]
  have gl : w.heap.size + 1 < v1.heap.size := by simp [← hv_] <;> omega
  clear hv_
  refine (CF hx).mono ?_
  rintro e w2 ⟨bl, Al, nl, cl, rfl, zl, b⟩
  rewrite [fR b gl] at f0 f1
  replace hx := hx.on b
  rewrite [cR b kl] at k0 k1 k2
  replace kl := lK b kl
  rewrite [cR b gl] at g0 g1
  replace gl := lK b gl
  replace cc := bK cc b
  clear b
  go_wp2_with fail
  generalize hv_ : w2.alloc (.cells #[.bool bl, .slice Al nl cl] 49) = v3
  have bA : Below w2.heap.size w2 v3 := by rw [← hv_]; exact below_one _ _
  rewrite [fR bA gl] at f0 f1
  replace hx := hx.on bA
  replace zl := zl.on bA
  rewrite [cR bA kl] at k0 k1 k2
  replace kl := lK bA kl
  rewrite [cR bA gl] at g0 g1
  replace gl := lK bA gl
  replace cc := bK cc bA
  clear bA
  obtain ⟨ba0, ba1⟩ : Cs2 v3 w2.heap.size (.bool bl) (.slice Al nl cl) := by simp [Cs2, ← hv_, go_sem]
  have bal : w2.heap.size < v3.heap.size := by simp [← hv_]
  clear hv_
  refine (CC hx).mono ?_
  rintro e w4 ⟨bh, Ah, nh, ch, rfl, zh, b⟩
  rewrite [fR b gl] at f0 f1
  replace hx := hx.on b
  replace zl := zl.on b
  rewrite [cR b kl] at k0 k1 k2
  replace kl := lK b kl
  rewrite [cR b gl] at g0 g1
  replace gl := lK b gl
  rewrite [cR b bal] at ba0 ba1
  replace bal := lK b bal
  replace cc := bK cc b
  clear b
  go_wp2_with fail
  generalize hv_ : w4.alloc (.cells #[.bool bh, .slice Ah nh ch] 49) = v5
  have bA : Below w4.heap.size w4 v5 := by rw [← hv_]; exact below_one _ _
  rewrite [fR bA gl] at f0 f1
  replace hx := hx.on bA
  replace zl := zl.on bA
  replace zh := zh.on bA
  rewrite [cR bA kl] at k0 k1 k2
  replace kl := lK bA kl
  rewrite [cR bA gl] at g0 g1
  replace gl := lK bA gl
  rewrite [cR bA bal] at ba0 ba1
  replace bal := lK bA bal
  replace cc := bK cc bA
  clear bA
  obtain ⟨bb0, bb1⟩ : Cs2 v5 w4.heap.size (.bool bh) (.slice Ah nh ch) := by simp [Cs2, ← hv_, go_sem]
  have bbl : w4.heap.size < v5.heap.size := by simp [← hv_]
  clear hv_
  refine (CX zl).mono ?_
  rintro e w6 ⟨bx, Ax, nx, cx, Bx, mx, dx, rfl, rx, b⟩
  rewrite [fR b gl] at f0 f1
  replace hx := hx.on b
  replace zl := zl.on b
  replace zh := zh.on b
  rewrite [cR b kl] at k0 k1 k2
  replace kl := lK b kl
  rewrite [cR b gl] at g0 g1
  replace gl := lK b gl
  rewrite [cR b bal] at ba0 ba1
  replace bal := lK b bal
  rewrite [cR b bbl] at bb0 bb1
  replace bbl := lK b bbl
  replace cc := bK cc b
  clear b
  go_wp2_with fail
  generalize hv_ : w6.alloc (.cells #[.bool bx, .slice Ax nx cx, .slice Bx mx dx] 51) = v7
  have bA : Below w6.heap.size w6 v7 := by rw [← hv_]; exact below_one _ _
  rewrite [fR bA gl] at f0 f1
  replace hx := hx.on bA
  replace zl := zl.on bA
  replace zh := zh.on bA
  replace rx := rx.on bA
  rewrite [cR bA kl] at k0 k1 k2
  replace kl := lK bA kl
  rewrite [cR bA gl] at g0 g1
  replace gl := lK bA gl
  rewrite [cR bA bal] at ba0 ba1
  replace bal := lK bA bal
  rewrite [cR bA bbl] at bb0 bb1
  replace bbl := lK bA bbl
  replace cc := bK cc bA
  clear bA
  obtain ⟨bc0, bc1, bc2⟩ : Cs3 v7 w6.heap.size (.bool bx) (.slice Ax nx cx) (.slice Bx mx dx) := by simp [Cs3, ← hv_, go_sem]
  have bcl : w6.heap.size < v7.heap.size := by simp [← hv_]
  clear hv_
  refine (CY zh).mono ?_
  rintro e w8 ⟨bY, Ay, ny, cy, By, my, dy, rfl, ry, b⟩
  rewrite [fR b gl] at f0 f1
  replace hx := hx.on b
  replace zl := zl.on b
  replace zh := zh.on b
  replace rx := rx.on b
  rewrite [cR b kl] at k0 k1 k2
  replace kl := lK b kl
  rewrite [cR b gl] at g0 g1
  replace gl := lK b gl
  rewrite [cR b bal] at ba0 ba1
  replace bal := lK b bal
  rewrite [cR b bbl] at bb0 bb1
  replace bbl := lK b bbl
  rewrite [cR b bcl] at bc0 bc1 bc2
  replace bcl := lK b bcl
  replace cc := bK cc b
  clear b
  go_wp2_with fail
  generalize hv_ : w8.alloc (.cells #[.bool bY, .slice Ay ny cy, .slice By my dy] 51) = v9
  have bA : Below w8.heap.size w8 v9 := by rw [← hv_]; exact below_one _ _
  rewrite [fR bA gl] at f0 f1
  replace hx := hx.on bA
  replace zl := zl.on bA
  replace zh := zh.on bA
  replace rx := rx.on bA
  replace ry := ry.on bA
  rewrite [cR bA kl] at k0 k1 k2
  replace kl := lK bA kl
  rewrite [cR bA gl] at g0 g1
  replace gl := lK bA gl
  rewrite [cR bA bal] at ba0 ba1
  replace bal := lK bA bal
  rewrite [cR bA bbl] at bb0 bb1
  replace bbl := lK bA bbl
  rewrite [cR bA bcl] at bc0 bc1 bc2
  replace bcl := lK bA bcl
  replace cc := bK cc bA
  clear bA
  obtain ⟨bd0, bd1, bd2⟩ : Cs3 v9 w8.heap.size (.bool bY) (.slice Ay ny cy) (.slice By my dy) := by simp [Cs3, ← hv_, go_sem]
  have bdl : w8.heap.size < v9.heap.size := by simp [← hv_]
  clear hv_
  refine (rtsub_N hx (s0.le (by omega)) rx (sl.le (by omega))).mono ?_
  rintro e w10 ⟨bu, Au, nu, cu, Bu, mu, du, rfl, ru, b⟩
  rewrite [fR b gl] at f0 f1
  replace hx := hx.on b
  replace zl := zl.on b
  replace zh := zh.on b
  replace rx := rx.on b
  replace ry := ry.on b
  rewrite [cR b kl] at k0 k1 k2
  replace kl := lK b kl
  rewrite [cR b gl] at g0 g1
  replace gl := lK b gl
  rewrite [cR b bal] at ba0 ba1
  replace bal := lK b bal
  rewrite [cR b bbl] at bb0 bb1
  replace bbl := lK b bbl
  rewrite [cR b bcl] at bc0 bc1 bc2
  replace bcl := lK b bcl
  rewrite [cR b bdl] at bd0 bd1 bd2
  replace bdl := lK b bdl
  replace cc := bK cc b
  clear b
  go_wp2_with fail
  generalize hv_ : w10.alloc (.cells #[.bool bu, .slice Au nu cu, .slice Bu mu du] 51) = v11
  have bA : Below w10.heap.size w10 v11 := by rw [← hv_]; exact below_one _ _
  rewrite [fR bA gl] at f0 f1
  replace hx := hx.on bA
  replace zl := zl.on bA
  replace zh := zh.on bA
  replace rx := rx.on bA
  replace ry := ry.on bA
  replace ru := ru.on bA
  rewrite [cR bA kl] at k0 k1 k2
  replace kl := lK bA kl
  rewrite [cR bA gl] at g0 g1
  replace gl := lK bA gl
  rewrite [cR bA bal] at ba0 ba1
  replace bal := lK bA bal
  rewrite [cR bA bbl] at bb0 bb1
  replace bbl := lK bA bbl
  rewrite [cR bA bcl] at bc0 bc1 bc2
  replace bcl := lK bA bcl
  rewrite [cR bA bdl] at bd0 bd1 bd2
  replace bdl := lK bA bdl
  replace cc := bK cc bA
  clear bA
  obtain ⟨be0, be1, be2⟩ : Cs3 v11 w10.heap.size (.bool bu) (.slice Au nu cu) (.slice Bu mu du) := by simp [Cs3, ← hv_, go_sem]
  have bel : w10.heap.size < v11.heap.size := by simp [← hv_]
  clear hv_
  refine (rtsub_N ry (sh.le (by omega)) hx (s0.le (by omega))).mono ?_
  rintro e w12 ⟨bv, Av, nv, cv, Bv, mv, dv, rfl, rv, b⟩
  rewrite [fR b gl] at f0 f1
  replace hx := hx.on b
  replace zl := zl.on b
  replace zh := zh.on b
  replace rx := rx.on b
  replace ry := ry.on b
  replace ru := ru.on b
  rewrite [cR b kl] at k0 k1 k2
  replace kl := lK b kl
  rewrite [cR b gl] at g0 g1
  replace gl := lK b gl
  rewrite [cR b bal] at ba0 ba1
  replace bal := lK b bal
  rewrite [cR b bbl] at bb0 bb1
  replace bbl := lK b bbl
  rewrite [cR b bcl] at bc0 bc1 bc2
  replace bcl := lK b bcl
  rewrite [cR b bdl] at bd0 bd1 bd2
  replace bdl := lK b bdl
  rewrite [cR b bel] at be0 be1 be2
  replace bel := lK b bel
  replace cc := bK cc b
  clear b
  go_wp2_with fail
  generalize hv_ : w12.alloc (.cells #[.bool bv, .slice Av nv cv, .slice Bv mv dv] 51) = v13
  have bA : Below w12.heap.size w12 v13 := by rw [← hv_]; exact below_one _ _
  rewrite [fR bA gl] at f0 f1
  replace hx := hx.on bA
  replace zl := zl.on bA
  replace zh := zh.on bA
  replace rx := rx.on bA
  replace ry := ry.on bA
  replace ru := ru.on bA
  replace rv := rv.on bA
  rewrite [cR bA kl] at k0 k1 k2
  replace kl := lK bA kl
  rewrite [cR bA gl] at g0 g1
  replace gl := lK bA gl
  rewrite [cR bA bal] at ba0 ba1
  replace bal := lK bA bal
  rewrite [cR bA bbl] at bb0 bb1
  replace bbl := lK bA bbl
  rewrite [cR bA bcl] at bc0 bc1 bc2
  replace bcl := lK bA bcl
  rewrite [cR bA bdl] at bd0 bd1 bd2
  replace bdl := lK bA bdl
  rewrite [cR bA bel] at be0 be1 be2
  replace bel := lK bA bel
  replace cc := bK cc bA
  clear bA
  obtain ⟨bf0, bf1, bf2⟩ : Cs3 v13 w12.heap.size (.bool bv) (.slice Av nv cv) (.slice Bv mv dv) := by simp [Cs3, ← hv_, go_sem]
  have bfl : w12.heap.size < v13.heap.size := by simp [← hv_]
  clear hv_
  refine (rtcmp_v cn ru (su.le (by omega)) rv (sv.le (by omega)) HC.out).mono ?_
  rintro e w14 ⟨rfl, b⟩
  rewrite [fR b gl] at f0 f1
  replace hx := hx.on b
  replace zl := zl.on b
  replace zh := zh.on b
  replace rx := rx.on b
  replace ry := ry.on b
  replace ru := ru.on b
  replace rv := rv.on b
  rewrite [cR b kl] at k0 k1 k2
  replace kl := lK b kl
  rewrite [cR b gl] at g0 g1
  replace gl := lK b gl
  rewrite [cR b bal] at ba0 ba1
  replace bal := lK b bal
  rewrite [cR b bbl] at bb0 bb1
  replace bbl := lK b bbl
  rewrite [cR b bcl] at bc0 bc1 bc2
  replace bcl := lK b bcl
  rewrite [cR b bdl] at bd0 bd1 bd2
  replace bdl := lK b bdl
  rewrite [cR b bel] at be0 be1 be2
  replace bel := lK b bel
  rewrite [cR b bfl] at bf0 bf1 bf2
  replace bfl := lK b bfl
  replace cc := bK cc b
  clear b
  have hn : Zn w14 bh Ah nh ch (nea x0 j.toNat) := by rw [HN.out]; exact zh
  have eb : Box w14 (w.heap.size + 1) false none 0 0 := ⟨g0, g1⟩
  have HZ : Hid (Zn ((w14.setCell ⟨w.heap.size + 1, 0, none⟩ (.bool bh)).setCell ⟨w.heap.size + 1, 1, none⟩ (.slice Ah nh ch)) bh Ah nh ch (nea x0 j.toNat)) := Lib.hid (hn.put eb _ _)
  clear hn
  go_wp2_with fail
  refine bodyPost_ret (v := .tuple #[.agg #[.bool bh, .slice Ah nh ch], .int .i64 0]) (by simp [results, Tryz.results55, go_sem, g0, g1]) rfl ⟨_, _, _, _, rfl, HZ.out, below_put cc (by omega) _ _⟩

theorem rnear_N {w : World} {b0 : Bool} {A0 B0 : Option Addr} {n0 c0 m0 d0 : Nat} {x0 : Rat} (hx : Rt w b0 A0 n0 c0 B0 m0 d0 x0) (s0 : Sz x0 15) {j : Int} (h0 : 0 ≤ j) (h1 : j ≤ 500) :
    Calls Tryz.prog 55 #[.agg #[.bool b0, .slice A0 n0 c0, .slice B0 m0 d0], .int .i64 j] w (GotZp w (nea x0 j.toNat) 0) := by
  by_cases hc : cmpQ (x0 - bak (flo x0 j.toNat) j.toNat) (bak (cei x0 j.toNat) j.toNat - x0) < 0
  · exact rnear_lt hx s0 h0 h1 hc
  · by_cases he : cmpQ (x0 - bak (flo x0 j.toNat) j.toNat) (bak (cei x0 j.toNat) j.toNat - x0) = 0
    · by_cases h2 : flo x0 j.toNat % 2 = 0
      · exact rnear_even hx s0 h0 h1 he h2
      · exact rnear_odd hx s0 h0 h1 he h2
    · exact rnear_gt hx s0 h0 h1 hc he

theorem rnear_no {w : World} {b0 : Bool} {A0 B0 : Option Addr} {n0 c0 m0 d0 : Nat} {x0 : Rat} (hx : Rt w b0 A0 n0 c0 B0 m0 d0 x0) (s0 : Sz x0 15)  {j : Int} (h : j < 0 ∨ 2000 < j) :
    Calls Tryz.prog 55 #[.agg #[.bool b0, .slice A0 n0 c0, .slice B0 m0 d0], .int .i64 j] w (GotZp w 0 1) := by
  have cc := Below.refl w.heap.size w
  go_enter Tryz.func55, Tryz.ntmps55
  go_wp2_with fail
  generalize hv_ : (w.alloc (.cells #[.bool b0, .slice A0 n0 c0, .slice B0 m0 d0] 51)).alloc (.cells #[.bool false, .slice none 0 0] 49) = v1
  obtain ⟨f0, f1⟩ : Fz2 v1 (w.heap.size + 1) := by simp [Fz2, ← hv_, go_sem]
  have bA : Below w.heap.size w v1 := by rw [← hv_]; exact (((Below.refl _ w).alloc (by simp) _).alloc (by simp) _)
  replace hx := hx.on bA
  replace cc := bK cc bA
  clear bA
  obtain ⟨k0, k1, k2⟩ : Cs3 v1 w.heap.size (.bool b0) (.slice A0 n0 c0) (.slice B0 m0 d0) := by simp [Cs3, ← hv_, go_sem]
  have kl : w.heap.size < v1.heap.size := by simp [← hv_] <;> omega
  obtain ⟨g0, g1⟩ : Cs2 v1 (w.heap.size + 1) (.bool false) (.slice none 0 0) := by simp [Cs2, ← hv_, go_sem]
  have gl : w.heap.size + 1 < v1.heap.size := by simp [← hv_] <;> omega
  clear hv_
  refine (rfloor_no h).mono ?_
  rintro e w2 ⟨bl, Al, nl, cl, rfl, zl, b⟩
  rewrite [fR b gl] at f0 f1
  replace hx := hx.on b
  rewrite [cR b kl] at k0 k1 k2
  replace kl := lK b kl
  rewrite [cR b gl] at g0 g1
  replace gl := lK b gl
  replace cc := bK cc b
  clear b
  have eb : Box w2 (w.heap.size + 1) false none 0 0 := ⟨g0, g1⟩
  have HC := Lib.hid ((eb.put bl Al nl cl).alloc (.cells #[.bool bl, .slice Al nl cl] 49))
  have HZ := Lib.hid ((zl.put eb (.bool bl) (.slice Al nl cl)).alloc (.cells #[.bool bl, .slice Al nl cl] 49))
  have HB := Lib.hid ((below_put cc (show w.heap.size ≤ w.heap.size + 1 by omega) (.bool bl) (.slice Al nl cl)).alloc (by simp; omega) (.cells #[.bool bl, .slice Al nl cl] 49))
  go_wp2_with fail
  obtain ⟨e0, e1⟩ := HC.out
  refine bodyPost_ret (v := .tuple #[.agg #[.bool bl, .slice Al nl cl], .int .i64 1]) (by simp only [results, Tryz.results55]; simp [go_sem, e0, e1]) rfl ⟨_, _, _, _, rfl, HZ.out, HB.out⟩

end Go.Proofs.YtmaolhajeoigpaaGreat

/-
  The contracts of the eighth reference: near, frac, Of, Rat.
-/
namespace Go.Proofs.YtmaolhajeoigpaaGreat
set_option maxRecDepth 100000
set_option maxHeartbeats 8000000
open Go.RowKit
set_option linter.unusedVariables false
set_option linter.unusedSimpArgs false

/-- What is told of a whole number: itself, where 64 bits hold it; else 0 and ErrRange. -/
def nI (z : Int) : Int := if -9223372036854775808 ≤ z ∧ z ≤ 9223372036854775807 then z else 0
def nE (z : Int) : Int := if -9223372036854775808 ≤ z ∧ z ≤ 9223372036854775807 then 0 else 2
theorem nI_yes {z : Int} (h : I64 z) : nI z = z ∧ nE z = 0 := ⟨if_pos h, if_pos h⟩
theorem nI_no {z : Int} (h : ¬ I64 z) : nI z = 0 ∧ nE z = 2 := ⟨if_neg h, if_neg h⟩

theorem near_yes {w : World} {b0 : Bool} {A0 B0 : Option Addr} {n0 c0 m0 d0 : Nat} {x0 : Rat} (h0 : Rt w b0 A0 n0 c0 B0 m0 d0 x0) (s0 : Sz x0 15) {j : Int} (j0 : 0 ≤ j) (j1 : j ≤ 500) (hi : I64 (nea x0 j.toNat)) :
    Calls Tryz.prog 28 #[.agg #[.bool b0, .slice A0 n0 c0, .slice B0 m0 d0], .int .i64 j] w (GotV w (.tuple #[.int .i64 (nea x0 j.toNat), .int .i64 (0)])) := by
  have lz_ := nea_len s0 (show j.toNat ≤ 500 by omega)
  have cc := Below.refl w.heap.size w
  go_enter Tryz.func28, Tryz.ntmps28
  go_wp2_with fail
  generalize hv_ : w.alloc (.cells #[.bool b0, .slice A0 n0 c0, .slice B0 m0 d0] 51) = v1
  have bA : Below w.heap.size w v1 := by rw [← hv_]; exact ((Below.refl _ w).alloc (by simp) _)
  replace h0 := h0.on bA
  replace cc := bK cc bA
  clear bA
  obtain ⟨ka0, ka1, ka2⟩ : Cs3 v1 w.heap.size (.bool b0) (.slice A0 n0 c0) (.slice B0 m0 d0) := by simp [Cs3, ← hv_, go_sem]
  have kal : w.heap.size < v1.heap.size := by simp [← hv_] <;> omega
  clear hv_
  refine (rnear_N h0 s0 j0 j1).mono ?_
  rintro e w2 ⟨bz, Az, nz, cz, rfl, hz, b⟩
  replace h0 := h0.on b
  rewrite [cR b kal] at ka0 ka1 ka2
  replace kal := lK b kal
  replace cc := bK cc b
  clear b
  go_wp2_with fail
  generalize hv_ : w2.alloc (.cells #[.bool bz, .slice Az nz cz] 49) = v3
  have bA : Below w2.heap.size w2 v3 := by rw [← hv_]; exact below_one _ _
  replace h0 := h0.on bA
  replace hz := hz.on bA
  rewrite [cR bA kal] at ka0 ka1 ka2
  replace kal := lK bA kal
  replace cc := bK cc bA
  clear bA
  obtain ⟨zb0, zb1⟩ : Cs2 v3 w2.heap.size (.bool bz) (.slice Az nz cz) := by simp [Cs2, ← hv_, go_sem]
  have zbl : w2.heap.size < v3.heap.size := by simp [← hv_]
  clear hv_
  refine (rzint_yes hz hi).mono ?_
  rintro e w4 ⟨rfl, b⟩
  replace h0 := h0.on b
  replace hz := hz.on b
  rewrite [cR b kal] at ka0 ka1 ka2
  replace kal := lK b kal
  rewrite [cR b zbl] at zb0 zb1
  replace zbl := lK b zbl
  replace cc := bK cc b
  clear b
  go_wp2_with fail
  go_ret2
  exact ⟨rfl, cc⟩

theorem near_no {w : World} {b0 : Bool} {A0 B0 : Option Addr} {n0 c0 m0 d0 : Nat} {x0 : Rat} (h0 : Rt w b0 A0 n0 c0 B0 m0 d0 x0) (s0 : Sz x0 15) {j : Int} (j0 : 0 ≤ j) (j1 : j ≤ 500) (hi : ¬ I64 (nea x0 j.toNat)) :
    Calls Tryz.prog 28 #[.agg #[.bool b0, .slice A0 n0 c0, .slice B0 m0 d0], .int .i64 j] w (GotV w (.tuple #[.int .i64 (0), .int .i64 (2)])) := by
  have lz_ := nea_len s0 (show j.toNat ≤ 500 by omega)
  have cc := Below.refl w.heap.size w
  go_enter Tryz.func28, Tryz.ntmps28
  go_wp2_with fail
  generalize hv_ : w.alloc (.cells #[.bool b0, .slice A0 n0 c0, .slice B0 m0 d0] 51) = v1
  have bA : Below w.heap.size w v1 := by rw [← hv_]; exact ((Below.refl _ w).alloc (by simp) _)
  replace h0 := h0.on bA
  replace cc := bK cc bA
  clear bA
  obtain ⟨ka0, ka1, ka2⟩ : Cs3 v1 w.heap.size (.bool b0) (.slice A0 n0 c0) (.slice B0 m0 d0) := by simp [Cs3, ← hv_, go_sem]
  have kal : w.heap.size < v1.heap.size := by simp [← hv_] <;> omega
  clear hv_
  refine (rnear_N h0 s0 j0 j1).mono ?_
  rintro e w2 ⟨bz, Az, nz, cz, rfl, hz, b⟩
  replace h0 := h0.on b
  rewrite [cR b kal] at ka0 ka1 ka2
  replace kal := lK b kal
  replace cc := bK cc b
  clear b
  go_wp2_with fail
  generalize hv_ : w2.alloc (.cells #[.bool bz, .slice Az nz cz] 49) = v3
  have bA : Below w2.heap.size w2 v3 := by rw [← hv_]; exact below_one _ _
  replace h0 := h0.on bA
  replace hz := hz.on bA
  rewrite [cR bA kal] at ka0 ka1 ka2
  replace kal := lK bA kal
  replace cc := bK cc bA
  clear bA
  obtain ⟨zb0, zb1⟩ : Cs2 v3 w2.heap.size (.bool bz) (.slice Az nz cz) := by simp [Cs2, ← hv_, go_sem]
  have zbl : w2.heap.size < v3.heap.size := by simp [← hv_]
  clear hv_
  refine (rzint_no hz (Nat.le_trans lz_ (by omega)) hi).mono ?_
  rintro e w4 ⟨rfl, b⟩
  replace h0 := h0.on b
  replace hz := hz.on b
  rewrite [cR b kal] at ka0 ka1 ka2
  replace kal := lK b kal
  rewrite [cR b zbl] at zb0 zb1
  replace zbl := lK b zbl
  replace cc := bK cc b
  clear b
  go_wp2_with fail
  go_ret2
  exact ⟨rfl, cc⟩

theorem near_N {w : World} {b0 : Bool} {A0 B0 : Option Addr} {n0 c0 m0 d0 : Nat} {x0 : Rat} (h0 : Rt w b0 A0 n0 c0 B0 m0 d0 x0) (s0 : Sz x0 15) {j : Int} (j0 : 0 ≤ j) (j1 : j ≤ 500) :
    Calls Tryz.prog 28 #[.agg #[.bool b0, .slice A0 n0 c0, .slice B0 m0 d0], .int .i64 j] w (GotV w (.tuple #[.int .i64 (nI (nea x0 j.toNat)), .int .i64 (nE (nea x0 j.toNat))])) := by
  by_cases hi : I64 (nea x0 j.toNat)
  · rw [(nI_yes hi).1, (nI_yes hi).2]; exact near_yes h0 s0 j0 j1 hi
  · rw [(nI_no hi).1, (nI_no hi).2]; exact near_no h0 s0 j0 j1 hi

theorem frac_0 (w : World) {j : Int} (h : j < 0) :
    Calls Tryz.prog 68 #[.int .i64 j] w (GotV w (.bool false)) := by
  have t1 : decide (0 ≤ j) = false := decide_eq_false (by omega)
  go_enter Tryz.func68, Tryz.ntmps68
  go_wp2_with fail
  go_ret
  exact ⟨rfl, Below.refl _ _⟩

theorem frac_1 (w : World) {j : Int} (h0 : 0 ≤ j) (h1 : 40 < j) :
    Calls Tryz.prog 68 #[.int .i64 j] w (GotV w (.bool false)) := by
  have t1 : decide (0 ≤ j) = true := decide_eq_true h0
  have t2 : decide (j ≤ 40) = false := decide_eq_false (by omega)
  go_enter Tryz.func68, Tryz.ntmps68
  go_wp2_with fail
  go_ret
  exact ⟨rfl, Below.refl _ _⟩

theorem frac_2 (w : World) {j : Int} (h0 : 0 ≤ j) (h1 : j ≤ 40) :
    Calls Tryz.prog 68 #[.int .i64 j] w (GotV w (.bool true)) := by
  have t1 : decide (0 ≤ j) = true := decide_eq_true h0
  have t2 : decide (j ≤ 40) = true := decide_eq_true (by omega)
  go_enter Tryz.func68, Tryz.ntmps68
  go_wp2_with fail
  go_ret
  exact ⟨rfl, Below.refl _ _⟩

theorem frac_no (w : World) {j : Int} (h : j < 0 ∨ 40 < j) :
    Calls Tryz.prog 68 #[.int .i64 j] w (GotV w (.bool false)) := by
  by_cases h0 : 0 ≤ j
  · exact frac_1 w h0 (by omega)
  · exact frac_0 w (by omega)

theorem rof8_N {w : World} {b0 : Bool} {A0 B0 : Option Addr} {n0 c0 m0 d0 : Nat} {x0 : Rat} (h0 : Rt w b0 A0 n0 c0 B0 m0 d0 x0) (s0 : Sz x0 15) {j : Int} (j0 : 0 ≤ j) (j1 : j ≤ 40) :
    Calls Tryz.prog 35 #[.agg #[.bool b0, .slice A0 n0 c0, .slice B0 m0 d0], .int .i64 j] w (GotV w (.tuple #[.int .i64 (nI (nea x0 j.toNat)), .int .i64 (nE (nea x0 j.toNat))])) := by
  have cc := Below.refl w.heap.size w
  go_enter Tryz.func35, Tryz.ntmps35
  go_wp2_with fail
  generalize hv_ : w.alloc (.cells #[.bool b0, .slice A0 n0 c0, .slice B0 m0 d0] 51) = v1
  have bA : Below w.heap.size w v1 := by rw [← hv_]; exact ((Below.refl _ w).alloc (by simp) _)
  replace h0 := h0.on bA
  replace cc := bK cc bA
  clear bA
  obtain ⟨ka0, ka1, ka2⟩ : Cs3 v1 w.heap.size (.bool b0) (.slice A0 n0 c0) (.slice B0 m0 d0) := by simp [Cs3, ← hv_, go_sem]
  have kal : w.heap.size < v1.heap.size := by simp [← hv_] <;> omega
  clear hv_
  refine (frac_2 _ j0 j1).mono ?_
  rintro e w2 ⟨rfl, b⟩
  replace h0 := h0.on b
  rewrite [cR b kal] at ka0 ka1 ka2
  replace kal := lK b kal
  replace cc := bK cc b
  clear b
  go_wp2_with fail
  refine (near_N h0 s0 j0 (by omega)).mono ?_
  rintro e w3 ⟨rfl, b⟩
  replace h0 := h0.on b
  rewrite [cR b kal] at ka0 ka1 ka2
  replace kal := lK b kal
  replace cc := bK cc b
  clear b
  go_wp2_with fail
  go_ret2
  exact ⟨rfl, cc⟩

theorem rof8_no {w : World} {b0 : Bool} {A0 B0 : Option Addr} {n0 c0 m0 d0 : Nat} {j : Int} (h : j < 0 ∨ 40 < j) :
    Calls Tryz.prog 35 #[.agg #[.bool b0, .slice A0 n0 c0, .slice B0 m0 d0], .int .i64 j] w (GotV w (.tuple #[.int .i64 (0), .int .i64 (1)])) := by
  have cc := Below.refl w.heap.size w
  go_enter Tryz.func35, Tryz.ntmps35
  go_wp2_with fail
  generalize hv_ : w.alloc (.cells #[.bool b0, .slice A0 n0 c0, .slice B0 m0 d0] 51) = v1
  have bA : Below w.heap.size w v1 := by rw [← hv_]; exact ((Below.refl _ w).alloc (by simp) _)
  replace cc := bK cc bA
  clear bA
  obtain ⟨ka0, ka1, ka2⟩ : Cs3 v1 w.heap.size (.bool b0) (.slice A0 n0 c0) (.slice B0 m0 d0) := by simp [Cs3, ← hv_, go_sem]
  have kal : w.heap.size < v1.heap.size := by simp [← hv_] <;> omega
  clear hv_
  refine (frac_no _ h).mono ?_
  rintro e w2 ⟨rfl, b⟩
  rewrite [cR b kal] at ka0 ka1 ka2
  replace kal := lK b kal
  replace cc := bK cc b
  clear b
  go_wp2_with fail
  go_ret2
  exact ⟨rfl, cc⟩

theorem rrat8_N {w : World} {a j : Int} (ha : I64 a) (j0 : 0 ≤ j) (j1 : j ≤ 40) :
    Calls Tryz.prog 36 #[.int .i64 a, .int .i64 j] w (GotRp w (bak a j.toNat) 0) := by
  have cc := Below.refl w.heap.size w
  go_enter Tryz.func36, Tryz.ntmps36
  go_wp2_with fail
  generalize hv_ : w.alloc (.cells #[.bool false, .slice none 0 0, .slice none 0 0] 51) = v1
  obtain ⟨f0, f1, f2⟩ : Fz3 v1 w.heap.size := by simp [Fz3, ← hv_, go_sem]
  have bA : Below w.heap.size w v1 := by rw [← hv_]; exact ((Below.refl _ w).alloc (by simp) _)
  replace cc := bK cc bA
  clear bA
  obtain ⟨g_0, g_1, g_2⟩ : Cs3 v1 w.heap.size (.bool false) (.slice none 0 0) (.slice none 0 0) := by simp [Cs3, ← hv_, go_sem]
  have g_l : w.heap.size < v1.heap.size := by simp [← hv_] <;> omega
  clear hv_
  refine (frac_2 _ j0 j1).mono ?_
  rintro e w2 ⟨rfl, b⟩
  rewrite [fR b g_l] at f0 f1 f2
  rewrite [cR b g_l] at g_0 g_1 g_2
  replace g_l := lK b g_l
  replace cc := bK cc b
  clear b
  go_wp2_with fail
  refine (rzof_N _ a ha).mono ?_
  rintro e w3 ⟨bz, Az, nz, cz, rfl, hz, b⟩
  rewrite [fR b g_l] at f0 f1 f2
  rewrite [cR b g_l] at g_0 g_1 g_2
  replace g_l := lK b g_l
  replace cc := bK cc b
  clear b
  go_wp2_with fail
  refine (rback_N hz (Nat.le_trans (len_one ha.abs) (by omega)) j0 (by omega)).mono ?_
  rintro e w4 ⟨bx, Ax, nx, cx, Bx, mx, dx, rfl, hx, b⟩
  rewrite [fR b g_l] at f0 f1 f2
  replace hz := hz.on b
  rewrite [cR b g_l] at g_0 g_1 g_2
  replace g_l := lK b g_l
  replace cc := bK cc b
  clear b
  have hn : Rt w4 bx Ax nx cx Bx mx dx (bak a j.toNat) := hx
  have eb : BoxR w4 (w.heap.size) false none 0 0 none 0 0 := ⟨g_0, g_1, g_2⟩
  have HZ : Hid (Rt (putR w4 (w.heap.size) (.bool bx) (.slice Ax nx cx) (.slice Bx mx dx)) bx Ax nx cx Bx mx dx (bak a j.toNat)) := Lib.hid (Rt.putR hn eb _ _ _)
  clear hn
  go_wp2_with fail
  refine bodyPost_ret (v := .tuple #[.agg #[.bool bx, .slice Ax nx cx, .slice Bx mx dx], .int .i64 0]) (by simp [results, Tryz.results36, go_sem, g_0, g_1, g_2]) rfl ⟨_, _, _, _, _, _, _, rfl, HZ.out, below_putR cc (by omega) _ _ _⟩

theorem rrat8_no {w : World} {a j : Int} (h : j < 0 ∨ 40 < j) :
    Calls Tryz.prog 36 #[.int .i64 a, .int .i64 j] w (GotV w (.tuple #[.agg #[.bool false, .slice none 0 0, .slice none 0 0], .int .i64 1])) := by
  have cc := Below.refl w.heap.size w
  go_enter Tryz.func36, Tryz.ntmps36
  go_wp2_with fail
  generalize hv_ : w.alloc (.cells #[.bool false, .slice none 0 0, .slice none 0 0] 51) = v1
  obtain ⟨f0, f1, f2⟩ : Fz3 v1 w.heap.size := by simp [Fz3, ← hv_, go_sem]
  have bA : Below w.heap.size w v1 := by rw [← hv_]; exact ((Below.refl _ w).alloc (by simp) _)
  replace cc := bK cc bA
  clear bA
  obtain ⟨g_0, g_1, g_2⟩ : Cs3 v1 w.heap.size (.bool false) (.slice none 0 0) (.slice none 0 0) := by simp [Cs3, ← hv_, go_sem]
  have g_l : w.heap.size < v1.heap.size := by simp [← hv_] <;> omega
  clear hv_
  refine (frac_no _ h).mono ?_
  rintro e w2 ⟨rfl, b⟩
  rewrite [fR b g_l] at f0 f1 f2
  rewrite [cR b g_l] at g_0 g_1 g_2
  replace g_l := lK b g_l
  replace cc := bK cc b
  clear b
  go_wp2_with fail
  exact bodyPost_ret (v := .tuple #[.agg #[.bool false, .slice none 0 0, .slice none 0 0], .int .i64 1]) (by simp [results, Tryz.results36, go_sem, g_0, g_1, g_2]) rfl ⟨rfl, below_putR cc (by omega) _ _ _⟩

end Go.Proofs.YtmaolhajeoigpaaGreat

/-
  An integer that came in: its side, and its digits.
-/
namespace Go.Proofs.YtmaolhajeoigpaaGreat
set_option maxRecDepth 100000
open Go.ChangeShapes Go.WideShapes Go.ChangeAt Go.RowKit Go.Joins

theorem open_zed {H : Type} {enc : TypeId × Value → H} {W : World} {base b0 : Nat} {held : Bool} {r : Reach} {v : Value} {d : DataW H} {p : List MemPlace} (hv : Value.okWide Tryz.prog W r b0 49 v) (h : DataW.Trod enc Tryz.prog W base (fun _ => true) held 49 v d p) :
    ∃ (b : Bool) (a : Option Addr) (len cap : Nat) (l : List Nat), v = .agg #[.bool b, .slice a len cap] ∧ Lim W.heap.size W a len cap l ∧ len ≤ 9223372036854775807 := by
  obtain ⟨v0, v1, y0, y1, n, rfl, _, _, h0, h1⟩ := open_agg2 Tryz.underlying49 (by kernel_rfl) (by kernel_rfl) hv h
  obtain ⟨b, hb, _⟩ := DataW.trod_bool Tryz.underlying4 h0
  injection hb with hb _
  subst hb
  rcases open_ints Tryz.underlying47 Tryz.underlying41 (by kernel_rfl) h1 with ⟨hcs, _⟩ | ⟨x, l, c, zs, hcs, _, hl, hm, hz, _, hcell, hwz⟩
  · injection hcs with hcs _
    subst hcs
    obtain ⟨l, hl, hs⟩ := arg_of_row (w := W) (a := none) (len := 0) (cap := 0) (zs := []) (.inl ⟨rfl, rfl, rfl, rfl⟩)
    exact ⟨b, none, 0, 0, l, rfl, hl, hs⟩
  · injection hcs with hcs _
    subst hcs
    obtain ⟨l', hl', hs⟩ := arg_of_row (w := W) (a := some x) (len := l) (cap := c) (zs := zs) (.inr ⟨x, rfl, hl, hm, by simpa using hz, hcell, hwz⟩)
    exact ⟨b, some x, l, c, l', rfl, hl', hs⟩

end Go.Proofs.YtmaolhajeoigpaaGreat

/-
  A rational that came in: its side, and the digits of both its numbers.
-/
namespace Go.Proofs.YtmaolhajeoigpaaGreat
set_option maxRecDepth 100000
open Go.ChangeShapes Go.WideShapes Go.ChangeAt Go.RowKit Go.Joins

theorem open_nat {H : Type} {enc : TypeId × Value → H} {W : World} {base : Nat} {held : Bool} {v : Value} {y : DataW H × List MemPlace} {n : Nat} (h : DataW.trod enc Tryz.prog W base (fun _ => true) held n 47 [v] = some y) :
    ∃ (a : Option Addr) (len cap : Nat) (l : List Nat), v = .slice a len cap ∧ Lim W.heap.size W a len cap l ∧ len ≤ 9223372036854775807 := by
  rcases open_ints Tryz.underlying47 Tryz.underlying41 (by kernel_rfl) h with ⟨hcs, _⟩ | ⟨x, l, c, zs, hcs, _, hl, hm, hz, _, hcell, hwz⟩
  · injection hcs with hcs _
    subst hcs
    obtain ⟨l, hl, hs⟩ := arg_of_row (w := W) (a := none) (len := 0) (cap := 0) (zs := []) (.inl ⟨rfl, rfl, rfl, rfl⟩)
    exact ⟨none, 0, 0, l, rfl, hl, hs⟩
  · injection hcs with hcs _
    subst hcs
    obtain ⟨l', hl', hs⟩ := arg_of_row (w := W) (a := some x) (len := l) (cap := c) (zs := zs) (.inr ⟨x, rfl, hl, hm, by simpa using hz, hcell, hwz⟩)
    exact ⟨some x, l, c, l', rfl, hl', hs⟩

theorem open_rat {H : Type} {enc : TypeId × Value → H} {W : World} {base b0 : Nat} {held : Bool} {r : Reach} {v : Value} {d : DataW H} {p : List MemPlace} (hv : Value.okWide Tryz.prog W r b0 51 v) (h : DataW.Trod enc Tryz.prog W base (fun _ => true) held 51 v d p) :
    ∃ (b : Bool) (a : Option Addr) (len cap : Nat) (l : List Nat) (a2 : Option Addr) (len2 cap2 : Nat) (l2 : List Nat), v = .agg #[.bool b, .slice a len cap, .slice a2 len2 cap2] ∧ Lim W.heap.size W a len cap l ∧ len ≤ 9223372036854775807 ∧ Lim W.heap.size W a2 len2 cap2 l2 ∧ len2 ≤ 9223372036854775807 := by
  obtain ⟨cs, rfl, hsz⟩ := okWide_struct Tryz.underlying51 hv
  obtain ⟨c0, c1, c2, rfl⟩ := array3 (hsz.trans (by kernel_rfl))
  obtain ⟨fuel, hf⟩ := h
  obtain ⟨y0, y1, n, _, _, h0, h1⟩ := trod_struct2 Tryz.underlying51 hf
  have k0 : Tryz.prog.cellsOf 49 = 2 := by kernel_rfl
  have k1 : Tryz.prog.cellsOf 47 = 1 := by kernel_rfl
  have k2 : Tryz.prog.cellsOf 4 = 1 := by kernel_rfl
  simp only [Value.cells, k0, k1] at h0 h1
  obtain ⟨z0, z1, m, _, _, g0, g1⟩ := trod_struct2 Tryz.underlying49 h0
  simp only [k1, k2] at g0 g1
  obtain ⟨b, hb, _⟩ := DataW.trod_bool Tryz.underlying4 g0
  obtain ⟨a, len, cap, l, e1, hl, hs⟩ := open_nat (v := c1) g1
  obtain ⟨a2, len2, cap2, l2, e2, hl2, hs2⟩ := open_nat (v := c2) h1
  injection hb with hb _
  subst hb e1 e2
  exact ⟨b, a, len, cap, l, a2, len2, cap2, l2, rfl, hl, hs, hl2, hs2⟩

end Go.Proofs.YtmaolhajeoigpaaGreat

/-
  A number, two integers, two numbers that came in.
-/
namespace Go.Proofs.YtmaolhajeoigpaaGreat
set_option maxRecDepth 100000
open Go.ChangeShapes Go.WideShapes Go.ChangeAt Go.RowKit Go.Joins

theorem open_natT {H : Type} {enc : TypeId × Value → H} {W : World} {base b0 : Nat} {held : Bool} {r : Reach} {v : Value} {d : DataW H} {p : List MemPlace} (hv : Value.okWide Tryz.prog W r b0 47 v) (h : DataW.Trod enc Tryz.prog W base (fun _ => true) held 47 v d p) :
    ∃ (a : Option Addr) (len cap : Nat) (l : List Nat), v = .slice a len cap ∧ Lim W.heap.size W a len cap l ∧ len ≤ 9223372036854775807 := by
  obtain ⟨a, len, cap, rfl⟩ := okWide_slice Tryz.underlying47 hv
  obtain ⟨fuel, hf⟩ := h
  exact open_nat hf



end Go.Proofs.YtmaolhajeoigpaaGreat

/-
  What a [2]int64 that is handed over is.
-/
namespace Go.Proofs.YtmaolhajeoigpaaGreat
open Go.ChangeShapes Go.WideShapes Go.ChangeAt Go.RowKit Go.Joins

theorem array_two {α : Type} {cs : Array α} (h : cs.size = 2) : ∃ a b, cs = #[a, b] := by
  obtain ⟨l⟩ := cs
  have h2 : l.length = 2 := h
  match l, h2 with
  | [a, b], _ => exact ⟨a, b, rfl⟩

end Go.Proofs.YtmaolhajeoigpaaGreat

/-
  Schedules that came in.
-/
namespace Go.Proofs.YtmaolhajeoigpaaGreat
set_option maxRecDepth 100000
open Go.ChangeShapes Go.WideShapes Go.ChangeAt Go.RowKit Go.Joins Go.Deep
set_option linter.unusedVariables false

theorem trod_struct8 {H : Type} {enc : TypeId × Value → H} {P : Program} {w : World} {base : Nat} {spare : Nat → Bool} {held : Bool} {t : TypeId} {f0 f1 f2 f3 f4 f5 f6 f7 : Field} {fuel : Nat} {cs : List Value} {x : DataW H × List MemPlace} (ht : P.underlying t = some (.struct #[f0, f1, f2, f3, f4, f5, f6, f7])) (h : DataW.trod enc P w base spare held fuel t cs = some x) :
    ∃ y0 y1 y2 y3 y4 y5 y6 y7 n, cs.length = P.cellsOf t ∧ DataW.trod enc P w base spare held n f0.type ((cs.drop f0.offset).take (P.cellsOf f0.type)) = some y0 ∧ DataW.trod enc P w base spare held n f1.type ((cs.drop f1.offset).take (P.cellsOf f1.type)) = some y1 ∧ DataW.trod enc P w base spare held n f2.type ((cs.drop f2.offset).take (P.cellsOf f2.type)) = some y2 ∧ DataW.trod enc P w base spare held n f3.type ((cs.drop f3.offset).take (P.cellsOf f3.type)) = some y3 ∧ DataW.trod enc P w base spare held n f4.type ((cs.drop f4.offset).take (P.cellsOf f4.type)) = some y4 ∧ DataW.trod enc P w base spare held n f5.type ((cs.drop f5.offset).take (P.cellsOf f5.type)) = some y5 ∧ DataW.trod enc P w base spare held n f6.type ((cs.drop f6.offset).take (P.cellsOf f6.type)) = some y6 ∧ DataW.trod enc P w base spare held n f7.type ((cs.drop f7.offset).take (P.cellsOf f7.type)) = some y7 := by
  obtain ⟨xs, n, _, rfl, hl, hlen, hf⟩ := DataW.trod_struct ht h
  match xs, hlen with
  | [y0, y1, y2, y3, y4, y5, y6, y7], _ => exact ⟨y0, y1, y2, y3, y4, y5, y6, y7, n, hl, by simpa using hf 0 f0 rfl, by simpa using hf 1 f1 rfl, by simpa using hf 2 f2 rfl, by simpa using hf 3 f3 rfl, by simpa using hf 4 f4 rfl, by simpa using hf 5 f5 rfl, by simpa using hf 6 f6 rfl, by simpa using hf 7 f7 rfl⟩
theorem open_sched {H : Type} {enc : TypeId × Value → H} {W : World} {base b0 : Nat} {held : Bool} {r : Reach} {v : Value} {d : DataW H} {p : List MemPlace} (hv : Value.okWide Tryz.prog W r b0 23 v) (h : DataW.Trod enc Tryz.prog W base (fun _ => true) held 23 v d p) :
    ∃ kd ba ra en wa ev la po : Int, v = .agg #[.int .i64 kd, .int .i64 ba, .int .i64 ra, .int .i64 en, .int .i64 wa, .int .i64 ev, .int .i64 la, .int .i64 po] ∧ I64 kd ∧ I64 ba ∧ I64 ra ∧ I64 en ∧ I64 wa ∧ I64 ev ∧ I64 la ∧ I64 po := by
  obtain ⟨cs, rfl, hsz⟩ := okWide_struct Tryz.underlying23 hv
  obtain ⟨fuel, hf⟩ := h
  have k8 : Tryz.prog.cellsOf 23 = 8 := by kernel_rfl
  have ki : Tryz.prog.cellsOf 3 = 1 := by kernel_rfl
  have kj : Tryz.prog.cellsOf 2 = 1 := by kernel_rfl
  obtain ⟨y0, y1, y2, y3, y4, y5, y6, y7, n, _, h0, h1, h2, h3, h4, h5, h6, h7⟩ := trod_struct8 Tryz.underlying23 hf
  obtain ⟨l⟩ := cs
  have hl8 : l.length = 8 := hsz.trans k8
  match l, hl8 with
  | [v0, v1, v2, v3, v4, v5, v6, v7], _ =>
    simp only [Value.cells, ki, kj] at h0 h1 h2 h3 h4 h5 h6 h7
    obtain ⟨kd, q0, _, w0⟩ := DataW.trod_int Tryz.underlying3 h0
    obtain ⟨ba, q1, _, w1⟩ := DataW.trod_int Tryz.underlying2 h1
    obtain ⟨ra, q2, _, w2⟩ := DataW.trod_int Tryz.underlying2 h2
    obtain ⟨en, q3, _, w3⟩ := DataW.trod_int Tryz.underlying2 h3
    obtain ⟨wa, q4, _, w4⟩ := DataW.trod_int Tryz.underlying3 h4
    obtain ⟨ev, q5, _, w5⟩ := DataW.trod_int Tryz.underlying3 h5
    obtain ⟨la, q6, _, w6⟩ := DataW.trod_int Tryz.underlying3 h6
    obtain ⟨po, q7, _, w7⟩ := DataW.trod_int Tryz.underlying3 h7
    have e0 : v0 = .int .i64 kd := by injection q0
    have e1 : v1 = .int .i64 ba := by injection q1
    have e2 : v2 = .int .i64 ra := by injection q2
    have e3 : v3 = .int .i64 en := by injection q3
    have e4 : v4 = .int .i64 wa := by injection q4
    have e5 : v5 = .int .i64 ev := by injection q5
    have e6 : v6 = .int .i64 la := by injection q6
    have e7 : v7 = .int .i64 po := by injection q7
    subst e0 e1 e2 e3 e4 e5 e6 e7
    exact ⟨kd, ba, ra, en, wa, ev, la, po, rfl, bounds_i64 w0, bounds_i64 w1, bounds_i64 w2, bounds_i64 w3, bounds_i64 w4, bounds_i64 w5, bounds_i64 w6, bounds_i64 w7⟩
end Go.Proofs.YtmaolhajeoigpaaGreat

/-
  Plain arithmetic of powers and roots.
-/
namespace Go.Proofs.YtmaolhajeoigpaaGreat

/-- The greatest number up to n whose power of k is at most x. -/
def irootTo (k x : Nat) : Nat → Nat
  | 0 => 0
  | n + 1 => if (n + 1) ^ k ≤ x then n + 1 else irootTo k x n
/-- A root, down. -/
def iroot (k x : Nat) : Nat := irootTo k x x
/-- A root, up. -/
def uroot (k x : Nat) : Nat := if iroot k x ^ k = x then iroot k x else iroot k x + 1

theorem irootTo_pow {k x : Nat} (hk : k ≠ 0) (n : Nat) : irootTo k x n ^ k ≤ x := by
  induction n with
  | zero => unfold irootTo; rw [Nat.zero_pow (by omega)]; omega
  | succ n ih =>
    unfold irootTo
    split
    · assumption
    · exact ih
theorem le_irootTo {k x r : Nat} (n : Nat) (hr : r ≤ n) (h : r ^ k ≤ x) : r ≤ irootTo k x n := by
  induction n with
  | zero => omega
  | succ n ih =>
    unfold irootTo
    split
    · exact hr
    · rename_i hn
      rcases Nat.lt_or_ge n r with h1 | h1
      · have : r = n + 1 := by omega
        subst this; exact absurd h hn
      · exact ih h1
theorem self_le_pow {k : Nat} (r : Nat) (hk : k ≠ 0) : r ≤ r ^ k := Nat.le_self_pow hk r
theorem pow_le {a b : Nat} (k : Nat) (h : a ≤ b) : a ^ k ≤ b ^ k := Nat.pow_le_pow_left h k
theorem pow_lt {a b k : Nat} (hk : k ≠ 0) (h : a < b) : a ^ k < b ^ k := Nat.pow_lt_pow_left h hk
/-- A number is at most the root just if its power is at most the number. -/
theorem le_iroot {k x r : Nat} (hk : k ≠ 0) : r ≤ iroot k x ↔ r ^ k ≤ x := by
  constructor
  · intro h
    exact Nat.le_trans (pow_le k h) (irootTo_pow hk x)
  · intro h
    exact le_irootTo x (Nat.le_trans (self_le_pow r hk) h) h
theorem iroot_pow {k : Nat} (x : Nat) (hk : k ≠ 0) : iroot k x ^ k ≤ x := irootTo_pow hk x
theorem lt_iroot {k : Nat} (x : Nat) (hk : k ≠ 0) : x < (iroot k x + 1) ^ k := by
  rcases Nat.lt_or_ge x ((iroot k x + 1) ^ k) with h | h
  · exact h
  · have := (le_iroot hk).2 h; omega
theorem iroot_eq {k x r : Nat} (hk : k ≠ 0) (h1 : r ^ k ≤ x) (h2 : x < (r + 1) ^ k) : iroot k x = r := by
  have a := (le_iroot hk).2 h1
  rcases Nat.lt_or_ge r (iroot k x) with h | h
  · have := (le_iroot (x := x) (r := r + 1) hk).1 h; omega
  · omega
theorem uroot_le {k x r : Nat} (hk : k ≠ 0) : uroot k x ≤ r ↔ x ≤ r ^ k := by
  unfold uroot
  have h1 := iroot_pow x hk
  have h2 := lt_iroot x hk
  split
  · rename_i e
    constructor
    · intro h
      rw [← e]; exact pow_le k h
    · intro h
      rcases Nat.lt_or_ge r (iroot k x) with h3 | h3
      · have := pow_lt hk h3; omega
      · exact h3
  · rename_i e
    constructor
    · intro h
      have := pow_le k h; omega
    · intro h
      rcases Nat.lt_or_ge (iroot k x) r with h3 | h3
      · exact h3
      · have := pow_le k h3; omega
theorem iroot_le {k : Nat} (x : Nat) (hk : k ≠ 0) : iroot k x ≤ x := Nat.le_trans (self_le_pow _ hk) (iroot_pow x hk)
theorem uroot_le_self {k : Nat} (x : Nat) (hk : k ≠ 0) : uroot k x ≤ x := (uroot_le hk).2 (self_le_pow x hk)

/-- P3.3: the root of a power. -/
theorem iroot_of_pow {k : Nat} (a : Nat) (hk : k ≠ 0) : iroot k (a ^ k) = a := iroot_eq hk (Nat.le_refl _) (pow_lt hk (Nat.lt_succ_self a))
theorem uroot_of_pow {k : Nat} (a : Nat) (hk : k ≠ 0) : uroot k (a ^ k) = a := by unfold uroot; rw [iroot_of_pow a hk, if_pos rfl]
theorem iroot_pred {k a : Nat} (hk : k ≠ 0) (ha : a ≠ 0) : iroot k (a ^ k - 1) = a - 1 := by
  have h1 := pow_lt hk (show a - 1 < a by omega)
  refine iroot_eq hk (by omega) ?_
  rw [Nat.sub_add_cancel (by omega)]
  omega
theorem uroot_pred {k a : Nat} (hk : 2 ≤ k) (ha : 2 ≤ a) : uroot k (a ^ k - 1) = a := by
  unfold uroot
  rw [iroot_pred (by omega) (by omega), if_neg, Nat.sub_add_cancel (by omega)]
  obtain ⟨b, rfl⟩ : ∃ b, a = b + 1 := ⟨a - 1, by omega⟩
  rw [Nat.add_sub_cancel]
  obtain ⟨j, rfl⟩ : ∃ j, k = j + 1 := ⟨k - 1, by omega⟩
  have h1 : b ^ j * 1 ≤ (b + 1) ^ j * 1 := Nat.mul_le_mul_right _ (pow_le j (by omega))
  have h2 : (b + 1) ^ (j + 1) = (b + 1) ^ j * b + (b + 1) ^ j := by rw [Nat.pow_succ, Nat.mul_add, Nat.mul_one]
  have h3 : b ^ (j + 1) ≤ (b + 1) ^ j * b := by rw [Nat.pow_succ]; exact Nat.mul_le_mul_right _ (pow_le j (by omega))
  have h4 : 1 < (b + 1) ^ j := Nat.one_lt_pow (by omega) (by omega)
  omega
theorem uroot_zero {k : Nat} (hk : k ≠ 0) : uroot k 0 = 0 := by
  have := uroot_le_self 0 hk; omega
theorem iroot_mono {k a b : Nat} (hk : k ≠ 0) (h : a ≤ b) : iroot k a ≤ iroot k b := (le_iroot hk).2 (Nat.le_trans (iroot_pow a hk) h)
theorem iroot_higher {k : Nat} (a : Nat) (hk : k ≠ 0) : iroot (k + 1) a ≤ iroot k a := by
  refine (le_iroot hk).2 ?_
  have h := iroot_pow a (k := k + 1) (by omega)
  rcases Nat.eq_zero_or_pos (iroot (k + 1) a) with h0 | h0
  · rw [h0, Nat.zero_pow (by omega)]; omega
  · exact Nat.le_trans (Nat.pow_le_pow_right h0 (by omega)) h
theorem iroot_one (a : Nat) : iroot 1 a = a := iroot_eq (by omega) (by rw [Nat.pow_one]; omega) (by rw [Nat.pow_one]; omega)
theorem iroot_iroot {k n : Nat} (a : Nat) (hk : k ≠ 0) (hn : n ≠ 0) : iroot n (iroot k a) = iroot (k * n) a := by
  have hkn : k * n ≠ 0 := Nat.mul_ne_zero hk hn
  have key : ∀ r, r ≤ iroot n (iroot k a) ↔ r ≤ iroot (k * n) a := fun r => by
    rw [le_iroot hn, le_iroot hk, le_iroot hkn, ← Nat.pow_mul, Nat.mul_comm n k]
  exact Nat.le_antisymm ((key _).1 (Nat.le_refl _)) ((key _).2 (Nat.le_refl _))
theorem iroot_mul {k : Nat} (a b : Nat) (hk : k ≠ 0) : iroot k a * iroot k b ≤ iroot k (a * b) := by
  rw [le_iroot hk, Nat.mul_pow]
  exact Nat.mul_le_mul (iroot_pow a hk) (iroot_pow b hk)
theorem le_uroot_pow {k : Nat} (x : Nat) (hk : k ≠ 0) : x ≤ uroot k x ^ k := (uroot_le hk).1 (Nat.le_refl _)
theorem uroot_mul {k : Nat} (a b : Nat) (hk : k ≠ 0) : uroot k (a * b) ≤ uroot k a * uroot k b := by
  rw [uroot_le hk, Nat.mul_pow]
  exact Nat.mul_le_mul (le_uroot_pow a hk) (le_uroot_pow b hk)

theorem limbs_length_pow {a m : Nat} (h : (limbs a).length ≤ m) (k : Nat) : (limbs (a ^ k)).length ≤ m * k + 1 := by
  refine Nat.le_trans (limbs_length_le (n := a ^ k) (k := m * k + 1) ?_) (Nat.le_refl _)
  have h1 : a ^ k ≤ (B64 ^ m) ^ k := pow_le k (Nat.le_of_lt (lt_of_limbs_length h))
  rw [← Nat.pow_mul] at h1
  have h2 : B64 ^ (m * k) < B64 ^ (m * k + 1) := Nat.pow_lt_pow_right B64_gt (Nat.lt_succ_self _)
  omega

/-- The reference's loop: its start, a step, its end. -/
theorem root_start {a b k : Nat} (hk : k ≠ 0) (ha : a < 2 ^ b) : a < (0 + 2 ^ (b / k + 1)) ^ k := by
  rw [Nat.zero_add, ← Nat.pow_mul]
  refine Nat.lt_of_lt_of_le ha (Nat.pow_le_pow_right (by omega) ?_)
  have := Nat.div_add_mod b k
  have := Nat.mod_lt b (show k > 0 by omega)
  rw [Nat.add_mul, Nat.one_mul, Nat.mul_comm (b / k)]
  omega
theorem root_step {out i : Nat} : out + 2 ^ (i + 1) = out + 2 ^ i + 2 ^ i := by rw [Nat.pow_succ]; omega

end Go.Proofs.YtmaolhajeoigpaaGreat

/-
  Rates by schedules: what is right, what the rate of a step is; numbers alone.
-/
namespace Go.Proofs.YtmaolhajeoigpaaGreat
set_option linter.unusedVariables false
set_option linter.unusedSimpArgs false

/-- A schedule is right, with f. -/
def OkR (f kd ba ra en wa ev la po : Int) : Prop :=
  (0 ≤ f ∧ f ≤ 40) ∧ (0 ≤ kd ∧ kd ≤ 3) ∧ 0 ≤ ba ∧ (0 ≤ wa ∧ wa ≤ 1000000) ∧ (kd = 2 → (1 ≤ ev ∧ ev ≤ 1000000) ∧ 0 ≤ ra ∧ ra ≤ ((2 ^ f.toNat : Nat) : Int)) ∧ (kd = 3 → (1 ≤ la ∧ la ≤ 1000000) ∧ (1 ≤ po ∧ po ≤ 8) ∧ 0 ≤ en ∧ en ≤ ba)
instance (f kd ba ra en wa ev la po : Int) : Decidable (OkR f kd ba ra en wa ev la po) := by unfold OkR; infer_instance
/-- By steps: so often times the rate. -/
def dropR (ba ra : Int) (d : Nat) : Nat → Int
  | 0 => ba
  | i + 1 => rn (dropR ba ra d i * ra) d
/-- By the root of the step. -/
def fellR (ba wa t : Int) : Int := ((iroot 2 (ba.toNat * ba.toNat * (max wa 1).toNat / t.toNat) : Nat) : Int)
/-- By a power. -/
def polyR (ba en t la po : Int) : Int := if la ≤ t then en else en + rn ((ba - en) * (la - t) ^ po.toNat) (la.toNat ^ po.toNat)
/-- The rate of a step. -/
def rt15 (f kd ba ra en wa ev la po t : Int) : Int :=
  if t ≤ wa then rn (ba * t) wa.toNat else if kd = 1 then fellR ba wa t else if kd = 3 then polyR ba en t la po else if kd = 2 then dropR ba ra (2 ^ f.toNat) (min ((t - wa) / ev) 200).toNat else ba
def rI (f kd ba ra en wa ev la po t : Int) : Prop := OkR f kd ba ra en wa ev la po ∧ 1 ≤ t ∧ t ≤ 1000000

instance (f kd ba ra en wa ev la po t : Int) : Decidable (rI f kd ba ra en wa ev la po t) := by unfold rI; infer_instance
/-- What Rate tells. -/
def rV (f kd ba ra en wa ev la po t : Int) : Int := if rI f kd ba ra en wa ev la po t then rt15 f kd ba ra en wa ev la po t else 0
def rE (f kd ba ra en wa ev la po t : Int) : Int := if rI f kd ba ra en wa ev la po t then 0 else 1
theorem rn_le {x ra : Int} {d : Nat} (hd : d ≠ 0) (hx : 0 ≤ x) (h : ra ≤ (d : Int)) : rn (x * ra) d ≤ x := by
  have h1 := rn_mono (n := x * ra) (m := x * (d : Int)) hd (Int.mul_le_mul_of_nonneg_left h hx)
  rwa [rn_self x hd] at h1
theorem rn_nonneg {x : Int} {d : Nat} (hd : d ≠ 0) (hx : 0 ≤ x) : 0 ≤ rn x d := by
  have h1 := rn_mono (n := 0 * (d : Int)) (m := x) hd (by omega)
  rwa [rn_self 0 hd] at h1
theorem drop_in {ba ra : Int} {d : Nat} (hd : d ≠ 0) (hb : 0 ≤ ba) (h0 : 0 ≤ ra) (h1 : ra ≤ (d : Int)) : ∀ i, 0 ≤ dropR ba ra d i ∧ dropR ba ra d i ≤ ba
  | 0 => ⟨hb, Int.le_refl _⟩
  | i + 1 => by
    obtain ⟨h2, h3⟩ := drop_in hd hb h0 h1 i
    exact ⟨rn_nonneg hd (Int.mul_nonneg h2 h0), Int.le_trans (rn_le hd h2 h1) h3⟩
theorem drop_mono {ba ra : Int} {d : Nat} (hd : d ≠ 0) (hb : 0 ≤ ba) (h0 : 0 ≤ ra) (h1 : ra ≤ (d : Int)) (i k : Nat) : dropR ba ra d (i + k) ≤ dropR ba ra d i := by
  induction k with
  | zero => exact Int.le_refl _
  | succ k ih => exact Int.le_trans (rn_le hd (drop_in hd hb h0 h1 (i + k)).1 h1) ih
theorem drop_one {ba : Int} {d : Nat} (hd : d ≠ 0) : ∀ i, dropR ba (d : Int) d i = ba
  | 0 => rfl
  | i + 1 => by show rn (dropR ba (d : Int) d i * (d : Int)) d = ba; rw [drop_one hd i, rn_self ba hd]
theorem fell_le {ba wa t : Int} (hb : 0 ≤ ba) (ht : wa < t) (h1 : 1 ≤ t) : 0 ≤ fellR ba wa t ∧ fellR ba wa t ≤ ba := by
  refine ⟨Int.natCast_nonneg _, ?_⟩
  unfold fellR
  have h2 : iroot 2 (ba.toNat * ba.toNat * (max wa 1).toNat / t.toNat) ≤ iroot 2 (ba.toNat ^ 2) := by
    refine iroot_mono (by omega) (Nat.le_trans (Nat.div_le_div_left (show (max wa 1).toNat ≤ t.toNat by omega) (show 0 < (max wa 1).toNat by omega)) ?_)
    rw [Nat.mul_div_cancel _ (by omega), Nat.pow_two]
    exact Nat.le_refl _
  rw [iroot_of_pow _ (by omega)] at h2
  omega
theorem fell_mono {ba wa t u : Int} (h1 : 1 ≤ t) (h : t ≤ u) : fellR ba wa u ≤ fellR ba wa t := by
  unfold fellR
  exact Int.ofNat_le.2 (iroot_mono (by omega) (Nat.div_le_div_left (by omega) (by omega)))
theorem fell_base {b c wa t : Int} (hb : 0 ≤ b) (h : b ≤ c) : fellR b wa t ≤ fellR c wa t := by
  unfold fellR
  refine Int.ofNat_le.2 (iroot_mono (by omega) (Nat.div_le_div_right (Nat.mul_le_mul_right _ (Nat.mul_le_mul ?_ ?_)))) <;> omega
/-- The root's square, times the step; that of one more. -/
theorem fell_root {ba wa t : Int} (hb : 0 ≤ ba) (h1 : 1 ≤ t) : (fellR ba wa t).toNat * (fellR ba wa t).toNat * t.toNat ≤ ba.toNat * ba.toNat * (max wa 1).toNat ∧ ba.toNat * ba.toNat * (max wa 1).toNat < ((fellR ba wa t).toNat + 1) * ((fellR ba wa t).toNat + 1) * t.toNat := by
  unfold fellR
  rw [Int.toNat_natCast]
  generalize ba.toNat * ba.toNat * (max wa 1).toNat = x
  have h2 := iroot_pow (k := 2) (x / t.toNat) (by omega)
  have h3 := lt_iroot (k := 2) (x / t.toNat) (by omega)
  rw [Nat.pow_two] at h2 h3
  have ht : 0 < t.toNat := by omega
  exact ⟨(Nat.le_div_iff_mul_le ht).1 h2, (Nat.div_lt_iff_lt_mul ht).1 h3⟩
theorem ipow_le {a b : Int} (h0 : 0 ≤ a) (h : a ≤ b) : ∀ k : Nat, a ^ k ≤ b ^ k
  | 0 => by rw [Int.pow_zero, Int.pow_zero]; exact Int.le_refl _
  | k + 1 => by rw [Int.pow_succ, Int.pow_succ]; exact Int.mul_le_mul (ipow_le h0 h k) h h0 (Int.pow_nonneg (by omega))
theorem poly_in {ba en t la po : Int} (h0 : 0 ≤ en) (h1 : en ≤ ba) (hl : 1 ≤ la) (ht : 0 ≤ t) : en ≤ polyR ba en t la po ∧ polyR ba en t la po ≤ ba := by
  unfold polyR
  split
  · exact ⟨Int.le_refl _, h1⟩
  · have hd : la.toNat ^ po.toNat ≠ 0 := Nat.ne_of_gt (Nat.pow_pos (by omega))
    have e : ((la.toNat ^ po.toNat : Nat) : Int) = la ^ po.toNat := by rw [Int.natCast_pow, Int.toNat_of_nonneg (by omega)]
    have p0 : 0 ≤ (la - t) ^ po.toNat := Int.pow_nonneg (by omega)
    have p1 : (la - t) ^ po.toNat ≤ la ^ po.toNat := ipow_le (by omega) (by omega) _
    have h2 := rn_le (x := ba - en) (ra := (la - t) ^ po.toNat) hd (by omega) (by rw [e]; exact p1)
    have h3 := rn_nonneg (x := (ba - en) * (la - t) ^ po.toNat) hd (Int.mul_nonneg (by omega) p0)
    omega
theorem poly_mono {ba en t u la po : Int} (h0 : 0 ≤ en) (h1 : en ≤ ba) (hl : 1 ≤ la) (ht : 0 ≤ t) (h : t ≤ u) : polyR ba en u la po ≤ polyR ba en t la po := by
  by_cases hu : la ≤ u
  · have h2 := (poly_in (po := po) h0 h1 hl ht).1
    have e : polyR ba en u la po = en := by unfold polyR; rw [if_pos hu]
    omega
  · have hd : la.toNat ^ po.toNat ≠ 0 := Nat.ne_of_gt (Nat.pow_pos (by omega))
    unfold polyR
    rw [if_neg hu, if_neg (by omega)]
    have p1 : (la - u) ^ po.toNat ≤ (la - t) ^ po.toNat := ipow_le (by omega) (by omega) _
    have := rn_mono (n := (ba - en) * (la - u) ^ po.toNat) (m := (ba - en) * (la - t) ^ po.toNat) hd (Int.mul_le_mul_of_nonneg_left p1 (by omega))
    omega
end Go.Proofs.YtmaolhajeoigpaaGreat

/-
  Rows of integers: what a slice value reads as, what keeps it, what is answered; a row of the call's own.
-/
namespace Go.Proofs.YtmaolhajeoigpaaGreat
set_option maxRecDepth 100000
open Go.RowKit
set_option linter.unusedVariables false

/-- An integer as a value. -/
def encI (z : Int) : Value := .int .i64 z
/-- What 64 bits hold. -/
def Fits (z : Int) : Prop := -9223372036854775808 ≤ z ∧ z ≤ 9223372036854775807
theorem Fits.wrap {z : Int} (h : Fits z) : IntKind.i64.wrap z = z := IntWalk.i64_in z h
theorem infoI : (Tryz.prog.info? 2).map (fun i => (i.zero, i.size, i.bytes)) = some (some (.int .i64 0), 1, 8) := by kernel_rfl

/-- The slice value '.slice A n c' holds the integers l. -/
def IR (w : World) (A : Option Addr) (n c : Nat) (l : List Int) : Prop :=
  n = l.length ∧ n ≤ c ∧ (0 < n → ∃ b off, A = some ⟨b, off, none⟩ ∧ b < w.heap.size ∧ ∀ j, j < n → w.cell? ⟨b, off + j, none⟩ = some (.int .i64 (l[j]?.getD 0)))
theorem IR.on {w w' : World} {A : Option Addr} {n c : Nat} {l : List Int} (h : IR w A n c l) (hb : Below w.heap.size w w') : IR w' A n c l :=
  ⟨h.1, h.2.1, fun hn => by
    obtain ⟨b, off, e, hlt, hc⟩ := h.2.2 hn
    exact ⟨b, off, e, Nat.lt_of_lt_of_le hlt hb.size, fun j hj => (hb.cell (p := ⟨b, off + j, none⟩) hlt).trans (hc j hj)⟩⟩
theorem IR.nil (w : World) (A : Option Addr) (c : Nat) : IR w A 0 c [] := ⟨rfl, Nat.zero_le _, fun h => absurd h (by omega)⟩
theorem IR.of_own {w : World} {base : Nat} {e : TypeId} {A : Option Addr} {n c : Nat} {l : List Int} (h : w.ownsRow base e 1 (.slice A n c) n (l.map encI)) : IR w A n c l := by
  have hl : n = l.length := by have := h.1; simp at this; omega
  refine ⟨hl, ?_, fun hn => ?_⟩
  · rcases h.2 with ⟨e1, h0⟩ | ⟨g, cap, cur, e1, _, _, hnc, _⟩
    · omega
    · injection e1 with _ _ e2; omega
  · have hlt := h.lt
    rcases h.2 with ⟨e1, h0⟩ | ⟨g, cap, cur, e1, _, _, hnc, _⟩
    · omega
    · injection e1 with e2 _ e3
      subst e2; subst e3
      refine ⟨g, 0, rfl, (hlt g rfl).2, fun j hj => ?_⟩
      have := h.cellAt j (by omega)
      rw [Nat.zero_add, this, List.getElem?_map, List.getElem?_eq_getElem (by omega)]
      simp [encI]

/-- A row of integers. -/
def GotI (w : World) (l : List Int) (e : Ending) (w' : World) : Prop := ∃ A n c, e = .returned (.slice A n c) ∧ IR w' A n c l ∧ Below w.heap.size w w'
/-- A row of integers, and a code. -/
def GotIp (w : World) (l : List Int) (r : Int) (e : Ending) (w' : World) : Prop := ∃ A n c, e = .returned (.tuple #[.slice A n c, .int .i64 r]) ∧ IR w' A n c l ∧ Below w.heap.size w w'
end Go.Proofs.YtmaolhajeoigpaaGreat
