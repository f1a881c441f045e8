/-
  Several texts in one: DT, JF, L8.
-/
import Derived.Test.YtccigpnebejbiaaGreatA10
import Derived.Test.YtccigpnebejbiaaGreatA3
import Derived.Test.YtccigpnebejbiaaGreatA9
import Derived.Test.YtccigpnebejbiaaGreatA6

/-
  The contracts of dyad: Floor, Ceil, Near, Back.
-/
namespace Go.Proofs.YtccigpnebejbiaaGreat
set_option maxRecDepth 100000
open Go.RowKit
set_option linter.unusedVariables false
set_option linter.unusedSimpArgs false





set_option maxRecDepth 100000 in
set_option maxHeartbeats 8000000 in
theorem dnear_N {w : World} {b0 : Bool} {A0 B0 : Option Addr} {n0 c0 m0 d0 : Nat} {x0 : Rat} (hx : Rt w b0 A0 n0 c0 B0 m0 d0 x0) (s0 : Sz x0 15) {j : Int} (h0 : 0 ≤ j) (h1 : j ≤ 500) :
    Calls Tryz.prog 34 #[.agg #[.bool b0, .slice A0 n0 c0, .slice B0 m0 d0], .int .i64 j] w (GotZp w (nea x0 j.toNat) 0) := by
  have cc := Below.refl w.heap.size w
  go_enter Tryz.func34, Tryz.ntmps34
  go_wp2_with fail
  have f0 : ((w.alloc (.cells #[.bool b0, .slice A0 n0 c0, .slice B0 m0 d0] 33)).alloc (.cells #[.bool false, .slice none 0 0] 31)).frozen? ⟨w.heap.size + 1, 0, none⟩ = false := by simp [go_sem]
  have f1 : ((w.alloc (.cells #[.bool b0, .slice A0 n0 c0, .slice B0 m0 d0] 33)).alloc (.cells #[.bool false, .slice none 0 0] 31)).frozen? ⟨w.heap.size + 1, 1, none⟩ = false := by simp [go_sem]
  have bA : Below w.heap.size w ((w.alloc (.cells #[.bool b0, .slice A0 n0 c0, .slice B0 m0 d0] 33)).alloc (.cells #[.bool false, .slice none 0 0] 31)) := (((Below.refl _ w).alloc (by simp) _).alloc (by simp) _)
  replace hx := hx.on bA
  replace cc := bK cc bA
  clear bA
  have k0 : ((w.alloc (.cells #[.bool b0, .slice A0 n0 c0, .slice B0 m0 d0] 33)).alloc (.cells #[.bool false, .slice none 0 0] 31)).cell? ⟨w.heap.size, 0, none⟩ = some (.bool b0) := by simp [go_sem]
  have k1 : ((w.alloc (.cells #[.bool b0, .slice A0 n0 c0, .slice B0 m0 d0] 33)).alloc (.cells #[.bool false, .slice none 0 0] 31)).cell? ⟨w.heap.size, 1, none⟩ = some (.slice A0 n0 c0) := by simp [go_sem]
  have k2 : ((w.alloc (.cells #[.bool b0, .slice A0 n0 c0, .slice B0 m0 d0] 33)).alloc (.cells #[.bool false, .slice none 0 0] 31)).cell? ⟨w.heap.size, 2, none⟩ = some (.slice B0 m0 d0) := by simp [go_sem]
  have kl : w.heap.size < ((w.alloc (.cells #[.bool b0, .slice A0 n0 c0, .slice B0 m0 d0] 33)).alloc (.cells #[.bool false, .slice none 0 0] 31)).heap.size := by simp <;> omega
  have g0 : ((w.alloc (.cells #[.bool b0, .slice A0 n0 c0, .slice B0 m0 d0] 33)).alloc (.cells #[.bool false, .slice none 0 0] 31)).cell? ⟨w.heap.size + 1, 0, none⟩ = some (.bool false) := by simp [go_sem]
  have g1 : ((w.alloc (.cells #[.bool b0, .slice A0 n0 c0, .slice B0 m0 d0] 33)).alloc (.cells #[.bool false, .slice none 0 0] 31)).cell? ⟨w.heap.size + 1, 1, none⟩ = some (.slice none 0 0) := by simp [go_sem]
  have gl : w.heap.size + 1 < ((w.alloc (.cells #[.bool b0, .slice A0 n0 c0, .slice B0 m0 d0] 33)).alloc (.cells #[.bool false, .slice none 0 0] 31)).heap.size := by simp <;> omega
  generalize (w.alloc (.cells #[.bool b0, .slice A0 n0 c0, .slice B0 m0 d0] 33)).alloc (.cells #[.bool false, .slice none 0 0] 31) = v1 at *
  refine (rdnea_N hx (s0.le (by omega)) h0 h1 ⟨k0, k1, k2⟩).mono ?_
  rintro e w2 ⟨bm, Am, nm, cm, rfl, hm, b⟩
  replace f0 := fK b f0 gl
  replace f1 := fK b f1 gl
  replace hx := hx.on b
  replace k0 := cK b k0 kl
  replace k1 := cK b k1 kl
  replace k2 := cK b k2 kl
  replace kl := lK b kl
  replace g0 := cK b g0 gl
  replace g1 := cK b g1 gl
  replace gl := lK b gl
  replace cc := bK cc b
  clear b
  have hn : Zn w2 bm Am nm cm (nea x0 j.toNat) := hm
  have eb : Box w2 (w.heap.size + 1) false none 0 0 := ⟨g0, g1⟩
  have HZ : Hid (Zn ((w2.setCell ⟨w.heap.size + 1, 0, none⟩ (.bool bm)).setCell ⟨w.heap.size + 1, 1, none⟩ (.slice Am nm cm)) bm Am nm cm (nea x0 j.toNat)) := Lib.hid (hn.put eb _ _)
  clear hn
  go_wp2_with fail
  refine bodyPost_ret (v := .tuple #[.agg #[.bool bm, .slice Am nm cm], .int .i64 0]) (by simp [results, Tryz.results34, go_sem, g0, g1]) rfl ⟨_, _, _, _, rfl, HZ.out, below_put cc (by omega) _ _⟩

set_option maxRecDepth 100000 in
set_option maxHeartbeats 8000000 in
theorem dnear_no {w : World} {b0 : Bool} {A0 B0 : Option Addr} {n0 c0 m0 d0 : Nat} {x0 : Rat} (hx : Rt w b0 A0 n0 c0 B0 m0 d0 x0) (s0 : Sz x0 15) {j : Int} (h : j < 0 ∨ 2000 < j) :
    Calls Tryz.prog 34 #[.agg #[.bool b0, .slice A0 n0 c0, .slice B0 m0 d0], .int .i64 j] w (GotZp w 0 1) := by
  have cc := Below.refl w.heap.size w
  go_enter Tryz.func34, Tryz.ntmps34
  go_wp2_with fail
  have f0 : ((w.alloc (.cells #[.bool b0, .slice A0 n0 c0, .slice B0 m0 d0] 33)).alloc (.cells #[.bool false, .slice none 0 0] 31)).frozen? ⟨w.heap.size + 1, 0, none⟩ = false := by simp [go_sem]
  have f1 : ((w.alloc (.cells #[.bool b0, .slice A0 n0 c0, .slice B0 m0 d0] 33)).alloc (.cells #[.bool false, .slice none 0 0] 31)).frozen? ⟨w.heap.size + 1, 1, none⟩ = false := by simp [go_sem]
  have bA : Below w.heap.size w ((w.alloc (.cells #[.bool b0, .slice A0 n0 c0, .slice B0 m0 d0] 33)).alloc (.cells #[.bool false, .slice none 0 0] 31)) := (((Below.refl _ w).alloc (by simp) _).alloc (by simp) _)
  replace hx := hx.on bA
  replace cc := bK cc bA
  clear bA
  have k0 : ((w.alloc (.cells #[.bool b0, .slice A0 n0 c0, .slice B0 m0 d0] 33)).alloc (.cells #[.bool false, .slice none 0 0] 31)).cell? ⟨w.heap.size, 0, none⟩ = some (.bool b0) := by simp [go_sem]
  have k1 : ((w.alloc (.cells #[.bool b0, .slice A0 n0 c0, .slice B0 m0 d0] 33)).alloc (.cells #[.bool false, .slice none 0 0] 31)).cell? ⟨w.heap.size, 1, none⟩ = some (.slice A0 n0 c0) := by simp [go_sem]
  have k2 : ((w.alloc (.cells #[.bool b0, .slice A0 n0 c0, .slice B0 m0 d0] 33)).alloc (.cells #[.bool false, .slice none 0 0] 31)).cell? ⟨w.heap.size, 2, none⟩ = some (.slice B0 m0 d0) := by simp [go_sem]
  have kl : w.heap.size < ((w.alloc (.cells #[.bool b0, .slice A0 n0 c0, .slice B0 m0 d0] 33)).alloc (.cells #[.bool false, .slice none 0 0] 31)).heap.size := by simp <;> omega
  have g0 : ((w.alloc (.cells #[.bool b0, .slice A0 n0 c0, .slice B0 m0 d0] 33)).alloc (.cells #[.bool false, .slice none 0 0] 31)).cell? ⟨w.heap.size + 1, 0, none⟩ = some (.bool false) := by simp [go_sem]
  have g1 : ((w.alloc (.cells #[.bool b0, .slice A0 n0 c0, .slice B0 m0 d0] 33)).alloc (.cells #[.bool false, .slice none 0 0] 31)).cell? ⟨w.heap.size + 1, 1, none⟩ = some (.slice none 0 0) := by simp [go_sem]
  have gl : w.heap.size + 1 < ((w.alloc (.cells #[.bool b0, .slice A0 n0 c0, .slice B0 m0 d0] 33)).alloc (.cells #[.bool false, .slice none 0 0] 31)).heap.size := by simp <;> omega
  generalize (w.alloc (.cells #[.bool b0, .slice A0 n0 c0, .slice B0 m0 d0] 33)).alloc (.cells #[.bool false, .slice none 0 0] 31) = v1 at *
  refine (rd_no h).mono ?_
  rintro e w2 ⟨bm, Am, nm, cm, rfl, hm, b⟩
  replace f0 := fK b f0 gl
  replace f1 := fK b f1 gl
  replace hx := hx.on b
  replace k0 := cK b k0 kl
  replace k1 := cK b k1 kl
  replace k2 := cK b k2 kl
  replace kl := lK b kl
  replace g0 := cK b g0 gl
  replace g1 := cK b g1 gl
  replace gl := lK b gl
  replace cc := bK cc b
  clear b
  have hn : Zn w2 bm Am nm cm (0) := hm
  have eb : Box w2 (w.heap.size + 1) false none 0 0 := ⟨g0, g1⟩
  have HZ : Hid (Zn ((w2.setCell ⟨w.heap.size + 1, 0, none⟩ (.bool bm)).setCell ⟨w.heap.size + 1, 1, none⟩ (.slice Am nm cm)) bm Am nm cm (0)) := Lib.hid (hn.put eb _ _)
  clear hn
  go_wp2_with fail
  refine bodyPost_ret (v := .tuple #[.agg #[.bool bm, .slice Am nm cm], .int .i64 1]) (by simp [results, Tryz.results34, go_sem, g0, g1]) rfl ⟨_, _, _, _, rfl, HZ.out, below_put cc (by omega) _ _⟩

set_option maxRecDepth 100000 in
set_option maxHeartbeats 8000000 in
theorem dback_N {w : World} {b : Bool} {A : Option Addr} {n c : Nat} {z : Int} (ha : Zn w b A n c z) (hz : (limbs z.natAbs).length ≤ 40) {j : Int} (h0 : 0 ≤ j) (h1 : j ≤ 500) :
    Calls Tryz.prog 36 #[.agg #[.bool b, .slice A n c], .int .i64 j] w (GotRp w (bak z j.toNat) 0) := by
  have je := to_nat h0
  have jl : j.toNat ≤ 500 := by omega
  have hj2 : j ≤ 2000 := by omega
  obtain ⟨k, hk⟩ : ∃ k, j.toNat = k := ⟨_, rfl⟩
  rw [hk] at je jl ⊢
  have lk := len_pow2 jl
  have hp : 2 ^ k ≠ 0 := Nat.ne_of_gt (Nat.pow_pos (by omega))
  have l1 : (limbs 1).length ≤ 300 := Nat.le_trans (len_one (by decide)) (by omega)
  have CS : ∀ {W : World} {A : Option Addr} {m c x : Nat}, Num W A m c x → (limbs x).length ≤ 300 → Calls Tryz.prog 55 #[.slice A m c, .int .i64 j] W (GotP W (x * 2 ^ k) 0) := fun ha hx => by rw [← je]; exact dshl_N ha hx (by omega)
  clear hk je
  have cc := Below.refl w.heap.size w
  go_enter Tryz.func36, Tryz.ntmps36
  go_wp2_with fail
  have f0 : ((w.alloc (.cells #[.bool b, .slice A n c] 31)).alloc (.cells #[.bool false, .slice none 0 0, .slice none 0 0] 33)).frozen? ⟨w.heap.size + 1, 0, none⟩ = false := by simp [go_sem]
  have f1 : ((w.alloc (.cells #[.bool b, .slice A n c] 31)).alloc (.cells #[.bool false, .slice none 0 0, .slice none 0 0] 33)).frozen? ⟨w.heap.size + 1, 1, none⟩ = false := by simp [go_sem]
  have f2 : ((w.alloc (.cells #[.bool b, .slice A n c] 31)).alloc (.cells #[.bool false, .slice none 0 0, .slice none 0 0] 33)).frozen? ⟨w.heap.size + 1, 2, none⟩ = false := by simp [go_sem]
  have bA : Below w.heap.size w ((w.alloc (.cells #[.bool b, .slice A n c] 31)).alloc (.cells #[.bool false, .slice none 0 0, .slice none 0 0] 33)) := (((Below.refl _ w).alloc (by simp) _).alloc (by simp) _)
  replace ha := ha.on bA
  replace cc := bK cc bA
  clear bA
  have k0 : ((w.alloc (.cells #[.bool b, .slice A n c] 31)).alloc (.cells #[.bool false, .slice none 0 0, .slice none 0 0] 33)).cell? ⟨w.heap.size, 0, none⟩ = some (.bool b) := by simp [go_sem]
  have k1 : ((w.alloc (.cells #[.bool b, .slice A n c] 31)).alloc (.cells #[.bool false, .slice none 0 0, .slice none 0 0] 33)).cell? ⟨w.heap.size, 1, none⟩ = some (.slice A n c) := by simp [go_sem]
  have kl : w.heap.size < ((w.alloc (.cells #[.bool b, .slice A n c] 31)).alloc (.cells #[.bool false, .slice none 0 0, .slice none 0 0] 33)).heap.size := by simp <;> omega
  have g0 : ((w.alloc (.cells #[.bool b, .slice A n c] 31)).alloc (.cells #[.bool false, .slice none 0 0, .slice none 0 0] 33)).cell? ⟨w.heap.size + 1, 0, none⟩ = some (.bool false) := by simp [go_sem]
  have g1 : ((w.alloc (.cells #[.bool b, .slice A n c] 31)).alloc (.cells #[.bool false, .slice none 0 0, .slice none 0 0] 33)).cell? ⟨w.heap.size + 1, 1, none⟩ = some (.slice none 0 0) := by simp [go_sem]
  have g2 : ((w.alloc (.cells #[.bool b, .slice A n c] 31)).alloc (.cells #[.bool false, .slice none 0 0, .slice none 0 0] 33)).cell? ⟨w.heap.size + 1, 2, none⟩ = some (.slice none 0 0) := by simp [go_sem]
  have gl : w.heap.size + 1 < ((w.alloc (.cells #[.bool b, .slice A n c] 31)).alloc (.cells #[.bool false, .slice none 0 0, .slice none 0 0] 33)).heap.size := by simp <;> omega
  generalize (w.alloc (.cells #[.bool b, .slice A n c] 31)).alloc (.cells #[.bool false, .slice none 0 0, .slice none 0 0] 33) = v1 at *
  refine (isgrid_2 _ h0 hj2).mono ?_
  rintro e w2 ⟨rfl, b⟩
  replace f0 := fK b f0 gl
  replace f1 := fK b f1 gl
  replace f2 := fK b f2 gl
  replace ha := ha.on b
  replace k0 := cK b k0 kl
  replace k1 := cK b k1 kl
  replace kl := lK b kl
  replace g0 := cK b g0 gl
  replace g1 := cK b g1 gl
  replace g2 := cK b g2 gl
  replace gl := lK b gl
  replace cc := bK cc b
  clear b
  go_wp2_with fail
  refine (of_N _ 1 (by decide)).mono ?_
  rintro e w3 ⟨Ao, no, co, rfl, o, b⟩
  replace f0 := fK b f0 gl
  replace f1 := fK b f1 gl
  replace f2 := fK b f2 gl
  replace ha := ha.on b
  replace k0 := cK b k0 kl
  replace k1 := cK b k1 kl
  replace kl := lK b kl
  replace g0 := cK b g0 gl
  replace g1 := cK b g1 gl
  replace g2 := cK b g2 gl
  replace gl := lK b gl
  replace cc := bK cc b
  clear b
  go_wp2_with fail
  refine (CS o l1).mono ?_
  rintro e w4 ⟨Aq, nq, cq, rfl, q, b⟩
  rw [Nat.one_mul] at q
  replace f0 := fK b f0 gl
  replace f1 := fK b f1 gl
  replace f2 := fK b f2 gl
  replace ha := ha.on b
  replace o := o.on b
  replace k0 := cK b k0 kl
  replace k1 := cK b k1 kl
  replace kl := lK b kl
  replace g0 := cK b g0 gl
  replace g1 := cK b g1 gl
  replace g2 := cK b g2 gl
  replace gl := lK b gl
  replace cc := bK cc b
  clear b
  go_wp2_with fail
  refine (qmake_N ha q hp (by omega) (by omega)).mono ?_
  rintro e w5 ⟨bm, Am, nm, cm, Bm, mm, dm, rfl, hm, b⟩
  replace f0 := fK b f0 gl
  replace f1 := fK b f1 gl
  replace f2 := fK b f2 gl
  replace ha := ha.on b
  replace o := o.on b
  replace q := q.on b
  replace k0 := cK b k0 kl
  replace k1 := cK b k1 kl
  replace kl := lK b kl
  replace g0 := cK b g0 gl
  replace g1 := cK b g1 gl
  replace g2 := cK b g2 gl
  replace gl := lK b gl
  replace cc := bK cc b
  clear b
  have hn : Rt w5 bm Am nm cm Bm mm dm (bak z k) := hm
  have eb : BoxR w5 (w.heap.size + 1) false none 0 0 none 0 0 := ⟨g0, g1, g2⟩
  have HZ : Hid (Rt (putR w5 (w.heap.size + 1) (.bool bm) (.slice Am nm cm) (.slice Bm mm dm)) bm Am nm cm Bm mm dm (bak z k)) := Lib.hid (Rt.putR hn eb _ _ _)
  clear hn
  go_wp2_with fail
  refine bodyPost_ret (v := .tuple #[.agg #[.bool bm, .slice Am nm cm, .slice Bm mm dm], .int .i64 0]) (by simp [results, Tryz.results36, go_sem, g0, g1, g2]) rfl ⟨_, _, _, _, _, _, _, rfl, HZ.out, below_putR cc (by omega) _ _ _⟩

set_option maxRecDepth 100000 in
set_option maxHeartbeats 8000000 in
theorem dback_no {w : World} {b : Bool} {A : Option Addr} {n c : Nat} {j : Int} (h : j < 0 ∨ 2000 < j) :
    Calls Tryz.prog 36 #[.agg #[.bool b, .slice A n c], .int .i64 j] w (GotV w (.tuple #[.agg #[.bool false, .slice none 0 0, .slice none 0 0], .int .i64 1])) := by
  have cc := Below.refl w.heap.size w
  go_enter Tryz.func36, Tryz.ntmps36
  go_wp2_with fail
  have f0 : ((w.alloc (.cells #[.bool b, .slice A n c] 31)).alloc (.cells #[.bool false, .slice none 0 0, .slice none 0 0] 33)).frozen? ⟨w.heap.size + 1, 0, none⟩ = false := by simp [go_sem]
  have f1 : ((w.alloc (.cells #[.bool b, .slice A n c] 31)).alloc (.cells #[.bool false, .slice none 0 0, .slice none 0 0] 33)).frozen? ⟨w.heap.size + 1, 1, none⟩ = false := by simp [go_sem]
  have f2 : ((w.alloc (.cells #[.bool b, .slice A n c] 31)).alloc (.cells #[.bool false, .slice none 0 0, .slice none 0 0] 33)).frozen? ⟨w.heap.size + 1, 2, none⟩ = false := by simp [go_sem]
  have bA : Below w.heap.size w ((w.alloc (.cells #[.bool b, .slice A n c] 31)).alloc (.cells #[.bool false, .slice none 0 0, .slice none 0 0] 33)) := (((Below.refl _ w).alloc (by simp) _).alloc (by simp) _)
  replace cc := bK cc bA
  clear bA
  have k0 : ((w.alloc (.cells #[.bool b, .slice A n c] 31)).alloc (.cells #[.bool false, .slice none 0 0, .slice none 0 0] 33)).cell? ⟨w.heap.size, 0, none⟩ = some (.bool b) := by simp [go_sem]
  have k1 : ((w.alloc (.cells #[.bool b, .slice A n c] 31)).alloc (.cells #[.bool false, .slice none 0 0, .slice none 0 0] 33)).cell? ⟨w.heap.size, 1, none⟩ = some (.slice A n c) := by simp [go_sem]
  have kl : w.heap.size < ((w.alloc (.cells #[.bool b, .slice A n c] 31)).alloc (.cells #[.bool false, .slice none 0 0, .slice none 0 0] 33)).heap.size := by simp <;> omega
  have g0 : ((w.alloc (.cells #[.bool b, .slice A n c] 31)).alloc (.cells #[.bool false, .slice none 0 0, .slice none 0 0] 33)).cell? ⟨w.heap.size + 1, 0, none⟩ = some (.bool false) := by simp [go_sem]
  have g1 : ((w.alloc (.cells #[.bool b, .slice A n c] 31)).alloc (.cells #[.bool false, .slice none 0 0, .slice none 0 0] 33)).cell? ⟨w.heap.size + 1, 1, none⟩ = some (.slice none 0 0) := by simp [go_sem]
  have g2 : ((w.alloc (.cells #[.bool b, .slice A n c] 31)).alloc (.cells #[.bool false, .slice none 0 0, .slice none 0 0] 33)).cell? ⟨w.heap.size + 1, 2, none⟩ = some (.slice none 0 0) := by simp [go_sem]
  have gl : w.heap.size + 1 < ((w.alloc (.cells #[.bool b, .slice A n c] 31)).alloc (.cells #[.bool false, .slice none 0 0, .slice none 0 0] 33)).heap.size := by simp <;> omega
  generalize (w.alloc (.cells #[.bool b, .slice A n c] 31)).alloc (.cells #[.bool false, .slice none 0 0, .slice none 0 0] 33) = v1 at *
  refine (isgrid_no _ h).mono ?_
  rintro e w2 ⟨rfl, b⟩
  replace f0 := fK b f0 gl
  replace f1 := fK b f1 gl
  replace f2 := fK b f2 gl
  replace k0 := cK b k0 kl
  replace k1 := cK b k1 kl
  replace kl := lK b kl
  replace g0 := cK b g0 gl
  replace g1 := cK b g1 gl
  replace g2 := cK b g2 gl
  replace gl := lK b gl
  replace cc := bK cc b
  clear b
  go_wp2_with fail
  exact bodyPost_ret (v := .tuple #[.agg #[.bool false, .slice none 0 0, .slice none 0 0], .int .i64 1]) (by simp [results, Tryz.results36, go_sem, g0, g1, g2]) rfl ⟨rfl, below_putR cc (by omega) _ _ _⟩

end Go.Proofs.YtccigpnebejbiaaGreat

/-
  The contracts of the landed fix: Sqrt, Of, Rat.
-/
namespace Go.Proofs.YtccigpnebejbiaaGreat
set_option maxRecDepth 100000
open Go.RowKit
set_option linter.unusedVariables false
set_option linter.unusedSimpArgs false

set_option maxRecDepth 100000 in
set_option maxHeartbeats 8000000 in
theorem fsqrt_N {w : World} {a j : Int} (ha : I64 a) (a0 : 0 ≤ a) (j0 : 0 ≤ j) (j1 : j ≤ 40) :
    Calls Tryz.prog 31 #[.int .i64 a, .int .i64 j] w (GotV w (.tuple #[.int .i64 ((iroot 2 (a.natAbs * 2 ^ j.toNat) : Nat)), .int .i64 (0)])) := by
  have t1_ : decide (a < 0) = false := decide_eq_false (by omega)
  have sv := len_one ha.abs
  have hf := root8_fits ha (show j.toNat ≤ 40 by omega)
  have je := to_nat j0
  obtain ⟨k, hk⟩ : ∃ k, j.toNat = k := ⟨_, rfl⟩
  rw [hk] at je hf ⊢
  have lp : (limbs (2 ^ k)).length ≤ 1 := len_one (Nat.lt_of_le_of_lt (Nat.pow_le_pow_right (by omega) (show k ≤ 40 by omega)) (by decide))
  have lu : (limbs (a.natAbs * 2 ^ k)).length ≤ 20 := Nat.le_trans (limbs_length_mul sv lp) (by omega)
  have sa := i64_size ha
  obtain ⟨x, ex⟩ : ∃ x, a.natAbs = x := ⟨_, rfl⟩
  have CZ : ∀ (W : World), Calls Tryz.prog 27 #[.int .i64 a] W (GotV W (.int .u64 (x : Int))) := fun W => by rw [← ex]; exact size_N W ha
  rw [ex] at sv lu hf sa ⊢
  have xb : x < B64 := by unfold B64; omega
  have CL : ∀ {W : World} {A : Option Addr} {m c : Nat}, Num W A m c x → Calls Tryz.prog 55 #[.slice A m c, .int .i64 j] W (GotP W (x * 2 ^ k) 0) := fun h => by rw [← je]; exact dshl_N h (by omega) (by omega)
  obtain ⟨u, hU⟩ : ∃ u, x * 2 ^ k = u := ⟨_, rfl⟩
  rw [hU] at lu CL hf ⊢
  obtain ⟨r, hR⟩ : ∃ r, iroot 2 u = r := ⟨_, rfl⟩
  have lr : (limbs r).length ≤ 20 := by rw [← hR]; exact Nat.le_trans (limbs_length_mono (iroot_le u (by omega))) lu
  rw [hR] at hf ⊢
  have CR : ∀ {W : World} {A : Option Addr} {m c : Nat}, Num W A m c u → Calls Tryz.prog 56 #[.slice A m c, .int .i64 2] W (GotP W r 0) := fun h => by rw [← hR]; exact root_N (k := 2) h (by omega) (by omega) (by omega)
  have j1_ := j1
  clear hk hU hR lp ex
  have cc := Below.refl w.heap.size w
  go_enter Tryz.func31, Tryz.ntmps31
  go_wp2_with fail
  refine (isf_2 _ j0 j1).mono ?_
  rintro e w1 ⟨rfl, b⟩
  replace cc := bK cc b
  clear b
  go_wp2_with fail
  refine (CZ _).mono ?_
  rintro e w2 ⟨rfl, b⟩
  replace cc := bK cc b
  clear b
  go_wp2_with fail
  refine (of_N _ x xb).mono ?_
  rintro e w3 ⟨An, nn, cn, rfl, n, b⟩
  replace cc := bK cc b
  clear b
  go_wp2_with fail
  refine (CL n).mono ?_
  rintro e w4 ⟨Av, nv, cv, rfl, v, b⟩
  replace n := n.on b
  replace cc := bK cc b
  clear b
  go_wp2_with fail
  refine (CR v).mono ?_
  rintro e w5 ⟨Aq, nq, cq, rfl, q, b⟩
  replace n := n.on b
  replace v := v.on b
  replace cc := bK cc b
  clear b
  have zu := zn_nat q
  go_wp2_with fail
  refine (mant_yes zu (by rw [Int.natAbs_natCast]; exact Nat.le_trans lr (by omega)) hf).mono ?_
  rintro e w6 ⟨rfl, b⟩
  replace n := n.on b
  replace v := v.on b
  replace q := q.on b
  replace zu := zu.on b
  replace cc := bK cc b
  clear b
  go_wp2_with fail
  go_ret2
  exact ⟨rfl, cc⟩

set_option maxRecDepth 100000 in
set_option maxHeartbeats 8000000 in
theorem fsqrt_no {w : World} {a j : Int} (ha : I64 a) (h : j < 0 ∨ 40 < j) :
    Calls Tryz.prog 31 #[.int .i64 a, .int .i64 j] w (GotV w (.tuple #[.int .i64 (0), .int .i64 (1)])) := by
  have cc := Below.refl w.heap.size w
  go_enter Tryz.func31, Tryz.ntmps31
  go_wp2_with fail
  refine (isf_no _ h).mono ?_
  rintro e w1 ⟨rfl, b⟩
  replace cc := bK cc b
  clear b
  go_wp2_with fail
  go_ret2
  exact ⟨rfl, cc⟩

set_option maxRecDepth 100000 in
set_option maxHeartbeats 8000000 in
theorem fsqrt_neg {w : World} {a j : Int} (ha : I64 a) (a0 : a < 0) (j0 : 0 ≤ j) (j1 : j ≤ 40) :
    Calls Tryz.prog 31 #[.int .i64 a, .int .i64 j] w (GotV w (.tuple #[.int .i64 (0), .int .i64 (1)])) := by
  have t1_ : decide (a < 0) = true := decide_eq_true a0
  have cc := Below.refl w.heap.size w
  go_enter Tryz.func31, Tryz.ntmps31
  go_wp2_with fail
  refine (isf_2 _ j0 j1).mono ?_
  rintro e w1 ⟨rfl, b⟩
  replace cc := bK cc b
  clear b
  go_wp2_with fail
  go_ret2
  exact ⟨rfl, cc⟩

set_option maxRecDepth 100000 in
set_option maxHeartbeats 8000000 in
theorem fof_N {w : World} {b0 : Bool} {A0 B0 : Option Addr} {n0 c0 m0 d0 : Nat} {x0 : Rat} (h0 : Rt w b0 A0 n0 c0 B0 m0 d0 x0) (s0 : Sz x0 15) {j : Int} (j0 : 0 ≤ j) (j1 : j ≤ 40) :
    Calls Tryz.prog 15 #[.agg #[.bool b0, .slice A0 n0 c0, .slice B0 m0 d0], .int .i64 j] w (GotV w (.tuple #[.int .i64 (nI (nea x0 j.toNat)), .int .i64 (nE (nea x0 j.toNat))])) := by
  have lz_ := nea_len s0 (show j.toNat ≤ 500 by omega)
  have cc := Below.refl w.heap.size w
  go_enter Tryz.func15, Tryz.ntmps15
  go_wp2_with fail
  have bA : Below w.heap.size w (w.alloc (.cells #[.bool b0, .slice A0 n0 c0, .slice B0 m0 d0] 33)) := ((Below.refl _ w).alloc (by simp) _)
  replace h0 := h0.on bA
  replace cc := bK cc bA
  clear bA
  have ka0 : (w.alloc (.cells #[.bool b0, .slice A0 n0 c0, .slice B0 m0 d0] 33)).cell? ⟨w.heap.size, 0, none⟩ = some (.bool b0) := by simp [go_sem]
  have ka1 : (w.alloc (.cells #[.bool b0, .slice A0 n0 c0, .slice B0 m0 d0] 33)).cell? ⟨w.heap.size, 1, none⟩ = some (.slice A0 n0 c0) := by simp [go_sem]
  have ka2 : (w.alloc (.cells #[.bool b0, .slice A0 n0 c0, .slice B0 m0 d0] 33)).cell? ⟨w.heap.size, 2, none⟩ = some (.slice B0 m0 d0) := by simp [go_sem]
  have kal : w.heap.size < (w.alloc (.cells #[.bool b0, .slice A0 n0 c0, .slice B0 m0 d0] 33)).heap.size := by simp <;> omega
  generalize w.alloc (.cells #[.bool b0, .slice A0 n0 c0, .slice B0 m0 d0] 33) = v1 at *
  refine (isf_2 _ j0 j1).mono ?_
  rintro e w2 ⟨rfl, b⟩
  replace h0 := h0.on b
  replace ka0 := cK b ka0 kal
  replace ka1 := cK b ka1 kal
  replace ka2 := cK b ka2 kal
  replace kal := lK b kal
  replace cc := bK cc b
  clear b
  go_wp2_with fail
  refine (dnear_N h0 s0 j0 (by omega)).mono ?_
  rintro e w3 ⟨bz, Az, nz, cz, rfl, hz, b⟩
  replace h0 := h0.on b
  replace ka0 := cK b ka0 kal
  replace ka1 := cK b ka1 kal
  replace ka2 := cK b ka2 kal
  replace kal := lK b kal
  replace cc := bK cc b
  clear b
  go_wp2_with fail
  have bA := below_one w3 (.cells #[.bool bz, .slice Az nz cz] 31)
  replace h0 := h0.on bA
  replace hz := hz.on bA
  replace ka0 := cK bA ka0 kal
  replace ka1 := cK bA ka1 kal
  replace ka2 := cK bA ka2 kal
  replace kal := lK bA kal
  replace cc := bK cc bA
  clear bA
  have zb0 : (w3.alloc (.cells #[.bool bz, .slice Az nz cz] 31)).cell? ⟨w3.heap.size, 0, none⟩ = some (.bool bz) := by simp [go_sem]
  have zb1 : (w3.alloc (.cells #[.bool bz, .slice Az nz cz] 31)).cell? ⟨w3.heap.size, 1, none⟩ = some (.slice Az nz cz) := by simp [go_sem]
  have zbl : w3.heap.size < (w3.alloc (.cells #[.bool bz, .slice Az nz cz] 31)).heap.size := by simp
  generalize w3.alloc (.cells #[.bool bz, .slice Az nz cz] 31) = v4 at *
  refine (mant_N hz (Nat.le_trans lz_ (by omega))).mono ?_
  rintro e w5 ⟨rfl, b⟩
  replace h0 := h0.on b
  replace hz := hz.on b
  replace ka0 := cK b ka0 kal
  replace ka1 := cK b ka1 kal
  replace ka2 := cK b ka2 kal
  replace kal := lK b kal
  replace zb0 := cK b zb0 zbl
  replace zb1 := cK b zb1 zbl
  replace zbl := lK b zbl
  replace cc := bK cc b
  clear b
  go_wp2_with fail
  go_ret2
  exact ⟨rfl, cc⟩

set_option maxRecDepth 100000 in
set_option maxHeartbeats 8000000 in
theorem fof_no {w : World} {b0 : Bool} {A0 B0 : Option Addr} {n0 c0 m0 d0 : Nat} {x0 : Rat} (h0 : Rt w b0 A0 n0 c0 B0 m0 d0 x0) (s0 : Sz x0 15) {j : Int} (h : j < 0 ∨ 40 < j) :
    Calls Tryz.prog 15 #[.agg #[.bool b0, .slice A0 n0 c0, .slice B0 m0 d0], .int .i64 j] w (GotV w (.tuple #[.int .i64 (0), .int .i64 (1)])) := by
  have cc := Below.refl w.heap.size w
  go_enter Tryz.func15, Tryz.ntmps15
  go_wp2_with fail
  have bA : Below w.heap.size w (w.alloc (.cells #[.bool b0, .slice A0 n0 c0, .slice B0 m0 d0] 33)) := ((Below.refl _ w).alloc (by simp) _)
  replace cc := bK cc bA
  clear bA
  have ka0 : (w.alloc (.cells #[.bool b0, .slice A0 n0 c0, .slice B0 m0 d0] 33)).cell? ⟨w.heap.size, 0, none⟩ = some (.bool b0) := by simp [go_sem]
  have ka1 : (w.alloc (.cells #[.bool b0, .slice A0 n0 c0, .slice B0 m0 d0] 33)).cell? ⟨w.heap.size, 1, none⟩ = some (.slice A0 n0 c0) := by simp [go_sem]
  have ka2 : (w.alloc (.cells #[.bool b0, .slice A0 n0 c0, .slice B0 m0 d0] 33)).cell? ⟨w.heap.size, 2, none⟩ = some (.slice B0 m0 d0) := by simp [go_sem]
  have kal : w.heap.size < (w.alloc (.cells #[.bool b0, .slice A0 n0 c0, .slice B0 m0 d0] 33)).heap.size := by simp <;> omega
  generalize w.alloc (.cells #[.bool b0, .slice A0 n0 c0, .slice B0 m0 d0] 33) = v1 at *
  refine (isf_no _ h).mono ?_
  rintro e w2 ⟨rfl, b⟩
  replace ka0 := cK b ka0 kal
  replace ka1 := cK b ka1 kal
  replace ka2 := cK b ka2 kal
  replace kal := lK b kal
  replace cc := bK cc b
  clear b
  go_wp2_with fail
  go_ret2
  exact ⟨rfl, cc⟩

set_option maxRecDepth 100000 in
set_option maxHeartbeats 8000000 in
theorem frat_N {w : World} {a j : Int} (ha : I64 a) (j0 : 0 ≤ j) (j1 : j ≤ 40) :
    Calls Tryz.prog 17 #[.int .i64 a, .int .i64 j] w (GotRp w (bak a j.toNat) 0) := by
  have cc := Below.refl w.heap.size w
  go_enter Tryz.func17, Tryz.ntmps17
  go_wp2_with fail
  have f0 : (w.alloc (.cells #[.bool false, .slice none 0 0, .slice none 0 0] 33)).frozen? ⟨w.heap.size, 0, none⟩ = false := by simp [go_sem]
  have f1 : (w.alloc (.cells #[.bool false, .slice none 0 0, .slice none 0 0] 33)).frozen? ⟨w.heap.size, 1, none⟩ = false := by simp [go_sem]
  have f2 : (w.alloc (.cells #[.bool false, .slice none 0 0, .slice none 0 0] 33)).frozen? ⟨w.heap.size, 2, none⟩ = false := by simp [go_sem]
  have bA : Below w.heap.size w (w.alloc (.cells #[.bool false, .slice none 0 0, .slice none 0 0] 33)) := ((Below.refl _ w).alloc (by simp) _)
  replace cc := bK cc bA
  clear bA
  have g_0 : (w.alloc (.cells #[.bool false, .slice none 0 0, .slice none 0 0] 33)).cell? ⟨w.heap.size, 0, none⟩ = some (.bool false) := by simp [go_sem]
  have g_1 : (w.alloc (.cells #[.bool false, .slice none 0 0, .slice none 0 0] 33)).cell? ⟨w.heap.size, 1, none⟩ = some (.slice none 0 0) := by simp [go_sem]
  have g_2 : (w.alloc (.cells #[.bool false, .slice none 0 0, .slice none 0 0] 33)).cell? ⟨w.heap.size, 2, none⟩ = some (.slice none 0 0) := by simp [go_sem]
  have g_l : w.heap.size < (w.alloc (.cells #[.bool false, .slice none 0 0, .slice none 0 0] 33)).heap.size := by simp <;> omega
  generalize w.alloc (.cells #[.bool false, .slice none 0 0, .slice none 0 0] 33) = v1 at *
  refine (isf_2 _ j0 j1).mono ?_
  rintro e w2 ⟨rfl, b⟩
  replace f0 := fK b f0 g_l
  replace f1 := fK b f1 g_l
  replace f2 := fK b f2 g_l
  replace g_0 := cK b g_0 g_l
  replace g_1 := cK b g_1 g_l
  replace g_2 := cK b g_2 g_l
  replace g_l := lK b g_l
  replace cc := bK cc b
  clear b
  go_wp2_with fail
  refine (zof_N _ a ha).mono ?_
  rintro e w3 ⟨bz, Az, nz, cz, rfl, hz, b⟩
  replace f0 := fK b f0 g_l
  replace f1 := fK b f1 g_l
  replace f2 := fK b f2 g_l
  replace g_0 := cK b g_0 g_l
  replace g_1 := cK b g_1 g_l
  replace g_2 := cK b g_2 g_l
  replace g_l := lK b g_l
  replace cc := bK cc b
  clear b
  go_wp2_with fail
  refine (dback_N hz (Nat.le_trans (len_one ha.abs) (by omega)) j0 (by omega)).mono ?_
  rintro e w4 ⟨bx, Ax, nx, cx, Bx, mx, dx, rfl, hx, b⟩
  replace f0 := fK b f0 g_l
  replace f1 := fK b f1 g_l
  replace f2 := fK b f2 g_l
  replace hz := hz.on b
  replace g_0 := cK b g_0 g_l
  replace g_1 := cK b g_1 g_l
  replace g_2 := cK b g_2 g_l
  replace g_l := lK b g_l
  replace cc := bK cc b
  clear b
  have hn : Rt w4 bx Ax nx cx Bx mx dx (bak a j.toNat) := hx
  have eb : BoxR w4 (w.heap.size) false none 0 0 none 0 0 := ⟨g_0, g_1, g_2⟩
  have HZ : Hid (Rt (putR w4 (w.heap.size) (.bool bx) (.slice Ax nx cx) (.slice Bx mx dx)) bx Ax nx cx Bx mx dx (bak a j.toNat)) := Lib.hid (Rt.putR hn eb _ _ _)
  clear hn
  go_wp2_with fail
  refine bodyPost_ret (v := .tuple #[.agg #[.bool bx, .slice Ax nx cx, .slice Bx mx dx], .int .i64 0]) (by simp [results, Tryz.results17, go_sem, g_0, g_1, g_2]) rfl ⟨_, _, _, _, _, _, _, rfl, HZ.out, below_putR cc (by omega) _ _ _⟩

set_option maxRecDepth 100000 in
set_option maxHeartbeats 8000000 in
theorem frat_no {w : World} {a j : Int} (ha : I64 a) (h : j < 0 ∨ 40 < j) :
    Calls Tryz.prog 17 #[.int .i64 a, .int .i64 j] w (GotV w (.tuple #[.agg #[.bool false, .slice none 0 0, .slice none 0 0], .int .i64 1])) := by
  have cc := Below.refl w.heap.size w
  go_enter Tryz.func17, Tryz.ntmps17
  go_wp2_with fail
  have f0 : (w.alloc (.cells #[.bool false, .slice none 0 0, .slice none 0 0] 33)).frozen? ⟨w.heap.size, 0, none⟩ = false := by simp [go_sem]
  have f1 : (w.alloc (.cells #[.bool false, .slice none 0 0, .slice none 0 0] 33)).frozen? ⟨w.heap.size, 1, none⟩ = false := by simp [go_sem]
  have f2 : (w.alloc (.cells #[.bool false, .slice none 0 0, .slice none 0 0] 33)).frozen? ⟨w.heap.size, 2, none⟩ = false := by simp [go_sem]
  have bA : Below w.heap.size w (w.alloc (.cells #[.bool false, .slice none 0 0, .slice none 0 0] 33)) := ((Below.refl _ w).alloc (by simp) _)
  replace cc := bK cc bA
  clear bA
  have g_0 : (w.alloc (.cells #[.bool false, .slice none 0 0, .slice none 0 0] 33)).cell? ⟨w.heap.size, 0, none⟩ = some (.bool false) := by simp [go_sem]
  have g_1 : (w.alloc (.cells #[.bool false, .slice none 0 0, .slice none 0 0] 33)).cell? ⟨w.heap.size, 1, none⟩ = some (.slice none 0 0) := by simp [go_sem]
  have g_2 : (w.alloc (.cells #[.bool false, .slice none 0 0, .slice none 0 0] 33)).cell? ⟨w.heap.size, 2, none⟩ = some (.slice none 0 0) := by simp [go_sem]
  have g_l : w.heap.size < (w.alloc (.cells #[.bool false, .slice none 0 0, .slice none 0 0] 33)).heap.size := by simp <;> omega
  generalize w.alloc (.cells #[.bool false, .slice none 0 0, .slice none 0 0] 33) = v1 at *
  refine (isf_no _ h).mono ?_
  rintro e w2 ⟨rfl, b⟩
  replace f0 := fK b f0 g_l
  replace f1 := fK b f1 g_l
  replace f2 := fK b f2 g_l
  replace g_0 := cK b g_0 g_l
  replace g_1 := cK b g_1 g_l
  replace g_2 := cK b g_2 g_l
  replace g_l := lK b g_l
  replace cc := bK cc b
  clear b
  go_wp2_with fail
  exact bodyPost_ret (v := .tuple #[.agg #[.bool false, .slice none 0 0, .slice none 0 0], .int .i64 1]) (by simp [results, Tryz.results17, go_sem, g_0, g_1, g_2]) rfl ⟨rfl, below_putR cc (by omega) _ _ _⟩

end Go.Proofs.YtccigpnebejbiaaGreat

/-
  What the laws of fix lean on: alive.
-/
namespace Go.Proofs.YtccigpnebejbiaaGreat
set_option maxRecDepth 100000
open Go.RowKit
set_option linter.unusedVariables false
set_option linter.unusedSimpArgs false

theorem a8_m : rn 9 2 = 4 := by rw [show (9 : Int) = ((9 : Nat) : Int) from rfl, rn_nat 9 2 (by omega)]; decide
theorem a8_d : rn 16 3 = 5 := by rw [show (16 : Int) = ((16 : Nat) : Int) from rfl, rn_nat 16 3 (by omega)]; decide
theorem a8_s : rn (-7) 2 = -4 := by rw [rn_neg 7 (by omega), show (7 : Int) = ((7 : Nat) : Int) from rfl, rn_nat 7 2 (by omega)]; decide
theorem a8_r : iroot 2 512 = 22 := iroot_eq (by omega) (by decide) (by decide)
theorem i64_lit {z : Int} (h : decide (-9223372036854775808 ≤ z) && decide (z ≤ 9223372036854775807) = true) : I64 z := by simp at h; unfold I64; exact h

set_option maxRecDepth 100000 in
set_option maxHeartbeats 8000000 in
theorem alive8_any (w : World) :
    Calls Tryz.prog 13 #[] w (GotV w (.bool true)) := by
  have CM : ∀ W : World, Calls Tryz.prog 9 #[.int .i64 3, .int .i64 3, .int .i64 1] W (GotV W (.tuple #[.int .i64 (4), .int .i64 (0)])) := fun W => by have h := fmul_N (w := W) (a := 3) (b := 3) (j := 1) (by unfold I64; omega) (by unfold I64; omega) (by omega) (by omega); rw [show (3 : Int) * 3 = 9 from rfl, show 2 ^ (1 : Int).toNat = 2 from rfl, a8_m] at h; exact h
  have CD : ∀ W : World, Calls Tryz.prog 11 #[.int .i64 1, .int .i64 3, .int .i64 4] W (GotV W (.tuple #[.int .i64 (5), .int .i64 (0)])) := fun W => by have h := fdiv_N (w := W) (a := 1) (b := 3) (j := 4) (by unfold I64; omega) (by unfold I64; omega) (by omega) (by omega) (by omega); rw [show (3 : Int).sign * (1 * ((2 ^ (4 : Int).toNat : Nat) : Int)) = 16 from rfl, show (3 : Int).natAbs = 3 from rfl, a8_d] at h; exact h
  have CQ : ∀ W : World, Calls Tryz.prog 31 #[.int .i64 32, .int .i64 4] W (GotV W (.tuple #[.int .i64 (22), .int .i64 (0)])) := fun W => by have h := fsqrt_N (w := W) (a := 32) (j := 4) (by unfold I64; omega) (by omega) (by omega) (by omega); rw [show (32 : Int).natAbs * 2 ^ (4 : Int).toNat = 512 from rfl, a8_r] at h; exact h
  have CA : ∀ W : World, Calls Tryz.prog 5 #[.int .i64 9223372036854775807, .int .i64 1] W (GotV W (.tuple #[.int .i64 (0), .int .i64 (2)])) := fun W => fadd_N (w := W) (a := 9223372036854775807) (b := 1) (by unfold I64; omega) (by unfold I64; omega)
  have CS : ∀ W : World, Calls Tryz.prog 32 #[.int .i64 (-7), .int .i64 1, .int .i64 2] W (GotV W (.tuple #[.int .i64 (-4), .int .i64 (0)])) := fun W => by have h := fscale_N (w := W) (a := -7) (b := 1) (d := 2) (by unfold I64; omega) (by unfold I64; omega) (by unfold I64; omega) (by omega); rw [show (-7 : Int) * 1 = -7 from rfl, show (2 : Int).natAbs = 2 from rfl, a8_s] at h; exact h
  have cc := Below.refl w.heap.size w
  go_enter Tryz.func13, Tryz.ntmps13
  go_wp2_with fail
  refine (CM _).mono ?_
  rintro e w1 ⟨rfl, b⟩
  replace cc := bK cc b
  clear b
  go_wp2_with fail
  refine (CD _).mono ?_
  rintro e w2 ⟨rfl, b⟩
  replace cc := bK cc b
  clear b
  go_wp2_with fail
  refine (CQ _).mono ?_
  rintro e w3 ⟨rfl, b⟩
  replace cc := bK cc b
  clear b
  go_wp2_with fail
  refine (CA _).mono ?_
  rintro e w4 ⟨rfl, b⟩
  replace cc := bK cc b
  clear b
  go_wp2_with fail
  refine (CS _).mono ?_
  rintro e w5 ⟨rfl, b⟩
  replace cc := bK cc b
  clear b
  go_wp2_with fail
  go_ret
  exact ⟨rfl, cc⟩

end Go.Proofs.YtccigpnebejbiaaGreat
