/-
  Several texts in one: D10, J1, J2, J3, JB, RGcd, MathK, MathG, S1, S2, ZA.
-/
import Derived.Test.YtgglcgkgeilblaaA3
import Derived.RangeFuncNested
import Derived.RangeFuncBox
import Derived.RangeFuncBound
import Derived.RangeFuncCalls
import Derived.RangeFuncLeaves
import Derived.Shelf.Abstract
import Derived.Shelf.RegionOpen
import Derived.WalkKit
import Derived.WalkSpells
import Derived.OwnWalkIn
import Derived.TacticsInMore
import Derived.LoopNIn
import Derived.LoopIn
import Derived.Maps.AppendAt
import Derived.Lib.Hide
import Derived.Deep.LoopGhost
import Derived.Test.YtgglcgkgeilblaaA2
import Derived.Test.YtgglcgkgeilblaaA1
import Derived.Deep.RegionHeld3
import Derived.Lib.SliceRun

/-
  The contract of the tenth reference: Near.
-/
namespace Go.Proofs.Ytgglcgkgeilblaa
set_option maxRecDepth 100000
open Go.RowKit
set_option linter.unusedVariables false
set_option linter.unusedSimpArgs false

theorem rzcmp_w {w : World} {b b' : Bool} {A B : Option Addr} {n c m d : Nat} {z z' : Int} (r : Int) (ha : Zn w b A n c z) (hb : Zn w b' B m d z') (hx : (limbs z.natAbs).length ≤ 300) (hy : (limbs z'.natAbs).length ≤ 300) (h : cmpZ z z' = r) : Calls Try.prog 15 #[.agg #[.bool b, .slice A n c], .agg #[.bool b', .slice B m d]] w (GotV w (.int .i64 r)) := by
  subst h
  exact rzcmp_N ha hb (by omega) (by omega)
theorem cmpZ_lt {a b : Int} : cmpZ a b < 0 ↔ a < b := by unfold cmpZ; split <;> (try split) <;> omega
theorem cmpZ_eq {a b : Int} : cmpZ a b = 0 ↔ a = b := by unfold cmpZ; split <;> (try split) <;> omega
theorem cmpZ_ngt {a b : Int} : cmpZ a b ≤ 0 ↔ a ≤ b := by unfold cmpZ; split <;> (try split) <;> omega
/-- As LoneZ; the box may be written. -/
def LoneF (V U : World) (g : Nat) (b : Bool) (A : Option Addr) (n k : Nat) (z : Int) : Prop := LoneZ V U g b A n k z ∧ U.frozen? ⟨g, 0, none⟩ = false ∧ U.frozen? ⟨g, 1, none⟩ = false
section
variable {V wz : World} {g : Nat} {b : Bool} {A : Option Addr} {n k : Nat} {z : Int}
theorem loneFA (h : Zn wz b A n k z) (qq : Below V.heap.size V wz) (T : TypeId) : LoneF V (wz.alloc (.cells #[.bool b, .slice A n k] T)) wz.heap.size b A n k z := ⟨loneZA h qq T, by simp [go_sem], by simp [go_sem]⟩
theorem loneFB (o0 : wz.cell? ⟨g, 0, none⟩ = some (.bool false)) (o1 : wz.cell? ⟨g, 1, none⟩ = some (.slice none 0 0)) (f0 : wz.frozen? ⟨g, 0, none⟩ = false) (f1 : wz.frozen? ⟨g, 1, none⟩ = false) (h : Zn wz b A n k z) (qq : Below V.heap.size V wz) (l : V.heap.size ≤ g) : LoneF V ((wz.setCell ⟨g, 0, none⟩ (.bool b)).setCell ⟨g, 1, none⟩ (.slice A n k)) g b A n k z := ⟨loneZB o0 o1 h qq l, by simpa [go_sem] using f0, by simpa [go_sem] using f1⟩
end

set_option maxRecDepth 100000 in
set_option maxHeartbeats 8000000 in
theorem rNear_no (w : World) {k num den : Int} (hn : I64 num) (hd : I64 den) (hS : ¬ Shr k num den) :
    Calls Try.prog 9 #[.int .i64 k, .int .i64 num, .int .i64 den] w (GotV w (.tuple #[.int .u8 0, .int .i64 1])) := by
  have CS : ∀ W : World, Calls Try.prog 13 #[.int .i64 k, .int .i64 num, .int .i64 den] W (GotV W (.bool false)) := fun W => by have h := rShare_N (k := k) (num := num) W hd; rw [decide_eq_false hS] at h; exact h
  clear hS
  have cc := Below.refl w.heap.size w
  go_enter Try.func9, Try.ntmps9
  go_wp2_with fail
  refine (CS _).mono ?_
  rintro e w1 ⟨rfl, b⟩
  replace cc := cc.trans (b.mono cc.size)
  clear b
  go_wp2_with fail
  go_ret2
  exact ⟨rfl, cc⟩

set_option maxRecDepth 100000 in
set_option maxHeartbeats 8000000 in
theorem rNear_yes (w : World) {k num den : Int} (hn : I64 num) (hd : I64 den) (hS : Shr k num den) :
    Calls Try.prog 9 #[.int .i64 k, .int .i64 num, .int .i64 den] w (GotV w (.tuple #[.int .u8 ((near10 k num den : Nat) : Int), .int .i64 0])) := by
  have hk := hS.1
  have CS : ∀ W : World, Calls Try.prog 13 #[.int .i64 k, .int .i64 num, .int .i64 den] W (GotV W (.bool true)) := fun W => by have h := rShare_N (k := k) (num := num) W hd; rw [decide_eq_true hS] at h; exact h
  have CB : ∀ W : World, Calls Try.prog 29 #[.int .i64 k] W (GotIp W (book9 k) 0) := fun W => by have h := rbook9_N W k; rw [kind9_code hk] at h; exact h
  have CO := fun W => rshare_N (k := k) W hn
  have ls := len_prod hn (den9_i64 k)
  have CF : ∀ {W : World} {b : Bool} {A : Option Addr} {n c : Nat} (j : Nat), Zn W b A n c (num * den9 k) → Calls Try.prog 31 #[.agg #[.bool b, .slice A n c], .int .i64 (num10 k j), .int .i64 den] W (GotZ W (dst k num den j)) := fun j h => rfar_N h (Nat.le_trans ls (by omega)) (num10_i64 k j) hd
  have hlen := (facts10 hk).1
  have ld : ∀ c, (limbs (dst k num den c).natAbs).length ≤ 300 := fun c => Nat.le_trans (dst_len hn hd c) (by omega)
  have hnum : ∀ j, (book9 k)[j]?.getD 0 = num10 k j := fun _ => rfl
  have hle : near10 k num den ≤ 255 := near10_le k num den
  unfold near10 at hle ⊢
  clear hS hk ls
  generalize dst k num den = d at *
  generalize num10 k = y at *
  generalize book9 k = L at *
  generalize num * den9 k = s at *
  have cc := Below.refl w.heap.size w
  go_enter Try.func9, Try.ntmps9
  go_wp2_with fail
  refine (CS _).mono ?_
  rintro e w1 ⟨rfl, b⟩
  replace cc := cc.trans (b.mono cc.size)
  clear b
  go_wp2_with fail
  refine (CB _).mono ?_
  rintro e w2 ⟨Al, nl, cl, rfl, hl, b⟩
  replace cc := cc.trans (b.mono cc.size)
  clear b
  go_wp2_with fail
  refine (CO _).mono ?_
  rintro e w3 ⟨bu, Au, nu, cu, rfl, hu, b⟩
  replace hl := hl.on b
  replace cc := cc.trans (b.mono cc.size)
  clear b
  go_wp2_with fail
  have bA := below_one w3 (.cells #[.bool bu, .slice Au nu cu] 34)
  replace hl := hl.on bA
  replace hu := hu.on bA
  replace cc := cc.trans (bA.mono cc.size)
  clear bA
  have ow0 : (w3.alloc (.cells #[.bool bu, .slice Au nu cu] 34)).cell? ⟨w3.heap.size, 0, none⟩ = some (.bool bu) := by simp [go_sem]
  have ow1 : (w3.alloc (.cells #[.bool bu, .slice Au nu cu] 34)).cell? ⟨w3.heap.size, 1, none⟩ = some (.slice Au nu cu) := by simp [go_sem]
  have owl : w3.heap.size < (w3.alloc (.cells #[.bool bu, .slice Au nu cu] 34)).heap.size := by simp
  generalize w3.alloc (.cells #[.bool bu, .slice Au nu cu] 34) = v4 at *
  have hn_ : nl = 256 := by rw [hl.1, hlen]
  subst hn_
  obtain ⟨bb, off, rfl, hb⟩ := hl.some (by omega)
  have e0 : v4.cell? ⟨bb, off, none⟩ = some (.int .i64 (y 0)) := by have h := hl.cell (j := 0) (by omega); rw [hnum 0] at h; exact h
  have HUV := Lib.hid hu
  have HLV := Lib.hid hl
  have O0 := Lib.hid ow0
  have O1 := Lib.hid ow1
  have OL := Lib.hid owl
  have HBV := Lib.hid hb
  have CCV := Lib.hid cc
  go_upto_region 6 with fail
  go_cut [12] (fun u wx => ∃ (g_ : Nat) (b_ : Bool) (A_ : Option Addr) (n_ c_ : Nat), u = .pointer (some ⟨g_, 0, none⟩) ∧ LoneF v4 wx g_ b_ A_ n_ c_ (d 0))
  case first =>
    have BB0 : Below v4.heap.size v4 v4.drew := below_drewN (Below.refl _ v4) 1
    have BB1 : Below v4.heap.size v4 (v4.alloc (.cells #[.bool false, .slice none 0 0] 34)).drew := below_drewN (below_one _ _) 1
    go_region_held3 (fun w' => w'.cell? ⟨bb, off, none⟩ = some (.int .i64 (y 0)) ∧ w'.cell? ⟨w3.heap.size, 0, none⟩ = some (.bool bu) ∧ w'.cell? ⟨w3.heap.size, 1, none⟩ = some (.slice Au nu cu))
      (first | with_reducible exact ⟨e0, ow0, ow1⟩ | with_reducible exact ⟨keep_alloc (e0), keep_alloc (ow0), keep_alloc (ow1)⟩ | with_reducible exact ⟨keep_alloc (keep_alloc (e0)), keep_alloc (keep_alloc (ow0)), keep_alloc (keep_alloc (ow1))⟩ | with_reducible exact ⟨((qq.cell (p := ⟨bb, off, none⟩) hb).trans e0), ((qq.cell (p := ⟨w3.heap.size, 0, none⟩) owl).trans ow0), ((qq.cell (p := ⟨w3.heap.size, 1, none⟩) owl).trans ow1)⟩ | with_reducible exact ⟨keep_alloc (((qq.cell (p := ⟨bb, off, none⟩) hb).trans e0)), keep_alloc (((qq.cell (p := ⟨w3.heap.size, 0, none⟩) owl).trans ow0)), keep_alloc (((qq.cell (p := ⟨w3.heap.size, 1, none⟩) owl).trans ow1))⟩ | with_reducible exact ⟨keep_alloc (keep_alloc (((qq.cell (p := ⟨bb, off, none⟩) hb).trans e0))), keep_alloc (keep_alloc (((qq.cell (p := ⟨w3.heap.size, 0, none⟩) owl).trans ow0))), keep_alloc (keep_alloc (((qq.cell (p := ⟨w3.heap.size, 1, none⟩) owl).trans ow1)))⟩ | with_reducible exact ⟨((cell_store (by omega)).trans ((qq.cell (p := ⟨bb, off, none⟩) hb).trans e0)), ((cell_store (by omega)).trans ((qq.cell (p := ⟨w3.heap.size, 0, none⟩) owl).trans ow0)), ((cell_store (by omega)).trans ((qq.cell (p := ⟨w3.heap.size, 1, none⟩) owl).trans ow1))⟩ | with_reducible exact ⟨keep_alloc (((cell_store (by omega)).trans ((qq.cell (p := ⟨bb, off, none⟩) hb).trans e0))), keep_alloc (((cell_store (by omega)).trans ((qq.cell (p := ⟨w3.heap.size, 0, none⟩) owl).trans ow0))), keep_alloc (((cell_store (by omega)).trans ((qq.cell (p := ⟨w3.heap.size, 1, none⟩) owl).trans ow1)))⟩ | with_reducible exact ⟨keep_alloc (keep_alloc (((cell_store (by omega)).trans ((qq.cell (p := ⟨bb, off, none⟩) hb).trans e0)))), keep_alloc (keep_alloc (((cell_store (by omega)).trans ((qq.cell (p := ⟨w3.heap.size, 0, none⟩) owl).trans ow0)))), keep_alloc (keep_alloc (((cell_store (by omega)).trans ((qq.cell (p := ⟨w3.heap.size, 1, none⟩) owl).trans ow1))))⟩ | go_keep)
      (first
        | (go_at_call 31; (with_reducible refine (CF 0 (hu.on BB0)).mono ?_); rintro e y1 ⟨bm, Am, nm, cm, rfl, hm, q⟩; have qq := BB0.trans (q.mono BB0.size); have hl' := (hl.on BB0).on q; have hu' := (hu.on BB0).on q; have qs1 := qq.size; clear q)
        | (go_at_call 31; (with_reducible refine (CF 0 (hu.on BB1)).mono ?_); rintro e y1 ⟨bm, Am, nm, cm, rfl, hm, q⟩; have qq := BB1.trans (q.mono BB1.size); have hl' := (hl.on BB1).on q; have hu' := (hu.on BB1).on q; have qs1 := qq.size; have bo_0 := (q.cell (p := ⟨v4.heap.size, 0, none⟩) (by simp)).trans (show _ = some (.bool false) by simp [go_sem]); have fo_0 := (q.frozen (p := ⟨v4.heap.size, 0, none⟩) (by simp)).trans (show _ = false by simp [go_sem]); have bo_1 := (q.cell (p := ⟨v4.heap.size, 1, none⟩) (by simp)).trans (show _ = some (.slice none 0 0) by simp [go_sem]); have fo_1 := (q.frozen (p := ⟨v4.heap.size, 1, none⟩) (by simp)).trans (show _ = false by simp [go_sem]); have ol : v4.heap.size < y1.heap.size := Nat.lt_of_lt_of_le (by simp) q.size; clear q))
    all_goals (go_wp2_with fail; go_meet)
    all_goals refine ⟨_, bm, Am, nm, cm, rfl, ?_⟩
    all_goals first
      | with_reducible exact loneFA hm qq _
      | with_reducible exact loneFB bo_0 bo_1 fo_0 fo_1 hm qq (by omega)
  case rest =>
    obtain ⟨gt, bt, At, nt, ct, rfl, ⟨⟨t0, t1⟩, ht, b, tge⟩, tf0, tf1⟩ := hcut
    have hB0 := b
    have tl := cell_lt t0
    simp only at tl
    have tqow : w3.heap.size < gt := Nat.lt_of_lt_of_le owl tge
    replace e0 := (b.cell (p := ⟨bb, off, none⟩) hb).trans e0
    replace hb := Nat.lt_of_lt_of_le hb b.size
    replace hl := hl.on b
    replace hu := hu.on b
    replace ow0 := (b.cell (p := ⟨w3.heap.size, 0, none⟩) owl).trans ow0
    replace ow1 := (b.cell (p := ⟨w3.heap.size, 1, none⟩) owl).trans ow1
    replace owl := Nat.lt_of_lt_of_le owl b.size
    replace cc := cc.trans (b.mono cc.size)
    clear b
    clear hu hl ow0 ow1 owl hb e0 tl cc
    have HGE := Lib.hid tge
    clear tge tqow
    go_wp2_with fail
    go_loopw [10, 13] (fun bv cv wr => ∃ (p c : Nat) (b : Bool) (A : Option Addr) (n q : Nat), c = p + 1 ∧ c ≤ 256 ∧ cv = .int .i64 (c : Int) ∧ bv = .int .i64 ((lpl d p : Nat) : Int) ∧ Box wr gt b A n q ∧ wr.frozen? ⟨gt, 0, none⟩ = false ∧ wr.frozen? ⟨gt, 1, none⟩ = false ∧ Zn wr b A n q (d (lpl d p)) ∧ Below v4.heap.size v4 wr) (fun _ cv _ => 256 - (intOf cv).toNat)
    case atStart => exact ⟨0, 1, _, _, _, _, rfl, by omega, rfl, rfl, ⟨t0, t1⟩, tf0, tf1, ht, hB0⟩
    case round =>
      clear t0 t1 tf0 tf1 ht hB0
      obtain ⟨p, c, bt, At, nt, ct, hpc, hc6, rfl, rfl, ⟨t0, t1⟩, tf0, tf1, ht, hB0⟩ := hrel
      by_cases hlt : c < 256
      · skip
        have tl := cell_lt t0
        simp only at tl
        have hu := HUV.out.on hB0
        have hl := HLV.out.on hB0
        have ow0 := (hB0.cell (p := ⟨w3.heap.size, 0, none⟩) OL.out).trans O0.out
        have ow1 := (hB0.cell (p := ⟨w3.heap.size, 1, none⟩) OL.out).trans O1.out
        have owl := Nat.lt_of_lt_of_le OL.out hB0.size
        have hb := Nat.lt_of_lt_of_le HBV.out hB0.size
        have cc := CCV.out.trans (hB0.mono CCV.out.size)
        have e0 : wr.cell? ⟨bb, off + c, none⟩ = some (.int .i64 (y c)) := by have h := hl.cell (j := c) (by omega); rw [hnum c] at h; exact h
        have CFc := fun {W} {b} {A} {n c_} (h : Zn W b A n c_ s) => CF c h
        have lc := ld c
        have lp := ld (lpl d p)
        have hN : lpl d c = if d c < d (lpl d p) then c else lpl d p := by rw [hpc]; rfl
        obtain ⟨x_, hx_⟩ : ∃ x, d c = x := ⟨_, rfl⟩
        obtain ⟨z_, hz_⟩ : ∃ z, d (lpl d p) = z := ⟨_, rfl⟩
        obtain ⟨yc, hyc⟩ : ∃ v, y c = v := ⟨_, rfl⟩
        rw [hx_] at CFc lc hN
        rw [hz_] at lp hN ht
        rw [hyc] at CFc e0
        have HX := Lib.hid hx_
        have HZZ := Lib.hid hz_
        have HN := Lib.hid hN
        have HP := Lib.hid hpc
        have c256 : (c : Int) < 256 := by omega
        have tgo : gt ≠ w3.heap.size := by have := OL.out; have := HGE.out; omega
        clear hN hx_ hz_ hyc hl hpc CF hnum hlen ld CO CB CS
        go_upto_region 10 with fail
        go_cut [14] (fun u wx => ∃ (g_ : Nat) (b_ : Bool) (A_ : Option Addr) (n_ c_ : Nat), u = .pointer (some ⟨g_, 0, none⟩) ∧ LoneZ wr wx g_ b_ A_ n_ c_ (x_))
        case first =>
          have BB0 : Below wr.heap.size wr wr.drew := below_drewN (Below.refl _ wr) 1
          have BB1 : Below wr.heap.size wr (wr.alloc (.cells #[.bool false, .slice none 0 0] 34)).drew := below_drewN (below_one _ _) 1
          go_region_held3 (fun w' => w'.cell? ⟨bb, off + c, none⟩ = some (.int .i64 yc) ∧ w'.cell? ⟨w3.heap.size, 0, none⟩ = some (.bool bu) ∧ w'.cell? ⟨w3.heap.size, 1, none⟩ = some (.slice Au nu cu) ∧ w'.cell? ⟨gt, 0, none⟩ = some (.bool bt) ∧ w'.cell? ⟨gt, 1, none⟩ = some (.slice At nt ct))
            (first | with_reducible exact ⟨e0, ow0, ow1, t0, t1⟩ | with_reducible exact ⟨keep_alloc (e0), keep_alloc (ow0), keep_alloc (ow1), keep_alloc (t0), keep_alloc (t1)⟩ | with_reducible exact ⟨keep_alloc (keep_alloc (e0)), keep_alloc (keep_alloc (ow0)), keep_alloc (keep_alloc (ow1)), keep_alloc (keep_alloc (t0)), keep_alloc (keep_alloc (t1))⟩ | with_reducible exact ⟨((qq.cell (p := ⟨bb, off + c, none⟩) hb).trans e0), ((qq.cell (p := ⟨w3.heap.size, 0, none⟩) owl).trans ow0), ((qq.cell (p := ⟨w3.heap.size, 1, none⟩) owl).trans ow1), ((qq.cell (p := ⟨gt, 0, none⟩) tl).trans t0), ((qq.cell (p := ⟨gt, 1, none⟩) tl).trans t1)⟩ | with_reducible exact ⟨keep_alloc (((qq.cell (p := ⟨bb, off + c, none⟩) hb).trans e0)), keep_alloc (((qq.cell (p := ⟨w3.heap.size, 0, none⟩) owl).trans ow0)), keep_alloc (((qq.cell (p := ⟨w3.heap.size, 1, none⟩) owl).trans ow1)), keep_alloc (((qq.cell (p := ⟨gt, 0, none⟩) tl).trans t0)), keep_alloc (((qq.cell (p := ⟨gt, 1, none⟩) tl).trans t1))⟩ | with_reducible exact ⟨keep_alloc (keep_alloc (((qq.cell (p := ⟨bb, off + c, none⟩) hb).trans e0))), keep_alloc (keep_alloc (((qq.cell (p := ⟨w3.heap.size, 0, none⟩) owl).trans ow0))), keep_alloc (keep_alloc (((qq.cell (p := ⟨w3.heap.size, 1, none⟩) owl).trans ow1))), keep_alloc (keep_alloc (((qq.cell (p := ⟨gt, 0, none⟩) tl).trans t0))), keep_alloc (keep_alloc (((qq.cell (p := ⟨gt, 1, none⟩) tl).trans t1)))⟩ | with_reducible exact ⟨((cell_store (by omega)).trans ((qq.cell (p := ⟨bb, off + c, none⟩) hb).trans e0)), ((cell_store (by omega)).trans ((qq.cell (p := ⟨w3.heap.size, 0, none⟩) owl).trans ow0)), ((cell_store (by omega)).trans ((qq.cell (p := ⟨w3.heap.size, 1, none⟩) owl).trans ow1)), ((cell_store (by omega)).trans ((qq.cell (p := ⟨gt, 0, none⟩) tl).trans t0)), ((cell_store (by omega)).trans ((qq.cell (p := ⟨gt, 1, none⟩) tl).trans t1))⟩ | with_reducible exact ⟨keep_alloc (((cell_store (by omega)).trans ((qq.cell (p := ⟨bb, off + c, none⟩) hb).trans e0))), keep_alloc (((cell_store (by omega)).trans ((qq.cell (p := ⟨w3.heap.size, 0, none⟩) owl).trans ow0))), keep_alloc (((cell_store (by omega)).trans ((qq.cell (p := ⟨w3.heap.size, 1, none⟩) owl).trans ow1))), keep_alloc (((cell_store (by omega)).trans ((qq.cell (p := ⟨gt, 0, none⟩) tl).trans t0))), keep_alloc (((cell_store (by omega)).trans ((qq.cell (p := ⟨gt, 1, none⟩) tl).trans t1)))⟩ | with_reducible exact ⟨keep_alloc (keep_alloc (((cell_store (by omega)).trans ((qq.cell (p := ⟨bb, off + c, none⟩) hb).trans e0)))), keep_alloc (keep_alloc (((cell_store (by omega)).trans ((qq.cell (p := ⟨w3.heap.size, 0, none⟩) owl).trans ow0)))), keep_alloc (keep_alloc (((cell_store (by omega)).trans ((qq.cell (p := ⟨w3.heap.size, 1, none⟩) owl).trans ow1)))), keep_alloc (keep_alloc (((cell_store (by omega)).trans ((qq.cell (p := ⟨gt, 0, none⟩) tl).trans t0)))), keep_alloc (keep_alloc (((cell_store (by omega)).trans ((qq.cell (p := ⟨gt, 1, none⟩) tl).trans t1))))⟩ | go_keep)
            (first
              | (go_at_call 31; (with_reducible refine (CFc (hu.on BB0)).mono ?_); rintro e y1 ⟨bm, Am, nm, cm, rfl, hm, q⟩; have qq := BB0.trans (q.mono BB0.size); have hu' := (hu.on BB0).on q; have ht' := (ht.on BB0).on q; have qs1 := qq.size; clear q)
              | (go_at_call 31; (with_reducible refine (CFc (hu.on BB1)).mono ?_); rintro e y1 ⟨bm, Am, nm, cm, rfl, hm, q⟩; have qq := BB1.trans (q.mono BB1.size); have hu' := (hu.on BB1).on q; have ht' := (ht.on BB1).on q; have qs1 := qq.size; have bo_0 := (q.cell (p := ⟨wr.heap.size, 0, none⟩) (by simp)).trans (show _ = some (.bool false) by simp [go_sem]); have fo_0 := (q.frozen (p := ⟨wr.heap.size, 0, none⟩) (by simp)).trans (show _ = false by simp [go_sem]); have bo_1 := (q.cell (p := ⟨wr.heap.size, 1, none⟩) (by simp)).trans (show _ = some (.slice none 0 0) by simp [go_sem]); have fo_1 := (q.frozen (p := ⟨wr.heap.size, 1, none⟩) (by simp)).trans (show _ = false by simp [go_sem]); have ol : wr.heap.size < y1.heap.size := Nat.lt_of_lt_of_le (by simp) q.size; clear q))
          all_goals (go_wp2_with fail; go_meet)
          all_goals refine ⟨_, bm, Am, nm, cm, rfl, ?_⟩
          all_goals first
            | with_reducible exact loneZA hm qq _
            | with_reducible exact loneZB bo_0 bo_1 hm qq (by omega)
        case rest =>
          obtain ⟨gx, bx, Ax, nx, cx, rfl, ⟨x0, x1⟩, hx, b, xge⟩ := hcut
          replace hB0 := hB0.trans (b.mono hB0.size)
          have xl := cell_lt x0
          simp only at xl
          have xqow : w3.heap.size < gx := Nat.lt_of_lt_of_le owl xge
          have xqt : gt < gx := Nat.lt_of_lt_of_le tl xge
          replace e0 := (b.cell (p := ⟨bb, off + c, none⟩) hb).trans e0
          replace hb := Nat.lt_of_lt_of_le hb b.size
          replace hu := hu.on b
          replace ht := ht.on b
          replace tf0 := (b.frozen (p := ⟨gt, 0, none⟩) tl).trans tf0
          replace tf1 := (b.frozen (p := ⟨gt, 1, none⟩) tl).trans tf1
          replace ow0 := (b.cell (p := ⟨w3.heap.size, 0, none⟩) owl).trans ow0
          replace ow1 := (b.cell (p := ⟨w3.heap.size, 1, none⟩) owl).trans ow1
          replace owl := Nat.lt_of_lt_of_le owl b.size
          replace t0 := (b.cell (p := ⟨gt, 0, none⟩) tl).trans t0
          replace t1 := (b.cell (p := ⟨gt, 1, none⟩) tl).trans t1
          replace tl := Nat.lt_of_lt_of_le tl b.size
          replace cc := cc.trans (b.mono cc.size)
          clear b
          obtain ⟨r_, hr_⟩ : ∃ r, cmpZ x_ z_ = r := ⟨_, rfl⟩
          have HR := Lib.hid hr_
          have hxt : gt ≠ gx := by omega
          by_cases hq : x_ < z_
          · have t1_ : decide (r_ < 0) = true := decide_eq_true (by rw [← HR.out]; exact cmpZ_lt.2 hq)
            have HN2 : Hid (lpl d c = c) := Lib.hid (by rw [HN.out, if_pos hq])
            clear hq hr_
            go_wp2_with fail
            refine (rzcmp_w r_ hx ht lc lp HR.out).mono ?_
            rintro e w41 ⟨rfl, b⟩
            replace hB0 := hB0.trans (b.mono hB0.size)
            replace e0 := (b.cell (p := ⟨bb, off + c, none⟩) hb).trans e0
            replace hb := Nat.lt_of_lt_of_le hb b.size
            replace hu := hu.on b
            replace ht := ht.on b
            replace hx := hx.on b
            replace tf0 := (b.frozen (p := ⟨gt, 0, none⟩) tl).trans tf0
            replace tf1 := (b.frozen (p := ⟨gt, 1, none⟩) tl).trans tf1
            replace ow0 := (b.cell (p := ⟨w3.heap.size, 0, none⟩) owl).trans ow0
            replace ow1 := (b.cell (p := ⟨w3.heap.size, 1, none⟩) owl).trans ow1
            replace owl := Nat.lt_of_lt_of_le owl b.size
            replace t0 := (b.cell (p := ⟨gt, 0, none⟩) tl).trans t0
            replace t1 := (b.cell (p := ⟨gt, 1, none⟩) tl).trans t1
            replace tl := Nat.lt_of_lt_of_le tl b.size
            replace x0 := (b.cell (p := ⟨gx, 0, none⟩) xl).trans x0
            replace x1 := (b.cell (p := ⟨gx, 1, none⟩) xl).trans x1
            replace xl := Nat.lt_of_lt_of_le xl b.size
            replace cc := cc.trans (b.mono cc.size)
            clear b
            have bt_ : Box w41 gt bt At nt ct := ⟨t0, t1⟩
            have BX := Lib.hid (bt_.put bx Ax nx cx)
            have ZX : Hid (Zn ((w41.setCell ⟨gt, 0, none⟩ (.bool bx)).setCell ⟨gt, 1, none⟩ (.slice Ax nx cx)) bx Ax nx cx x_) := Lib.hid (hx.put bt_ _ _)
            have F0 : Hid (((w41.setCell ⟨gt, 0, none⟩ (.bool bx)).setCell ⟨gt, 1, none⟩ (.slice Ax nx cx)).frozen? ⟨gt, 0, none⟩ = false) := Lib.hid (by simpa [go_sem] using tf0)
            have F1 : Hid (((w41.setCell ⟨gt, 0, none⟩ (.bool bx)).setCell ⟨gt, 1, none⟩ (.slice Ax nx cx)).frozen? ⟨gt, 1, none⟩ = false) := Lib.hid (by simpa [go_sem] using tf1)
            have HBN := Lib.hid (below_put hB0 HGE.out (.bool bx) (.slice Ax nx cx))
            go_wp2_with fail
            go_roundw
            case rel => exact ⟨c, c + 1, bx, Ax, nx, cx, rfl, by omega, by go_num, by rw [HN2.out], BX.out, F0.out, F1.out, by rw [HN2.out, HX.out]; exact ZX.out, HBN.out⟩
            case measure => simp [intOf] <;> omega
          · have t1_ : decide (r_ < 0) = false := decide_eq_false (by rw [← HR.out, cmpZ_lt]; exact hq)
            have HN2 : Hid (lpl d c = lpl d p) := Lib.hid (by rw [HN.out, if_neg hq])
            clear hq hr_
            go_wp2_with fail
            refine (rzcmp_w r_ hx ht lc lp HR.out).mono ?_
            rintro e w41 ⟨rfl, b⟩
            replace hB0 := hB0.trans (b.mono hB0.size)
            replace e0 := (b.cell (p := ⟨bb, off + c, none⟩) hb).trans e0
            replace hb := Nat.lt_of_lt_of_le hb b.size
            replace hu := hu.on b
            replace ht := ht.on b
            replace hx := hx.on b
            replace tf0 := (b.frozen (p := ⟨gt, 0, none⟩) tl).trans tf0
            replace tf1 := (b.frozen (p := ⟨gt, 1, none⟩) tl).trans tf1
            replace ow0 := (b.cell (p := ⟨w3.heap.size, 0, none⟩) owl).trans ow0
            replace ow1 := (b.cell (p := ⟨w3.heap.size, 1, none⟩) owl).trans ow1
            replace owl := Nat.lt_of_lt_of_le owl b.size
            replace t0 := (b.cell (p := ⟨gt, 0, none⟩) tl).trans t0
            replace t1 := (b.cell (p := ⟨gt, 1, none⟩) tl).trans t1
            replace tl := Nat.lt_of_lt_of_le tl b.size
            replace x0 := (b.cell (p := ⟨gx, 0, none⟩) xl).trans x0
            replace x1 := (b.cell (p := ⟨gx, 1, none⟩) xl).trans x1
            replace xl := Nat.lt_of_lt_of_le xl b.size
            replace cc := cc.trans (b.mono cc.size)
            clear b
            go_wp2_with fail
            go_roundw
            case rel => exact ⟨c, c + 1, bt, At, nt, ct, rfl, by omega, by go_num, by rw [HN2.out], ⟨t0, t1⟩, tf0, tf1, by rw [HN2.out, HZZ.out]; exact ht, hB0⟩
            case measure => simp [intOf] <;> omega
      · obtain rfl : p = 255 := by omega
        obtain rfl : c = 256 := by omega
        obtain ⟨r, hr⟩ : ∃ r, lpl d 255 = r := ⟨_, rfl⟩
        rw [hr] at hle ⊢
        have kw : IntKind.u8.wrap (r : Int) = (r : Int) := by rw [IntKind.wrap_u8]; omega
        have cc := CCV.out.trans (hB0.mono CCV.out.size)
        go_wp2_with fail
        go_ret2
        exact ⟨rfl, cc⟩

end Go.Proofs.Ytgglcgkgeilblaa

/-
  The landed book: what its iterator tells (middles, and the function value that it answers).
-/
namespace Go.Proofs.Ytgglcgkgeilblaa
set_option maxRecDepth 100000
open Go.RowKit Go.Shelf
set_option linter.unusedVariables false
set_option linter.unusedSimpArgs false

attribute [local go_sem] Oper.semAt_some

/-- A number that the iterator tells. -/
abbrev Mid := { x : Nat // x ≤ 400000000000 }
def mkM (x : Nat) : Mid := ⟨min x 400000000000, Nat.min_le_right _ _⟩
theorem mkM_val {x : Nat} (h : x ≤ 400000000000) : (mkM x).1 = x := Nat.min_eq_left h
/-- The first m numbers of decade i; the first i decades. -/
def toldk (n i m : Nat) : List Mid := (List.range m).map fun j => mkM (p9 n i j)
def told (s : Bool) (i : Nat) : List Mid := (List.range i).flatMap fun r => toldk (many9 s r) r (many9 s r)
theorem toldk_succ (n i m : Nat) : toldk n i (m + 1) = toldk n i m ++ [mkM (p9 n i m)] := by unfold toldk; rw [List.range_succ, List.map_append]; rfl
theorem toldk_zero (n i : Nat) : toldk n i 0 = [] := rfl
theorem toldk_len (n i m : Nat) : (toldk n i m).length = m := by unfold toldk; simp
theorem told_succ (s : Bool) (k : Nat) : told s (k + 1) = told s k ++ toldk (many9 s k) k (many9 s k) := by unfold told; rw [List.range_succ, List.flatMap_append]; simp
theorem told_zero (s : Bool) : told s 0 = [] := rfl
/-- How many it tells. -/
def N9 (s : Bool) : Nat := if s then 127 else 254
theorem told_room (s : Bool) {i : Nat} (hi : i ≤ 6) : (told s i).length + many9 s i ≤ N9 s := by
  have h : ∀ s : Bool, ∀ i : Fin 7, (told s i.1).length + many9 s i.1 ≤ N9 s := by decide +kernel
  exact h s ⟨i, by omega⟩
theorem many9_succ (s : Bool) (i : Nat) : many9 s i * 2 = many9 s (i + 1) := by unfold many9; cases s <;> simp [Nat.pow_succ]

/-- middles: its parameter lies in a box; the function value captures the box. -/
theorem middles_any (p : Int) (w : World) :
    Calls Try.prog 40 #[.int .i64 p] w fun e w' => e = .returned (.func (.func 53) #[] #[.pointer (some ⟨w.heap.size, 0, none⟩)]) ∧ w' = w.alloc (.cells #[.int .i64 p] 2) := by
  go_enter Try.func40, Try.ntmps40
  go_wp2
  go_ret
  exact ⟨rfl, rfl⟩

set_option maxRecDepth 100000 in
set_option maxHeartbeats 2000000 in
theorem mids_in (l Bq : Nat) (s : Bool) (J Jx : List Mid → World → Prop)
    (hY : ∀ pre x W, J pre W → pre.length < N9 s → YieldAt Fence.wide 8 Try.prog l #[.int .i64 (x.1 : Int)] W fun e W' =>
      (e = .returned (.bool true) ∧ J (pre ++ [x]) W' ∧ True) ∨ (e = .returned (.bool false) ∧ Jx (pre ++ [x]) W'))
    (W : World) (hq : Boxed W Bq 2 (.int .i64 ((many9 s 0 : Nat) : Int))) (h0 : J [] W) :
    CallsIn Fence.wide 9 Try.prog 53 #[.func (.yield l) #[] #[], .pointer (some ⟨Bq, 0, none⟩)] W fun e W' => (∃ v, e = .returned v) ∧
      ((∃ ys, ys = told s 7 ∧ J ys W') ∨ (∃ pre, True ∧ Jx pre W')) := by
  have hmo : Try.prog.follows .mixedOrders = true := by kernel_rfl
  have hq' := hq.cell
  obtain ⟨n0, en0⟩ : ∃ n0, many9 s 0 = n0 := ⟨_, rfl⟩
  rw [en0] at hq'
  have EN := Lib.hid en0
  clear en0 hq
  refine callsIn_of_wp Try.func53 rfl trivial ?_ rfl
  simp only [Try.ntmps53, List.size_toArray, List.length_cons, List.length_nil, Nat.reduceAdd, Nat.reduceSub, Array.replicate_succ, Array.replicate_zero, List.push_toArray, List.append_toArray, List.nil_append, List.cons_append]
  gi_wp2
  clear hq'
  gi_loopw [3, 4, 7] (fun nv tv iv wr => ∃ i : Nat, i ≤ 7 ∧ iv = .int .i64 (i : Int) ∧ nv = .int .i64 ((many9 s i : Nat) : Int) ∧ tv = .int .i64 ((10 ^ i : Nat) : Int) ∧ J (told s i) wr) (fun _ _ iv _ => 7 - (intOf iv).toNat)
  case atStart => exact ⟨0, by omega, rfl, by rw [EN.out], rfl, h0⟩
  case round =>
    clear h0
    obtain ⟨i, hi7, rfl, rfl, rfl, hJ0⟩ := hrel
    by_cases hlt : i < 7
    · have i6 : i ≤ 6 := by omega
      have hd7 : decide ((i : Int) < 7) = true := decide_eq_true (by omega)
      obtain ⟨n1, n128⟩ := many9_le s i6
      have hroom := told_room s i6
      have hsn := many9_succ s i
      have hts := told_succ s i
      have t6 : 10 ^ i ≤ 10 ^ 6 := Nat.pow_le_pow_right (by omega) i6
      have htn : 10 ^ i * 10 = 10 ^ (i + 1) := (Nat.pow_succ 10 i).symm
      have hp : ∀ j, j < many9 s i → (2 * many9 s i + 9 * (2 * j + 1)) * (128 / many9 s i) ≤ 400000 ∧ p9 (many9 s i) i j ≤ 400000000000 ∧ p9 (many9 s i) i j = (2 * many9 s i + 9 * (2 * j + 1)) * (128 / many9 s i) * 10 ^ i := fun j hj => ⟨(p9_le n1 n128 i6 hj).1, (p9_le n1 n128 i6 hj).2.2, rfl⟩
      obtain ⟨n, en⟩ : ∃ n, many9 s i = n := ⟨_, rfl⟩
      obtain ⟨ten, et⟩ : ∃ ten, 10 ^ i = ten := ⟨_, rfl⟩
      have hn2 : IntKind.i64.wrap ((n : Int) * 2) = ((n * 2 : Nat) : Int) := by rw [IntWalk.i64_in _ (by omega)]; omega
      have ht2 : IntKind.i64.wrap ((ten : Int) * 10) = ((ten * 10 : Nat) : Int) := by rw [IntWalk.i64_in _ (by omega)]; omega
      obtain ⟨n', en'⟩ : ∃ n', n * 2 = n' := ⟨_, rfl⟩
      obtain ⟨ten', et'⟩ : ∃ ten', ten * 10 = ten' := ⟨_, rfl⟩
      rw [en] at hroom hsn hts hp n1 n128 ⊢
      rw [et] at t6 htn hp ⊢
      rw [en'] at hn2 hsn
      rw [et'] at ht2 htn
      have q1 : 128 / n ≤ 128 := Nat.div_le_self _ _
      have hqv : ((128 : Int)).tdiv (n : Int) = ((128 / n : Nat) : Int) := by rw [Int.tdiv_eq_ediv_of_nonneg (by omega)]; simp
      have hqv' : ((128 : Int)) / (n : Int) = ((128 / n : Nat) : Int) := by simp
      obtain ⟨q, eq⟩ : ∃ q, 128 / n = q := ⟨_, rfl⟩
      rw [eq] at hp q1 hqv hqv'
      have nn : ¬ n = 0 := by omega
      have nb : ((n : Int) == 0) = false := by simp; omega
      have kq : IntKind.i64.wrap (q : Int) = (q : Int) := IntWalk.i64_in _ (by omega)
      obtain ⟨a, ea⟩ : ∃ a, 2 * n = a := ⟨_, rfl⟩
      have k1 : IntKind.i64.wrap ((2 : Int) * (n : Int)) = (a : Int) := by rw [IntWalk.i64_in _ (by omega)]; omega
      have EA := Lib.hid ea
      have HT6 := Lib.hid t6
      have HSN := Lib.hid hsn
      have HTS := Lib.hid hts
      have HTN := Lib.hid htn
      have HP := Lib.hid hp
      have HR := Lib.hid hroom
      clear en et en' et' eq hsn hts htn hp hroom ea t6
      gi_wp2
      gi_loopw [5, 10] (fun _ jv wr => ∃ j : Nat, j ≤ n ∧ jv = .int .i64 (j : Int) ∧ J (told s i ++ toldk n i j) wr) (fun _ jv _ => n - (intOf jv).toNat)
      case atStart => exact ⟨0, by omega, rfl, by rw [toldk_zero, List.append_nil]; exact hJ0⟩
      case round =>
        clear hJ0
        obtain ⟨j, hjn, rfl, hJj⟩ := hrel
        by_cases hj : j < n
        · obtain ⟨b1, b3, ep⟩ := HP.out j hj
          have hM := mkM_val b3
          obtain ⟨c, ec⟩ : ∃ c, 2 * j = c := ⟨_, rfl⟩
          obtain ⟨d, ed⟩ : ∃ d, c + 1 = d := ⟨_, rfl⟩
          obtain ⟨o, eo⟩ : ∃ o, 9 * d = o := ⟨_, rfl⟩
          have ea := EA.out
          rw [ea, ec, ed, eo] at b1 ep
          obtain ⟨u, eu⟩ : ∃ u, a + o = u := ⟨_, rfl⟩
          have ul : u ≤ 2570 := by omega
          rw [eu] at b1 ep
          obtain ⟨v, ev⟩ : ∃ v, u * q = v := ⟨_, rfl⟩
          rw [ev] at b1 ep
          obtain ⟨x, ex⟩ : ∃ x, p9 n i j = x := ⟨_, rfl⟩
          have hks := toldk_succ n i j
          rw [ex] at b3 ep hM hks
          have k2 : IntKind.i64.wrap ((2 : Int) * (j : Int)) = (c : Int) := by rw [IntWalk.i64_in _ (by omega)]; omega
          have k3 : IntKind.i64.wrap ((c : Int) + 1) = (d : Int) := by rw [IntWalk.i64_in _ (by omega)]; omega
          have k4 : IntKind.i64.wrap ((9 : Int) * (d : Int)) = (o : Int) := by rw [IntWalk.i64_in _ (by omega)]; omega
          have k5 : IntKind.i64.wrap ((a : Int) + (o : Int)) = (u : Int) := by rw [IntWalk.i64_in _ (by omega)]; omega
          have KV : IntKind.i64.wrap ((u : Int) * (q : Int)) = (v : Int) := by rw [← Int.natCast_mul, ev]; exact IntWalk.i64_in _ (by omega)
          have KX : IntKind.i64.wrap ((v : Int) * (ten : Int)) = (x : Int) := by rw [← Int.natCast_mul, ← ep]; exact IntWalk.i64_in _ (by omega)
          obtain ⟨M, eM⟩ : ∃ M, mkM x = M := ⟨_, rfl⟩
          rw [eM] at hM hks
          have hlen : (told s i ++ toldk n i j).length < N9 s := by rw [List.length_append, toldk_len]; have := HR.out; omega
          obtain ⟨fn, tmps, assign, body, hy, hR⟩ := hY _ M wr hJj hlen
          rw [hM] at hy
          have hR' : RoundIn Fence.wide 8 Try.prog l fn tmps assign body wr fun e W' => ∃ bv : Bool, e = .returned (.bool bv) ∧ Hid ((bv = true ∧ J (told s i ++ toldk n i (j + 1)) W') ∨ (bv = false ∧ ∃ pre, Jx pre W')) := hR.mono fun e W' h => by
            rw [hks, ← List.append_assoc]
            rcases h with ⟨rfl, h1, _⟩ | ⟨rfl, h1⟩
            · exact ⟨true, rfl, .inl ⟨rfl, h1⟩⟩
            · exact ⟨false, rfl, .inr ⟨rfl, _, h1⟩⟩
          clear hR hks eM hM ec ed eo ea eu ev ex b1 b3 ep hlen
          gi_wp2_with (refine hR'.mono ?_; rintro e W3 ⟨bv, rfl, hpost⟩)
          · have hb : bv = false := by cases bv with | false => rfl | true => exact absurd ‹(!true) = true› (by decide)
            subst hb
            rcases hpost.out with ⟨h, _⟩ | ⟨_, pre3, hJx3⟩
            · cases h
            · refine bodyPost_ret (results_none rfl _ _ _) rfl ?_
              exact ⟨⟨_, rfl⟩, .inr ⟨_, trivial, hJx3⟩⟩
          · have hb : bv = true := by cases bv with | true => rfl | false => exact absurd ‹(!false) = false› (by decide)
            subst hb
            rcases hpost.out with ⟨_, hJ3⟩ | ⟨h, _⟩
            · go_roundw
              case rel => exact ⟨j + 1, by omega, by go_num, hJ3⟩
              case measure => simp [intOf]; omega
            · cases h
        · obtain rfl : j = n := by omega
          gi_wp2
          go_roundw
          case rel => exact ⟨i + 1, by omega, by go_num, by rw [← HSN.out], by rw [← HTN.out], by rw [HTS.out]; exact hJj⟩
          case measure => simp [intOf]; omega
    · obtain rfl : i = 7 := by omega
      gi_wp2
      go_end0
      exact ⟨⟨_, rfl⟩, .inl ⟨_, rfl, hJ0⟩⟩
/-- The iterator's contract, as a loop over it wants it. -/
theorem mids_stops (Bq : Nat) (s : Bool) (w : World) (hq : Boxed w Bq 2 (.int .i64 ((many9 s 0 : Nat) : Int))) :
    SeqStopsK Fence.wide 9 Try.prog 53 #[.pointer (some ⟨Bq, 0, none⟩)] (fun x : Mid => #[Value.int .i64 (x.1 : Int)])
      (fun _ _ => True) (fun ys => ys = told s 7) (fun _ => True) (N9 s) w := fun l J Jx W hW hJa _ hY h0 =>
  mids_in l Bq s J Jx hY W ((hW.block Bq hq.lt).trans hq) h0
end Go.Proofs.Ytgglcgkgeilblaa

/-
  The landed book: tree.
-/
namespace Go.Proofs.Ytgglcgkgeilblaa
set_option maxRecDepth 100000
open Go.RowKit Go.Shelf
set_option linter.unusedVariables false
set_option linter.unusedSimpArgs false

attribute [local go_sem] Oper.semAt_some

/-- The place of nought. -/
def half9 (s : Bool) : Nat := if s then 127 else 0
/-- A number is laid down: the row, and the place. -/
def stepL (s : Bool) (st : List Int × Nat) (x : Mid) : List Int × Nat :=
  (if s then (st.1.set (st.2 + 1) (x.1 : Int)).set (254 - (st.2 + 1)) (-(x.1 : Int)) else st.1.set (st.2 + 1) (x.1 : Int), st.2 + 1)
def lay9 (s : Bool) (pre : List Mid) : List Int × Nat := pre.foldl (stepL s) (List.replicate 256 0, half9 s)
theorem lay9_snoc (s : Bool) (pre : List Mid) (x : Mid) : lay9 s (pre ++ [x]) = stepL s (lay9 s pre) x := by unfold lay9; rw [List.foldl_append]; rfl
theorem fold_place (s : Bool) : ∀ (pre : List Mid) (st : List Int × Nat), (pre.foldl (stepL s) st).2 = st.2 + pre.length
  | [], st => rfl
  | x :: pre, st => by rw [List.foldl_cons, fold_place s pre]; show st.2 + 1 + pre.length = _; rw [List.length_cons]; omega
theorem lay9_place (s : Bool) (pre : List Mid) : (lay9 s pre).2 = half9 s + pre.length := fold_place s pre _
theorem fold_len (s : Bool) : ∀ (pre : List Mid) (st : List Int × Nat), (pre.foldl (stepL s) st).1.length = st.1.length
  | [], st => rfl
  | x :: pre, st => by rw [List.foldl_cons, fold_len s pre]; unfold stepL; cases s <;> simp
theorem lay9_len (s : Bool) (pre : List Mid) : (lay9 s pre).1.length = 256 := by unfold lay9; rw [fold_len]; exact List.length_replicate
theorem lay9_done (s : Bool) : (lay9 s (told s 7)).1.set 255 2560000000 = tree9 s := by cases s <;> decide +kernel
theorem row_ownI {β : Type} (n₀ : Nat) (e : TypeId) (size : Nat) (v : β → Value) (k : β → Nat) (f : β → List Value) : Own (fun s W => W.ownsRow n₀ e size (v s) (k s) (f s)) := by
  rintro s X Y row hr hg hrow
  refine hr.kept hg ?_
  rcases hr.2 with ⟨h, _⟩ | ⟨g, cap, cur, h, _, hgb, _⟩
  · exact .inl (by rw [h]; rfl)
  · refine .inr fun e' => ?_
    obtain ⟨o, ho, hc⟩ := hrow g (by rw [← e', h]; rfl)
    rw [hgb] at ho; cases ho; cases hc
theorem atI {l : List Int} {j n : Nat} (h : l.length = n) (hj : j < n) : ∃ v, (l.map encI)[j]? = some (.int .i64 v) := by
  rw [List.getElem?_map, List.getElem?_eq_getElem (by omega)]
  exact ⟨_, rfl⟩
theorem made_zeroI (n : Nat) : (madeCells (Value.int .i64 0).cells (n * 1)).toList = (List.replicate n (0 : Int)).map encI := by
  rw [Nat.mul_one, show (Value.int .i64 0).cells = #[Value.int .i64 0] from rfl, toList_madeCells_one, List.map_replicate]
  rfl

theorem wpListIn_make_full9 {F : Fence} {n : Nat} {P : Program} (w : World) {ops : Array Oper} {rest : List Oper} {o : Oper} {a : Act} {Q : Exit → Act → World → Prop}
    (hg : o.guard = none) (l c : Operand) (t : TypeId) (hop : o.op = Op.makeSlice t l c)
    (base : Nat) (e : TypeId) (i : TypeInfo) (z : Value) (size : Nat) (h1 : P.underlying t = some (.slice e)) (h2 : P.info? e = some i) (h3 : i.zero = some z) (h4 : i.size = size)
    (kl kc : IntKind) (m : Nat) (hl : a.eval l = .int kl (m : Int)) (hc : a.eval c = .int kc (m : Int)) (b2 : i.bytes * m ≤ 281474976710656) (b3 : m ≤ maxLen) (b4 : base ≤ w.heap.size)
    (hK : ∀ w', w'.ownsRow base e size (.slice (some ⟨w.heap.size, 0, none⟩) m m) m (madeCells z.cells (m * size)).toList → w.grownBy w' none → wpListIn F n P ops Q rest (a.put o.dst (.slice (some ⟨w.heap.size, 0, none⟩) m m)) w') :
    wpListIn F n P ops Q (o :: rest) a w := by
  refine wpListIn_plain hg fun K hK' => ?_
  obtain ⟨w', hrun, r1, r2⟩ := run_make_full (P := P) w base t e i z size h1 h2 h3 h4 kl kc m b2 b3 b4
  unfold Oper.wpIn
  refine ⟨?_, ?_⟩
  · simp [Oper.about, hop]
  · rw [Oper.semAt_plain F _ _ (by rw [hop]; intro c hc'; cases hc')]
    simp [execOp, hop, hl, hc, hrun, Result.andThen]
    exact hK' _ _ (hK w' r1 r2)

set_option maxRecDepth 100000 in
set_option maxHeartbeats 4000000 in
theorem tree_t (Bq : Nat) (w : World) (hq : Boxed w Bq 2 (.int .i64 ((many9 true 0 : Nat) : Int))) :
    Calls Try.prog 39 #[.func (.func 53) #[] #[.pointer (some ⟨Bq, 0, none⟩)], .bool true] w (GotI w (tree9 true)) := by
  refine (callsIn_wide (n := 10)).1 ?_
  refine callsIn_of_wp_marks Try.func39 rfl trivial ?_ rfl
  simp only [Try.ntmps39, List.size_toArray, List.length_cons, List.length_nil, Nat.reduceAdd, Nat.reduceSub, Array.replicate_succ, Array.replicate_zero, List.push_toArray, List.append_toArray, List.nil_append, List.cons_append]
  obtain ⟨i0, hi, hz0, hz1, hz2⟩ := info_parts infoI
  obtain ⟨s, hs⟩ : ∃ s, w.heap.size = s := ⟨_, rfl⟩
  have HS := Lib.hid hs
  have bG := Boxed.new w 4 (.bool true)
  rw [hs] at bG
  have cG := bG.cell
  have hbw : Below s w (w.alloc (.cells #[.bool true] 4)) := (Below.refl s w).alloc (by omega) _
  obtain ⟨w0, hw0⟩ : ∃ w0, w.alloc (.cells #[.bool true] 4) = w0 := ⟨_, rfl⟩
  have hz0' : w0.heap.size = s + 1 := by rw [← hw0, World.size_alloc, hs]
  rw [hw0] at bG cG hbw
  gi_wp2_with (gi_at_make; refine wpListIn_make_full9 _ rfl _ _ 45 rfl s 2 i0 (.int .i64 0) 1 Try.underlying45 hi hz0 hz1 .i64 .i64 256 rfl rfl (by rw [hz2]; omega) (by unfold maxLen; omega) (by rw [hz0']; omega) ?_; intro w1 hown1 hgrow1; rw [made_zeroI] at hown1; have bG1 := bG.kept hgrow1 (by simp); have cG1 := ((bG1.alloc (.cells #[.slice (some ⟨s + 1, 0, none⟩) 256 256] 45)).alloc (.cells #[.int .i64 0] 3)).cell)
  rw [hz0'] at hown1
  obtain ⟨t, ht⟩ : ∃ t, w1.heap.size = t := ⟨_, rfl⟩
  rw [ht]
  have hst : s + 1 < t := by have := (hown1.lt (s + 1) rfl).2; omega
  have bL := Boxed.new w1 45 (.slice (some ⟨s + 1, 0, none⟩) 256 256)
  rw [ht] at bL
  have hB1 : Below s w w1 := hbw.grown hgrow1 (by omega) (fun k h => by cases h)
  have hown2 := hown1.alloc (.cells #[.slice (some ⟨s + 1, 0, none⟩) 256 256] 45)
  have bG2 := bG1.alloc (.cells #[.slice (some ⟨s + 1, 0, none⟩) 256 256] 45)
  have hB2 := hB1.alloc (by omega) (.cells #[.slice (some ⟨s + 1, 0, none⟩) 256 256] 45)
  obtain ⟨w2, hw2⟩ : ∃ w2, w1.alloc (.cells #[.slice (some ⟨s + 1, 0, none⟩) 256 256] 45) = w2 := ⟨_, rfl⟩
  have hz2' : w2.heap.size = t + 1 := by rw [← hw2, World.size_alloc, ht]
  rw [hw2] at bL hown2 bG2 hB2 ⊢
  have bH := Boxed.new w2 3 (.int .i64 127)
  rw [hz2'] at bH
  have hown3 := hown2.alloc (.cells #[.int .i64 127] 3)
  have bG3 := bG2.alloc (.cells #[.int .i64 127] 3)
  have bL3 := bL.alloc (.cells #[.int .i64 127] 3)
  have hB3 := hB2.alloc (by omega) (.cells #[.int .i64 127] 3)
  obtain ⟨w3, hw3⟩ : ∃ w3, w2.alloc (.cells #[.int .i64 127] 3) = w3 := ⟨_, rfl⟩
  have hz3' : w3.heap.size = t + 1 + 1 := by rw [← hw3, World.size_alloc, hz2']
  rw [hw3] at bH hown3 bG3 bL3 hB3 ⊢
  have bP := Boxed.new w3 3 (.int .i64 127)
  rw [hz3'] at bP
  have hown4 := hown3.alloc (.cells #[.int .i64 127] 3)
  have bG4 := bG3.alloc (.cells #[.int .i64 127] 3)
  have bL4 := bL3.alloc (.cells #[.int .i64 127] 3)
  have bH4 := bH.alloc (.cells #[.int .i64 127] 3)
  have hB4 := hB3.alloc (by omega) (.cells #[.int .i64 127] 3)
  obtain ⟨W0, hW0⟩ : ∃ W0, w3.alloc (.cells #[.int .i64 127] 3) = W0 := ⟨_, rfl⟩
  have hsz : W0.heap.size = t + 3 := by rw [← hW0, World.size_alloc, hz3']
  rw [hW0] at bP hown4 bG4 bL4 bH4 hB4 ⊢
  have hq0 : Boxed W0 Bq 2 (.int .i64 ((many9 true 0 : Nat) : Int)) := (hB4.block Bq (by have := hq.lt; omega)).trans hq
  clear hown1 hgrow1 hw2 hz2' hown2 bG2 hB2 hw3 hz3' hown3 bG3 bL3 hB3 hW0 ht bL bH bG bG1 cG cG1 hw0 hz0' hbw hB1 hq
  refine wpIn_rangeFunc_ownG rfl (by decide) (gf := 53) (lb := #[.pointer (some ⟨Bq, 0, none⟩)]) rfl trivial (enters_of Try.func53 (by kernel_rfl) rfl)
    (mids_stops Bq true W0 hq0)
    (fun _ _ => trivial) (fun _ _ _ _ _ _ _ _ => trivial) (Below.refl _ _) (fun _ => rfl)
    (fun pre W => (Boxed W s 4 (.bool true) ∧ Boxed W t 45 (.slice (some ⟨s + 1, 0, none⟩) 256 256) ∧ Boxed W (t + 1) 3 (.int .i64 127) ∧ Boxed W (t + 1 + 1) 3 (.int .i64 ((127 + pre.length : Nat) : Int)) ∧
      W.ownsRow s 2 1 (.slice (some ⟨s + 1, 0, none⟩) 256 256) 256 ((lay9 true pre).1.map encI)) ∧ Below s w W)
    (fun _ _ _ => False)
    (OwnFrom.and (OwnFrom.and (Own.from (boxed_own _ _ _) _) (OwnFrom.and (Own.from (boxed_own _ _ _) _) (OwnFrom.and (Own.from (boxed_own _ _ _) _) (OwnFrom.and (Own.from (boxed_own _ _ _) _) (Own.from (row_ownI _ _ _ _ _ _) _))))) (ownFrom_below (by have := HS.out; omega) (by omega)))
    (fun _ _ _ _ _ hs _ _ => hs)
    ⟨⟨bG4, bL4, bH4, bP, hown4⟩, hB4⟩
    (fun x => { tmps := #[.func (.func 53) #[] #[.pointer (some ⟨Bq, 0, none⟩)], .bool true, undef, .pointer (some ⟨s, 0, none⟩), .slice none 0 0, .pointer (some ⟨t, 0, none⟩), .pointer (some ⟨t + 1, 0, none⟩), .pointer (some ⟨t + 1 + 1, 0, none⟩), .int .i64 (x.1 : Int), .slice (some ⟨s + 1, 0, none⟩) 256 256, .bool true, .int .i64 127,
      .func (.func 53) #[] #[.pointer (some ⟨Bq, 0, none⟩)], .int .i64 (x.1 : Int), undef, undef, undef, undef, undef, undef, undef, undef, undef, undef, undef, undef, undef, undef, undef, undef, undef, undef], defers := [] }) ?assign ?body ?done ?stop
  case assign =>
    intro l x W K hK
    gi_wp2
    exact hK
  case body =>
    rintro l pre x W ⟨⟨hG, hL, hH, hP, hrow⟩, hBl⟩ hlt
    have hlt' : pre.length < 127 := hlt
    have hxl := x.2
    have hlen := lay9_len true pre
    have hpl := lay9_place true pre
    have hsn := lay9_snoc true pre x
    obtain ⟨r, er⟩ : ∃ r, lay9 true pre = r := ⟨_, rfl⟩
    obtain ⟨p, ep⟩ : ∃ p, 127 + pre.length = p := ⟨_, rfl⟩
    obtain ⟨p1, ep1⟩ : ∃ p1, p + 1 = p1 := ⟨_, rfl⟩
    have er2 : r.2 = p := by rw [← er, hpl]; exact ep
    have epl : 127 + (pre ++ [x]).length = p1 := by rw [List.length_append, ← ep1, ← ep]; rfl
    have hsn1 : (lay9 true (pre ++ [x])).1 = (r.1.set p1 (x.1 : Int)).set (254 - p1) (-(x.1 : Int)) := by rw [hsn, er]; unfold stepL; rw [er2, ep1]; rfl
    rw [er] at hrow hlen
    rw [ep] at hP
    have p1l : p1 ≤ 254 := by omega
    have k1 : IntKind.i64.wrap ((p : Int) + 1) = (p1 : Int) := by rw [IntWalk.i64_in _ (by omega)]; omega
    have p1i : (p1 : Int) < 256 := by omega
    have p1n : p1 < 256 := by omega
    obtain ⟨xv, ex⟩ : ∃ xv, ((x.1 : Nat) : Int) = xv := ⟨_, rfl⟩
    have hP1 := hP.set (.int .i64 (p1 : Int))
    have hG1 := hG.other (B' := t + 1 + 1) (by omega) (.int .i64 (p1 : Int))
    have hL1 := hL.other (B' := t + 1 + 1) (by omega) (.int .i64 (p1 : Int))
    have hH1 := hH.other (B' := t + 1 + 1) (by omega) (.int .i64 (p1 : Int))
    have hrow1 := hrow.kept (grownBy_setCell' W (t + 1 + 1) (.int .i64 (p1 : Int))) (.inr (by simp [Value.ownBlock]; omega))
    have cP0 := hP.cell
    have fP0 := hP.frozen
    obtain ⟨W1, eW1⟩ : ∃ W1, W.setCell ⟨t + 1 + 1, 0, none⟩ (.int .i64 (p1 : Int)) = W1 := ⟨_, rfl⟩
    rw [eW1] at hP1 hG1 hL1 hH1 hrow1
    have cL1 := hL1.cell
    have cP1 := hP1.cell
    have cR1 := hrow1.cellAt p1 (by omega)
    obtain ⟨v1, ev1⟩ := atI hlen p1n
    rw [ev1] at cR1
    have fR1 := hrow1.frozenAt p1
    obtain ⟨hrow2, hgr2⟩ := hrow1.stored p1 (.int .i64 xv)
    have hG2 := hG1.kept hgr2 (by simp)
    have hL2 := hL1.kept hgr2 (by simp; omega)
    have hH2 := hH1.kept hgr2 (by simp; omega)
    have hP2 := hP1.kept hgr2 (by simp; omega)
    obtain ⟨W2, eW2⟩ : ∃ W2, W1.setCell ⟨s + 1, p1, none⟩ (.int .i64 xv) = W2 := ⟨_, rfl⟩
    rw [eW2] at hrow2 hG2 hL2 hH2 hP2
    have cG2 := hG2.cell
    have cL2 := hL2.cell
    have cH2 := hH2.cell
    have cP2 := hP2.cell
    obtain ⟨q, eq⟩ : ∃ q, 254 - p1 = q := ⟨_, rfl⟩
    rw [eq] at hsn1
    have k2 : IntKind.i64.wrap ((254 : Int) - (p1 : Int)) = (q : Int) := by rw [IntWalk.i64_in _ (by omega)]; omega
    have k3 : IntKind.i64.wrap (-xv) = -xv := by rw [IntWalk.i64_in _ (by omega)]
    have qi : (q : Int) < 256 := by omega
    have qn : q < 256 := by omega
    obtain ⟨y, ey⟩ : ∃ y, -xv = y := ⟨_, rfl⟩
    have k4 : wrap64 (-xv) = y := (IntWalk.wrap64_in _ (by omega)).trans ey
    clear k3
    have cR2 := hrow2.cellAt q (by omega)
    obtain ⟨v2, ev2⟩ := atI (l := r.1.set p1 xv) (j := q) (by rw [List.length_set]; exact hlen) qn
    rw [List.map_set] at ev2
    rw [show (r.1.map encI).set p1 (.int .i64 xv) = (r.1.map encI).set p1 (encI xv) from rfl, ev2] at cR2
    have fR2 := hrow2.frozenAt q
    obtain ⟨hrow3, hgr3⟩ := hrow2.stored q (.int .i64 y)
    have hG3 := hG2.kept hgr3 (by simp)
    have hL3 := hL2.kept hgr3 (by simp; omega)
    have hH3 := hH2.kept hgr3 (by simp; omega)
    have hP3 := hP2.kept hgr3 (by simp; omega)
    have hKO : KeepsOthers W (W2.setCell ⟨s + 1, q, none⟩ (.int .i64 y)) := by rw [← eW2, ← eW1]; exact ((KeepsOthers.setCell _ _ _).trans (KeepsOthers.setCell _ _ _)).trans (KeepsOthers.setCell _ _ _)
    have hBW : Below s W (W2.setCell ⟨s + 1, q, none⟩ (.int .i64 y)) := by rw [← eW2, ← eW1]; exact (((Below.refl s W).setCell (p := ⟨t + 1 + 1, 0, none⟩) (by simp; omega) _).setCell (p := ⟨s + 1, p1, none⟩) (by simp) _).setCell (p := ⟨s + 1, q, none⟩) (by simp) _
    obtain ⟨W3, eW3⟩ : ∃ W3, W2.setCell ⟨s + 1, q, none⟩ (.int .i64 y) = W3 := ⟨_, rfl⟩
    rw [eW3] at hrow3 hG3 hL3 hH3 hP3 hKO hBW
    have HSN := Lib.hid hsn1
    have HEP := Lib.hid epl
    have HEX := Lib.hid ex
    have HEY := Lib.hid ey
    have hrow3' : W3.ownsRow s 2 1 (.slice (some ⟨s + 1, 0, none⟩) 256 256) 256 ((lay9 true (pre ++ [x])).1.map encI) := by
      rw [HSN.out, List.map_set, List.map_set, HEX.out, HEY.out]; exact hrow3
    rw [← HEP.out] at hP3
    have HRES := Lib.hid (And.intro (And.intro hG3 (And.intro hL3 (And.intro hH3 (And.intro hP3 hrow3')))) (hBl.trans hBW))
    clear ev1 ev2 hrow3' hrow3 hrow2 hrow1 hrow hG3 hL3 hH3 hP3 hG2 hL2 hH2 hP2 hG1 hL1 hH1 hP1 hG hL hH hP hgr2 hgr3 hsn1 epl ey eq ep1 ep er er2 hsn hpl hlen hBl
    rw [ex] at *
    clear ex
    gi_wp2
    exact ⟨hKO.from _, trivial, HRES.out⟩
  case done =>
    rintro D ys W hD hys ⟨⟨hG, hL, hH, hP, hrow⟩, hBl⟩ hK
    have hdone := lay9_done true
    rw [← hys] at hdone
    have hlen := lay9_len true ys
    obtain ⟨r, er⟩ : ∃ r, (lay9 true ys).1 = r := ⟨_, rfl⟩
    rw [er] at hrow hlen hdone
    have HD := Lib.hid hdone
    have hrl := (hrow.lt (s + 1) rfl).2
    have cL := hL.cell
    have cR := hrow.cellAt 255 (by omega)
    obtain ⟨v1, ev1⟩ := atI (j := 255) hlen (by omega)
    rw [ev1] at cR
    have fR := hrow.frozenAt 255
    obtain ⟨hrow2, hgr2⟩ := hrow.stored 255 (.int .i64 2560000000)
    have hL2 := hL.kept hgr2 (by simp; omega)
    have cL2 := hL2.cell
    have hBW : Below s W (W.setCell ⟨s + 1, 255, none⟩ (.int .i64 2560000000)) := (Below.refl s W).setCell (p := ⟨s + 1, 255, none⟩) (by simp) _
    have hK2 := (KeepsOthers.setCell W ⟨s + 1, 255, none⟩ (.int .i64 2560000000)).same D _ hK rfl
    obtain ⟨W2, eW2⟩ : ∃ W2, W.setCell ⟨s + 1, 255, none⟩ (.int .i64 2560000000) = W2 := ⟨_, rfl⟩
    rw [eW2] at hrow2 hL2 cL2 hBW hK2
    clear ev1 hdone er hys hrow hL hG hH hP hgr2
    gi_wp2
    refine ⟨by simp, .inl ⟨_, _, rfl, run_takeDeferred hK2, ?_⟩⟩
    have hrow' := ownsRow_putObj hrow2 (.deferred none) hK2 rfl
    refine ⟨_, results_tmp rfl _ _ _, _, _, _, rfl, ?_, ?_⟩
    · rw [← HD.out]
      refine IR.of_own (base := s) (e := 2) ?_
      rw [List.map_set]
      exact hrow'
    · rw [HS.out]; exact (hBl.trans hBW).trans (belowK_b (w := W0) (by omega) W2 D _ _ hD hK2 rfl rfl)
  case stop =>
    rintro D c pre W _ _ h _
    exact h.elim

set_option maxRecDepth 100000 in
set_option maxHeartbeats 4000000 in
theorem tree_f (Bq : Nat) (w : World) (hq : Boxed w Bq 2 (.int .i64 ((many9 false 0 : Nat) : Int))) :
    Calls Try.prog 39 #[.func (.func 53) #[] #[.pointer (some ⟨Bq, 0, none⟩)], .bool false] w (GotI w (tree9 false)) := by
  refine (callsIn_wide (n := 10)).1 ?_
  refine callsIn_of_wp_marks Try.func39 rfl trivial ?_ rfl
  simp only [Try.ntmps39, List.size_toArray, List.length_cons, List.length_nil, Nat.reduceAdd, Nat.reduceSub, Array.replicate_succ, Array.replicate_zero, List.push_toArray, List.append_toArray, List.nil_append, List.cons_append]
  obtain ⟨i0, hi, hz0, hz1, hz2⟩ := info_parts infoI
  obtain ⟨s, hs⟩ : ∃ s, w.heap.size = s := ⟨_, rfl⟩
  have HS := Lib.hid hs
  have bG := Boxed.new w 4 (.bool false)
  rw [hs] at bG
  have cG := bG.cell
  have hbw : Below s w (w.alloc (.cells #[.bool false] 4)) := (Below.refl s w).alloc (by omega) _
  obtain ⟨w0, hw0⟩ : ∃ w0, w.alloc (.cells #[.bool false] 4) = w0 := ⟨_, rfl⟩
  have hz0' : w0.heap.size = s + 1 := by rw [← hw0, World.size_alloc, hs]
  rw [hw0] at bG cG hbw
  gi_wp2_with (gi_at_make; refine wpListIn_make_full9 _ rfl _ _ 45 rfl s 2 i0 (.int .i64 0) 1 Try.underlying45 hi hz0 hz1 .i64 .i64 256 rfl rfl (by rw [hz2]; omega) (by unfold maxLen; omega) (by rw [hz0']; omega) ?_; intro w1 hown1 hgrow1; rw [made_zeroI] at hown1; have bG1 := bG.kept hgrow1 (by simp); have cG1 := ((bG1.alloc (.cells #[.slice (some ⟨s + 1, 0, none⟩) 256 256] 45)).alloc (.cells #[.int .i64 0] 3)).cell)
  rw [hz0'] at hown1
  obtain ⟨t, ht⟩ : ∃ t, w1.heap.size = t := ⟨_, rfl⟩
  rw [ht]
  have hst : s + 1 < t := by have := (hown1.lt (s + 1) rfl).2; omega
  have bL := Boxed.new w1 45 (.slice (some ⟨s + 1, 0, none⟩) 256 256)
  rw [ht] at bL
  have hB1 : Below s w w1 := hbw.grown hgrow1 (by omega) (fun k h => by cases h)
  have hown2 := hown1.alloc (.cells #[.slice (some ⟨s + 1, 0, none⟩) 256 256] 45)
  have bG2 := bG1.alloc (.cells #[.slice (some ⟨s + 1, 0, none⟩) 256 256] 45)
  have hB2 := hB1.alloc (by omega) (.cells #[.slice (some ⟨s + 1, 0, none⟩) 256 256] 45)
  obtain ⟨w2, hw2⟩ : ∃ w2, w1.alloc (.cells #[.slice (some ⟨s + 1, 0, none⟩) 256 256] 45) = w2 := ⟨_, rfl⟩
  have hz2' : w2.heap.size = t + 1 := by rw [← hw2, World.size_alloc, ht]
  rw [hw2] at bL hown2 bG2 hB2 ⊢
  have bH := Boxed.new w2 3 (.int .i64 0)
  rw [hz2'] at bH
  have hown3 := hown2.alloc (.cells #[.int .i64 0] 3)
  have bG3 := bG2.alloc (.cells #[.int .i64 0] 3)
  have bL3 := bL.alloc (.cells #[.int .i64 0] 3)
  have hB3 := hB2.alloc (by omega) (.cells #[.int .i64 0] 3)
  obtain ⟨w3, hw3⟩ : ∃ w3, w2.alloc (.cells #[.int .i64 0] 3) = w3 := ⟨_, rfl⟩
  have hz3' : w3.heap.size = t + 1 + 1 := by rw [← hw3, World.size_alloc, hz2']
  rw [hw3] at bH hown3 bG3 bL3 hB3 ⊢
  have bP := Boxed.new w3 3 (.int .i64 0)
  rw [hz3'] at bP
  have hown4 := hown3.alloc (.cells #[.int .i64 0] 3)
  have bG4 := bG3.alloc (.cells #[.int .i64 0] 3)
  have bL4 := bL3.alloc (.cells #[.int .i64 0] 3)
  have bH4 := bH.alloc (.cells #[.int .i64 0] 3)
  have hB4 := hB3.alloc (by omega) (.cells #[.int .i64 0] 3)
  obtain ⟨W0, hW0⟩ : ∃ W0, w3.alloc (.cells #[.int .i64 0] 3) = W0 := ⟨_, rfl⟩
  have hsz : W0.heap.size = t + 3 := by rw [← hW0, World.size_alloc, hz3']
  rw [hW0] at bP hown4 bG4 bL4 bH4 hB4 ⊢
  have hq0 : Boxed W0 Bq 2 (.int .i64 ((many9 false 0 : Nat) : Int)) := (hB4.block Bq (by have := hq.lt; omega)).trans hq
  clear hown1 hgrow1 hw2 hz2' hown2 bG2 hB2 hw3 hz3' hown3 bG3 bL3 hB3 hW0 ht bL bH bG bG1 cG cG1 hw0 hz0' hbw hB1 hq
  refine wpIn_rangeFunc_ownG rfl (by decide) (gf := 53) (lb := #[.pointer (some ⟨Bq, 0, none⟩)]) rfl trivial (enters_of Try.func53 (by kernel_rfl) rfl)
    (mids_stops Bq false W0 hq0)
    (fun _ _ => trivial) (fun _ _ _ _ _ _ _ _ => trivial) (Below.refl _ _) (fun _ => rfl)
    (fun pre W => (Boxed W s 4 (.bool false) ∧ Boxed W t 45 (.slice (some ⟨s + 1, 0, none⟩) 256 256) ∧ Boxed W (t + 1) 3 (.int .i64 0) ∧ Boxed W (t + 1 + 1) 3 (.int .i64 ((pre.length : Nat) : Int)) ∧
      W.ownsRow s 2 1 (.slice (some ⟨s + 1, 0, none⟩) 256 256) 256 ((lay9 false pre).1.map encI)) ∧ Below s w W)
    (fun _ _ _ => False)
    (OwnFrom.and (OwnFrom.and (Own.from (boxed_own _ _ _) _) (OwnFrom.and (Own.from (boxed_own _ _ _) _) (OwnFrom.and (Own.from (boxed_own _ _ _) _) (OwnFrom.and (Own.from (boxed_own _ _ _) _) (Own.from (row_ownI _ _ _ _ _ _) _))))) (ownFrom_below (by have := HS.out; omega) (by omega)))
    (fun _ _ _ _ _ hs _ _ => hs)
    ⟨⟨bG4, bL4, bH4, bP, hown4⟩, hB4⟩
    (fun x => { tmps := #[.func (.func 53) #[] #[.pointer (some ⟨Bq, 0, none⟩)], .bool false, undef, .pointer (some ⟨s, 0, none⟩), .slice none 0 0, .pointer (some ⟨t, 0, none⟩), .pointer (some ⟨t + 1, 0, none⟩), .pointer (some ⟨t + 1 + 1, 0, none⟩), .int .i64 (x.1 : Int), .slice (some ⟨s + 1, 0, none⟩) 256 256, .bool false, .int .i64 0,
      .func (.func 53) #[] #[.pointer (some ⟨Bq, 0, none⟩)], .int .i64 (x.1 : Int), undef, undef, undef, undef, undef, undef, undef, undef, undef, undef, undef, undef, undef, undef, undef, undef, undef, undef], defers := [] }) ?assign ?body ?done ?stop
  case assign =>
    intro l x W K hK
    gi_wp2
    exact hK
  case body =>
    rintro l pre x W ⟨⟨hG, hL, hH, hP, hrow⟩, hBl⟩ hlt
    have hlt' : pre.length < 254 := hlt
    have hxl := x.2
    have hlen := lay9_len false pre
    have hpl := lay9_place false pre
    have hsn := lay9_snoc false pre x
    obtain ⟨r, er⟩ : ∃ r, lay9 false pre = r := ⟨_, rfl⟩
    obtain ⟨p, ep⟩ : ∃ p, pre.length = p := ⟨_, rfl⟩
    obtain ⟨p1, ep1⟩ : ∃ p1, p + 1 = p1 := ⟨_, rfl⟩
    have er2 : r.2 = p := by rw [← er, hpl]; unfold half9; simpa using ep
    have epl : (pre ++ [x]).length = p1 := by rw [List.length_append, ← ep1, ← ep]; rfl
    have hsn1 : (lay9 false (pre ++ [x])).1 = r.1.set p1 (x.1 : Int) := by rw [hsn, er]; unfold stepL; rw [er2, ep1]; rfl
    rw [er] at hrow hlen
    rw [ep] at hP
    have p1l : p1 ≤ 254 := by omega
    have k1 : IntKind.i64.wrap ((p : Int) + 1) = (p1 : Int) := by rw [IntWalk.i64_in _ (by omega)]; omega
    have p1i : (p1 : Int) < 256 := by omega
    have p1n : p1 < 256 := by omega
    obtain ⟨xv, ex⟩ : ∃ xv, ((x.1 : Nat) : Int) = xv := ⟨_, rfl⟩
    have hP1 := hP.set (.int .i64 (p1 : Int))
    have hG1 := hG.other (B' := t + 1 + 1) (by omega) (.int .i64 (p1 : Int))
    have hL1 := hL.other (B' := t + 1 + 1) (by omega) (.int .i64 (p1 : Int))
    have hH1 := hH.other (B' := t + 1 + 1) (by omega) (.int .i64 (p1 : Int))
    have hrow1 := hrow.kept (grownBy_setCell' W (t + 1 + 1) (.int .i64 (p1 : Int))) (.inr (by simp [Value.ownBlock]; omega))
    have cP0 := hP.cell
    have fP0 := hP.frozen
    obtain ⟨W1, eW1⟩ : ∃ W1, W.setCell ⟨t + 1 + 1, 0, none⟩ (.int .i64 (p1 : Int)) = W1 := ⟨_, rfl⟩
    rw [eW1] at hP1 hG1 hL1 hH1 hrow1
    have cL1 := hL1.cell
    have cP1 := hP1.cell
    have cR1 := hrow1.cellAt p1 (by omega)
    obtain ⟨v1, ev1⟩ := atI hlen p1n
    rw [ev1] at cR1
    have fR1 := hrow1.frozenAt p1
    obtain ⟨hrow2, hgr2⟩ := hrow1.stored p1 (.int .i64 xv)
    have hG2 := hG1.kept hgr2 (by simp)
    have hL2 := hL1.kept hgr2 (by simp; omega)
    have hH2 := hH1.kept hgr2 (by simp; omega)
    have hP2 := hP1.kept hgr2 (by simp; omega)
    obtain ⟨W2, eW2⟩ : ∃ W2, W1.setCell ⟨s + 1, p1, none⟩ (.int .i64 xv) = W2 := ⟨_, rfl⟩
    rw [eW2] at hrow2 hG2 hL2 hH2 hP2
    have cG2 := hG2.cell
    have hKO : KeepsOthers W W2 := by rw [← eW2, ← eW1]; exact (KeepsOthers.setCell _ _ _).trans (KeepsOthers.setCell _ _ _)
    have hBW : Below s W W2 := by rw [← eW2, ← eW1]; exact ((Below.refl s W).setCell (p := ⟨t + 1 + 1, 0, none⟩) (by simp; omega) _).setCell (p := ⟨s + 1, p1, none⟩) (by simp) _
    have HSN := Lib.hid hsn1
    have HEP := Lib.hid epl
    have HEX := Lib.hid ex
    have hrow3' : W2.ownsRow s 2 1 (.slice (some ⟨s + 1, 0, none⟩) 256 256) 256 ((lay9 false (pre ++ [x])).1.map encI) := by
      rw [HSN.out, List.map_set, HEX.out]; exact hrow2
    rw [← HEP.out] at hP2
    have HRES := Lib.hid (And.intro (And.intro hG2 (And.intro hL2 (And.intro hH2 (And.intro hP2 hrow3')))) (hBl.trans hBW))
    clear ev1 hrow3' hrow2 hrow1 hrow hG2 hL2 hH2 hP2 hG1 hL1 hH1 hP1 hG hL hH hP hgr2 hsn1 epl ep1 ep er er2 hsn hpl hlen hBl
    rw [ex] at *
    clear ex
    gi_wp2
    exact ⟨hKO.from _, trivial, HRES.out⟩
  case done =>
    rintro D ys W hD hys ⟨⟨hG, hL, hH, hP, hrow⟩, hBl⟩ hK
    have hdone := lay9_done false
    rw [← hys] at hdone
    have hlen := lay9_len false ys
    obtain ⟨r, er⟩ : ∃ r, (lay9 false ys).1 = r := ⟨_, rfl⟩
    rw [er] at hrow hlen hdone
    have HD := Lib.hid hdone
    have hrl := (hrow.lt (s + 1) rfl).2
    have cL := hL.cell
    have cR := hrow.cellAt 255 (by omega)
    obtain ⟨v1, ev1⟩ := atI (j := 255) hlen (by omega)
    rw [ev1] at cR
    have fR := hrow.frozenAt 255
    obtain ⟨hrow2, hgr2⟩ := hrow.stored 255 (.int .i64 2560000000)
    have hL2 := hL.kept hgr2 (by simp; omega)
    have cL2 := hL2.cell
    have hBW : Below s W (W.setCell ⟨s + 1, 255, none⟩ (.int .i64 2560000000)) := (Below.refl s W).setCell (p := ⟨s + 1, 255, none⟩) (by simp) _
    have hK2 := (KeepsOthers.setCell W ⟨s + 1, 255, none⟩ (.int .i64 2560000000)).same D _ hK rfl
    obtain ⟨W2, eW2⟩ : ∃ W2, W.setCell ⟨s + 1, 255, none⟩ (.int .i64 2560000000) = W2 := ⟨_, rfl⟩
    rw [eW2] at hrow2 hL2 cL2 hBW hK2
    clear ev1 hdone er hys hrow hL hG hH hP hgr2
    gi_wp2
    refine ⟨by simp, .inl ⟨_, _, rfl, run_takeDeferred hK2, ?_⟩⟩
    have hrow' := ownsRow_putObj hrow2 (.deferred none) hK2 rfl
    refine ⟨_, results_tmp rfl _ _ _, _, _, _, rfl, ?_, ?_⟩
    · rw [← HD.out]
      refine IR.of_own (base := s) (e := 2) ?_
      rw [List.map_set]
      exact hrow'
    · rw [HS.out]; exact (hBl.trans hBW).trans (belowK_b (w := W0) (by omega) W2 D _ _ hD hK2 rfl rfl)
  case stop =>
    rintro D c pre W _ _ h _
    exact h.elim
end Go.Proofs.Ytgglcgkgeilblaa

/-
  The landed book: line, Book.
-/
namespace Go.Proofs.Ytgglcgkgeilblaa
set_option maxRecDepth 100000
open Go.RowKit
set_option linter.unusedVariables false
set_option linter.unusedSimpArgs false


/-- The first c numbers of a line are laid down. -/
def lin9 (f s : Int) : Nat → List Int
  | 0 => List.replicate 256 0
  | c + 1 => (lin9 f s c).set c (f + s * (c : Int))
theorem lin9_len (f s : Int) : ∀ c, (lin9 f s c).length = 256
  | 0 => List.length_replicate
  | c + 1 => by show ((lin9 f s c).set c _).length = 256; rw [List.length_set]; exact lin9_len f s c
theorem lin9_line : lin9 (-255) 2 256 = linek 256 := by decide +kernel
theorem lin9_uline : lin9 0 1 256 = ulinek 256 := by decide +kernel

set_option maxRecDepth 100000 in
set_option maxHeartbeats 4000000 in
theorem bline9 (w : World) : Calls Try.prog 41 #[.int .i64 (-255), .int .i64 2] w (GotI w (linek 256)) := by
  obtain ⟨i0, hi, hz0, hz1, hz2⟩ := info_parts infoI
  obtain ⟨s, hs⟩ : ∃ s, w.heap.size = s := ⟨_, rfl⟩
  have HS := Lib.hid hs
  clear hs
  go_enter Try.func41, Try.ntmps41
  go_wp2_with (at_make; refine wpList_make_full _ rfl _ _ 45 rfl s 2 i0 (.int .i64 0) 1 Try.underlying45 hi hz0 hz1 .i64 .i64 _ _ 256 rfl rfl (by omega) (by omega) (by rw [hz2]; omega) (by unfold maxLen; omega) (by rw [HS.out]; omega) ?_; intro w1 hown1 hgrow1; rw [made_zeroI] at hown1)
  rw [HS.out] at hown1 ⊢
  have hB1 : Below s w w1 := (Below.refl s w).grown hgrow1 (by have := HS.out; omega) (fun k h => by cases h)
  go_loopw [6, 10] (fun _ iv wr => ∃ c : Nat, c ≤ 256 ∧ iv = .int .i64 (c : Int) ∧ wr.ownsRow s 2 1 (.slice (some ⟨s, 0, none⟩) 256 256) 256 ((lin9 (-255) 2 c).map encI) ∧ Below s w wr) (fun _ iv _ => 256 - (intOf iv).toNat)
  case atStart => exact ⟨0, by omega, rfl, hown1, hB1⟩
  case round =>
    clear hown1 hgrow1 hB1
    obtain ⟨c, hc, rfl, hrow, hbl⟩ := hrel
    by_cases hlt : c < 256
    · have hlen := lin9_len (-255) 2 c
      have hci : (c : Int) < 256 := by omega
      have cR := hrow.cellAt c (by omega)
      obtain ⟨v1, ev1⟩ := atI (j := c) hlen (by omega)
      rw [ev1] at cR
      have fR := hrow.frozenAt c
      obtain ⟨u, eu⟩ : ∃ u : Int, 2 * (c : Int) = u := ⟨_, rfl⟩
      obtain ⟨x, ex⟩ : ∃ x : Int, (-255) + u = x := ⟨_, rfl⟩
      have k1 : IntKind.i64.wrap (2 * (c : Int)) = u := by rw [IntWalk.i64_in _ (by omega)]; exact eu
      have k2 : IntKind.i64.wrap ((-255) + u) = x := by rw [IntWalk.i64_in _ (by omega)]; exact ex
      obtain ⟨hrow2, hgr2⟩ := hrow.stored c (.int .i64 x)
      have hB2 : Below s w (wr.setCell ⟨s, c, none⟩ (.int .i64 x)) := hbl.setCell (p := ⟨s, c, none⟩) (by simp) _
      have hN : ((lin9 (-255) 2 c).map encI).set c (.int .i64 x) = (lin9 (-255) 2 (c + 1)).map encI := by show _ = ((lin9 (-255) 2 c).set c ((-255) + 2 * (c : Int))).map encI; rw [List.map_set, eu, ex]; rfl
      rw [hN] at hrow2
      have HR := Lib.hid hrow2
      have HB := Lib.hid hB2
      clear hN hrow2 hB2 hrow hbl hgr2 ev1 hlen eu ex
      go_wp2_with fail
      go_roundw
      case rel => exact ⟨c + 1, by omega, by go_num, HR.out, HB.out⟩
      case measure => simp [intOf] <;> omega
    · obtain rfl : c = 256 := by omega
      rw [lin9_line] at hrow
      go_wp2_with fail
      go_ret
      exact ⟨_, _, _, rfl, IR.of_own hrow, by rw [HS.out]; exact hbl⟩

set_option maxRecDepth 100000 in
set_option maxHeartbeats 4000000 in
theorem buline9 (w : World) : Calls Try.prog 41 #[.int .i64 0, .int .i64 1] w (GotI w (ulinek 256)) := by
  obtain ⟨i0, hi, hz0, hz1, hz2⟩ := info_parts infoI
  obtain ⟨s, hs⟩ : ∃ s, w.heap.size = s := ⟨_, rfl⟩
  have HS := Lib.hid hs
  clear hs
  go_enter Try.func41, Try.ntmps41
  go_wp2_with (at_make; refine wpList_make_full _ rfl _ _ 45 rfl s 2 i0 (.int .i64 0) 1 Try.underlying45 hi hz0 hz1 .i64 .i64 _ _ 256 rfl rfl (by omega) (by omega) (by rw [hz2]; omega) (by unfold maxLen; omega) (by rw [HS.out]; omega) ?_; intro w1 hown1 hgrow1; rw [made_zeroI] at hown1)
  rw [HS.out] at hown1 ⊢
  have hB1 : Below s w w1 := (Below.refl s w).grown hgrow1 (by have := HS.out; omega) (fun k h => by cases h)
  go_loopw [6, 10] (fun _ iv wr => ∃ c : Nat, c ≤ 256 ∧ iv = .int .i64 (c : Int) ∧ wr.ownsRow s 2 1 (.slice (some ⟨s, 0, none⟩) 256 256) 256 ((lin9 0 1 c).map encI) ∧ Below s w wr) (fun _ iv _ => 256 - (intOf iv).toNat)
  case atStart => exact ⟨0, by omega, rfl, hown1, hB1⟩
  case round =>
    clear hown1 hgrow1 hB1
    obtain ⟨c, hc, rfl, hrow, hbl⟩ := hrel
    by_cases hlt : c < 256
    · have hlen := lin9_len 0 1 c
      have hci : (c : Int) < 256 := by omega
      have cR := hrow.cellAt c (by omega)
      obtain ⟨v1, ev1⟩ := atI (j := c) hlen (by omega)
      rw [ev1] at cR
      have fR := hrow.frozenAt c
      obtain ⟨u, eu⟩ : ∃ u : Int, 1 * (c : Int) = u := ⟨_, rfl⟩
      obtain ⟨x, ex⟩ : ∃ x : Int, 0 + u = x := ⟨_, rfl⟩
      have k1 : IntKind.i64.wrap (1 * (c : Int)) = u := by rw [IntWalk.i64_in _ (by omega)]; exact eu
      have k2 : IntKind.i64.wrap (0 + u) = x := by rw [IntWalk.i64_in _ (by omega)]; exact ex
      have k3 : IntKind.i64.wrap (c : Int) = u := by rw [IntWalk.i64_in _ (by omega)]; omega
      have k4 : IntKind.i64.wrap u = x := by rw [IntWalk.i64_in _ (by omega)]; omega
      obtain ⟨hrow2, hgr2⟩ := hrow.stored c (.int .i64 x)
      have hB2 : Below s w (wr.setCell ⟨s, c, none⟩ (.int .i64 x)) := hbl.setCell (p := ⟨s, c, none⟩) (by simp) _
      have hN : ((lin9 0 1 c).map encI).set c (.int .i64 x) = (lin9 0 1 (c + 1)).map encI := by show _ = ((lin9 0 1 c).set c (0 + 1 * (c : Int))).map encI; rw [List.map_set, eu, ex]; rfl
      rw [hN] at hrow2
      have HR := Lib.hid hrow2
      have HB := Lib.hid hB2
      clear hN hrow2 hB2 hrow hbl hgr2 ev1 hlen eu ex
      go_wp2_with fail
      go_roundw
      case rel => exact ⟨c + 1, by omega, by go_num, HR.out, HB.out⟩
      case measure => simp [intOf] <;> omega
    · obtain rfl : c = 256 := by omega
      rw [lin9_uline] at hrow
      go_wp2_with fail
      go_ret
      exact ⟨_, _, _, rfl, IR.of_own hrow, by rw [HS.out]; exact hbl⟩

set_option maxRecDepth 100000 in
set_option maxHeartbeats 4000000 in
theorem bbook9_0 (w : World) : Calls Try.prog 21 #[.int .i64 0] w (GotIp w (tree9 true) 0) := by
  have hq : Boxed (w.alloc (.cells #[.int .i64 1] 2)) w.heap.size 2 (.int .i64 ((many9 true 0 : Nat) : Int)) := Boxed.new w _ _
  have hb : Below w.heap.size w (w.alloc (.cells #[.int .i64 1] 2)) := (Below.refl _ w).alloc (Nat.le_refl _) _
  go_enter Try.func21, Try.ntmps21
  go_wp2_with fail
  refine (middles_any 1 _).mono ?_
  rintro e w' ⟨rfl, rfl⟩
  obtain ⟨W, hW⟩ : ∃ W, w.alloc (.cells #[.int .i64 1] 2) = W := ⟨_, rfl⟩
  rw [hW] at hq hb
  try rw [hW]
  have CT := tree_t _ _ hq
  clear hq
  go_wp2_with fail
  refine CT.mono ?_
  rintro e w2 ⟨A, n, c, rfl, h, b⟩
  go_wp2_with fail
  go_ret2
  exact ⟨A, n, c, rfl, h, hb.trans (b.mono hb.size)⟩

set_option maxRecDepth 100000 in
set_option maxHeartbeats 4000000 in
theorem bbook9_1 (w : World) : Calls Try.prog 21 #[.int .i64 1] w (GotIp w (tree9 false) 0) := by
  have hq : Boxed (w.alloc (.cells #[.int .i64 2] 2)) w.heap.size 2 (.int .i64 ((many9 false 0 : Nat) : Int)) := Boxed.new w _ _
  have hb : Below w.heap.size w (w.alloc (.cells #[.int .i64 2] 2)) := (Below.refl _ w).alloc (Nat.le_refl _) _
  go_enter Try.func21, Try.ntmps21
  go_wp2_with fail
  refine (middles_any 2 _).mono ?_
  rintro e w' ⟨rfl, rfl⟩
  obtain ⟨W, hW⟩ : ∃ W, w.alloc (.cells #[.int .i64 2] 2) = W := ⟨_, rfl⟩
  rw [hW] at hq hb
  try rw [hW]
  have CT := tree_f _ _ hq
  clear hq
  go_wp2_with fail
  refine CT.mono ?_
  rintro e w2 ⟨A, n, c, rfl, h, b⟩
  go_wp2_with fail
  go_ret2
  exact ⟨A, n, c, rfl, h, hb.trans (b.mono hb.size)⟩

set_option maxRecDepth 100000 in
set_option maxHeartbeats 4000000 in
theorem bbook9_2 (w : World) : Calls Try.prog 21 #[.int .i64 2] w (GotIp w (linek 256) 0) := by
  go_enter Try.func21, Try.ntmps21
  go_wp2_with fail
  refine (bline9 _).mono ?_
  rintro e w' ⟨A, n, c, rfl, h, b⟩
  go_wp2_with fail
  go_ret2
  exact ⟨A, n, c, rfl, h, b⟩

set_option maxRecDepth 100000 in
set_option maxHeartbeats 4000000 in
theorem bbook9_3 (w : World) : Calls Try.prog 21 #[.int .i64 3] w (GotIp w (ulinek 256) 0) := by
  go_enter Try.func21, Try.ntmps21
  go_wp2_with fail
  refine (buline9 _).mono ?_
  rintro e w' ⟨A, n, c, rfl, h, b⟩
  go_wp2_with fail
  go_ret2
  exact ⟨A, n, c, rfl, h, b⟩

set_option maxRecDepth 100000 in
set_option maxHeartbeats 4000000 in
theorem bbook9_no (w : World) {k : Int} (h : ¬ Kind9 k) : Calls Try.prog 21 #[.int .i64 k] w (GotIp w [] 1) := by
  have k0 : (k == 0) = false := by simp; exact fun e => h (.inl e)
  have k1 : (k == 1) = false := by simp; exact fun e => h (.inr (.inl e))
  have k2 : (k == 2) = false := by simp; exact fun e => h (.inr (.inr (.inl e)))
  have k3 : (k == 3) = false := by simp; exact fun e => h (.inr (.inr (.inr e)))
  clear h
  go_enter Try.func21, Try.ntmps21
  go_wp2_with fail
  go_ret2
  exact ⟨_, _, _, rfl, IR.nil _ _ _, Below.refl _ _⟩
theorem bbook_N (w : World) (k : Int) : Calls Try.prog 21 #[.int .i64 k] w (GotIp w (book9 k) (code9 k)) := by
  by_cases h : Kind9 k
  · rcases h with rfl | rfl | rfl | rfl
    · exact bbook9_0 w
    · exact bbook9_1 w
    · exact bbook9_2 w
    · exact bbook9_3 w
  · have e1 : book9 k = [] := by unfold book9; unfold Kind9 at h; rw [if_neg (fun e => h (.inl e)), if_neg (fun e => h (.inr (.inl e))), if_neg (fun e => h (.inr (.inr (.inl e)))), if_neg (fun e => h (.inr (.inr (.inr e))))]
    rw [e1, show code9 k = 1 from if_neg h]
    exact bbook9_no w h
end Go.Proofs.Ytgglcgkgeilblaa

/-
  The landed book: Den, Signed, Gap.
-/
namespace Go.Proofs.Ytgglcgkgeilblaa
set_option maxRecDepth 100000
open Go.RowKit
set_option linter.unusedVariables false
set_option linter.unusedSimpArgs false


set_option maxHeartbeats 1000000 in
theorem bden_N (w : World) (k : Int) :
    Calls Try.prog 25 #[.int .i64 k] w (GotV w (.int .i64 (den9 k))) := by
  by_cases h : Kind9 k
  · rcases h with rfl | rfl | rfl | rfl
    · go_enter Try.func25, Try.ntmps25
      go_wp2_with fail
      go_ret
      exact ⟨rfl, Below.refl _ _⟩
    · go_enter Try.func25, Try.ntmps25
      go_wp2_with fail
      go_ret
      exact ⟨rfl, Below.refl _ _⟩
    · go_enter Try.func25, Try.ntmps25
      go_wp2_with fail
      go_ret
      exact ⟨rfl, Below.refl _ _⟩
    · go_enter Try.func25, Try.ntmps25
      go_wp2_with fail
      go_ret
      exact ⟨rfl, Below.refl _ _⟩
  · have k0 : (k == 0) = false := by simp; exact fun e => h (.inl e)
    have k1 : (k == 1) = false := by simp; exact fun e => h (.inr (.inl e))
    have k2 : (k == 2) = false := by simp; exact fun e => h (.inr (.inr (.inl e)))
    have k3 : (k == 3) = false := by simp; exact fun e => h (.inr (.inr (.inr e)))
    have e1 : den9 k = 0 := by unfold den9; simp at k0 k1 k2 k3; simp [k0, k1, k2, k3]
    rw [e1]
    clear h
    go_enter Try.func25, Try.ntmps25
    go_wp2_with fail
    go_ret
    exact ⟨rfl, Below.refl _ _⟩

set_option maxHeartbeats 1000000 in
theorem bsig_N (w : World) (k : Int) :
    Calls Try.prog 42 #[.int .i64 k] w (GotV w (.bool (sig9 k))) := by
  by_cases h : Kind9 k
  · rcases h with rfl | rfl | rfl | rfl
    · go_enter Try.func42, Try.ntmps42
      go_wp2_with fail
      go_ret
      exact ⟨rfl, Below.refl _ _⟩
    · go_enter Try.func42, Try.ntmps42
      go_wp2_with fail
      go_ret
      exact ⟨rfl, Below.refl _ _⟩
    · go_enter Try.func42, Try.ntmps42
      go_wp2_with fail
      go_ret
      exact ⟨rfl, Below.refl _ _⟩
    · go_enter Try.func42, Try.ntmps42
      go_wp2_with fail
      go_ret
      exact ⟨rfl, Below.refl _ _⟩
  · have k0 : (k == 0) = false := by simp; exact fun e => h (.inl e)
    have k1 : (k == 1) = false := by simp; exact fun e => h (.inr (.inl e))
    have k2 : (k == 2) = false := by simp; exact fun e => h (.inr (.inr (.inl e)))
    have k3 : (k == 3) = false := by simp; exact fun e => h (.inr (.inr (.inr e)))
    have e1 : sig9 k = false := by unfold sig9; simp at k0 k1 k2 k3; simp [k0, k2]
    rw [e1]
    clear h
    go_enter Try.func42, Try.ntmps42
    go_wp2_with fail
    go_ret
    exact ⟨rfl, Below.refl _ _⟩

attribute [local go_sem ↓] mxI_run
end Go.Proofs.Ytgglcgkgeilblaa

/-
  The contracts of the second reference's Gcd and Goes.
-/
namespace Go.Proofs.Ytgglcgkgeilblaa
open Go.RowKit
end Go.Proofs.Ytgglcgkgeilblaa

/-
  Plain arithmetic of long division: digits shifted within rows, products taken off rows, guesses.
-/
namespace Go.Proofs.Ytgglcgkgeilblaa

/-- A digit shifted up, what stays and what goes over. -/
def shlD (x s : Nat) : Nat := x * 2 ^ s % B64
def shrD (x s : Nat) : Nat := x / 2 ^ (64 - s)
theorem B64_parts {s : Nat} (hs : s ≤ 64) : 2 ^ s * 2 ^ (64 - s) = B64 := by
  rw [B64_two, ← Nat.pow_add]
  congr 1
  omega
theorem shlD_mul (x : Nat) {s : Nat} (hs : s ≤ 64) : shlD x s = 2 ^ s * (x % 2 ^ (64 - s)) := by
  unfold shlD
  rw [← B64_parts hs, Nat.mul_comm x, Nat.mul_mod_mul_left]
theorem sh_split (x : Nat) {s : Nat} (hs : s ≤ 64) : shlD x s + B64 * shrD x s = x * 2 ^ s := by
  rw [shlD_mul x hs, ← B64_parts hs, Nat.mul_assoc, ← Nat.mul_add]
  unfold shrD
  rw [Nat.mod_add_div, Nat.mul_comm]
theorem shlD_add_lt (x : Nat) {s c : Nat} (hs : s ≤ 64) (hc : c < 2 ^ s) : shlD x s + c < B64 := by
  rw [shlD_mul x hs, ← B64_parts hs]
  have h1 : x % 2 ^ (64 - s) + 1 ≤ 2 ^ (64 - s) := Nat.mod_lt _ (Nat.pow_pos (by omega))
  have h2 : 2 ^ s * (x % 2 ^ (64 - s) + 1) ≤ 2 ^ s * 2 ^ (64 - s) := Nat.mul_le_mul_left _ h1
  rw [Nat.mul_add, Nat.mul_one] at h2
  omega
theorem shrD_lt {x s : Nat} (hx : x < B64) (hs : s ≤ 64) : shrD x s < 2 ^ s := by
  unfold shrD
  rw [Nat.div_lt_iff_lt_mul (Nat.pow_pos (by omega)), B64_parts hs]
  exact hx

/-- What has been reckoned of a row shifted up when k digits are done. -/
def RaisedAt (l R : List Nat) (k s c : Nat) : Prop := Dig R ∧ R.length = k ∧ c < 2 ^ s ∧ val R + B64 ^ k * c = val (l.take k) * 2 ^ s
theorem RaisedAt.start (l : List Nat) (s : Nat) : RaisedAt l [] 0 s 0 := ⟨Dig.nil, rfl, Nat.pow_pos (by omega), by simp [val_nil]⟩
theorem RaisedAt.step {l R : List Nat} {k s c : Nat} (h : RaisedAt l R k s c) (hl : Dig l) (hs : s ≤ 64) : RaisedAt l (R ++ [shlD (l[k]?.getD 0) s + c]) (k + 1) s (shrD (l[k]?.getD 0) s) := by
  obtain ⟨h1, h2, h3, h4⟩ := h
  refine ⟨h1.snoc (shlD_add_lt _ hs h3), by simp [h2], shrD_lt (hl.get k) hs, ?_⟩
  rw [val_snoc, h2, val_take_succ, Nat.add_mul, ← h4, Nat.pow_succ]
  have h5 := sh_split (l[k]?.getD 0) hs
  generalize l[k]?.getD 0 = x at *
  have h6 : B64 ^ k * (shlD x s + B64 * shrD x s) = B64 ^ k * (x * 2 ^ s) := by rw [h5]
  rw [Nat.mul_add, ← Nat.mul_assoc, ← Nat.mul_assoc] at h6
  rw [Nat.mul_add]
  omega
theorem RaisedAt.done {l R : List Nat} {k s c : Nat} (h : RaisedAt l R k s c) (hk : k = l.length) (hs : s ≤ 64) : Dig (R ++ [c]) ∧ (R ++ [c]).length = l.length + 1 ∧ val (R ++ [c]) = val l * 2 ^ s := by
  obtain ⟨h1, h2, h3, h4⟩ := h
  have h5 : c < B64 := Nat.lt_of_lt_of_le h3 (by rw [B64_two]; exact Nat.pow_le_pow_right (by omega) hs)
  refine ⟨h1.snoc h5, by simp [h2, hk], ?_⟩
  rw [val_snoc, h2, h4, List.take_of_length_le (by omega)]

theorem get_dig {l : List Nat} (hl : Dig l) (j : Nat) : l[j]?.getD 0 = dig (val l) j := by
  induction j generalizing l with
  | zero =>
    cases l with
    | nil => simp [dig, val_nil]
    | cons x xs => unfold dig; rw [Nat.pow_zero, Nat.div_one, val_cons, Nat.add_mul_mod_self_left, Nat.mod_eq_of_lt hl.head]; rfl
  | succ j ih =>
    cases l with
    | nil => simp [dig, val_nil]
    | cons x xs =>
      rw [List.getElem?_cons_succ, ih hl.tail]
      unfold dig
      rw [val_cons, Nat.pow_succ, Nat.mul_comm _ B64, ← Nat.div_div_eq_div_mul, Nat.add_mul_div_left _ _ B64_pos, Nat.div_eq_of_lt hl.head, Nat.zero_add]

/-- A digit shifted down, with what comes from the one above. -/
theorem low_dig {x : Nat} (hx : x < B64) (y : Nat) {s : Nat} (hs : s ≤ 64) : x / 2 ^ s + shlD y (64 - s) = sh2 x y s := by
  unfold sh2 shlD
  have e : B64 * y = 2 ^ s * (2 ^ (64 - s) * y) := by rw [← Nat.mul_assoc, B64_parts hs]
  rw [e, Nat.add_mul_div_left _ _ (Nat.pow_pos (by omega)), Nat.mul_comm y]
  have h1 : x / 2 ^ s < 2 ^ (64 - s) := by
    rw [Nat.div_lt_iff_lt_mul (Nat.pow_pos (by omega)), Nat.mul_comm, B64_parts hs]; exact hx
  have h2 : 2 ^ (64 - s) * y % B64 = 2 ^ (64 - s) * (y % 2 ^ s) := by rw [← B64_parts hs, Nat.mul_comm (2 ^ s), Nat.mul_mod_mul_left]
  have h3 : y % 2 ^ s + 1 ≤ 2 ^ s := Nat.mod_lt _ (Nat.pow_pos (by omega))
  have h4 : 2 ^ (64 - s) * (y % 2 ^ s + 1) ≤ 2 ^ (64 - s) * 2 ^ s := Nat.mul_le_mul_left _ h3
  rw [Nat.mul_comm (2 ^ (64 - s)) (2 ^ s), B64_parts hs, Nat.mul_add, Nat.mul_one] at h4
  have h5 : (x / 2 ^ s + 2 ^ (64 - s) * y) % B64 = (x / 2 ^ s + 2 ^ (64 - s) * (y % 2 ^ s)) % B64 := by
    rw [Nat.add_mod, h2, ← Nat.add_mod_mod, Nat.mod_add_mod, ← h2, Nat.mod_mod, h2]
  rw [h5, h2]
  generalize 2 ^ (64 - s) * (y % 2 ^ s) = z at *
  exact (Nat.mod_eq_of_lt (by omega)).symm
theorem low_row {l : List Nat} (hl : Dig l) {s : Nat} (hs : s < 64) (k : Nat) : l[k]?.getD 0 / 2 ^ s + shlD (l[k + 1]?.getD 0) (64 - s) = dig (val l / 2 ^ s) k := by
  rw [low_dig (hl.get k) _ (by omega), get_dig hl, get_dig hl]
  have := shr_dig (val l) s k
  rw [Nat.div_eq_of_lt hs, Nat.zero_add, Nat.mod_eq_of_lt hs] at this
  exact this
theorem low_done {l : List Nat} (hl : Dig l) (s : Nat) : val (digs (val l / 2 ^ s) l.length) = val l / 2 ^ s :=
  digs_all (Nat.lt_of_le_of_lt (Nat.div_le_self _ _) (val_lt hl))

/-- What has been reckoned when x times the first k digits of l is taken off P. -/
def LessAt (P Q : List Nat) (k x : Nat) (l : List Nat) (c : Nat) : Prop :=
  Dig Q ∧ Q.length = P.length ∧ c < B64 ∧ (∀ j, k ≤ j → Q[j]?.getD 0 = P[j]?.getD 0) ∧ val Q + x * val (l.take k) = val P + B64 ^ k * c
theorem LessAt.start {P : List Nat} (h : Dig P) (x : Nat) (l : List Nat) : LessAt P P 0 x l 0 :=
  ⟨h, rfl, B64_pos, fun _ _ => rfl, by simp [val_nil]⟩
/-- What is owed to the next digit. -/
def owed (x y q c : Nat) : Nat := mulHi y x + sumHi (mulLo y x) c 0 + subHi q (sumLo (mulLo y x) c 0) 0
/-- The digit that is left. -/
def lessD (x y q c : Nat) : Nat := subLo q (sumLo (mulLo y x) c 0) 0
theorem lessD_lt (x y q c : Nat) : lessD x y q c < B64 := subLo_lt _ _ _
theorem owed_split {x y q c : Nat} (hq : q < B64) : lessD x y q c + (y * x + c) = q + B64 * owed x y q c := by
  have h1 := sum_split (mulLo y x) c 0
  have h2 : mulLo y x + B64 * mulHi y x = y * x := Nat.mod_add_div _ _
  have h3 := sub_split hq (sumLo_lt (mulLo y x) c 0) (Nat.zero_le 1)
  unfold lessD owed
  rw [Nat.mul_add, Nat.mul_add]
  omega
theorem owed_lt {x y q c : Nat} (hx : x < B64) (hy : y < B64) (hc : c < B64) : mulHi y x + sumHi (mulLo y x) c 0 < B64 ∧ owed x y q c < B64 := by
  have h1 := sum_split (mulLo y x) c 0
  have h2 : mulLo y x + B64 * mulHi y x = y * x := Nat.mod_add_div _ _
  have h4 : y * x ≤ (B64 - 1) * (B64 - 1) := Nat.mul_le_mul (by omega) (by omega)
  have h5 : B64 * (mulHi y x + sumHi (mulLo y x) c 0) + sumLo (mulLo y x) c 0 ≤ B64 * (B64 - 1) := by
    have e : (B64 - 1) * (B64 - 1) + (B64 - 1) = B64 * (B64 - 1) := by unfold B64; omega
    rw [Nat.mul_add]
    omega
  unfold owed
  have hb := subHi_le q (sumLo (mulLo y x) c 0) 0
  have hz : sumLo (mulLo y x) c 0 = 0 → subHi q (sumLo (mulLo y x) c 0) 0 = 0 := fun h => by unfold subHi; rw [h]; simp
  generalize mulHi y x + sumHi (mulLo y x) c 0 = a at *
  generalize subHi q (sumLo (mulLo y x) c 0) 0 = b at *
  generalize sumLo (mulLo y x) c 0 = d at *
  unfold B64 at *
  omega
theorem LessAt.step {P Q l : List Nat} {k x c : Nat} (h : LessAt P Q k x l c) (hx : x < B64) (hl : Dig l) (hk : k < P.length) :
    LessAt P (Q.set k (lessD x (l[k]?.getD 0) (Q[k]?.getD 0) c)) (k + 1) x l (owed x (l[k]?.getD 0) (Q[k]?.getD 0) c) := by
  obtain ⟨hd, hlen, hc, hsame, hv⟩ := h
  refine ⟨hd.set _ (lessD_lt _ _ _ _), by rw [List.length_set, hlen], (owed_lt hx (hl.get k) hc).2, fun j hj => ?_, ?_⟩
  · rw [List.getElem?_set_ne (by omega)]; exact hsame j (by omega)
  · have hs := val_set (l := Q) (k := k) (by omega) (lessD x (l[k]?.getD 0) (Q[k]?.getD 0) c)
    have hm := owed_split (x := x) (y := l[k]?.getD 0) (c := c) (hd.get k)
    rw [val_take_succ, Nat.pow_succ, Nat.mul_assoc]
    generalize lessD x (l[k]?.getD 0) (Q[k]?.getD 0) c = d at *
    generalize owed x (l[k]?.getD 0) (Q[k]?.getD 0) c = o at *
    generalize Q[k]?.getD 0 = q at *
    generalize l[k]?.getD 0 = y at *
    have h1 : B64 ^ k * d + (B64 ^ k * (y * x) + B64 ^ k * c) = B64 ^ k * q + B64 ^ k * (B64 * o) := by
      rw [← Nat.mul_add, ← Nat.mul_add, hm, Nat.mul_add]
    have h2 : x * (val (l.take k) + B64 ^ k * y) = x * val (l.take k) + B64 ^ k * (y * x) := by
      rw [Nat.mul_add]
      have : x * (B64 ^ k * y) = B64 ^ k * (y * x) := by ac_rfl
      rw [this]
    rw [h2]
    omega
theorem LessAt.done {P Q l : List Nat} {x c : Nat} (h : LessAt P Q l.length x l c) (hk : P.length = l.length + 1) :
    Dig (Q.set l.length (subLo (Q[l.length]?.getD 0) c 0)) ∧ (Q.set l.length (subLo (Q[l.length]?.getD 0) c 0)).length = l.length + 1 ∧ val (Q.set l.length (subLo (Q[l.length]?.getD 0) c 0)) + x * val l = val P + B64 ^ (l.length + 1) * subHi (Q[l.length]?.getD 0) c 0 := by
  obtain ⟨hd, hlen, hc, hsame, hv⟩ := h
  refine ⟨hd.set _ (subLo_lt _ _ _), by rw [List.length_set, hlen, hk], ?_⟩
  have hs := val_set (l := Q) (k := l.length) (by omega) (subLo (Q[l.length]?.getD 0) c 0)
  have hm := sub_split (hd.get l.length) hc (Nat.zero_le 1)
  rw [List.take_of_length_le (Nat.le_refl _)] at hv
  generalize subLo (Q[l.length]?.getD 0) c 0 = d at *
  generalize subHi (Q[l.length]?.getD 0) c 0 = b at *
  generalize Q[l.length]?.getD 0 = q at *
  rw [Nat.pow_succ, Nat.mul_assoc]
  have h1 : B64 ^ l.length * d + B64 ^ l.length * c = B64 ^ l.length * q + B64 ^ l.length * (B64 * b) := by
    rw [← Nat.mul_add, ← Nat.mul_add]; congr 1
  omega

/-- What has been reckoned when the first k digits of l are added to P. -/
def BackAt (P Q : List Nat) (k : Nat) (l : List Nat) (c : Nat) : Prop :=
  Dig Q ∧ Q.length = P.length ∧ c ≤ 1 ∧ val Q + B64 ^ k * c = val P + val (l.take k)
theorem BackAt.start {P : List Nat} (h : Dig P) (l : List Nat) : BackAt P P 0 l 0 := ⟨h, rfl, by omega, by simp [val_nil]⟩
theorem BackAt.step {P Q l : List Nat} {k c : Nat} (h : BackAt P Q k l c) (hl : Dig l) (hk : k < P.length) :
    BackAt P (Q.set k (sumLo (Q[k]?.getD 0) (l[k]?.getD 0) c)) (k + 1) l (sumHi (Q[k]?.getD 0) (l[k]?.getD 0) c) := by
  obtain ⟨hd, hlen, hc, hv⟩ := h
  refine ⟨hd.set _ (sumLo_lt _ _ _), by rw [List.length_set, hlen], sumHi_le (hd.get k) (hl.get k) hc, ?_⟩
  have hs := val_set (l := Q) (k := k) (by omega) (sumLo (Q[k]?.getD 0) (l[k]?.getD 0) c)
  have hm := sum_split (Q[k]?.getD 0) (l[k]?.getD 0) c
  rw [val_take_succ, Nat.pow_succ, Nat.mul_assoc]
  generalize sumLo (Q[k]?.getD 0) (l[k]?.getD 0) c = d at *
  generalize sumHi (Q[k]?.getD 0) (l[k]?.getD 0) c = o at *
  generalize Q[k]?.getD 0 = q at *
  generalize l[k]?.getD 0 = y at *
  have h1 : B64 ^ k * d + B64 ^ k * (B64 * o) = B64 ^ k * q + B64 ^ k * y + B64 ^ k * c := by
    rw [← Nat.mul_add, hm, Nat.mul_add, Nat.mul_add]
  omega
theorem BackAt.done {P Q l : List Nat} {c : Nat} (h : BackAt P Q l.length l c) (hk : P.length = l.length + 1) :
    Dig (Q.set l.length (sumLo (Q[l.length]?.getD 0) c 0)) ∧ (Q.set l.length (sumLo (Q[l.length]?.getD 0) c 0)).length = l.length + 1 ∧ ∃ b, val (Q.set l.length (sumLo (Q[l.length]?.getD 0) c 0)) + B64 ^ (l.length + 1) * b = val P + val l := by
  obtain ⟨hd, hlen, hc, hv⟩ := h
  refine ⟨hd.set _ (sumLo_lt _ _ _), by rw [List.length_set, hlen, hk], sumHi (Q[l.length]?.getD 0) c 0, ?_⟩
  have hs := val_set (l := Q) (k := l.length) (by omega) (sumLo (Q[l.length]?.getD 0) c 0)
  have hm := sum_split (Q[l.length]?.getD 0) c 0
  rw [List.take_of_length_le (Nat.le_refl _)] at hv
  generalize sumLo (Q[l.length]?.getD 0) c 0 = d at *
  generalize sumHi (Q[l.length]?.getD 0) c 0 = b at *
  generalize Q[l.length]?.getD 0 = q at *
  rw [Nat.pow_succ, Nat.mul_assoc]
  have h1 : B64 ^ l.length * d + B64 ^ l.length * (B64 * b) = B64 ^ l.length * q + B64 ^ l.length * c := by
    rw [← Nat.mul_add, ← Nat.mul_add]; congr 1
  omega

/-- A guess is good: it is how often D goes into R, or one more. -/
def Good (R D t : Nat) : Prop := R < (t + 1) * D ∧ t * D ≤ R + D ∧ t < B64

/-- Nothing was borrowed: the guess is right. -/
theorem good_zero {R D t v : Nat} (h : Good R D t) (hv : v + t * D = R) : R / D = t ∧ R % D = v := by
  obtain ⟨h1, h2, _⟩ := h
  rw [Nat.add_mul, Nat.one_mul] at h1
  have hlt : v < D := by omega
  have e : R = v + D * t := by rw [Nat.mul_comm D]; omega
  have hD : 0 < D := by omega
  rw [e, Nat.add_mul_div_left _ _ hD, Nat.div_eq_of_lt hlt, Nat.add_mul_mod_self_left, Nat.mod_eq_of_lt hlt]
  omega
/-- Something was: it is one less. -/
theorem good_one {R D t v u M b : Nat} (h : Good R D t) (hv : v + t * D = R + M) (hvM : v < M) (hD : D ≤ M) (hu : u + M * b = v + D) (huM : u < M) : t ≠ 0 ∧ R / D = t - 1 ∧ R % D = u := by
  obtain ⟨h1, h2, _⟩ := h
  have ht : t ≠ 0 := fun e => by subst e; omega
  obtain ⟨t', rfl⟩ : ∃ t', t = t' + 1 := ⟨t - 1, by omega⟩
  rw [Nat.add_sub_cancel]
  rw [Nat.add_mul, Nat.one_mul] at hv h2
  have hb : b = 1 := by
    rcases Nat.lt_or_ge b 1 with h3 | h3
    · have : b = 0 := by omega
      subst this; omega
    · rcases Nat.lt_or_ge 1 b with h4 | h4
      · have : M * 2 ≤ M * b := Nat.mul_le_mul_left _ h4
        omega
      · omega
  subst hb
  have hlt : u < D := by omega
  have e : R = u + D * t' := by rw [Nat.mul_comm D]; omega
  have hD0 : 0 < D := by omega
  refine ⟨ht, ?_⟩
  rw [e, Nat.add_mul_div_left _ _ hD0, Nat.div_eq_of_lt hlt, Nat.add_mul_mod_self_left, Nat.mod_eq_of_lt hlt]
  omega

end Go.Proofs.Ytgglcgkgeilblaa

/-
  Plain arithmetic of a division's guesses: of digits (the program's), and of halves of a digit (the library's).
-/
namespace Go.Proofs.Ytgglcgkgeilblaa

/-- What a guess sees: the two top digits of R and of D; P: what the places below the top one hold. -/
structure Seen (R D P u v1 v2 d1 r : Nat) : Prop where
  hD : D = v1 * P + d1
  hR : R = u * P + r
  hd : d1 < P
  hr : r < P
  lo : v2 * P ≤ B64 * d1
  hi : B64 * d1 < (v2 + 1) * P
  top : B64 ≤ 2 * v1
  v1lt : v1 < B64
  v2lt : v2 < B64

theorem Seen.first {R D P u v1 v2 d1 r t h : Nat} (S : Seen R D P u v1 v2 d1 r) (e : t * v1 + h = u) (hh : h < v1) : R < (t + 1) * D := by
  have h1 : R < (u + 1) * P := by rw [S.hR, Nat.add_mul]; have := S.hr; omega
  have h2 : (u + 1) * P ≤ (t + 1) * v1 * P := Nat.mul_le_mul_right _ (by rw [Nat.add_mul]; omega)
  have h3 : (t + 1) * (v1 * P) ≤ (t + 1) * D := Nat.mul_le_mul_left _ (by rw [S.hD]; omega)
  rw [← Nat.mul_assoc] at h3
  omega
theorem Seen.less {R D P u v1 v2 d1 r t h : Nat} (S : Seen R D P u v1 v2 d1 r) (e : t * v1 + h = u) (hc : (h + 1) * B64 ≤ t * v2) : R < t * D := by
  have h1 : R < (u + 1) * P := by rw [S.hR, Nat.add_mul]; have := S.hr; omega
  have h2 : t * (v2 * P) ≤ t * (B64 * d1) := Nat.mul_le_mul_left _ S.lo
  have h3 : (h + 1) * B64 * P ≤ t * v2 * P := Nat.mul_le_mul_right _ hc
  have h4 : (h + 1) * P ≤ t * d1 := by
    refine Nat.le_of_mul_le_mul_left (c := B64) ?_ B64_pos
    calc B64 * ((h + 1) * P) = (h + 1) * B64 * P := by ac_rfl
      _ ≤ t * v2 * P := h3
      _ = t * (v2 * P) := by ac_rfl
      _ ≤ t * (B64 * d1) := h2
      _ = B64 * (t * d1) := by ac_rfl
  have h5 : t * D = t * v1 * P + t * d1 := by rw [S.hD, Nat.mul_add, Nat.mul_assoc]
  have h6 : (u + 1) * P = t * v1 * P + (h + 1) * P := by rw [← Nat.add_mul]; congr 1; omega
  omega
theorem Seen.done {R D P u v1 v2 d1 r t h : Nat} (S : Seen R D P u v1 v2 d1 r) (e : t * v1 + h = u) (ht : t < B64) (hc : t * v2 < (h + 1) * B64) : t * D ≤ R + D := by
  have h5 : t * D = t * v1 * P + t * d1 := by rw [S.hD, Nat.mul_add, Nat.mul_assoc]
  have h1 : t * (B64 * d1) ≤ t * ((v2 + 1) * P) := Nat.mul_le_mul_left _ (Nat.le_of_lt S.hi)
  have h2 : t * v2 + t ≤ (h + 2) * B64 := by rw [Nat.add_mul] at hc ⊢; omega
  have h3 : t * d1 ≤ (h + 2) * P := by
    refine Nat.le_of_mul_le_mul_left (c := B64) ?_ B64_pos
    calc B64 * (t * d1) = t * (B64 * d1) := by ac_rfl
      _ ≤ t * ((v2 + 1) * P) := h1
      _ = (t * v2 + t) * P := by rw [← Nat.mul_assoc, Nat.mul_add, Nat.mul_one]
      _ ≤ (h + 2) * B64 * P := Nat.mul_le_mul_right _ h2
      _ = B64 * ((h + 2) * P) := by ac_rfl
  have h6 : u * P = t * v1 * P + h * P := by rw [← Nat.add_mul]; congr 1; omega
  have h7 : 2 * P ≤ v1 * P := Nat.mul_le_mul_right _ (by have := S.top; have := B64_gt; unfold B64 at *; omega)
  have h8 : (h + 2) * P = h * P + 2 * P := Nat.add_mul ..
  have h9 := S.hR
  have h10 := S.hD
  omega
theorem Seen.great {R D P u v1 v2 d1 r : Nat} (S : Seen R D P u v1 v2 d1 r) (hu : v1 * B64 ≤ u) (hlt : R < B64 * D) : Good R D (B64 - 1) := by
  have e : B64 - 1 + 1 = B64 := by have := B64_pos; omega
  refine ⟨by rw [e]; exact hlt, ?_, by have := B64_pos; omega⟩
  obtain ⟨b, hb⟩ : ∃ b, B64 = b + 2 := ⟨B64 - 2, by unfold B64; omega⟩
  have h1 : b * D ≤ R := by
    have h2 : b * D ≤ b * ((v1 + 1) * P) := Nat.mul_le_mul_left _ (by rw [S.hD, Nat.add_mul]; have := S.hd; omega)
    have h3 : b * (v1 + 1) ≤ v1 * B64 := by
      have := S.top
      rw [hb] at this ⊢
      rw [Nat.mul_add, Nat.mul_add, Nat.mul_comm v1 b]
      omega
    have h4 : b * (v1 + 1) * P ≤ u * P := Nat.mul_le_mul_right _ (Nat.le_trans h3 hu)
    rw [← Nat.mul_assoc] at h2
    have := S.hR
    omega
  rw [hb, show b + 2 - 1 = b + 1 by omega, Nat.add_mul, Nat.one_mul]
  omega

theorem mulHi_le_iff {a b h : Nat} : mulHi a b ≤ h ↔ a * b < (h + 1) * B64 := by
  unfold mulHi
  rw [← Nat.lt_succ_iff, Nat.div_lt_iff_lt_mul B64_pos]



/-- One half of the library's division: u is less than y, d is a half. -/
structure Half (u y y1 y0 d q r : Nat) : Prop where
  hy : y = y1 * H32 + y0
  h0 : y0 < H32
  h1 : y1 < H32
  top : H32 ≤ 2 * y1
  hu : u < y
  hd : d < H32
  hq : q * y1 + r = u
  hlt : u * H32 + d < (q + 1) * y

theorem Half.start {u y y1 y0 d : Nat} (hy : y = y1 * H32 + y0) (h0 : y0 < H32) (h1 : y1 < H32) (top : H32 ≤ 2 * y1) (hu : u < y) (hd : d < H32) : Half u y y1 y0 d (u / y1) (u % y1) := by
  have hy1 : 0 < y1 := by unfold H32 at top; omega
  have e : u / y1 * y1 + u % y1 = u := by rw [Nat.mul_comm]; exact Nat.div_add_mod u y1
  refine ⟨hy, h0, h1, top, hu, hd, e, ?_⟩
  have h2 := Nat.mod_lt u hy1
  have h3 : u + 1 ≤ (u / y1 + 1) * y1 := by rw [Nat.add_mul]; omega
  have h4 : (u + 1) * H32 ≤ (u / y1 + 1) * y1 * H32 := Nat.mul_le_mul_right _ h3
  have h5 : (u / y1 + 1) * (y1 * H32) ≤ (u / y1 + 1) * y := Nat.mul_le_mul_left _ (by omega)
  rw [← Nat.mul_assoc] at h5
  rw [Nat.add_mul, Nat.one_mul] at h4
  omega
theorem Half.r_lt {u y1 : Nat} (top : H32 ≤ 2 * y1) : u % y1 < y1 := Nat.mod_lt _ (by unfold H32 at top; omega)
/-- The test of the library's loop, read as numbers. -/
def tooBig (q y0 r d : Nat) : Prop := H32 ≤ q ∨ H32 * r + d < q * y0
theorem Half.pos {u y y1 y0 d q r : Nat} (h : Half u y y1 y0 d q r) (ht : tooBig q y0 r d) : u * H32 + d < q * y ∧ 0 < q := by
  have e : q * y = q * y1 * H32 + q * y0 := by rw [h.hy, Nat.mul_add, Nat.mul_assoc]
  have h2 : u * H32 = q * y1 * H32 + r * H32 := by rw [← Nat.add_mul, h.hq]
  have hlt : u * H32 + d < q * y := by
    rcases ht with ht | ht
    · have h3 : H32 * y ≤ q * y := Nat.mul_le_mul_right _ ht
      have h4 : (u + 1) * H32 ≤ y * H32 := Nat.mul_le_mul_right _ h.hu
      rw [Nat.add_mul, Nat.one_mul] at h4
      have := h.hd
      rw [Nat.mul_comm] at h3
      omega
    · rw [Nat.mul_comm H32] at ht
      omega
  refine ⟨hlt, ?_⟩
  rcases Nat.eq_zero_or_pos q with h3 | h3
  · subst h3; omega
  · exact h3
theorem Half.step {u y y1 y0 d q r : Nat} (h : Half u y y1 y0 d q r) (ht : tooBig q y0 r d) : Half u y y1 y0 d (q - 1) (r + y1) := by
  obtain ⟨h1, h2⟩ := h.pos ht
  refine ⟨h.hy, h.h0, h.h1, h.top, h.hu, h.hd, ?_, by rw [Nat.sub_add_cancel h2]; exact h1⟩
  have := h.hq
  obtain ⟨p, rfl⟩ : ∃ p, q = p + 1 := ⟨q - 1, by omega⟩
  rw [Nat.add_sub_cancel]
  rw [Nat.add_mul] at this
  omega
/-- It ends either way with the quotient. -/
theorem Half.fin {u y y1 y0 d q r : Nat} (h : Half u y y1 y0 d q r) (ht : H32 ≤ r ∨ ¬ tooBig q y0 r d) : q = (u * H32 + d) / y ∧ q < H32 := by
  have e : q * y = q * y1 * H32 + q * y0 := by rw [h.hy, Nat.mul_add, Nat.mul_assoc]
  have h2 : u * H32 = q * y1 * H32 + r * H32 := by rw [← Nat.add_mul, h.hq]
  have h0 := h.h0
  have key : q * y ≤ u * H32 + d ∧ q < H32 := by
    rcases ht with ht | ht
    · have hq : q < H32 := by
        rcases Nat.lt_or_ge q H32 with h3 | h3
        · exact h3
        · have h4 : H32 * y1 ≤ q * y1 := Nat.mul_le_mul_right _ h3
          have := h.hq
          have := h.hu
          have h5 := h.hy
          rw [Nat.mul_comm] at h5
          omega
      refine ⟨?_, hq⟩
      have h3 : q * y0 ≤ H32 * H32 := Nat.mul_le_mul (by omega) (by omega)
      have h4 : H32 * H32 ≤ r * H32 := Nat.mul_le_mul_right _ ht
      omega
    · unfold tooBig at ht
      have h3 : ¬ H32 ≤ q := fun k => ht (.inl k)
      have h4 : ¬ H32 * r + d < q * y0 := fun k => ht (.inr k)
      rw [Nat.mul_comm H32] at h4
      omega
  refine ⟨?_, key.2⟩
  have hlt := h.hlt
  have hy0 : 0 < y := by have := h.hu; omega
  refine (Nat.div_eq_of_lt_le ?_ ?_).symm
  · exact key.1
  · exact hlt
theorem Half.q_le {u y y1 y0 d q r : Nat} (h : Half u y y1 y0 d q r) : q ≤ 2 * H32 := by
  rcases Nat.lt_or_ge (2 * H32) q with h3 | h3
  · have h4 : 2 * H32 * y1 ≤ q * y1 := Nat.mul_le_mul_right _ (by omega)
    have := h.hq
    have := h.hu
    have h5 := h.hy
    have h6 : y1 * H32 * 2 = 2 * H32 * y1 := by ac_rfl
    have := h.h0
    have h7 : H32 ≤ y1 * H32 := Nat.le_mul_of_pos_left _ (by have := h.top; unfold H32 at this; omega)
    omega
  · exact h3

/-- Both halves together. -/
theorem both_halves {hi l1 l0 y q1 u q0 : Nat} (hy : 0 < y) (e1 : q1 = (hi * H32 + l1) / y) (eu : u = (hi * H32 + l1) % y) (e0 : q0 = (u * H32 + l0) / y) :
    q1 * H32 + q0 = (hi * B64 + (l1 * H32 + l0)) / y ∧ (u * H32 + l0) % y = (hi * B64 + (l1 * H32 + l0)) % y := by
  have h1 : hi * H32 + l1 = u + y * q1 := by rw [e1, eu]; exact (Nat.mod_add_div _ _).symm
  have h2 : hi * B64 + (l1 * H32 + l0) = (u * H32 + l0) + y * (q1 * H32) := by
    have : (hi * H32 + l1) * H32 = (u + y * q1) * H32 := by rw [h1]
    rw [Nat.add_mul, Nat.add_mul, Nat.mul_assoc, Nat.mul_assoc, H32_sq] at this
    omega
  rw [h2, Nat.add_mul_div_left _ _ hy, Nat.add_mul_mod_self_left, e0]
  exact ⟨by omega, rfl⟩

end Go.Proofs.Ytgglcgkgeilblaa

/-
  The contracts of div's trim, limb, raised, isShift, and of the library's Clone.
-/
namespace Go.Proofs.Ytgglcgkgeilblaa
open Go.RowKit
/-- Two digits' figures that do not meet, joined by an or. -/
theorem or_shl (x : Nat) {s c : Nat} (hs : s ≤ 64) (hc : c < 2 ^ s) : bits .or .u64 (IntKind.u64.wrap ((x : Int) * 2 ^ s)) (c : Int) = ((shlD x s + c : Nat) : Int) := by
  have hlt := shlD_add_lt x hs hc
  have e1 : IntKind.u64.wrap ((x : Int) * 2 ^ s) = ((shlD x s : Nat) : Int) := by
    rw [IntKind.wrap_u64, show (18446744073709551616 : Int) = (B64 : Int) from rfl]
    unfold shlD
    simp
  rw [e1]
  have key : (BitVec.ofInt 64 ((shlD x s : Nat) : Int) ||| BitVec.ofInt 64 (c : Int)).toNat = shlD x s + c := by
    have h1 : ((shlD x s : Nat) : Int) % ((2 ^ 64 : Nat) : Int) = ((shlD x s : Nat) : Int) := Int.emod_eq_of_lt (by omega) (by rw [← B64_two]; omega)
    have h2 : (c : Int) % ((2 ^ 64 : Nat) : Int) = (c : Int) := Int.emod_eq_of_lt (by omega) (by rw [← B64_two]; omega)
    rw [BitVec.toNat_or, BitVec.toNat_ofInt, BitVec.toNat_ofInt, h1, h2, Int.toNat_natCast, Int.toNat_natCast, shlD_mul x hs]
    exact (Nat.two_pow_add_eq_or_of_lt hc _).symm
  show IntKind.u64.wrap ((BitVec.ofInt 64 ((shlD x s : Nat) : Int) ||| BitVec.ofInt 64 (c : Int)).toNat : Nat) = _
  rw [key, IntKind.wrap_u64]
  unfold B64 at hlt
  omega

theorem shr_eq (x s : Nat) : (x : Int) / 2 ^ (64 - s) = ((shrD x s : Nat) : Int) := by
  unfold shrD
  simp

end Go.Proofs.Ytgglcgkgeilblaa

/-
  The contracts of div's lowered, and of the library's Clone and LeadingZeros64.
-/
namespace Go.Proofs.Ytgglcgkgeilblaa
open Go.RowKit

theorem or_low {x : Nat} (hx : x < B64) (y : Nat) {s : Nat} (hs : s ≤ 64) : bits .or .u64 ((x : Int) / 2 ^ s) (IntKind.u64.wrap ((y : Int) * 2 ^ (64 - s))) = ((x / 2 ^ s + shlD y (64 - s) : Nat) : Int) := by
  have h1 : x / 2 ^ s < 2 ^ (64 - s) := by
    rw [Nat.div_lt_iff_lt_mul (Nat.pow_pos (by omega)), Nat.mul_comm, B64_parts hs]; exact hx
  have h2 := or_shl y (s := 64 - s) (by omega) h1
  rw [Nat.add_comm, ← h2]
  show IntKind.u64.wrap ((BitVec.ofInt 64 _ ||| BitVec.ofInt 64 _).toNat : Nat) = IntKind.u64.wrap ((BitVec.ofInt 64 _ ||| BitVec.ofInt 64 _).toNat : Nat)
  rw [BitVec.or_comm]
  simp

/-- A number of digits, copied into new memory. -/
theorem append_src {w : World} {b off n c : Nat} {l : List Nat} (h : Lim w.heap.size w (some ⟨b, off, none⟩) n c l) (h0 : 0 < n) (o : Obj) : ∀ (j : Nat) u, (l.map encD)[j]? = some u → (w.alloc o).cell? ((⟨b, off, none⟩ : Addr).add j) = some u := by
  intro j u hu
  obtain ⟨b', off', e, hb, hcell⟩ := h.2.2.2 h0
  injection e with e
  injection e with e1 e2
  subst e1; subst e2
  have hj : j < n := by
    have := (List.getElem?_eq_some_iff.1 hu).1
    rw [List.length_map] at this
    have := h.1; omega
  have e1 : ((⟨b, off, none⟩ : Addr).add j) = ⟨b, off + j, none⟩ := by unfold Addr.add; split <;> simp_all
  rw [e1, World.cell?_alloc_lt _ _ _ hb, hcell j hj]
  rw [List.getElem?_map] at hu
  have hjl : j < l.length := by have := h.1; omega
  rw [List.getElem?_eq_getElem hjl] at hu ⊢
  exact hu

end Go.Proofs.Ytgglcgkgeilblaa

/-
  The contracts of zed: signed, Right, Of, Int, Neg, Cmp.
-/
namespace Go.Proofs.Ytgglcgkgeilblaa
set_option maxRecDepth 100000
open Go.RowKit
set_option linter.unusedVariables false

set_option maxHeartbeats 1000000 in
theorem signed_N {w : World} {A : Option Addr} {n c x : Nat} (b : Bool) (ha : Num w A n c x) (hn : n ≤ 1000000) : Calls Try.prog 43 #[.bool b, .slice A n c] w (GotZ w (sgn b x)) := by
  have hl := ha.len
  by_cases h0 : n = 0
  · subst h0
    have hx : x = 0 := by
      have h2 := val_limbs x
      rw [List.eq_nil_of_length_eq_zero hl.symm] at h2
      exact h2.symm
    subst hx
    have hz : Zn w false A 0 c (sgn b 0) := by
      refine ⟨by rw [sgn_abs]; exact ha, ?_⟩
      unfold sgn; split <;> rfl
    clear hl
    cases b
    all_goals
      go_enter Try.func43, Try.ntmps43
      go_wp2_with fail
      refine bodyPost_ret (v := .agg #[.bool false, .slice A 0 c]) (by simp [results, Try.results43, go_sem]) rfl ⟨_, _, _, _, rfl, hz.on ?_, ?_⟩
      all_goals exact (Below.refl _ w).alloc (Nat.le_refl _) _
  · have hx : x ≠ 0 := fun h => by rw [h, limbs_zero] at hl; simp at hl; omega
    have hn0 : (0 : Int) < (n : Int) := by omega
    have hz : Zn w b A n c (sgn b x) := by
      refine ⟨by rw [sgn_abs]; exact ha, ?_⟩
      unfold sgn
      cases b
      · simp
      · simp; omega
    clear hl
    cases b
    all_goals
      go_enter Try.func43, Try.ntmps43
      go_wp2_with fail
    · refine bodyPost_ret (v := .agg #[.bool false, .slice A n c]) (by simp [results, Try.results43, go_sem]) rfl ⟨_, _, _, _, rfl, hz.on ?_, ?_⟩
      all_goals exact (Below.refl _ w).alloc (Nat.le_refl _) _
    · refine bodyPost_ret (v := .agg #[.bool true, .slice A n c]) (by simp [results, Try.results43, go_sem]; omega) rfl ⟨_, _, _, _, rfl, hz.on ?_, ?_⟩
      all_goals exact (Below.refl _ w).alloc (Nat.le_refl _) _

set_option maxRecDepth 100000 in
set_option maxHeartbeats 2000000 in
theorem zof_N (w : World) (z : Int) (h : I64 z) : Calls Try.prog 24 #[.int .i64 z] w (GotZ w z) := by
  have hx := h.abs
  obtain ⟨x, hxe⟩ : ∃ x, z.natAbs = x := ⟨_, rfl⟩
  rw [hxe] at hx
  obtain ⟨W, hW⟩ : ∃ W, w.alloc (.cells #[.bool false, .slice none 0 0] 34) = W := ⟨_, rfl⟩
  have hB : Below w.heap.size w W := by rw [← hW]; exact below_one w _
  have hsz : W.heap.size = w.heap.size + 1 := by rw [← hW]; simp
  have c1 : W.cell? ⟨w.heap.size, 0, none⟩ = some (.bool false) := by rw [← hW]; simp [go_sem]
  have c2 : W.cell? ⟨w.heap.size, 1, none⟩ = some (.slice none 0 0) := by rw [← hW]; simp [go_sem]
  have c3 : W.frozen? ⟨w.heap.size, 0, none⟩ = false := by rw [← hW]; simp [go_sem]
  have c4 : W.frozen? ⟨w.heap.size, 1, none⟩ = false := by rw [← hW]; simp [go_sem]
  have HSZ := Lib.hid hsz
  clear hsz
  have hl := len_one hx
  by_cases hz : z < 0
  · have hs : sgn true x = z := by rw [← hxe]; exact sgn_of (by simp [hz])
    have e1 : IntKind.u64.wrap (-IntKind.u64.wrap z) = (x : Int) := by
      unfold I64 at h; rw [IntKind.wrap_u64, IntKind.wrap_u64]; omega
    have HS := Lib.hid hs
    clear hs hxe
    go_enter Try.func24, Try.ntmps24
    go_wp2_with fail
    clear hW e1
    refine (of_N W x hx).mono ?_
    rintro e w1 ⟨A1, n1, k1, rfl, hm, b1⟩
    go_wp2_with fail
    refine (signed_N _ hm (by rw [hm.len]; omega)).mono ?_
    rintro e w2 ⟨b2, A2, n2, k2, rfl, hz2, b2'⟩
    have b12 := b1.trans (b2'.mono b1.size)
    have hsz := HSZ.out
    have g1 := (b12.cell (p := ⟨w.heap.size, 0, none⟩) (by simp; omega)).trans c1
    have g2 := (b12.cell (p := ⟨w.heap.size, 1, none⟩) (by simp; omega)).trans c2
    have g3 := (b12.frozen (p := ⟨w.heap.size, 0, none⟩) (by simp; omega)).trans c3
    have g4 := (b12.frozen (p := ⟨w.heap.size, 1, none⟩) (by simp; omega)).trans c4
    rw [HS.out] at hz2
    have HZ := Lib.hid (hz2.stored g1 g2)
    have HB := hB.trans (b12.mono hB.size)
    clear hsz b12 b1 b2' hz2 hm
    go_wp2_with fail
    refine bodyPost_ret (v := .agg #[.bool b2, .slice A2 n2 k2]) (by simp [results, Try.results24, go_sem, g1, g2]) rfl ⟨_, _, _, _, rfl, HZ.out, ?_⟩
    exact (HB.setCell (p := ⟨w.heap.size, 0, none⟩) (Nat.le_refl _) _).setCell (p := ⟨w.heap.size, 1, none⟩) (Nat.le_refl _) _
  · have hs : sgn false x = z := by rw [← hxe]; exact sgn_of (by simp [hz])
    have e1 : IntKind.u64.wrap z = (x : Int) := by
      unfold I64 at h; rw [IntKind.wrap_u64]; omega
    have HS := Lib.hid hs
    clear hs hxe
    go_enter Try.func24, Try.ntmps24
    go_wp2_with fail
    clear hW e1
    refine (of_N W x hx).mono ?_
    rintro e w1 ⟨A1, n1, k1, rfl, hm, b1⟩
    go_wp2_with fail
    refine (signed_N _ hm (by rw [hm.len]; omega)).mono ?_
    rintro e w2 ⟨b2, A2, n2, k2, rfl, hz2, b2'⟩
    have b12 := b1.trans (b2'.mono b1.size)
    have hsz := HSZ.out
    have g1 := (b12.cell (p := ⟨w.heap.size, 0, none⟩) (by simp; omega)).trans c1
    have g2 := (b12.cell (p := ⟨w.heap.size, 1, none⟩) (by simp; omega)).trans c2
    have g3 := (b12.frozen (p := ⟨w.heap.size, 0, none⟩) (by simp; omega)).trans c3
    have g4 := (b12.frozen (p := ⟨w.heap.size, 1, none⟩) (by simp; omega)).trans c4
    rw [HS.out] at hz2
    have HZ := Lib.hid (hz2.stored g1 g2)
    have HB := hB.trans (b12.mono hB.size)
    clear hsz b12 b1 b2' hz2 hm
    go_wp2_with fail
    refine bodyPost_ret (v := .agg #[.bool b2, .slice A2 n2 k2]) (by simp [results, Try.results24, go_sem, g1, g2]) rfl ⟨_, _, _, _, rfl, HZ.out, ?_⟩
    exact (HB.setCell (p := ⟨w.heap.size, 0, none⟩) (Nat.le_refl _) _).setCell (p := ⟨w.heap.size, 1, none⟩) (Nat.le_refl _) _

set_option maxHeartbeats 2000000 in
theorem zcmp_N {w : World} {b b' : Bool} {A B : Option Addr} {n c m d : Nat} {z z' : Int} (ha : Zn w b A n c z) (hb : Zn w b' B m d z') (hx : (limbs z.natAbs).length ≤ 300) (hy : (limbs z'.natAbs).length ≤ 300) :
    Calls Try.prog 27 #[.agg #[.bool b, .slice A n c], .agg #[.bool b', .slice B m d]] w (GotV w (.int .i64 (cmpZ z z'))) := by
  have hB := below_two w (.cells #[.bool b, .slice A n c] 34) (.cells #[.bool b', .slice B m d] 34)
  have ha' := ha.1.on hB
  have hb' := hb.1.on hB
  have s1 := ha.2
  have s2 := hb.2
  cases b with
  | true =>
    have hz : z < 0 := by simpa using s1.symm
    cases b' with
    | true =>
      have hz' : z' < 0 := by simpa using s2.symm
      have he : cmpZ z z' = cmpN z'.natAbs z.natAbs := by
        have h1 := cmpZ_neg hz hz'
        rw [h1]
        unfold cmpN
        by_cases h2 : z.natAbs < z'.natAbs
        · rw [if_pos h2, if_neg (by omega), if_pos (by omega)]; rfl
        · rw [if_neg h2]
          by_cases h3 : z'.natAbs < z.natAbs
          · rw [if_pos h3, if_pos (by omega)]
          · rw [if_neg h3, if_neg (by omega), if_neg (by omega)]; rfl
      have HE := Lib.hid he
      clear s1 s2 hz hz' ha hb he
      go_enter Try.func27, Try.ntmps27
      go_wp2_with fail
      refine (cmp_N hb' ha' (by omega) (by omega)).mono ?_
      rintro e w1 ⟨rfl, b1⟩
      go_wp2_with fail
      go_ret
      refine ⟨ret_i64 HE.out.symm, hB.trans (b1.mono hB.size)⟩
    | false =>
      have hz' : ¬ z' < 0 := by simpa using s2.symm
      have HE := Lib.hid (cmpZ_np hz hz')
      clear s1 s2 hz hz' ha hb
      go_enter Try.func27, Try.ntmps27
      go_wp2_with fail
      go_ret
      rw [HE.out]
      exact ⟨rfl, hB⟩
  | false =>
    have hz : ¬ z < 0 := by simpa using s1.symm
    cases b' with
    | true =>
      have hz' : z' < 0 := by simpa using s2.symm
      have HE := Lib.hid (cmpZ_pn hz hz')
      clear s1 s2 hz hz' ha hb
      go_enter Try.func27, Try.ntmps27
      go_wp2_with fail
      go_ret
      rw [HE.out]
      exact ⟨rfl, hB⟩
    | false =>
      have hz' : ¬ z' < 0 := by simpa using s2.symm
      have HE := Lib.hid (cmpZ_pos hz hz')
      clear s1 s2 hz hz' ha hb
      go_enter Try.func27, Try.ntmps27
      go_wp2_with fail
      refine (cmp_N ha' hb' (by omega) (by omega)).mono ?_
      rintro e w1 ⟨rfl, b1⟩
      go_wp2_with fail
      go_ret
      refine ⟨ret_i64 HE.out.symm, hB.trans (b1.mono hB.size)⟩

end Go.Proofs.Ytgglcgkgeilblaa
