/-
  Several texts in one: QR, QS, QT.
-/
import Derived.Test.YtchbhmcaalkfdaaA7
import Derived.Test.YtchbhmcaalkfdaaA6
import Derived.Test.YtchbhmcaalkfdaaA4
import Derived.Test.YtchbhmcaalkfdaaA2

/-
  The contracts of rat: quotient, isNought, times, less, reduced.
-/
namespace Go.Proofs.Ytchbhmcaalkfdaa
open Go.RowKit
set_option linter.unusedVariables false
set_option linter.unusedSimpArgs false

set_option maxRecDepth 100000 in
set_option maxHeartbeats 8000000 in
theorem isn_N {w : World} {A : Option Addr} {n c x : Nat} (r : Bool) (ha : Num w A n c x) (hx : (limbs x).length ≤ 300) (hr : decide (x = 0) = r) :
    Calls Try.prog 75 #[.slice A n c] w (GotV w (.bool r)) := by
  have he : (cmpN x 0 == 0) = r := (cmpN_nil x).trans hr
  have cc := Below.refl w.heap.size w
  go_enter Try.func75, Try.ntmps75
  go_wp2_with fail
  refine (cmp_N ha (num_zero _) (by omega) (Nat.le_trans len_nil (by omega))).mono ?_
  rintro e w1 ⟨rfl, b⟩
  replace ha := ha.on b
  replace cc := bK cc b
  clear b
  go_wp2_with fail
  go_ret
  exact ⟨rfl, cc⟩

set_option maxRecDepth 100000 in
set_option maxHeartbeats 8000000 in
theorem rquo_N {w : World} {A B : Option Addr} {n c m d x y : Nat} (ha : Num w A n c x) (hb : Num w B m d y) (hx : (limbs x).length ≤ 300) (hy : (limbs y).length ≤ 300) (hq : y ≠ 0) :
    Calls Try.prog 87 #[.slice A n c, .slice B m d] w (GotN w (x / y)) := by
  have cc := Below.refl w.heap.size w
  go_enter Try.func87, Try.ntmps87
  go_wp2_with fail
  refine (ddiv_N ha hb hx hy hq).mono ?_
  rintro e w1 ⟨A1, n1, k1, A2, n2, k2, rfl, h1, h2, b⟩
  go_wp2_with fail
  go_ret
  exact ⟨_, _, _, rfl, h1, b⟩



set_option maxRecDepth 100000 in
set_option maxHeartbeats 8000000 in
theorem reduced_N {w : World} {b : Bool} {A B : Option Addr} {n c m d q : Nat} {p : Int} (ha : Zn w b A n c p) (hb : Num w B m d q) (hq : q ≠ 0) (hx : (limbs p.natAbs).length ≤ 200) (hy : (limbs q).length ≤ 200) :
    Calls Try.prog 76 #[.agg #[.bool b, .slice A n c], .slice B m d] w (GotRt w (mkRat p q)) := by
  have hg := Nat.gcd_pos_of_pos_right p.natAbs (show 0 < q by omega)
  obtain ⟨g, hG⟩ : ∃ g, Nat.gcd p.natAbs q = g := ⟨_, rfl⟩
  have HN : Hid ((mkRat p q).num.natAbs = p.natAbs / g) := Lib.hid (by rw [← hG]; exact mkRat_abs p q hq)
  have HD : Hid ((mkRat p q).den = q / g) := Lib.hid (by rw [← hG]; exact mkRat_den p q hq)
  have HS : Hid (decide ((mkRat p q).num < 0) = decide (p < 0)) := Lib.hid (mkRat_neg p q hq)
  have hgl := gcd_len (p := p.natAbs) hq hy
  rw [hG] at hg hgl
  have hg0 : g ≠ 0 := by omega
  have HB := Lib.hid ha.2
  have p1 := ha.1
  have CG := Lib.hid hG
  clear hG hg ha
  have cc := Below.refl w.heap.size w
  go_enter Try.func76, Try.ntmps76
  go_wp2_with fail
  have f0 : ((w.alloc (.cells #[.bool b, .slice A n c] 25)).alloc (.cells #[.bool false, .slice none 0 0, .slice none 0 0] 27)).frozen? ⟨w.heap.size + 1, 0, none⟩ = false := by simp [go_sem]
  have f1 : ((w.alloc (.cells #[.bool b, .slice A n c] 25)).alloc (.cells #[.bool false, .slice none 0 0, .slice none 0 0] 27)).frozen? ⟨w.heap.size + 1, 1, none⟩ = false := by simp [go_sem]
  have f2 : ((w.alloc (.cells #[.bool b, .slice A n c] 25)).alloc (.cells #[.bool false, .slice none 0 0, .slice none 0 0] 27)).frozen? ⟨w.heap.size + 1, 2, none⟩ = false := by simp [go_sem]
  have bA : Below w.heap.size w ((w.alloc (.cells #[.bool b, .slice A n c] 25)).alloc (.cells #[.bool false, .slice none 0 0, .slice none 0 0] 27)) := (((Below.refl _ w).alloc (by simp) _).alloc (by simp) _)
  replace p1 := p1.on bA
  replace hb := hb.on bA
  replace cc := bK cc bA
  clear bA
  have k0 : ((w.alloc (.cells #[.bool b, .slice A n c] 25)).alloc (.cells #[.bool false, .slice none 0 0, .slice none 0 0] 27)).cell? ⟨w.heap.size, 0, none⟩ = some (.bool b) := by simp [go_sem]
  have k1 : ((w.alloc (.cells #[.bool b, .slice A n c] 25)).alloc (.cells #[.bool false, .slice none 0 0, .slice none 0 0] 27)).cell? ⟨w.heap.size, 1, none⟩ = some (.slice A n c) := by simp [go_sem]
  have kl : w.heap.size < ((w.alloc (.cells #[.bool b, .slice A n c] 25)).alloc (.cells #[.bool false, .slice none 0 0, .slice none 0 0] 27)).heap.size := by simp <;> omega
  have g0 : ((w.alloc (.cells #[.bool b, .slice A n c] 25)).alloc (.cells #[.bool false, .slice none 0 0, .slice none 0 0] 27)).cell? ⟨w.heap.size + 1, 0, none⟩ = some (.bool false) := by simp [go_sem]
  have g1 : ((w.alloc (.cells #[.bool b, .slice A n c] 25)).alloc (.cells #[.bool false, .slice none 0 0, .slice none 0 0] 27)).cell? ⟨w.heap.size + 1, 1, none⟩ = some (.slice none 0 0) := by simp [go_sem]
  have g2 : ((w.alloc (.cells #[.bool b, .slice A n c] 25)).alloc (.cells #[.bool false, .slice none 0 0, .slice none 0 0] 27)).cell? ⟨w.heap.size + 1, 2, none⟩ = some (.slice none 0 0) := by simp [go_sem]
  have gl : w.heap.size + 1 < ((w.alloc (.cells #[.bool b, .slice A n c] 25)).alloc (.cells #[.bool false, .slice none 0 0, .slice none 0 0] 27)).heap.size := by simp <;> omega
  generalize (w.alloc (.cells #[.bool b, .slice A n c] 25)).alloc (.cells #[.bool false, .slice none 0 0, .slice none 0 0] 27) = v1 at *
  refine (dgcd_N p1 hb (by omega) (by omega)).mono ?_
  rintro e w2 ⟨Av, nv, cv, rfl, v, b⟩
  rw [CG.out] at v
  replace f0 := fK b f0 gl
  replace f1 := fK b f1 gl
  replace f2 := fK b f2 gl
  replace p1 := p1.on b
  replace hb := hb.on b
  replace k0 := cK b k0 kl
  replace k1 := cK b k1 kl
  replace kl := lK b kl
  replace g0 := cK b g0 gl
  replace g1 := cK b g1 gl
  replace g2 := cK b g2 gl
  replace gl := lK b gl
  replace cc := bK cc b
  clear b
  go_upto_region 2 with fail
  go_cut [6] (fun u wx => ∃ (g_ : Nat) (b_ : Bool) (A_ : Option Addr) (n_ c_ : Nat), u = .pointer (some ⟨g_, 0, none⟩) ∧ LoneZ w2 wx g_ b_ A_ n_ c_ ((mkRat p q).num))
  case first =>
    have BB0 : Below w2.heap.size w2 w2.drew := below_drewN (Below.refl _ w2) 1
    have BB1 : Below w2.heap.size w2 (w2.alloc (.cells #[.bool false, .slice none 0 0] 25)).drew := below_drewN (below_one _ _) 1
    go_region_held3 (fun w' => w'.cell? ⟨w.heap.size, 0, none⟩ = some (.bool b) ∧ w'.cell? ⟨w.heap.size, 1, none⟩ = some (.slice A n c) ∧ w'.cell? ⟨w.heap.size + 1, 0, none⟩ = some (.bool false) ∧ w'.cell? ⟨w.heap.size + 1, 1, none⟩ = some (.slice none 0 0) ∧ w'.cell? ⟨w.heap.size + 1, 2, none⟩ = some (.slice none 0 0))
      (first | with_reducible exact ⟨k0, k1, g0, g1, g2⟩ | with_reducible exact ⟨keep_alloc (k0), keep_alloc (k1), keep_alloc (g0), keep_alloc (g1), keep_alloc (g2)⟩ | with_reducible exact ⟨keep_alloc (keep_alloc (k0)), keep_alloc (keep_alloc (k1)), keep_alloc (keep_alloc (g0)), keep_alloc (keep_alloc (g1)), keep_alloc (keep_alloc (g2))⟩ | with_reducible exact ⟨(cK qq k0 kl), (cK qq k1 kl), (cK qq g0 gl), (cK qq g1 gl), (cK qq g2 gl)⟩ | with_reducible exact ⟨keep_alloc ((cK qq k0 kl)), keep_alloc ((cK qq k1 kl)), keep_alloc ((cK qq g0 gl)), keep_alloc ((cK qq g1 gl)), keep_alloc ((cK qq g2 gl))⟩ | with_reducible exact ⟨keep_alloc (keep_alloc ((cK qq k0 kl))), keep_alloc (keep_alloc ((cK qq k1 kl))), keep_alloc (keep_alloc ((cK qq g0 gl))), keep_alloc (keep_alloc ((cK qq g1 gl))), keep_alloc (keep_alloc ((cK qq g2 gl)))⟩ | with_reducible exact ⟨((cell_putR (by omega)).trans (cK qq k0 kl)), ((cell_putR (by omega)).trans (cK qq k1 kl)), ((cell_putR (by omega)).trans (cK qq g0 gl)), ((cell_putR (by omega)).trans (cK qq g1 gl)), ((cell_putR (by omega)).trans (cK qq g2 gl))⟩ | with_reducible exact ⟨((cell_store (by omega)).trans (cK qq k0 kl)), ((cell_store (by omega)).trans (cK qq k1 kl)), ((cell_store (by omega)).trans (cK qq g0 gl)), ((cell_store (by omega)).trans (cK qq g1 gl)), ((cell_store (by omega)).trans (cK qq g2 gl))⟩ | with_reducible exact ⟨keep_alloc (((cell_putR (by omega)).trans (cK qq k0 kl))), keep_alloc (((cell_putR (by omega)).trans (cK qq k1 kl))), keep_alloc (((cell_putR (by omega)).trans (cK qq g0 gl))), keep_alloc (((cell_putR (by omega)).trans (cK qq g1 gl))), keep_alloc (((cell_putR (by omega)).trans (cK qq g2 gl)))⟩ | with_reducible exact ⟨keep_alloc (((cell_store (by omega)).trans (cK qq k0 kl))), keep_alloc (((cell_store (by omega)).trans (cK qq k1 kl))), keep_alloc (((cell_store (by omega)).trans (cK qq g0 gl))), keep_alloc (((cell_store (by omega)).trans (cK qq g1 gl))), keep_alloc (((cell_store (by omega)).trans (cK qq g2 gl)))⟩ | with_reducible exact ⟨keep_alloc (keep_alloc (((cell_putR (by omega)).trans (cK qq k0 kl)))), keep_alloc (keep_alloc (((cell_putR (by omega)).trans (cK qq k1 kl)))), keep_alloc (keep_alloc (((cell_putR (by omega)).trans (cK qq g0 gl)))), keep_alloc (keep_alloc (((cell_putR (by omega)).trans (cK qq g1 gl)))), keep_alloc (keep_alloc (((cell_putR (by omega)).trans (cK qq g2 gl))))⟩ | with_reducible exact ⟨keep_alloc (keep_alloc (((cell_store (by omega)).trans (cK qq k0 kl)))), keep_alloc (keep_alloc (((cell_store (by omega)).trans (cK qq k1 kl)))), keep_alloc (keep_alloc (((cell_store (by omega)).trans (cK qq g0 gl)))), keep_alloc (keep_alloc (((cell_store (by omega)).trans (cK qq g1 gl)))), keep_alloc (keep_alloc (((cell_store (by omega)).trans (cK qq g2 gl))))⟩ | with_reducible exact ⟨((cell_putR (by omega)).trans ((cell_putR (by omega)).trans (cK qq k0 kl))), ((cell_putR (by omega)).trans ((cell_putR (by omega)).trans (cK qq k1 kl))), ((cell_putR (by omega)).trans ((cell_putR (by omega)).trans (cK qq g0 gl))), ((cell_putR (by omega)).trans ((cell_putR (by omega)).trans (cK qq g1 gl))), ((cell_putR (by omega)).trans ((cell_putR (by omega)).trans (cK qq g2 gl)))⟩ | with_reducible exact ⟨((cell_store (by omega)).trans ((cell_store (by omega)).trans (cK qq k0 kl))), ((cell_store (by omega)).trans ((cell_store (by omega)).trans (cK qq k1 kl))), ((cell_store (by omega)).trans ((cell_store (by omega)).trans (cK qq g0 gl))), ((cell_store (by omega)).trans ((cell_store (by omega)).trans (cK qq g1 gl))), ((cell_store (by omega)).trans ((cell_store (by omega)).trans (cK qq g2 gl)))⟩ | with_reducible exact ⟨keep_alloc (((cell_putR (by omega)).trans ((cell_putR (by omega)).trans (cK qq k0 kl)))), keep_alloc (((cell_putR (by omega)).trans ((cell_putR (by omega)).trans (cK qq k1 kl)))), keep_alloc (((cell_putR (by omega)).trans ((cell_putR (by omega)).trans (cK qq g0 gl)))), keep_alloc (((cell_putR (by omega)).trans ((cell_putR (by omega)).trans (cK qq g1 gl)))), keep_alloc (((cell_putR (by omega)).trans ((cell_putR (by omega)).trans (cK qq g2 gl))))⟩ | with_reducible exact ⟨keep_alloc (((cell_store (by omega)).trans ((cell_store (by omega)).trans (cK qq k0 kl)))), keep_alloc (((cell_store (by omega)).trans ((cell_store (by omega)).trans (cK qq k1 kl)))), keep_alloc (((cell_store (by omega)).trans ((cell_store (by omega)).trans (cK qq g0 gl)))), keep_alloc (((cell_store (by omega)).trans ((cell_store (by omega)).trans (cK qq g1 gl)))), keep_alloc (((cell_store (by omega)).trans ((cell_store (by omega)).trans (cK qq g2 gl))))⟩ | with_reducible exact ⟨keep_alloc (keep_alloc (((cell_putR (by omega)).trans ((cell_putR (by omega)).trans (cK qq k0 kl))))), keep_alloc (keep_alloc (((cell_putR (by omega)).trans ((cell_putR (by omega)).trans (cK qq k1 kl))))), keep_alloc (keep_alloc (((cell_putR (by omega)).trans ((cell_putR (by omega)).trans (cK qq g0 gl))))), keep_alloc (keep_alloc (((cell_putR (by omega)).trans ((cell_putR (by omega)).trans (cK qq g1 gl))))), keep_alloc (keep_alloc (((cell_putR (by omega)).trans ((cell_putR (by omega)).trans (cK qq g2 gl)))))⟩ | with_reducible exact ⟨keep_alloc (keep_alloc (((cell_store (by omega)).trans ((cell_store (by omega)).trans (cK qq k0 kl))))), keep_alloc (keep_alloc (((cell_store (by omega)).trans ((cell_store (by omega)).trans (cK qq k1 kl))))), keep_alloc (keep_alloc (((cell_store (by omega)).trans ((cell_store (by omega)).trans (cK qq g0 gl))))), keep_alloc (keep_alloc (((cell_store (by omega)).trans ((cell_store (by omega)).trans (cK qq g1 gl))))), keep_alloc (keep_alloc (((cell_store (by omega)).trans ((cell_store (by omega)).trans (cK qq g2 gl)))))⟩ | go_keep)
      (first
        | (go_at_call 87; (with_reducible refine (rquo_N (p1.on BB0) (v.on BB0) (by omega) (by omega) hg0).mono ?_); rintro e y1 ⟨As, ns, cs, rfl, s, q⟩; have qq := BB0.trans (q.mono BB0.size); have p1' := (p1.on BB0).on q; have hb' := (hb.on BB0).on q; have v' := (v.on BB0).on q; have qs1 := qq.size; clear q)
        | (go_at_call 87; (with_reducible refine (rquo_N (p1.on BB1) (v.on BB1) (by omega) (by omega) hg0).mono ?_); rintro e y1 ⟨As, ns, cs, rfl, s, q⟩; have qq := BB1.trans (q.mono BB1.size); have p1' := (p1.on BB1).on q; have hb' := (hb.on BB1).on q; have v' := (v.on BB1).on q; have qs1 := qq.size; have bo_0 := (q.cell (p := ⟨w2.heap.size, 0, none⟩) (by simp)).trans (show _ = some (.bool false) by simp [go_sem]); have fo_0 := (q.frozen (p := ⟨w2.heap.size, 0, none⟩) (by simp)).trans (show _ = false by simp [go_sem]); have bo_1 := (q.cell (p := ⟨w2.heap.size, 1, none⟩) (by simp)).trans (show _ = some (.slice none 0 0) by simp [go_sem]); have fo_1 := (q.frozen (p := ⟨w2.heap.size, 1, none⟩) (by simp)).trans (show _ = false by simp [go_sem]); have ol : w2.heap.size < y1.heap.size := Nat.lt_of_lt_of_le (by simp) q.size; clear q))
    all_goals (go_wp2_with fail; go_meet)
    all_goals have o : Zn y1 b As ns cs (mkRat p q).num := ⟨by rw [HN.out]; exact s, by rw [HS.out]; exact HB.out⟩
    all_goals refine ⟨_, b, As, ns, cs, rfl, ?_⟩
    all_goals first
      | with_reducible exact loneZA o qq _
      | with_reducible exact loneZB bo_0 bo_1 o qq (by omega)
  case rest =>
    obtain ⟨gt, bt, At, nt, ct, rfl, ⟨t0, t1⟩, ht, b, tge⟩ := hcut
    have tl := cell_lt t0
    simp only at tl
    have tqk : w.heap.size < gt := Nat.lt_of_lt_of_le kl tge
    have tqg : w.heap.size + 1 < gt := Nat.lt_of_lt_of_le gl tge
    replace f0 := fK b f0 gl
    replace f1 := fK b f1 gl
    replace f2 := fK b f2 gl
    replace p1 := p1.on b
    replace hb := hb.on b
    replace v := v.on b
    replace k0 := cK b k0 kl
    replace k1 := cK b k1 kl
    replace kl := lK b kl
    replace g0 := cK b g0 gl
    replace g1 := cK b g1 gl
    replace g2 := cK b g2 gl
    replace gl := lK b gl
    replace cc := bK cc b
    clear b
    go_wp2_with fail
    have qq : Below wc.heap.size wc wc.drew := below_drewN (Below.refl _ wc) 1
    have p1' := p1.on qq
    have hb' := hb.on qq
    have v' := v.on qq
    have ht' := ht.on qq
    go_region_held3 (fun w' => w'.cell? ⟨w.heap.size, 0, none⟩ = some (.bool b) ∧ w'.cell? ⟨w.heap.size, 1, none⟩ = some (.slice A n c) ∧ w'.cell? ⟨gt, 0, none⟩ = some (.bool bt) ∧ w'.cell? ⟨gt, 1, none⟩ = some (.slice At nt ct))
      (first | with_reducible exact ⟨cK qq k0 kl, cK qq k1 kl, cK qq t0 tl, cK qq t1 tl⟩ | with_reducible exact ⟨(cell_putR (by omega)).trans (cK qq k0 kl), (cell_putR (by omega)).trans (cK qq k1 kl), (cell_putR (by omega)).trans (cK qq t0 tl), (cell_putR (by omega)).trans (cK qq t1 tl)⟩ | go_keep)
      (first
        | (go_at_call 87; (with_reducible refine (rquo_N hb' v' (by omega) (by omega) hg0).mono ?_); rintro e wz ⟨Bm, mm, dm, rfl, qm, q⟩; replace qq := bK qq q; (try replace p1' := p1'.on q); (try replace hb' := hb'.on q); (try replace v' := v'.on q); (try replace ht' := ht'.on q); clear q; have xa0 := cK qq g0 gl; have ya0 := fK qq f0 gl; have xa1 := cK qq g1 gl; have ya1 := fK qq f1 gl; have xa2 := cK qq g2 gl; have ya2 := fK qq f2 gl))
    replace cc := bK cc qq
    have hn : Rt wz bt At nt ct Bm mm dm (mkRat p q) := ⟨ht', by rw [HD.out]; exact qm⟩
    have eb : BoxR wz (w.heap.size + 1) false none 0 0 none 0 0 := ⟨xa0, xa1, xa2⟩
    have HZ : Hid (Rt (putR wz (w.heap.size + 1) (.bool bt) (.slice At nt ct) (.slice Bm mm dm)) bt At nt ct Bm mm dm (mkRat p q)) := Lib.hid (Rt.putR hn eb _ _ _)
    clear hn
    go_wp2_with fail
    refine bodyPost_ret (v := .agg #[.bool bt, .slice At nt ct, .slice Bm mm dm]) (by simp [results, Try.results76, go_sem, xa0, xa1, xa2]) rfl ⟨_, _, _, _, _, _, _, rfl, HZ.out, below_putR cc (by omega) _ _ _⟩

end Go.Proofs.Ytchbhmcaalkfdaa

/-
  The contracts of rat: join, Add, Sub, Mul.
-/
namespace Go.Proofs.Ytchbhmcaalkfdaa
open Go.RowKit
set_option linter.unusedVariables false
set_option linter.unusedSimpArgs false






end Go.Proofs.Ytchbhmcaalkfdaa

/-
  The contracts of rat: Make, Of, Cmp, Div, Right.
-/
namespace Go.Proofs.Ytchbhmcaalkfdaa
open Go.RowKit
set_option linter.unusedVariables false
set_option linter.unusedSimpArgs false

set_option maxRecDepth 100000 in
set_option maxHeartbeats 8000000 in
theorem qmake_N {w : World} {b : Bool} {A B : Option Addr} {n c m d q : Nat} {p : Int} (ha : Zn w b A n c p) (hb : Num w B m d q) (hq : q ≠ 0) (hx : (limbs p.natAbs).length ≤ 40) (hy : (limbs q).length ≤ 40) :
    Calls Try.prog 50 #[.agg #[.bool b, .slice A n c], .slice B m d] w (GotRp w (mkRat p q) 0) := by
  have cc := Below.refl w.heap.size w
  go_enter Try.func50, Try.ntmps50
  go_wp2_with fail
  have f0 : ((w.alloc (.cells #[.bool b, .slice A n c] 25)).alloc (.cells #[.bool false, .slice none 0 0, .slice none 0 0] 27)).frozen? ⟨w.heap.size + 1, 0, none⟩ = false := by simp [go_sem]
  have f1 : ((w.alloc (.cells #[.bool b, .slice A n c] 25)).alloc (.cells #[.bool false, .slice none 0 0, .slice none 0 0] 27)).frozen? ⟨w.heap.size + 1, 1, none⟩ = false := by simp [go_sem]
  have f2 : ((w.alloc (.cells #[.bool b, .slice A n c] 25)).alloc (.cells #[.bool false, .slice none 0 0, .slice none 0 0] 27)).frozen? ⟨w.heap.size + 1, 2, none⟩ = false := by simp [go_sem]
  have bA : Below w.heap.size w ((w.alloc (.cells #[.bool b, .slice A n c] 25)).alloc (.cells #[.bool false, .slice none 0 0, .slice none 0 0] 27)) := (((Below.refl _ w).alloc (by simp) _).alloc (by simp) _)
  replace ha := ha.on bA
  replace hb := hb.on bA
  replace cc := bK cc bA
  clear bA
  have k0 : ((w.alloc (.cells #[.bool b, .slice A n c] 25)).alloc (.cells #[.bool false, .slice none 0 0, .slice none 0 0] 27)).cell? ⟨w.heap.size, 0, none⟩ = some (.bool b) := by simp [go_sem]
  have k1 : ((w.alloc (.cells #[.bool b, .slice A n c] 25)).alloc (.cells #[.bool false, .slice none 0 0, .slice none 0 0] 27)).cell? ⟨w.heap.size, 1, none⟩ = some (.slice A n c) := by simp [go_sem]
  have kl : w.heap.size < ((w.alloc (.cells #[.bool b, .slice A n c] 25)).alloc (.cells #[.bool false, .slice none 0 0, .slice none 0 0] 27)).heap.size := by simp <;> omega
  have g0 : ((w.alloc (.cells #[.bool b, .slice A n c] 25)).alloc (.cells #[.bool false, .slice none 0 0, .slice none 0 0] 27)).cell? ⟨w.heap.size + 1, 0, none⟩ = some (.bool false) := by simp [go_sem]
  have g1 : ((w.alloc (.cells #[.bool b, .slice A n c] 25)).alloc (.cells #[.bool false, .slice none 0 0, .slice none 0 0] 27)).cell? ⟨w.heap.size + 1, 1, none⟩ = some (.slice none 0 0) := by simp [go_sem]
  have g2 : ((w.alloc (.cells #[.bool b, .slice A n c] 25)).alloc (.cells #[.bool false, .slice none 0 0, .slice none 0 0] 27)).cell? ⟨w.heap.size + 1, 2, none⟩ = some (.slice none 0 0) := by simp [go_sem]
  have gl : w.heap.size + 1 < ((w.alloc (.cells #[.bool b, .slice A n c] 25)).alloc (.cells #[.bool false, .slice none 0 0, .slice none 0 0] 27)).heap.size := by simp <;> omega
  generalize (w.alloc (.cells #[.bool b, .slice A n c] 25)).alloc (.cells #[.bool false, .slice none 0 0, .slice none 0 0] 27) = v1 at *
  refine (isn_N false hb (by omega) (decide_eq_false hq)).mono ?_
  rintro e w2 ⟨rfl, b⟩
  replace f0 := fK b f0 gl
  replace f1 := fK b f1 gl
  replace f2 := fK b f2 gl
  replace ha := ha.on b
  replace hb := hb.on b
  replace k0 := cK b k0 kl
  replace k1 := cK b k1 kl
  replace kl := lK b kl
  replace g0 := cK b g0 gl
  replace g1 := cK b g1 gl
  replace g2 := cK b g2 gl
  replace gl := lK b gl
  replace cc := bK cc b
  clear b
  go_wp2_with fail
  refine (reduced_N ha hb hq (by omega) (by omega)).mono ?_
  rintro e w3 ⟨bm, Am, nm, cm, Bm, mm, dm, rfl, hm, b⟩
  replace f0 := fK b f0 gl
  replace f1 := fK b f1 gl
  replace f2 := fK b f2 gl
  replace ha := ha.on b
  replace hb := hb.on b
  replace k0 := cK b k0 kl
  replace k1 := cK b k1 kl
  replace kl := lK b kl
  replace g0 := cK b g0 gl
  replace g1 := cK b g1 gl
  replace g2 := cK b g2 gl
  replace gl := lK b gl
  replace cc := bK cc b
  clear b
  have hn : Rt w3 bm Am nm cm Bm mm dm (mkRat p q) := hm
  have eb : BoxR w3 (w.heap.size + 1) false none 0 0 none 0 0 := ⟨g0, g1, g2⟩
  have HZ : Hid (Rt (putR w3 (w.heap.size + 1) (.bool bm) (.slice Am nm cm) (.slice Bm mm dm)) bm Am nm cm Bm mm dm (mkRat p q)) := Lib.hid (Rt.putR hn eb _ _ _)
  clear hn
  go_wp2_with fail
  refine bodyPost_ret (v := .tuple #[.agg #[.bool bm, .slice Am nm cm, .slice Bm mm dm], .int .i64 0]) (by simp [results, Try.results50, go_sem, g0, g1, g2]) rfl ⟨_, _, _, _, _, _, _, rfl, HZ.out, below_putR cc (by omega) _ _ _⟩

set_option maxRecDepth 100000 in
set_option maxHeartbeats 8000000 in
theorem qmake_zero {w : World} {b : Bool} {A B : Option Addr} {n c d : Nat} :
    Calls Try.prog 50 #[.agg #[.bool b, .slice A n c], .slice B 0 d] w (GotV w (.tuple #[.agg #[.bool false, .slice none 0 0, .slice none 0 0], .int .i64 4])) := by
  have cc := Below.refl w.heap.size w
  go_enter Try.func50, Try.ntmps50
  go_wp2_with fail
  have f0 : ((w.alloc (.cells #[.bool b, .slice A n c] 25)).alloc (.cells #[.bool false, .slice none 0 0, .slice none 0 0] 27)).frozen? ⟨w.heap.size + 1, 0, none⟩ = false := by simp [go_sem]
  have f1 : ((w.alloc (.cells #[.bool b, .slice A n c] 25)).alloc (.cells #[.bool false, .slice none 0 0, .slice none 0 0] 27)).frozen? ⟨w.heap.size + 1, 1, none⟩ = false := by simp [go_sem]
  have f2 : ((w.alloc (.cells #[.bool b, .slice A n c] 25)).alloc (.cells #[.bool false, .slice none 0 0, .slice none 0 0] 27)).frozen? ⟨w.heap.size + 1, 2, none⟩ = false := by simp [go_sem]
  have bA : Below w.heap.size w ((w.alloc (.cells #[.bool b, .slice A n c] 25)).alloc (.cells #[.bool false, .slice none 0 0, .slice none 0 0] 27)) := (((Below.refl _ w).alloc (by simp) _).alloc (by simp) _)
  replace cc := bK cc bA
  clear bA
  have k0 : ((w.alloc (.cells #[.bool b, .slice A n c] 25)).alloc (.cells #[.bool false, .slice none 0 0, .slice none 0 0] 27)).cell? ⟨w.heap.size, 0, none⟩ = some (.bool b) := by simp [go_sem]
  have k1 : ((w.alloc (.cells #[.bool b, .slice A n c] 25)).alloc (.cells #[.bool false, .slice none 0 0, .slice none 0 0] 27)).cell? ⟨w.heap.size, 1, none⟩ = some (.slice A n c) := by simp [go_sem]
  have kl : w.heap.size < ((w.alloc (.cells #[.bool b, .slice A n c] 25)).alloc (.cells #[.bool false, .slice none 0 0, .slice none 0 0] 27)).heap.size := by simp <;> omega
  have g0 : ((w.alloc (.cells #[.bool b, .slice A n c] 25)).alloc (.cells #[.bool false, .slice none 0 0, .slice none 0 0] 27)).cell? ⟨w.heap.size + 1, 0, none⟩ = some (.bool false) := by simp [go_sem]
  have g1 : ((w.alloc (.cells #[.bool b, .slice A n c] 25)).alloc (.cells #[.bool false, .slice none 0 0, .slice none 0 0] 27)).cell? ⟨w.heap.size + 1, 1, none⟩ = some (.slice none 0 0) := by simp [go_sem]
  have g2 : ((w.alloc (.cells #[.bool b, .slice A n c] 25)).alloc (.cells #[.bool false, .slice none 0 0, .slice none 0 0] 27)).cell? ⟨w.heap.size + 1, 2, none⟩ = some (.slice none 0 0) := by simp [go_sem]
  have gl : w.heap.size + 1 < ((w.alloc (.cells #[.bool b, .slice A n c] 25)).alloc (.cells #[.bool false, .slice none 0 0, .slice none 0 0] 27)).heap.size := by simp <;> omega
  generalize (w.alloc (.cells #[.bool b, .slice A n c] 25)).alloc (.cells #[.bool false, .slice none 0 0, .slice none 0 0] 27) = v1 at *
  refine (isn_N true (num_nil _ B d) len_nil (by simp)).mono ?_
  rintro e w2 ⟨rfl, b⟩
  replace f0 := fK b f0 gl
  replace f1 := fK b f1 gl
  replace f2 := fK b f2 gl
  replace k0 := cK b k0 kl
  replace k1 := cK b k1 kl
  replace kl := lK b kl
  replace g0 := cK b g0 gl
  replace g1 := cK b g1 gl
  replace g2 := cK b g2 gl
  replace gl := lK b gl
  replace cc := bK cc b
  clear b
  go_wp2_with fail
  exact bodyPost_ret (v := .tuple #[.agg #[.bool false, .slice none 0 0, .slice none 0 0], .int .i64 4]) (by simp [results, Try.results50, go_sem, g0, g1, g2]) rfl ⟨rfl, below_putR cc (by omega) _ _ _⟩



theorem rt_inv {w : World} {b : Bool} {A B : Option Addr} {n c m d : Nat} {x : Rat} (h : Rt w b A n c B m d x) (hne : x.num ≠ 0) : Rt w b B m d A n c x⁻¹ := by
  refine ⟨?_, ?_⟩
  · rw [inv_num x hne]; exact zn_side h.1 h.2 x.den_nz
  · rw [inv_den x hne]; exact h.1.1




theorem gcd_any {p q k : Nat} (hp : (limbs p).length ≤ k) (hq : (limbs q).length ≤ k) : (limbs (Nat.gcd p q)).length ≤ k := by
  rcases Nat.eq_zero_or_pos q with h | h
  · subst h; rw [Nat.gcd_zero_right]; exact hp
  · exact gcd_len (by omega) hq





end Go.Proofs.Ytchbhmcaalkfdaa
