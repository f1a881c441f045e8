/-
  The law's helpers: a mantissa's number, and what is at most half a step away.
-/
import Derived.Test.YtckdbcngnghhiaaN17n
import Derived.Test.YtckdbcngnghhiaaA4
import Derived.Test.YtckdbcngnghhiaaA3
import Derived.Test.YtckdbcngnghhiaaA8
import Derived.Test.YtckdbcngnghhiaaA2
namespace Go.Proofs.Ytckdbcngnghhiaa
set_option maxRecDepth 100000
set_option maxHeartbeats 8000000
open Go.RowKit
set_option linter.unusedVariables false
set_option linter.unusedSimpArgs false

theorem rtabs17_N {w : World} {b : Bool} {A B : Option Addr} {n c m d : Nat} {x : Rat} (h : Rt w b A n c B m d x) :
    Calls Try.prog 35 #[.agg #[.bool b, .slice A n c, .slice B m d]] w (GotRt w (absQ x)) := by
  obtain ⟨e1, e2⟩ := absQ_parts17 x
  have HA : Hid (∀ W : World, Below w.heap.size w W → Rt W false A n c B m d (absQ x)) := Lib.hid (fun W hW => ⟨by rw [e1]; exact zn_nat (h.1.1.on hW), by rw [e2]; exact h.2.on hW⟩)
  obtain ⟨W, hW⟩ : ∃ W, (w.alloc (.cells #[.bool b, .slice A n c, .slice B m d] 40)).alloc (.cells #[.bool false, .slice none 0 0, .slice none 0 0] 40) = W := ⟨_, rfl⟩
  have hB : Below w.heap.size w W := by rw [← hW]; exact below_two w _ _
  have c0 : W.cell? ⟨w.heap.size, 0, none⟩ = some (.bool b) := by rw [← hW]; simp [go_sem]
  have c1 : W.cell? ⟨w.heap.size, 1, none⟩ = some (.slice A n c) := by rw [← hW]; simp [go_sem]
  have c2 : W.cell? ⟨w.heap.size, 2, none⟩ = some (.slice B m d) := by rw [← hW]; simp [go_sem]
  have d0 : W.cell? ⟨w.heap.size + 1, 0, none⟩ = some (.bool false) := by rw [← hW]; simp [go_sem]
  have d1 : W.cell? ⟨w.heap.size + 1, 1, none⟩ = some (.slice none 0 0) := by rw [← hW]; simp [go_sem]
  have d2 : W.cell? ⟨w.heap.size + 1, 2, none⟩ = some (.slice none 0 0) := by rw [← hW]; simp [go_sem]
  have f0 : W.frozen? ⟨w.heap.size + 1, 0, none⟩ = false := by rw [← hW]; simp [go_sem]
  have f1 : W.frozen? ⟨w.heap.size + 1, 1, none⟩ = false := by rw [← hW]; simp [go_sem]
  have f2 : W.frozen? ⟨w.heap.size + 1, 2, none⟩ = false := by rw [← hW]; simp [go_sem]
  have hr := HA.out W hB
  have eb : BoxR W (w.heap.size + 1) false none 0 0 none 0 0 := ⟨d0, d1, d2⟩
  have HZ : Hid (Rt (putR W (w.heap.size + 1) (.bool false) (.slice A n c) (.slice B m d)) false A n c B m d (absQ x)) := Lib.hid (Rt.putR hr eb _ _ _)
  clear hr h e1 e2
  go_enter Try.func35, Try.ntmps35
  go_wp2_with fail
  clear hW
  refine bodyPost_ret (v := .agg #[.bool false, .slice A n c, .slice B m d]) (by simp [results, Try.results35, go_sem, d0, d1, d2]) rfl ⟨_, _, _, _, _, _, _, rfl, HZ.out, below_putR hB (by omega) _ _ _⟩

theorem num17_N {w : World} {n f : Int} (hn : I64 n) (f0 : 0 ≤ f) (f1 : f ≤ 40) :
    Calls Try.prog 17 #[.int .i64 n, .int .i64 f] w (GotRt w (bak n f.toNat)) := by
  have CQ := fun W : World => rrat8_N (w := W) hn f0 f1
  clear hn f0 f1
  generalize bak n f.toNat = x at *
  have cc := Below.refl w.heap.size w
  go_enter Try.func17, Try.ntmps17
  go_wp2_with fail
  generalize hv_ : w.alloc (.cells #[.bool false, .slice none 0 0, .slice none 0 0] 40) = v1
  obtain ⟨f0, f1, f2⟩ : Fz3 v1 w.heap.size := by simp [Fz3, ← hv_, go_sem]
  have bA : Below w.heap.size w v1 := by rw [← hv_]; exact ((Below.refl _ w).alloc (by simp) _)
  replace cc := bK cc bA
  clear bA
  obtain ⟨g0, g1, g2⟩ : Cs3 v1 w.heap.size (.bool false) (.slice none 0 0) (.slice none 0 0) := by simp [Cs3, ← hv_, go_sem]
  have gl : w.heap.size < v1.heap.size := by simp [← hv_] <;> omega
  clear hv_
  refine (CQ _).mono ?_
  rintro e w2 ⟨bq, Aq, nq, cq, Bq, mq, dq, rfl, hq, b⟩
  rewrite [fR b gl] at f0 f1 f2
  rewrite [cR b gl] at g0 g1 g2
  replace gl := lK b gl
  replace cc := bK cc b
  clear b
  go_upto_region 2 with fail
  have qsqg : w.heap.size < w2.heap.size := gl
  generalize hv_ : w2.alloc (.cells #[.bool bq, .slice Aq nq cq, .slice Bq mq dq] 40) = v3
  have bA : Below w2.heap.size w2 v3 := by rw [← hv_]; exact below_one _ _
  rewrite [fR bA gl] at f0 f1 f2
  replace hq := hq.on bA
  rewrite [cR bA gl] at g0 g1 g2
  replace gl := lK bA gl
  replace cc := bK cc bA
  clear bA
  obtain ⟨qs0, qs1, qs2⟩ : Cs3 v3 w2.heap.size (.bool bq) (.slice Aq nq cq) (.slice Bq mq dq) := by simp [Cs3, ← hv_, go_sem]
  have qsl : w2.heap.size < v3.heap.size := by simp [← hv_]
  clear hv_
  have hn : Rt v3 bq Aq nq cq Bq mq dq (x) := hq
  have eb : BoxR v3 (w.heap.size) false none 0 0 none 0 0 := ⟨g0, g1, g2⟩
  have HZ : Hid (Rt (putR v3 (w.heap.size) (.bool bq) (.slice Aq nq cq) (.slice Bq mq dq)) bq Aq nq cq Bq mq dq (x)) := Lib.hid (Rt.putR hn eb _ _ _)
  clear hn
  go_wp2_with fail
  refine bodyPost_ret (v := .agg #[.bool bq, .slice Aq nq cq, .slice Bq mq dq]) (by simp [results, Try.results17, go_sem, g0, g1, g2]) rfl ⟨_, _, _, _, _, _, _, rfl, HZ.out, below_putR cc (by omega) _ _ _⟩

theorem len_p40 {k : Nat} (h : k ≤ 40) : (limbs (2 ^ k)).length ≤ 1 := len_one (by unfold B64; exact Nat.lt_of_le_of_lt (Nat.pow_le_pow_right (by omega) h) (by decide))

theorem within17_N {w : World} {n f : Int} {b0 : Bool} {A0 B0 : Option Addr} {n0 c0 m0 d0 : Nat} {x0 : Rat} (hn : I64 n) (f0 : 0 ≤ f) (f1 : f ≤ 40) (h0 : Rt w b0 A0 n0 c0 B0 m0 d0 x0) (s0 : Sz x0 10) (hle : absQ (bak n f.toNat - x0) + absQ (bak n f.toNat - x0) ≤ bak 1 f.toNat) :
    Calls Try.prog 20 #[.int .i64 n, .agg #[.bool b0, .slice A0 n0 c0, .slice B0 m0 d0], .int .i64 f] w (GotV w (.bool true)) := by
  have CN := fun W : World => num17_N (w := W) hn f0 f1
  have CO := fun W : World => num17_N (w := W) (n := 1) (by unfold I64; omega) f0 f1
  have z1 : Sz (bak n f.toNat) 2 := sz_mk (p := n) (q := 2 ^ f.toNat) (k := 2) (two_ne _) (Nat.le_trans (len_one hn.abs) (by omega)) (Nat.le_trans (len_p40 (show f.toNat ≤ 40 by omega)) (by omega))
  have z3 : Sz (bak 1 f.toNat) 2 := sz_mk (p := 1) (q := 2 ^ f.toNat) (k := 2) (two_ne _) (Nat.le_trans (len_one (show (1 : Int).natAbs < B64 by decide)) (by omega)) (Nat.le_trans (len_p40 (show f.toNat ≤ 40 by omega)) (by omega))
  have z2 := z1.sub s0
  have z4 := absQ_sz17 z2
  generalize bak n f.toNat = x at *
  generalize bak 1 f.toNat = y at *
  obtain ⟨D, eD⟩ : ∃ D, x - x0 = D := ⟨_, rfl⟩
  rw [eD] at z2 z4 hle
  have CS : ∀ {W : World} {b b2 : Bool} {A B A2 B2 : Option Addr} {n c m d n2 c2 m2 d2 : Nat}, Rt W b A n c B m d x → Rt W b2 A2 n2 c2 B2 m2 d2 x0 → Calls Try.prog 19 #[.agg #[.bool b, .slice A n c, .slice B m d], .agg #[.bool b2, .slice A2 n2 c2, .slice B2 m2 d2]] W (GotRt W D) := fun a b => by rw [← eD]; exact rtsub_N a (z1.le (by omega)) b (s0.le (by omega))
  obtain ⟨E, eE⟩ : ∃ E, absQ D = E := ⟨_, rfl⟩
  rw [eE] at z4 hle
  have CA : ∀ {W : World} {b : Bool} {A B : Option Addr} {n c m d : Nat}, Rt W b A n c B m d D → Calls Try.prog 35 #[.agg #[.bool b, .slice A n c, .slice B m d]] W (GotRt W E) := fun a => by rw [← eE]; exact rtabs17_N a
  have z5 := z4.add z4
  have CP : ∀ {W : World} {b b2 : Bool} {A B A2 B2 : Option Addr} {n c m d n2 c2 m2 d2 : Nat}, Rt W b A n c B m d E → Rt W b2 A2 n2 c2 B2 m2 d2 E → Calls Try.prog 15 #[.agg #[.bool b, .slice A n c, .slice B m d], .agg #[.bool b2, .slice A2 n2 c2, .slice B2 m2 d2]] W (GotRt W (E + E)) := fun a b => rtadd_N a (z4.le (by omega)) b (z4.le (by omega))
  have CC : ∃ r : Int, r ≤ 0 ∧ ∀ {W : World} {b b2 : Bool} {A B A2 B2 : Option Addr} {n c m d n2 c2 m2 d2 : Nat}, Rt W b A n c B m d (E + E) → Rt W b2 A2 n2 c2 B2 m2 d2 y → Calls Try.prog 36 #[.agg #[.bool b, .slice A n c, .slice B m d], .agg #[.bool b2, .slice A2 n2 c2, .slice B2 m2 d2]] W (GotV W (.int .i64 r)) := ⟨cmpQ (E + E) y, by unfold cmpQ; grind, fun a b => rtcmp_N a (z5.le (by omega)) b (z3.le (by omega))⟩
  obtain ⟨r, hr, CC⟩ := CC
  have tr : decide (r ≤ 0) = true := decide_eq_true hr
  clear hn f0 f1 z1 z2 z3 z4 z5 eD eE s0 hle hr
  have cc := Below.refl w.heap.size w
  go_enter Try.func20, Try.ntmps20
  go_upto_region 1 with fail
  generalize hv_ : w.alloc (.cells #[.bool b0, .slice A0 n0 c0, .slice B0 m0 d0] 40) = v1
  have bA : Below w.heap.size w v1 := by rw [← hv_]; exact ((Below.refl _ w).alloc (by simp) _)
  replace h0 := h0.on bA
  replace cc := bK cc bA
  clear bA
  obtain ⟨ea0, ea1, ea2⟩ : Cs3 v1 w.heap.size (.bool b0) (.slice A0 n0 c0) (.slice B0 m0 d0) := by simp [Cs3, ← hv_, go_sem]
  have eal : w.heap.size < v1.heap.size := by simp [← hv_] <;> omega
  clear hv_
  go_upto_region 1 with fail
  go_cut [7] (fun u wx => ∃ (g_ : Nat) (b_ : Bool) (A_ : Option Addr) (n_ c_ : Nat) (B_ : Option Addr) (m_ d_ : Nat), u = .pointer (some ⟨g_, 0, none⟩) ∧ LoneR v1 wx g_ b_ A_ n_ c_ B_ m_ d_ (E))
  case first =>
    have BB0 : Below v1.heap.size v1 v1.drew := below_drewN (Below.refl _ v1) 1
    have BB1 : Below v1.heap.size v1 (v1.alloc (.cells #[.bool false, .slice none 0 0, .slice none 0 0] 40)).drew := below_drewN (below_one _ _) 1
    have bR : Below v1.heap.size v1 v1 := Below.refl _ _
    have k_ea0 : ∀ W : World, Below v1.heap.size v1 W → W.cell? ⟨w.heap.size, 0, none⟩ = some (.bool b0) := fun W b => cK b ea0 eal
    have k_ea1 : ∀ W : World, Below v1.heap.size v1 W → W.cell? ⟨w.heap.size, 1, none⟩ = some (.slice A0 n0 c0) := fun W b => cK b ea1 eal
    have k_ea2 : ∀ W : World, Below v1.heap.size v1 W → W.cell? ⟨w.heap.size, 2, none⟩ = some (.slice B0 m0 d0) := fun W b => cK b ea2 eal
    clear ea0 ea1 ea2
    go_region_held3 (fun w' => Below v1.heap.size v1 w')
      (repeat' (first | with_reducible assumption | with_reducible refine below_al17 _ ?_ | with_reducible refine below_dr17 ?_ | with_reducible refine below_sc17 _ ?_ () ?_ | (first | omega | (simp; omega))))
      (first
        | (go_at_call 17; (with_reducible refine (CN _).mono ?_); rintro e y1 ⟨bq, Aq, nq, cq, Bq, mq, dq, rfl, hq, q⟩; have qq := BB0.trans (q.mono BB0.size); have qs1 := qq.size; clear q)
        | (go_at_call 17; (with_reducible refine (CN _).mono ?_); rintro e y1 ⟨bq, Aq, nq, cq, Bq, mq, dq, rfl, hq, q⟩; have qq := BB1.trans (q.mono BB1.size); have qs1 := qq.size; obtain ⟨bo_0, fo_0, bo_1, fo_1, bo_2, fo_2, ol⟩ := zb3 (g := v1.heap.size) q (by simp) (by simp [Cs3, go_sem]) (by simp [Fz3, go_sem]); clear q)
        | (go_at_call 19; have up := Below.refl y1.heap.size y1; have qu := qq.trans (up.mono qq.size); (with_reducible refine (CS (hq.on up) (h0.on qu)).mono ?_); rintro e y2 ⟨bs, As, ns, cs, Bs, ms, ds, rfl, hs, q⟩; replace qq := qu.trans (q.mono qu.size); clear qu; replace hq := (hq.on up).on q; (try (rewrite [cR up ol, cR q (lK up ol)] at bo_0 bo_1 bo_2; rewrite [fR up ol, fR q (lK up ol)] at fo_0 fo_1 fo_2; replace ol := lK q (lK up ol))); have qs2 := qq.size; clear q up)
        | (go_at_call 19; have up := below_one y1 (.cells #[.bool false, .slice none 0 0, .slice none 0 0] 40); have qu := qq.trans (up.mono qq.size); (with_reducible refine (CS (hq.on up) (h0.on qu)).mono ?_); rintro e y2 ⟨bs, As, ns, cs, Bs, ms, ds, rfl, hs, q⟩; replace qq := qu.trans (q.mono qu.size); clear qu; replace hq := (hq.on up).on q; (try (rewrite [cR up ol, cR q (lK up ol)] at bo_0 bo_1 bo_2; rewrite [fR up ol, fR q (lK up ol)] at fo_0 fo_1 fo_2; replace ol := lK q (lK up ol))); have qs2 := qq.size; obtain ⟨bo_0, fo_0, bo_1, fo_1, bo_2, fo_2, ol⟩ := zb3 (g := y1.heap.size) q (by simp) (by simp [Cs3, go_sem]) (by simp [Fz3, go_sem]); clear q up)
        | (go_at_call 35; have up := Below.refl y2.heap.size y2; have qu := qq.trans (up.mono qq.size); (with_reducible refine (CA (hs.on up)).mono ?_); rintro e y3 ⟨bo, Ao, no, co, Bo, mo, do_, rfl, o, q⟩; replace qq := qu.trans (q.mono qu.size); clear qu; replace hq := (hq.on up).on q; replace hs := (hs.on up).on q; (try (rewrite [cR up ol, cR q (lK up ol)] at bo_0 bo_1 bo_2; rewrite [fR up ol, fR q (lK up ol)] at fo_0 fo_1 fo_2; replace ol := lK q (lK up ol))); have qs3 := qq.size; clear q up)
        | (go_at_call 35; have up := below_one y2 (.cells #[.bool false, .slice none 0 0, .slice none 0 0] 40); have qu := qq.trans (up.mono qq.size); (with_reducible refine (CA (hs.on up)).mono ?_); rintro e y3 ⟨bo, Ao, no, co, Bo, mo, do_, rfl, o, q⟩; replace qq := qu.trans (q.mono qu.size); clear qu; replace hq := (hq.on up).on q; replace hs := (hs.on up).on q; (try (rewrite [cR up ol, cR q (lK up ol)] at bo_0 bo_1 bo_2; rewrite [fR up ol, fR q (lK up ol)] at fo_0 fo_1 fo_2; replace ol := lK q (lK up ol))); have qs3 := qq.size; obtain ⟨bo_0, fo_0, bo_1, fo_1, bo_2, fo_2, ol⟩ := zb3 (g := y2.heap.size) q (by simp) (by simp [Cs3, go_sem]) (by simp [Fz3, go_sem]); clear q up))
    all_goals (go_wp2_with fail; go_meet)
    all_goals refine ⟨_, bo, Ao, no, co, Bo, mo, do_, rfl, ?_⟩
    all_goals first
      | with_reducible exact loneRA o qq _
      | with_reducible exact loneRB bo_0 bo_1 bo_2 o qq (by omega)
  case rest =>
    obtain ⟨gz, bz, Az, nz, cz, Bz, mz, dz, rfl, ⟨z0, z1, z2⟩, hz, b, zge⟩ := hcut
    have zl := cell_lt z0
    simp only at zl
    have zqea : w.heap.size < gz := Nat.lt_of_lt_of_le eal zge
    replace h0 := h0.on b
    rewrite [cR b eal] at ea0 ea1 ea2
    replace eal := lK b eal
    replace cc := bK cc b
    clear b
    clear h0
    go_wp2_with fail
    refine (CP hz hz).mono ?_
    rintro e w2 ⟨bp, Ap, np, cp, Bp, mp, dp, rfl, hp, b⟩
    replace hz := hz.on b
    rewrite [cR b eal] at ea0 ea1 ea2
    replace eal := lK b eal
    rewrite [cR b zl] at z0 z1 z2
    replace zl := lK b zl
    replace cc := bK cc b
    clear b
    clear hz
    go_wp2_with fail
    refine (CO _).mono ?_
    rintro e w3 ⟨bu, Au, nu, cu, Bu, mu, du, rfl, hu, b⟩
    replace hp := hp.on b
    rewrite [cR b eal] at ea0 ea1 ea2
    replace eal := lK b eal
    rewrite [cR b zl] at z0 z1 z2
    replace zl := lK b zl
    replace cc := bK cc b
    clear b
    go_wp2_with fail
    refine (CC hp hu).mono ?_
    rintro e w4 ⟨rfl, b⟩
    replace hp := hp.on b
    replace hu := hu.on b
    rewrite [cR b eal] at ea0 ea1 ea2
    replace eal := lK b eal
    rewrite [cR b zl] at z0 z1 z2
    replace zl := lK b zl
    replace cc := bK cc b
    clear b
    go_wp2_with fail
    go_ret
    exact ⟨rfl, cc⟩

end Go.Proofs.Ytckdbcngnghhiaa
