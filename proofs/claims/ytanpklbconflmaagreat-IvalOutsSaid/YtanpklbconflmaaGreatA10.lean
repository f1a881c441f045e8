/-
  Several texts in one: IA, ID, IB.
-/
import Derived.Test.YtanpklbconflmaaGreatA6
import Derived.Test.YtanpklbconflmaaGreatA9
import Derived.Test.YtanpklbconflmaaGreatA3

/-
  The contracts of ival: Right, Of, Has, In, Add.
-/
namespace Go.Proofs.YtanpklbconflmaaGreat
set_option maxRecDepth 100000
set_option maxHeartbeats 8000000
open Go.RowKit
set_option linter.unusedVariables false
set_option linter.unusedSimpArgs false

theorem qright_N' {w : World} {b : Bool} {A B : Option Addr} {n c m d : Nat} {r : Rat} (h : Rt w b A n c B m d r) (s : Sz r 30) : Calls Tryz.prog 42 #[.agg #[.bool b, .slice A n c, .slice B m d]] w (GotV w (.bool true)) := qright_any h.1.1 h.2 (by rw [h.1.1.len]; exact Nat.le_trans s.1 (by omega)) (by rw [h.2.len]; exact Nat.le_trans s.2 (by omega)) true (okR_rt h)
theorem qcmp_v' {w : World} {b0 b1 : Bool} {A0 B0 A1 B1 : Option Addr} {n0 c0 m0 d0 n1 c1 m1 d1 : Nat} {x0 x1 : Rat} (r : Int) (h0 : Rt w b0 A0 n0 c0 B0 m0 d0 x0) (s0 : Sz x0 30) (h1 : Rt w b1 A1 n1 c1 B1 m1 d1 x1) (s1 : Sz x1 30) (h : cmpQ x0 x1 = r) : Calls Tryz.prog 43 #[.agg #[.bool b0, .slice A0 n0 c0, .slice B0 m0 d0], .agg #[.bool b1, .slice A1 n1 c1, .slice B1 m1 d1]] w (GotV w (.int .i64 r)) := by
  subst h
  exact qcmp_N h0 s0 h1 s1

theorem iright_0 {w : World} {b0 p0 : Bool} {A0 B0 V0 U0 : Option Addr} {n0 c0 m0 d0 r0 k0 o0 q0 : Nat} {la lb lc ld : List Nat} (ha : Lim w.heap.size w A0 n0 c0 la) (hb : Lim w.heap.size w B0 m0 d0 lb) (hc : Lim w.heap.size w V0 r0 k0 lc) (hd : Lim w.heap.size w U0 o0 q0 ld) (n1_ : n0 ≤ 100) (m1_ : m0 ≤ 100) (n2_ : r0 ≤ 100) (m2_ : o0 ≤ 100) (e1 : okR b0 n0 la m0 lb = false) :
    Calls Tryz.prog 12 #[.agg #[.bool b0, .slice A0 n0 c0, .slice B0 m0 d0, .bool p0, .slice V0 r0 k0, .slice U0 o0 q0]] w (GotV w (.bool false)) := by
  have cc := Below.refl w.heap.size w
  go_enter Tryz.func12, Tryz.ntmps12
  go_wp2_with fail
  generalize hv_ : w.alloc (.cells #[.bool b0, .slice A0 n0 c0, .slice B0 m0 d0, .bool p0, .slice V0 r0 k0, .slice U0 o0 q0] 29) = v1
  have bA : Below w.heap.size w v1 := by rw [← hv_]; exact ((Below.refl _ w).alloc (by simp) _)
  replace ha := ha.on bA
  replace hb := hb.on bA
  replace hc := hc.on bA
  replace hd := hd.on bA
  replace cc := bK cc bA
  clear bA
  obtain ⟨ka0, ka1, ka2, ka3, ka4, ka5⟩ : Cs6 v1 w.heap.size (.bool b0) (.slice A0 n0 c0) (.slice B0 m0 d0) (.bool p0) (.slice V0 r0 k0) (.slice U0 o0 q0) := by simp [Cs6, ← hv_, go_sem]
  have kal : w.heap.size < v1.heap.size := by simp [← hv_] <;> omega
  clear hv_
  refine (qright_any ha hb n1_ m1_ false e1).mono ?_
  rintro e w2 ⟨rfl, b⟩
  replace ha := ha.on b
  replace hb := hb.on b
  replace hc := hc.on b
  replace hd := hd.on b
  rewrite [cR b kal] at ka0 ka1 ka2 ka3 ka4 ka5
  replace kal := lK b kal
  replace cc := bK cc b
  clear b
  go_wp2_with fail
  go_ret
  exact ⟨rfl, cc⟩

theorem iright_1 {w : World} {b0 p0 : Bool} {A0 B0 V0 U0 : Option Addr} {n0 c0 m0 d0 r0 k0 o0 q0 : Nat} {la lb lc ld : List Nat} (ha : Lim w.heap.size w A0 n0 c0 la) (hb : Lim w.heap.size w B0 m0 d0 lb) (hc : Lim w.heap.size w V0 r0 k0 lc) (hd : Lim w.heap.size w U0 o0 q0 ld) (n1_ : n0 ≤ 100) (m1_ : m0 ≤ 100) (n2_ : r0 ≤ 100) (m2_ : o0 ≤ 100) (e1 : okR b0 n0 la m0 lb = true) (e2 : okR p0 r0 lc o0 ld = false) :
    Calls Tryz.prog 12 #[.agg #[.bool b0, .slice A0 n0 c0, .slice B0 m0 d0, .bool p0, .slice V0 r0 k0, .slice U0 o0 q0]] w (GotV w (.bool false)) := by
  have cc := Below.refl w.heap.size w
  go_enter Tryz.func12, Tryz.ntmps12
  go_wp2_with fail
  generalize hv_ : w.alloc (.cells #[.bool b0, .slice A0 n0 c0, .slice B0 m0 d0, .bool p0, .slice V0 r0 k0, .slice U0 o0 q0] 29) = v1
  have bA : Below w.heap.size w v1 := by rw [← hv_]; exact ((Below.refl _ w).alloc (by simp) _)
  replace ha := ha.on bA
  replace hb := hb.on bA
  replace hc := hc.on bA
  replace hd := hd.on bA
  replace cc := bK cc bA
  clear bA
  obtain ⟨ka0, ka1, ka2, ka3, ka4, ka5⟩ : Cs6 v1 w.heap.size (.bool b0) (.slice A0 n0 c0) (.slice B0 m0 d0) (.bool p0) (.slice V0 r0 k0) (.slice U0 o0 q0) := by simp [Cs6, ← hv_, go_sem]
  have kal : w.heap.size < v1.heap.size := by simp [← hv_] <;> omega
  clear hv_
  refine (qright_any ha hb n1_ m1_ true e1).mono ?_
  rintro e w2 ⟨rfl, b⟩
  replace ha := ha.on b
  replace hb := hb.on b
  replace hc := hc.on b
  replace hd := hd.on b
  rewrite [cR b kal] at ka0 ka1 ka2 ka3 ka4 ka5
  replace kal := lK b kal
  replace cc := bK cc b
  clear b
  go_wp2_with fail
  refine (qright_any hc hd n2_ m2_ false e2).mono ?_
  rintro e w3 ⟨rfl, b⟩
  replace ha := ha.on b
  replace hb := hb.on b
  replace hc := hc.on b
  replace hd := hd.on b
  rewrite [cR b kal] at ka0 ka1 ka2 ka3 ka4 ka5
  replace kal := lK b kal
  replace cc := bK cc b
  clear b
  go_wp2_with fail
  go_ret
  exact ⟨rfl, cc⟩

theorem iright_N {w : World} {b0 p0 : Bool} {A0 B0 V0 U0 : Option Addr} {n0 c0 m0 d0 r0 k0 o0 q0 : Nat} {x0 y0 : Rat} (h0 : Rt w b0 A0 n0 c0 B0 m0 d0 x0) (g0 : Rt w p0 V0 r0 k0 U0 o0 q0 y0) (s0 : Sz x0 30) (t0 : Sz y0 30) (z : Bool) (hz : decide (x0 ≤ y0) = z) :
    Calls Tryz.prog 12 #[.agg #[.bool b0, .slice A0 n0 c0, .slice B0 m0 d0, .bool p0, .slice V0 r0 k0, .slice U0 o0 q0]] w (GotV w (.bool z)) := by
  obtain ⟨c_, ec⟩ : ∃ c, cmpQ x0 y0 = c := ⟨_, rfl⟩
  have EC := Lib.hid ec
  have tz : decide (c_ ≤ 0) = z := by rw [← ec, ← hz]; simp only [cmpQ_le]
  clear ec
  have cc := Below.refl w.heap.size w
  go_enter Tryz.func12, Tryz.ntmps12
  go_wp2_with fail
  generalize hv_ : w.alloc (.cells #[.bool b0, .slice A0 n0 c0, .slice B0 m0 d0, .bool p0, .slice V0 r0 k0, .slice U0 o0 q0] 29) = v1
  have bA : Below w.heap.size w v1 := by rw [← hv_]; exact ((Below.refl _ w).alloc (by simp) _)
  replace h0 := h0.on bA
  replace g0 := g0.on bA
  replace cc := bK cc bA
  clear bA
  obtain ⟨ka0, ka1, ka2, ka3, ka4, ka5⟩ : Cs6 v1 w.heap.size (.bool b0) (.slice A0 n0 c0) (.slice B0 m0 d0) (.bool p0) (.slice V0 r0 k0) (.slice U0 o0 q0) := by simp [Cs6, ← hv_, go_sem]
  have kal : w.heap.size < v1.heap.size := by simp [← hv_] <;> omega
  clear hv_
  refine (qright_N' h0 s0).mono ?_
  rintro e w2 ⟨rfl, b⟩
  replace h0 := h0.on b
  replace g0 := g0.on b
  rewrite [cR b kal] at ka0 ka1 ka2 ka3 ka4 ka5
  replace kal := lK b kal
  replace cc := bK cc b
  clear b
  go_wp2_with fail
  refine (qright_N' g0 t0).mono ?_
  rintro e w3 ⟨rfl, b⟩
  replace h0 := h0.on b
  replace g0 := g0.on b
  rewrite [cR b kal] at ka0 ka1 ka2 ka3 ka4 ka5
  replace kal := lK b kal
  replace cc := bK cc b
  clear b
  go_wp2_with fail
  refine (qcmp_v' c_ h0 s0 g0 t0 EC.out).mono ?_
  rintro e w4 ⟨rfl, b⟩
  replace h0 := h0.on b
  replace g0 := g0.on b
  rewrite [cR b kal] at ka0 ka1 ka2 ka3 ka4 ka5
  replace kal := lK b kal
  replace cc := bK cc b
  clear b
  go_wp2_with fail
  go_ret
  exact ⟨rfl, cc⟩

theorem icopied_N {w : World} {b : Bool} {A B : Option Addr} {n c m d : Nat} {x : Rat} (h : Rt w b A n c B m d x) (s : Sz x 1000) :
    Calls Tryz.prog 45 #[.agg #[.bool b, .slice A n c, .slice B m d]] w (GotRt w x) := by
  have p0 := h.1.1
  have q0 := h.2
  have l0 : n ≤ 2147483648 := by rw [p0.len]; exact Nat.le_trans s.1 (by omega)
  have l1 : m ≤ 2147483648 := by rw [q0.len]; exact Nat.le_trans s.2 (by omega)
  have HB := Lib.hid h.1.2
  clear h
  have CL : ∀ {W : World} {A : Option Addr} {n c x : Nat}, Num W A n c x → n ≤ 2147483648 → Calls Tryz.prog 84 #[.slice A n c] W (GotN W x) := fun h1 h2 => (clone_F h1 h2).mono (fun e w9 k => by obtain ⟨A, n, c, e1, k1, k2, _⟩ := k; exact ⟨A, n, c, e1, k1, k2⟩)
  have cc := Below.refl w.heap.size w
  go_enter Tryz.func45, Tryz.ntmps45
  go_wp2_with fail
  generalize hv_ : (w.alloc (.cells #[.bool b, .slice A n c, .slice B m d] 27)).alloc (.cells #[.bool false, .slice none 0 0, .slice none 0 0] 27) = v1
  obtain ⟨f0, f1, f2⟩ : Fz3 v1 (w.heap.size + 1) := by simp [Fz3, ← hv_, go_sem]
  have bA : Below w.heap.size w v1 := by rw [← hv_]; exact (((Below.refl _ w).alloc (by simp) _).alloc (by simp) _)
  replace p0 := p0.on bA
  replace q0 := q0.on bA
  replace cc := bK cc bA
  clear bA
  obtain ⟨ka0, ka1, ka2⟩ : Cs3 v1 w.heap.size (.bool b) (.slice A n c) (.slice B m d) := by simp [Cs3, ← hv_, go_sem]
  have kal : w.heap.size < v1.heap.size := by simp [← hv_] <;> omega
  obtain ⟨g_0, g_1, g_2⟩ : Cs3 v1 (w.heap.size + 1) (.bool false) (.slice none 0 0) (.slice none 0 0) := by simp [Cs3, ← hv_, go_sem]
  have g_l : w.heap.size + 1 < v1.heap.size := by simp [← hv_] <;> omega
  clear hv_
  have bD : Below v1.heap.size v1 v1.drew := below_drewN (Below.refl _ v1) 1
  rewrite [fR bD g_l] at f0 f1 f2
  replace p0 := p0.on bD
  replace q0 := q0.on bD
  rewrite [cR bD kal] at ka0 ka1 ka2
  replace kal := lK bD kal
  rewrite [cR bD g_l] at g_0 g_1 g_2
  replace g_l := lK bD g_l
  replace cc := bK cc bD
  clear bD
  refine wp_region_held_drew (S := fun w' => w'.cell? ⟨w.heap.size, 0, none⟩ = some (.bool b) ∧ w'.cell? ⟨w.heap.size, 1, none⟩ = some (.slice A n c) ∧ w'.cell? ⟨w.heap.size, 2, none⟩ = some (.slice B m d)) (by kernel_rfl) ?_ (fun hHeld => ?_)
  · exact ⟨ka0, ka1, ka2⟩
  refine wpAnyH_take (i := 0) (v := ?_) rfl (by kernel_rfl) (by kernel_rfl) (by kernel_rfl) (fun _ _ _ h => h) (Or.inl ⟨by rfl, ?_⟩) hHeld ?_
  rotate_left
  · (intro w hSw; (try dsimp only at hSw); go_simp; (try with_reducible rfl))
  try simp only [Act.put, pT]
  refine wpAnyH_take (i := 1) (v := ?_) rfl (by kernel_rfl) (by kernel_rfl) (by kernel_rfl) (fun _ _ _ h => h) (Or.inl ⟨by rfl, ?_⟩) hHeld ?_
  rotate_left
  · (intro w hSw; (try dsimp only at hSw); go_simp; (try with_reducible rfl))
  try simp only [Act.put, pT]
  refine wpAnyH_take (i := 2) (v := ?_) rfl (by kernel_rfl) (by kernel_rfl) (by kernel_rfl) (fun _ _ _ h => h) (Or.inl ⟨by rfl, ?_⟩) hHeld ?_
  rotate_left
  · (intro w hSw; (try dsimp only at hSw); go_simp; (try with_reducible rfl))
  try simp only [Act.put, pT]
  refine wpAnyH_take (i := 3) (v := ?_) rfl (by kernel_rfl) (by kernel_rfl) (by kernel_rfl) (fun _ _ _ h => h) (Or.inl ⟨by rfl, ?_⟩) hHeld ?_
  rotate_left
  · (intro w hSw; (try dsimp only at hSw); go_simp; (try with_reducible rfl))
  try simp only [Act.put, pT]
  refine wpAnyH_take (i := 4) (v := ?_) rfl (by kernel_rfl) (by kernel_rfl) (by kernel_rfl) (fun _ _ _ h => h) (Or.inl ⟨by rfl, ?_⟩) hHeld ?_
  rotate_left
  · (intro w hSw; (try dsimp only at hSw); go_simp; (try with_reducible rfl))
  try simp only [Act.put, pT]
  refine wpAnyH_take (i := 5) (v := ?_) rfl (by kernel_rfl) (by kernel_rfl) (by kernel_rfl) (fun _ _ _ h => h) (Or.inl ⟨by rfl, ?_⟩) hHeld ?_
  rotate_left
  · (intro w hSw; (try dsimp only at hSw); go_simp; (try with_reducible rfl))
  try simp only [Act.put, pT]
  refine wpAnyH_take (i := 8) (v := ?_) rfl (by kernel_rfl) (by kernel_rfl) (by kernel_rfl) (fun _ _ _ h => h) (Or.inl ⟨by rfl, ?_⟩) hHeld ?_
  rotate_left
  · (intro w hSw; (try dsimp only at hSw); go_simp; (try with_reducible rfl))
  try simp only [Act.put, pT]
  refine wpAnyH_take (i := 9) (v := ?_) rfl (by kernel_rfl) (by kernel_rfl) (by kernel_rfl) (fun _ _ _ h => h) (Or.inl ⟨by rfl, ?_⟩) hHeld ?_
  rotate_left
  · (intro w hSw; (try dsimp only at hSw); go_simp; (try with_reducible rfl))
  try simp only [Act.put, pT]
  refine wpAnyH_ready (rs := [6]) (by kernel_rfl) (by simp) ?_
  refine AllReadyH.cons rfl (fun K hK => ?_) AllReadyH.nil
  (try simp only [pT])
  rw [if_pos (by rfl)]
  go_simp
  go_at_call 84
  refine (CL p0 l0).mono ?_
  rintro e w2 ⟨Am, nm, cm, rfl, hm, b⟩
  rewrite [fR b g_l] at f0 f1 f2
  replace p0 := p0.on b
  replace q0 := q0.on b
  rewrite [cR b kal] at ka0 ka1 ka2
  replace kal := lK b kal
  rewrite [cR b g_l] at g_0 g_1 g_2
  replace g_l := lK b g_l
  replace cc := bK cc b
  clear b
  refine hK.out _ _ ?_ (fun hHeld => ?_)
  · exact ⟨ka0, ka1, ka2⟩
  clear hK K
  try simp only [Act.put, pT]
  refine wpAnyH_take (i := 7) (v := ?_) rfl (by kernel_rfl) (by kernel_rfl) (by kernel_rfl) (fun _ _ _ h => h) (Or.inl ⟨by rfl, ?_⟩) hHeld ?_
  rotate_left
  · (intro w hSw; (try dsimp only at hSw); go_simp; (try with_reducible rfl))
  try simp only [Act.put, pT]
  refine wpAnyH_ready (rs := [10]) (by kernel_rfl) (by simp) ?_
  refine AllReadyH.cons rfl (fun K hK => ?_) AllReadyH.nil
  (try simp only [pT])
  rw [if_pos (by rfl)]
  go_simp
  go_at_call 84
  refine (CL q0 l1).mono ?_
  rintro e w3 ⟨Az, nz, cz, rfl, hz, b⟩
  rewrite [fR b g_l] at f0 f1 f2
  replace p0 := p0.on b
  replace q0 := q0.on b
  replace hm := hm.on b
  rewrite [cR b kal] at ka0 ka1 ka2
  replace kal := lK b kal
  rewrite [cR b g_l] at g_0 g_1 g_2
  replace g_l := lK b g_l
  replace cc := bK cc b
  clear b
  refine hK.out _ _ ?_ (fun hHeld => ?_)
  · exact ⟨ka0, ka1, ka2⟩
  clear hK K
  try simp only [Act.put, pT]
  refine wpAnyH_take (i := 11) (v := ?_) rfl (by kernel_rfl) (by kernel_rfl) (by kernel_rfl) (fun _ _ _ h => h) (Or.inl ⟨by rfl, ?_⟩) hHeld ?_
  rotate_left
  · (intro w hSw; (try dsimp only at hSw); go_simp; (try with_reducible rfl))
  try simp only [Act.put, pT]
  refine wpAnyH_ready (rs := [12]) (by kernel_rfl) (by simp) ?_
  refine AllReadyH.cons rfl (fun K hK => ?_) AllReadyH.nil
  (try simp only [pT])
  rw [if_pos (by rfl)]
  go_simp
  refine hK.out _ _ ?_ (fun hHeld => ?_)
  · exact ⟨(cell_putR (by omega)).trans ka0, (cell_putR (by omega)).trans ka1, (cell_putR (by omega)).trans ka2⟩
  clear hK K
  try simp only [Act.put, pT]
  refine wpAnyH_done (by kernel_rfl) ?_ _
  clear hHeld
  have hn : Rt w3 b Am nm cm Az nz cz (x) := ⟨⟨hm, HB.out⟩, hz⟩
  have eb : BoxR w3 (w.heap.size + 1) false none 0 0 none 0 0 := ⟨g_0, g_1, g_2⟩
  have HZ : Hid (Rt (putR w3 (w.heap.size + 1) (.bool b) (.slice Am nm cm) (.slice Az nz cz)) b Am nm cm Az nz cz (x)) := Lib.hid (Rt.putR hn eb _ _ _)
  clear hn
  go_wp2_with fail
  refine bodyPost_ret (v := .agg #[.bool b, .slice Am nm cm, .slice Az nz cz]) (by simp [results, Tryz.results45, go_sem, g_0, g_1, g_2]) rfl ⟨_, _, _, _, _, _, _, rfl, HZ.out, below_putR cc (by omega) _ _ _⟩

theorem iof_N {w : World} {b : Bool} {A B : Option Addr} {n c m d : Nat} {x : Rat} (h : Rt w b A n c B m d x) (s : Sz x 1000) :
    Calls Tryz.prog 15 #[.agg #[.bool b, .slice A n c, .slice B m d]] w (GotSt w x x) := by
  have cc := Below.refl w.heap.size w
  go_enter Tryz.func15, Tryz.ntmps15
  go_wp2_with fail
  generalize hv_ : (w.alloc (.cells #[.bool b, .slice A n c, .slice B m d] 27)).alloc (.cells #[.bool false, .slice none 0 0, .slice none 0 0, .bool false, .slice none 0 0, .slice none 0 0] 29) = v1
  obtain ⟨f0, f1, f2, f3, f4, f5⟩ : Fz6 v1 (w.heap.size + 1) := by simp [Fz6, ← hv_, go_sem]
  have bA : Below w.heap.size w v1 := by rw [← hv_]; exact (((Below.refl _ w).alloc (by simp) _).alloc (by simp) _)
  replace h := h.on bA
  replace cc := bK cc bA
  clear bA
  obtain ⟨ka0, ka1, ka2⟩ : Cs3 v1 w.heap.size (.bool b) (.slice A n c) (.slice B m d) := by simp [Cs3, ← hv_, go_sem]
  have kal : w.heap.size < v1.heap.size := by simp [← hv_] <;> omega
  obtain ⟨g_0, g_1, g_2, g_3, g_4, g_5⟩ : Cs6 v1 (w.heap.size + 1) (.bool false) (.slice none 0 0) (.slice none 0 0) (.bool false) (.slice none 0 0) (.slice none 0 0) := by simp [Cs6, ← hv_, go_sem]
  have g_l : w.heap.size + 1 < v1.heap.size := by simp [← hv_] <;> omega
  clear hv_
  have bD : Below v1.heap.size v1 v1.drew := below_drewN (Below.refl _ v1) 1
  rewrite [fR bD g_l] at f0 f1 f2 f3 f4 f5
  replace h := h.on bD
  rewrite [cR bD kal] at ka0 ka1 ka2
  replace kal := lK bD kal
  rewrite [cR bD g_l] at g_0 g_1 g_2 g_3 g_4 g_5
  replace g_l := lK bD g_l
  replace cc := bK cc bD
  clear bD
  refine wp_region_held_drew (S := fun w' => w'.cell? ⟨w.heap.size, 0, none⟩ = some (.bool b) ∧ w'.cell? ⟨w.heap.size, 1, none⟩ = some (.slice A n c) ∧ w'.cell? ⟨w.heap.size, 2, none⟩ = some (.slice B m d)) (by kernel_rfl) ?_ (fun hHeld => ?_)
  · exact ⟨ka0, ka1, ka2⟩
  refine wpAnyH_take (i := 0) (v := ?_) rfl (by kernel_rfl) (by kernel_rfl) (by kernel_rfl) (fun _ _ _ h => h) (Or.inl ⟨by rfl, ?_⟩) hHeld ?_
  rotate_left
  · (intro w hSw; (try dsimp only at hSw); go_simp; (try with_reducible rfl))
  try simp only [Act.put, pT]
  refine wpAnyH_take (i := 2) (v := ?_) rfl (by kernel_rfl) (by kernel_rfl) (by kernel_rfl) (fun _ _ _ h => h) (Or.inl ⟨by rfl, ?_⟩) hHeld ?_
  rotate_left
  · (intro w hSw; (try dsimp only at hSw); go_simp; (try with_reducible rfl))
  try simp only [Act.put, pT]
  refine wpAnyH_ready (rs := [1]) (by kernel_rfl) (by simp) ?_
  refine AllReadyH.cons rfl (fun K hK => ?_) AllReadyH.nil
  (try simp only [pT])
  rw [if_pos (by rfl)]
  go_simp
  go_at_call 45
  refine (icopied_N h s).mono ?_
  rintro e w2 ⟨be, Ae, ne, ce, Be, me, de, rfl, he, b⟩
  rewrite [fR b g_l] at f0 f1 f2 f3 f4 f5
  replace h := h.on b
  rewrite [cR b kal] at ka0 ka1 ka2
  replace kal := lK b kal
  rewrite [cR b g_l] at g_0 g_1 g_2 g_3 g_4 g_5
  replace g_l := lK b g_l
  replace cc := bK cc b
  clear b
  refine hK.out _ _ ?_ (fun hHeld => ?_)
  · exact ⟨ka0, ka1, ka2⟩
  clear hK K
  try simp only [Act.put, pT]
  refine wpAnyH_ready (rs := [3]) (by kernel_rfl) (by simp) ?_
  refine AllReadyH.cons rfl (fun K hK => ?_) AllReadyH.nil
  (try simp only [pT])
  rw [if_pos (by rfl)]
  go_simp
  go_at_call 45
  refine (icopied_N h s).mono ?_
  rintro e w3 ⟨bz, Az, nz, cz, Bz, mz, dz, rfl, hz, b⟩
  rewrite [fR b g_l] at f0 f1 f2 f3 f4 f5
  replace h := h.on b
  replace he := he.on b
  rewrite [cR b kal] at ka0 ka1 ka2
  replace kal := lK b kal
  rewrite [cR b g_l] at g_0 g_1 g_2 g_3 g_4 g_5
  replace g_l := lK b g_l
  replace cc := bK cc b
  clear b
  refine hK.out _ _ ?_ (fun hHeld => ?_)
  · exact ⟨ka0, ka1, ka2⟩
  clear hK K
  try simp only [Act.put, pT]
  refine wpAnyH_take (i := 4) (v := ?_) rfl (by kernel_rfl) (by kernel_rfl) (by kernel_rfl) (fun _ _ _ h => h) (Or.inl ⟨by rfl, ?_⟩) hHeld ?_
  rotate_left
  · (intro w hSw; (try dsimp only at hSw); go_simp; (try with_reducible rfl))
  try simp only [Act.put, pT]
  refine wpAnyH_ready (rs := [5]) (by kernel_rfl) (by simp) ?_
  refine AllReadyH.cons rfl (fun K hK => ?_) AllReadyH.nil
  (try simp only [pT])
  rw [if_pos (by rfl)]
  go_simp
  refine hK.out _ _ ?_ (fun hHeld => ?_)
  · exact ⟨(cell_putS (by omega)).trans ka0, (cell_putS (by omega)).trans ka1, (cell_putS (by omega)).trans ka2⟩
  clear hK K
  try simp only [Act.put, pT]
  refine wpAnyH_done (by kernel_rfl) ?_ _
  clear hHeld
  have hb_ : Held w3 (w.heap.size + 1) := held6 g_0 g_1 g_2 g_3 g_4 g_5
  have HL : Hid (Rt (putS w3 (w.heap.size + 1) (.bool be) (.slice Ae ne ce) (.slice Be me de) (.bool bz) (.slice Az nz cz) (.slice Bz mz dz)) be Ae ne ce Be me de (x)) := Lib.hid (Rt.putS he hb_ _ _)
  have HH : Hid (Rt (putS w3 (w.heap.size + 1) (.bool be) (.slice Ae ne ce) (.slice Be me de) (.bool bz) (.slice Az nz cz) (.slice Bz mz dz)) bz Az nz cz Bz mz dz (x)) := Lib.hid (Rt.putS hz hb_ _ _)
  go_wp2_with fail
  refine bodyPost_ret (v := .agg #[.bool be, .slice Ae ne ce, .slice Be me de, .bool bz, .slice Az nz cz, .slice Bz mz dz]) (by simp [results, Tryz.results15, go_sem, g_0, g_1, g_2, g_3, g_4, g_5]) rfl ⟨_, _, _, _, _, _, _, _, _, _, _, _, _, _, rfl, ⟨HL.out, HH.out⟩, below_putS cc (by omega) _ _ _ _ _ _⟩

theorem ihas_no {w : World} {b0 p0 : Bool} {A0 B0 V0 U0 : Option Addr} {n0 c0 m0 d0 r0 k0 o0 q0 : Nat} {b1 : Bool} {A1 B1 : Option Addr} {n1 c1 m1 d1 : Nat} {x0 y0 : Rat} (h0 : Rt w b0 A0 n0 c0 B0 m0 d0 x0) (g0 : Rt w p0 V0 r0 k0 U0 o0 q0 y0) (s0 : Sz x0 30) (t0 : Sz y0 30) {x1 : Rat} (h1 : Rt w b1 A1 n1 c1 B1 m1 d1 x1) (s1 : Sz x1 30) (hp : decide (cmpQ x0 x1 ≤ 0) = false) :
    Calls Tryz.prog 18 #[.agg #[.bool b0, .slice A0 n0 c0, .slice B0 m0 d0, .bool p0, .slice V0 r0 k0, .slice U0 o0 q0], .agg #[.bool b1, .slice A1 n1 c1, .slice B1 m1 d1]] w (GotV w (.bool false)) := by
  obtain ⟨ca, ea⟩ : ∃ c, cmpQ x0 x1 = c := ⟨_, rfl⟩
  obtain ⟨cb, eb⟩ : ∃ c, cmpQ x1 y0 = c := ⟨_, rfl⟩
  have EA := Lib.hid ea
  have EB := Lib.hid eb
  rw [ea] at hp
  clear ea eb
  have cc := Below.refl w.heap.size w
  go_enter Tryz.func18, Tryz.ntmps18
  go_wp2_with fail
  generalize hv_ : (w.alloc (.cells #[.bool b0, .slice A0 n0 c0, .slice B0 m0 d0, .bool p0, .slice V0 r0 k0, .slice U0 o0 q0] 29)).alloc (.cells #[.bool b1, .slice A1 n1 c1, .slice B1 m1 d1] 27) = v1
  have bA : Below w.heap.size w v1 := by rw [← hv_]; exact (((Below.refl _ w).alloc (by simp) _).alloc (by simp) _)
  replace h0 := h0.on bA
  replace g0 := g0.on bA
  replace h1 := h1.on bA
  replace cc := bK cc bA
  clear bA
  obtain ⟨ka0, ka1, ka2, ka3, ka4, ka5⟩ : Cs6 v1 w.heap.size (.bool b0) (.slice A0 n0 c0) (.slice B0 m0 d0) (.bool p0) (.slice V0 r0 k0) (.slice U0 o0 q0) := by simp [Cs6, ← hv_, go_sem]
  have kal : w.heap.size < v1.heap.size := by simp [← hv_] <;> omega
  obtain ⟨kb0, kb1, kb2⟩ : Cs3 v1 (w.heap.size + 1) (.bool b1) (.slice A1 n1 c1) (.slice B1 m1 d1) := by simp [Cs3, ← hv_, go_sem]
  have kbl : w.heap.size + 1 < v1.heap.size := by simp [← hv_] <;> omega
  clear hv_
  refine (qcmp_v' ca h0 s0 h1 s1 EA.out).mono ?_
  rintro e w2 ⟨rfl, b⟩
  replace h0 := h0.on b
  replace g0 := g0.on b
  replace h1 := h1.on b
  rewrite [cR b kal] at ka0 ka1 ka2 ka3 ka4 ka5
  replace kal := lK b kal
  rewrite [cR b kbl] at kb0 kb1 kb2
  replace kbl := lK b kbl
  replace cc := bK cc b
  clear b
  go_wp2_with fail
  go_ret
  exact ⟨rfl, cc⟩

theorem ihas_yes {w : World} {b0 p0 : Bool} {A0 B0 V0 U0 : Option Addr} {n0 c0 m0 d0 r0 k0 o0 q0 : Nat} {b1 : Bool} {A1 B1 : Option Addr} {n1 c1 m1 d1 : Nat} {x0 y0 : Rat} (h0 : Rt w b0 A0 n0 c0 B0 m0 d0 x0) (g0 : Rt w p0 V0 r0 k0 U0 o0 q0 y0) (s0 : Sz x0 30) (t0 : Sz y0 30) {x1 : Rat} (h1 : Rt w b1 A1 n1 c1 B1 m1 d1 x1) (s1 : Sz x1 30) (z : Bool) (hp : decide (cmpQ x0 x1 ≤ 0) = true) (hq : decide (cmpQ x1 y0 ≤ 0) = z) :
    Calls Tryz.prog 18 #[.agg #[.bool b0, .slice A0 n0 c0, .slice B0 m0 d0, .bool p0, .slice V0 r0 k0, .slice U0 o0 q0], .agg #[.bool b1, .slice A1 n1 c1, .slice B1 m1 d1]] w (GotV w (.bool z)) := by
  obtain ⟨ca, ea⟩ : ∃ c, cmpQ x0 x1 = c := ⟨_, rfl⟩
  obtain ⟨cb, eb⟩ : ∃ c, cmpQ x1 y0 = c := ⟨_, rfl⟩
  have EA := Lib.hid ea
  have EB := Lib.hid eb
  rw [ea] at hp
  rw [eb] at hq
  clear ea eb
  have cc := Below.refl w.heap.size w
  go_enter Tryz.func18, Tryz.ntmps18
  go_wp2_with fail
  generalize hv_ : (w.alloc (.cells #[.bool b0, .slice A0 n0 c0, .slice B0 m0 d0, .bool p0, .slice V0 r0 k0, .slice U0 o0 q0] 29)).alloc (.cells #[.bool b1, .slice A1 n1 c1, .slice B1 m1 d1] 27) = v1
  have bA : Below w.heap.size w v1 := by rw [← hv_]; exact (((Below.refl _ w).alloc (by simp) _).alloc (by simp) _)
  replace h0 := h0.on bA
  replace g0 := g0.on bA
  replace h1 := h1.on bA
  replace cc := bK cc bA
  clear bA
  obtain ⟨ka0, ka1, ka2, ka3, ka4, ka5⟩ : Cs6 v1 w.heap.size (.bool b0) (.slice A0 n0 c0) (.slice B0 m0 d0) (.bool p0) (.slice V0 r0 k0) (.slice U0 o0 q0) := by simp [Cs6, ← hv_, go_sem]
  have kal : w.heap.size < v1.heap.size := by simp [← hv_] <;> omega
  obtain ⟨kb0, kb1, kb2⟩ : Cs3 v1 (w.heap.size + 1) (.bool b1) (.slice A1 n1 c1) (.slice B1 m1 d1) := by simp [Cs3, ← hv_, go_sem]
  have kbl : w.heap.size + 1 < v1.heap.size := by simp [← hv_] <;> omega
  clear hv_
  refine (qcmp_v' ca h0 s0 h1 s1 EA.out).mono ?_
  rintro e w2 ⟨rfl, b⟩
  replace h0 := h0.on b
  replace g0 := g0.on b
  replace h1 := h1.on b
  rewrite [cR b kal] at ka0 ka1 ka2 ka3 ka4 ka5
  replace kal := lK b kal
  rewrite [cR b kbl] at kb0 kb1 kb2
  replace kbl := lK b kbl
  replace cc := bK cc b
  clear b
  go_wp2_with fail
  refine (qcmp_v' cb h1 s1 g0 t0 EB.out).mono ?_
  rintro e w3 ⟨rfl, b⟩
  replace h0 := h0.on b
  replace g0 := g0.on b
  replace h1 := h1.on b
  rewrite [cR b kal] at ka0 ka1 ka2 ka3 ka4 ka5
  replace kal := lK b kal
  rewrite [cR b kbl] at kb0 kb1 kb2
  replace kbl := lK b kbl
  replace cc := bK cc b
  clear b
  go_wp2_with fail
  go_ret
  exact ⟨rfl, cc⟩

theorem ihas_N {w : World} {b0 p0 : Bool} {A0 B0 V0 U0 : Option Addr} {n0 c0 m0 d0 r0 k0 o0 q0 : Nat} {b1 : Bool} {A1 B1 : Option Addr} {n1 c1 m1 d1 : Nat} {x0 y0 : Rat} (h0 : Rt w b0 A0 n0 c0 B0 m0 d0 x0) (g0 : Rt w p0 V0 r0 k0 U0 o0 q0 y0) (s0 : Sz x0 30) (t0 : Sz y0 30) {x1 : Rat} (h1 : Rt w b1 A1 n1 c1 B1 m1 d1 x1) (s1 : Sz x1 30) (z : Bool) (hz : decide (x0 ≤ x1 ∧ x1 ≤ y0) = z) :
    Calls Tryz.prog 18 #[.agg #[.bool b0, .slice A0 n0 c0, .slice B0 m0 d0, .bool p0, .slice V0 r0 k0, .slice U0 o0 q0], .agg #[.bool b1, .slice A1 n1 c1, .slice B1 m1 d1]] w (GotV w (.bool z)) := by
  by_cases hp : x0 ≤ x1
  · exact ihas_yes h0 g0 s0 t0 h1 s1 z (decide_eq_true (cmpQ_le.2 hp)) (by rw [← hz]; simp only [cmpQ_le, hp, true_and])
  · have : z = false := by rw [← hz]; simp [hp]
    subst this
    exact ihas_no h0 g0 s0 t0 h1 s1 (decide_eq_false (fun h => hp (cmpQ_le.1 h)))

theorem iin_no {w : World} {b0 p0 : Bool} {A0 B0 V0 U0 : Option Addr} {n0 c0 m0 d0 r0 k0 o0 q0 : Nat} {b1 p1 : Bool} {A1 B1 V1 U1 : Option Addr} {n1 c1 m1 d1 r1 k1 o1 q1 : Nat} {x0 y0 : Rat} (h0 : Rt w b0 A0 n0 c0 B0 m0 d0 x0) (g0 : Rt w p0 V0 r0 k0 U0 o0 q0 y0) (s0 : Sz x0 30) (t0 : Sz y0 30) {x1 y1 : Rat} (h1 : Rt w b1 A1 n1 c1 B1 m1 d1 x1) (g1 : Rt w p1 V1 r1 k1 U1 o1 q1 y1) (s1 : Sz x1 30) (t1 : Sz y1 30) (hp : decide (x1 ≤ x0 ∧ x0 ≤ y1) = false) :
    Calls Tryz.prog 20 #[.agg #[.bool b0, .slice A0 n0 c0, .slice B0 m0 d0, .bool p0, .slice V0 r0 k0, .slice U0 o0 q0], .agg #[.bool b1, .slice A1 n1 c1, .slice B1 m1 d1, .bool p1, .slice V1 r1 k1, .slice U1 o1 q1]] w (GotV w (.bool false)) := by
  have cc := Below.refl w.heap.size w
  go_enter Tryz.func20, Tryz.ntmps20
  go_wp2_with fail
  generalize hv_ : (w.alloc (.cells #[.bool b0, .slice A0 n0 c0, .slice B0 m0 d0, .bool p0, .slice V0 r0 k0, .slice U0 o0 q0] 29)).alloc (.cells #[.bool b1, .slice A1 n1 c1, .slice B1 m1 d1, .bool p1, .slice V1 r1 k1, .slice U1 o1 q1] 29) = v1
  have bA : Below w.heap.size w v1 := by rw [← hv_]; exact (((Below.refl _ w).alloc (by simp) _).alloc (by simp) _)
  replace h0 := h0.on bA
  replace g0 := g0.on bA
  replace h1 := h1.on bA
  replace g1 := g1.on bA
  replace cc := bK cc bA
  clear bA
  obtain ⟨ka0, ka1, ka2, ka3, ka4, ka5⟩ : Cs6 v1 w.heap.size (.bool b0) (.slice A0 n0 c0) (.slice B0 m0 d0) (.bool p0) (.slice V0 r0 k0) (.slice U0 o0 q0) := by simp [Cs6, ← hv_, go_sem]
  have kal : w.heap.size < v1.heap.size := by simp [← hv_] <;> omega
  obtain ⟨kb0, kb1, kb2, kb3, kb4, kb5⟩ : Cs6 v1 (w.heap.size + 1) (.bool b1) (.slice A1 n1 c1) (.slice B1 m1 d1) (.bool p1) (.slice V1 r1 k1) (.slice U1 o1 q1) := by simp [Cs6, ← hv_, go_sem]
  have kbl : w.heap.size + 1 < v1.heap.size := by simp [← hv_] <;> omega
  clear hv_
  refine (ihas_N h1 g1 s1 t1 h0 s0 false hp).mono ?_
  rintro e w2 ⟨rfl, b⟩
  replace h0 := h0.on b
  replace g0 := g0.on b
  replace h1 := h1.on b
  replace g1 := g1.on b
  rewrite [cR b kal] at ka0 ka1 ka2 ka3 ka4 ka5
  replace kal := lK b kal
  rewrite [cR b kbl] at kb0 kb1 kb2 kb3 kb4 kb5
  replace kbl := lK b kbl
  replace cc := bK cc b
  clear b
  go_wp2_with fail
  go_ret
  exact ⟨rfl, cc⟩

theorem iin_yes {w : World} {b0 p0 : Bool} {A0 B0 V0 U0 : Option Addr} {n0 c0 m0 d0 r0 k0 o0 q0 : Nat} {b1 p1 : Bool} {A1 B1 V1 U1 : Option Addr} {n1 c1 m1 d1 r1 k1 o1 q1 : Nat} {x0 y0 : Rat} (h0 : Rt w b0 A0 n0 c0 B0 m0 d0 x0) (g0 : Rt w p0 V0 r0 k0 U0 o0 q0 y0) (s0 : Sz x0 30) (t0 : Sz y0 30) {x1 y1 : Rat} (h1 : Rt w b1 A1 n1 c1 B1 m1 d1 x1) (g1 : Rt w p1 V1 r1 k1 U1 o1 q1 y1) (s1 : Sz x1 30) (t1 : Sz y1 30) (z : Bool) (hp : decide (x1 ≤ x0 ∧ x0 ≤ y1) = true) (hq : decide (x1 ≤ y0 ∧ y0 ≤ y1) = z) :
    Calls Tryz.prog 20 #[.agg #[.bool b0, .slice A0 n0 c0, .slice B0 m0 d0, .bool p0, .slice V0 r0 k0, .slice U0 o0 q0], .agg #[.bool b1, .slice A1 n1 c1, .slice B1 m1 d1, .bool p1, .slice V1 r1 k1, .slice U1 o1 q1]] w (GotV w (.bool z)) := by
  have cc := Below.refl w.heap.size w
  go_enter Tryz.func20, Tryz.ntmps20
  go_wp2_with fail
  generalize hv_ : (w.alloc (.cells #[.bool b0, .slice A0 n0 c0, .slice B0 m0 d0, .bool p0, .slice V0 r0 k0, .slice U0 o0 q0] 29)).alloc (.cells #[.bool b1, .slice A1 n1 c1, .slice B1 m1 d1, .bool p1, .slice V1 r1 k1, .slice U1 o1 q1] 29) = v1
  have bA : Below w.heap.size w v1 := by rw [← hv_]; exact (((Below.refl _ w).alloc (by simp) _).alloc (by simp) _)
  replace h0 := h0.on bA
  replace g0 := g0.on bA
  replace h1 := h1.on bA
  replace g1 := g1.on bA
  replace cc := bK cc bA
  clear bA
  obtain ⟨ka0, ka1, ka2, ka3, ka4, ka5⟩ : Cs6 v1 w.heap.size (.bool b0) (.slice A0 n0 c0) (.slice B0 m0 d0) (.bool p0) (.slice V0 r0 k0) (.slice U0 o0 q0) := by simp [Cs6, ← hv_, go_sem]
  have kal : w.heap.size < v1.heap.size := by simp [← hv_] <;> omega
  obtain ⟨kb0, kb1, kb2, kb3, kb4, kb5⟩ : Cs6 v1 (w.heap.size + 1) (.bool b1) (.slice A1 n1 c1) (.slice B1 m1 d1) (.bool p1) (.slice V1 r1 k1) (.slice U1 o1 q1) := by simp [Cs6, ← hv_, go_sem]
  have kbl : w.heap.size + 1 < v1.heap.size := by simp [← hv_] <;> omega
  clear hv_
  refine (ihas_N h1 g1 s1 t1 h0 s0 true hp).mono ?_
  rintro e w2 ⟨rfl, b⟩
  replace h0 := h0.on b
  replace g0 := g0.on b
  replace h1 := h1.on b
  replace g1 := g1.on b
  rewrite [cR b kal] at ka0 ka1 ka2 ka3 ka4 ka5
  replace kal := lK b kal
  rewrite [cR b kbl] at kb0 kb1 kb2 kb3 kb4 kb5
  replace kbl := lK b kbl
  replace cc := bK cc b
  clear b
  go_wp2_with fail
  refine (ihas_N h1 g1 s1 t1 g0 t0 z hq).mono ?_
  rintro e w3 ⟨rfl, b⟩
  replace h0 := h0.on b
  replace g0 := g0.on b
  replace h1 := h1.on b
  replace g1 := g1.on b
  rewrite [cR b kal] at ka0 ka1 ka2 ka3 ka4 ka5
  replace kal := lK b kal
  rewrite [cR b kbl] at kb0 kb1 kb2 kb3 kb4 kb5
  replace kbl := lK b kbl
  replace cc := bK cc b
  clear b
  go_wp2_with fail
  go_ret
  exact ⟨rfl, cc⟩

theorem iin_N {w : World} {b0 p0 : Bool} {A0 B0 V0 U0 : Option Addr} {n0 c0 m0 d0 r0 k0 o0 q0 : Nat} {b1 p1 : Bool} {A1 B1 V1 U1 : Option Addr} {n1 c1 m1 d1 r1 k1 o1 q1 : Nat} {x0 y0 : Rat} (h0 : Rt w b0 A0 n0 c0 B0 m0 d0 x0) (g0 : Rt w p0 V0 r0 k0 U0 o0 q0 y0) (s0 : Sz x0 30) (t0 : Sz y0 30) {x1 y1 : Rat} (h1 : Rt w b1 A1 n1 c1 B1 m1 d1 x1) (g1 : Rt w p1 V1 r1 k1 U1 o1 q1 y1) (s1 : Sz x1 30) (t1 : Sz y1 30) (z : Bool) (hz : decide ((x1 ≤ x0 ∧ x0 ≤ y1) ∧ (x1 ≤ y0 ∧ y0 ≤ y1)) = z) :
    Calls Tryz.prog 20 #[.agg #[.bool b0, .slice A0 n0 c0, .slice B0 m0 d0, .bool p0, .slice V0 r0 k0, .slice U0 o0 q0], .agg #[.bool b1, .slice A1 n1 c1, .slice B1 m1 d1, .bool p1, .slice V1 r1 k1, .slice U1 o1 q1]] w (GotV w (.bool z)) := by
  by_cases hp : x1 ≤ x0 ∧ x0 ≤ y1
  · exact iin_yes h0 g0 s0 t0 h1 g1 s1 t1 z (decide_eq_true hp) (by rw [← hz]; simp only [hp, true_and])
  · have : z = false := by rw [← hz]; simp only [hp, false_and]; rfl
    subst this
    exact iin_no h0 g0 s0 t0 h1 g1 s1 t1 (decide_eq_false hp)

theorem iadd_N {w : World} {b0 p0 : Bool} {A0 B0 V0 U0 : Option Addr} {n0 c0 m0 d0 r0 k0 o0 q0 : Nat} {b1 p1 : Bool} {A1 B1 V1 U1 : Option Addr} {n1 c1 m1 d1 r1 k1 o1 q1 : Nat} {x0 y0 : Rat} (h0 : Rt w b0 A0 n0 c0 B0 m0 d0 x0) (g0 : Rt w p0 V0 r0 k0 U0 o0 q0 y0) (s0 : Sz x0 30) (t0 : Sz y0 30) {x1 y1 : Rat} (h1 : Rt w b1 A1 n1 c1 B1 m1 d1 x1) (g1 : Rt w p1 V1 r1 k1 U1 o1 q1 y1) (s1 : Sz x1 30) (t1 : Sz y1 30) :
    Calls Tryz.prog 24 #[.agg #[.bool b0, .slice A0 n0 c0, .slice B0 m0 d0, .bool p0, .slice V0 r0 k0, .slice U0 o0 q0], .agg #[.bool b1, .slice A1 n1 c1, .slice B1 m1 d1, .bool p1, .slice V1 r1 k1, .slice U1 o1 q1]] w (GotSt w (x0 + x1) (y0 + y1)) := by
  have cc := Below.refl w.heap.size w
  go_enter Tryz.func24, Tryz.ntmps24
  go_wp2_with fail
  generalize hv_ : ((w.alloc (.cells #[.bool b0, .slice A0 n0 c0, .slice B0 m0 d0, .bool p0, .slice V0 r0 k0, .slice U0 o0 q0] 29)).alloc (.cells #[.bool b1, .slice A1 n1 c1, .slice B1 m1 d1, .bool p1, .slice V1 r1 k1, .slice U1 o1 q1] 29)).alloc (.cells #[.bool false, .slice none 0 0, .slice none 0 0, .bool false, .slice none 0 0, .slice none 0 0] 29) = v1
  obtain ⟨f0, f1, f2, f3, f4, f5⟩ : Fz6 v1 (w.heap.size + 1 + 1) := by simp [Fz6, ← hv_, go_sem]
  have bA : Below w.heap.size w v1 := by rw [← hv_]; exact ((((Below.refl _ w).alloc (by simp) _).alloc (by simp) _).alloc (by simp <;> omega) _)
  replace h0 := h0.on bA
  replace g0 := g0.on bA
  replace h1 := h1.on bA
  replace g1 := g1.on bA
  replace cc := bK cc bA
  clear bA
  obtain ⟨ka0, ka1, ka2, ka3, ka4, ka5⟩ : Cs6 v1 w.heap.size (.bool b0) (.slice A0 n0 c0) (.slice B0 m0 d0) (.bool p0) (.slice V0 r0 k0) (.slice U0 o0 q0) := by simp [Cs6, ← hv_, go_sem]
  have kal : w.heap.size < v1.heap.size := by simp [← hv_] <;> omega
  obtain ⟨kb0, kb1, kb2, kb3, kb4, kb5⟩ : Cs6 v1 (w.heap.size + 1) (.bool b1) (.slice A1 n1 c1) (.slice B1 m1 d1) (.bool p1) (.slice V1 r1 k1) (.slice U1 o1 q1) := by simp [Cs6, ← hv_, go_sem]
  have kbl : w.heap.size + 1 < v1.heap.size := by simp [← hv_] <;> omega
  obtain ⟨g_0, g_1, g_2, g_3, g_4, g_5⟩ : Cs6 v1 (w.heap.size + 1 + 1) (.bool false) (.slice none 0 0) (.slice none 0 0) (.bool false) (.slice none 0 0) (.slice none 0 0) := by simp [Cs6, ← hv_, go_sem]
  have g_l : w.heap.size + 1 + 1 < v1.heap.size := by simp [← hv_] <;> omega
  clear hv_
  have bD : Below v1.heap.size v1 v1.drew := below_drewN (Below.refl _ v1) 1
  rewrite [fR bD g_l] at f0 f1 f2 f3 f4 f5
  replace h0 := h0.on bD
  replace g0 := g0.on bD
  replace h1 := h1.on bD
  replace g1 := g1.on bD
  rewrite [cR bD kal] at ka0 ka1 ka2 ka3 ka4 ka5
  replace kal := lK bD kal
  rewrite [cR bD kbl] at kb0 kb1 kb2 kb3 kb4 kb5
  replace kbl := lK bD kbl
  rewrite [cR bD g_l] at g_0 g_1 g_2 g_3 g_4 g_5
  replace g_l := lK bD g_l
  replace cc := bK cc bD
  clear bD
  refine wp_region_held_drew (S := fun w' => w'.cell? ⟨w.heap.size, 0, none⟩ = some (.bool b0) ∧ w'.cell? ⟨w.heap.size, 1, none⟩ = some (.slice A0 n0 c0) ∧ w'.cell? ⟨w.heap.size, 2, none⟩ = some (.slice B0 m0 d0) ∧ w'.cell? ⟨w.heap.size, 3, none⟩ = some (.bool p0) ∧ w'.cell? ⟨w.heap.size, 4, none⟩ = some (.slice V0 r0 k0) ∧ w'.cell? ⟨w.heap.size, 5, none⟩ = some (.slice U0 o0 q0) ∧ w'.cell? ⟨w.heap.size + 1, 0, none⟩ = some (.bool b1) ∧ w'.cell? ⟨w.heap.size + 1, 1, none⟩ = some (.slice A1 n1 c1) ∧ w'.cell? ⟨w.heap.size + 1, 2, none⟩ = some (.slice B1 m1 d1) ∧ w'.cell? ⟨w.heap.size + 1, 3, none⟩ = some (.bool p1) ∧ w'.cell? ⟨w.heap.size + 1, 4, none⟩ = some (.slice V1 r1 k1) ∧ w'.cell? ⟨w.heap.size + 1, 5, none⟩ = some (.slice U1 o1 q1)) (by kernel_rfl) ?_ (fun hHeld => ?_)
  · exact ⟨ka0, ka1, ka2, ka3, ka4, ka5, kb0, kb1, kb2, kb3, kb4, kb5⟩
  refine wpAnyH_take (i := 0) (v := ?_) rfl (by kernel_rfl) (by kernel_rfl) (by kernel_rfl) (fun _ _ _ h => h) (Or.inl ⟨by rfl, ?_⟩) hHeld ?_
  rotate_left
  · (intro w hSw; (try dsimp only at hSw); go_simp; (try with_reducible rfl))
  try simp only [Act.put, pT]
  refine wpAnyH_take (i := 1) (v := ?_) rfl (by kernel_rfl) (by kernel_rfl) (by kernel_rfl) (fun _ _ _ h => h) (Or.inl ⟨by rfl, ?_⟩) hHeld ?_
  rotate_left
  · (intro w hSw; (try dsimp only at hSw); go_simp; (try with_reducible rfl))
  try simp only [Act.put, pT]
  refine wpAnyH_take (i := 2) (v := ?_) rfl (by kernel_rfl) (by kernel_rfl) (by kernel_rfl) (fun _ _ _ h => h) (Or.inl ⟨by rfl, ?_⟩) hHeld ?_
  rotate_left
  · (intro w hSw; (try dsimp only at hSw); go_simp; (try with_reducible rfl))
  try simp only [Act.put, pT]
  refine wpAnyH_take (i := 3) (v := ?_) rfl (by kernel_rfl) (by kernel_rfl) (by kernel_rfl) (fun _ _ _ h => h) (Or.inl ⟨by rfl, ?_⟩) hHeld ?_
  rotate_left
  · (intro w hSw; (try dsimp only at hSw); go_simp; (try with_reducible rfl))
  try simp only [Act.put, pT]
  refine wpAnyH_take (i := 5) (v := ?_) rfl (by kernel_rfl) (by kernel_rfl) (by kernel_rfl) (fun _ _ _ h => h) (Or.inl ⟨by rfl, ?_⟩) hHeld ?_
  rotate_left
  · (intro w hSw; (try dsimp only at hSw); go_simp; (try with_reducible rfl))
  try simp only [Act.put, pT]
  refine wpAnyH_take (i := 6) (v := ?_) rfl (by kernel_rfl) (by kernel_rfl) (by kernel_rfl) (fun _ _ _ h => h) (Or.inl ⟨by rfl, ?_⟩) hHeld ?_
  rotate_left
  · (intro w hSw; (try dsimp only at hSw); go_simp; (try with_reducible rfl))
  try simp only [Act.put, pT]
  refine wpAnyH_take (i := 7) (v := ?_) rfl (by kernel_rfl) (by kernel_rfl) (by kernel_rfl) (fun _ _ _ h => h) (Or.inl ⟨by rfl, ?_⟩) hHeld ?_
  rotate_left
  · (intro w hSw; (try dsimp only at hSw); go_simp; (try with_reducible rfl))
  try simp only [Act.put, pT]
  refine wpAnyH_take (i := 8) (v := ?_) rfl (by kernel_rfl) (by kernel_rfl) (by kernel_rfl) (fun _ _ _ h => h) (Or.inl ⟨by rfl, ?_⟩) hHeld ?_
  rotate_left
  · (intro w hSw; (try dsimp only at hSw); go_simp; (try with_reducible rfl))
  try simp only [Act.put, pT]
  refine wpAnyH_ready (rs := [4]) (by kernel_rfl) (by simp) ?_
  refine AllReadyH.cons rfl (fun K hK => ?_) AllReadyH.nil
  (try simp only [pT])
  rw [if_pos (by rfl)]
  go_simp
  go_at_call 48
  refine (qadd_N h0 s0 h1 s1).mono ?_
  rintro e w2 ⟨ba, Aa, na, ca, Ba, ma, da, rfl, ha, b⟩
  rewrite [fR b g_l] at f0 f1 f2 f3 f4 f5
  replace h0 := h0.on b
  replace g0 := g0.on b
  replace h1 := h1.on b
  replace g1 := g1.on b
  rewrite [cR b kal] at ka0 ka1 ka2 ka3 ka4 ka5
  replace kal := lK b kal
  rewrite [cR b kbl] at kb0 kb1 kb2 kb3 kb4 kb5
  replace kbl := lK b kbl
  rewrite [cR b g_l] at g_0 g_1 g_2 g_3 g_4 g_5
  replace g_l := lK b g_l
  replace cc := bK cc b
  clear b
  refine hK.out _ _ ?_ (fun hHeld => ?_)
  · exact ⟨ka0, ka1, ka2, ka3, ka4, ka5, kb0, kb1, kb2, kb3, kb4, kb5⟩
  clear hK K
  try simp only [Act.put, pT]
  refine wpAnyH_ready (rs := [9]) (by kernel_rfl) (by simp) ?_
  refine AllReadyH.cons rfl (fun K hK => ?_) AllReadyH.nil
  (try simp only [pT])
  rw [if_pos (by rfl)]
  go_simp
  go_at_call 48
  refine (qadd_N g0 t0 g1 t1).mono ?_
  rintro e w3 ⟨bz, Az, nz, cz, Bz, mz, dz, rfl, hz, b⟩
  rewrite [fR b g_l] at f0 f1 f2 f3 f4 f5
  replace h0 := h0.on b
  replace g0 := g0.on b
  replace h1 := h1.on b
  replace g1 := g1.on b
  replace ha := ha.on b
  rewrite [cR b kal] at ka0 ka1 ka2 ka3 ka4 ka5
  replace kal := lK b kal
  rewrite [cR b kbl] at kb0 kb1 kb2 kb3 kb4 kb5
  replace kbl := lK b kbl
  rewrite [cR b g_l] at g_0 g_1 g_2 g_3 g_4 g_5
  replace g_l := lK b g_l
  replace cc := bK cc b
  clear b
  refine hK.out _ _ ?_ (fun hHeld => ?_)
  · exact ⟨ka0, ka1, ka2, ka3, ka4, ka5, kb0, kb1, kb2, kb3, kb4, kb5⟩
  clear hK K
  try simp only [Act.put, pT]
  refine wpAnyH_take (i := 10) (v := ?_) rfl (by kernel_rfl) (by kernel_rfl) (by kernel_rfl) (fun _ _ _ h => h) (Or.inl ⟨by rfl, ?_⟩) hHeld ?_
  rotate_left
  · (intro w hSw; (try dsimp only at hSw); go_simp; (try with_reducible rfl))
  try simp only [Act.put, pT]
  refine wpAnyH_ready (rs := [11]) (by kernel_rfl) (by simp) ?_
  refine AllReadyH.cons rfl (fun K hK => ?_) AllReadyH.nil
  (try simp only [pT])
  rw [if_pos (by rfl)]
  go_simp
  refine hK.out _ _ ?_ (fun hHeld => ?_)
  · exact ⟨(cell_putS (by omega)).trans ka0, (cell_putS (by omega)).trans ka1, (cell_putS (by omega)).trans ka2, (cell_putS (by omega)).trans ka3, (cell_putS (by omega)).trans ka4, (cell_putS (by omega)).trans ka5, (cell_putS (by omega)).trans kb0, (cell_putS (by omega)).trans kb1, (cell_putS (by omega)).trans kb2, (cell_putS (by omega)).trans kb3, (cell_putS (by omega)).trans kb4, (cell_putS (by omega)).trans kb5⟩
  clear hK K
  try simp only [Act.put, pT]
  refine wpAnyH_done (by kernel_rfl) ?_ _
  clear hHeld
  have hb_ : Held w3 (w.heap.size + 1 + 1) := held6 g_0 g_1 g_2 g_3 g_4 g_5
  have HL : Hid (Rt (putS w3 (w.heap.size + 1 + 1) (.bool ba) (.slice Aa na ca) (.slice Ba ma da) (.bool bz) (.slice Az nz cz) (.slice Bz mz dz)) ba Aa na ca Ba ma da (x0 + x1)) := Lib.hid (Rt.putS ha hb_ _ _)
  have HH : Hid (Rt (putS w3 (w.heap.size + 1 + 1) (.bool ba) (.slice Aa na ca) (.slice Ba ma da) (.bool bz) (.slice Az nz cz) (.slice Bz mz dz)) bz Az nz cz Bz mz dz (y0 + y1)) := Lib.hid (Rt.putS hz hb_ _ _)
  go_wp2_with fail
  refine bodyPost_ret (v := .agg #[.bool ba, .slice Aa na ca, .slice Ba ma da, .bool bz, .slice Az nz cz, .slice Bz mz dz]) (by simp [results, Tryz.results24, go_sem, g_0, g_1, g_2, g_3, g_4, g_5]) rfl ⟨_, _, _, _, _, _, _, _, _, _, _, _, _, _, rfl, ⟨HL.out, HH.out⟩, below_putS cc (by omega) _ _ _ _ _ _⟩

end Go.Proofs.YtanpklbconflmaaGreat

/-
  The contracts of ival: isGrid, outward, onGrid, Out.
-/
namespace Go.Proofs.YtanpklbconflmaaGreat
set_option maxRecDepth 100000
set_option maxHeartbeats 8000000
open Go.RowKit
set_option linter.unusedVariables false
set_option linter.unusedSimpArgs false

/-- A call has answered two integers. -/
def GotZZ (w : World) (x y : Int) (e : Ending) (w' : World) : Prop := ∃ b A n c v V r k, e = .returned (.tuple #[.agg #[.bool b, .slice A n c], .agg #[.bool v, .slice V r k]]) ∧ Zn w' b A n c x ∧ Zn w' v V r k y ∧ Below w.heap.size w w'

theorem igrid_0 (w : World) {j : Int} (h : j < 0) :
    Calls Tryz.prog 52 #[.int .i64 j] w (GotV w (.bool false)) := by
  have t1 : decide (0 ≤ j) = false := decide_eq_false (by omega)
  go_enter Tryz.func52, Tryz.ntmps52
  go_wp2_with fail
  go_ret
  exact ⟨rfl, Below.refl _ _⟩

theorem igrid_1 (w : World) {j : Int} (h0 : 0 ≤ j) (h1 : 1000 < j) :
    Calls Tryz.prog 52 #[.int .i64 j] w (GotV w (.bool false)) := by
  have t1 : decide (0 ≤ j) = true := decide_eq_true h0
  have t2 : decide (j ≤ 1000) = false := decide_eq_false (by omega)
  go_enter Tryz.func52, Tryz.ntmps52
  go_wp2_with fail
  go_ret
  exact ⟨rfl, Below.refl _ _⟩

theorem igrid_2 (w : World) {j : Int} (h0 : 0 ≤ j) (h1 : j ≤ 1000) :
    Calls Tryz.prog 52 #[.int .i64 j] w (GotV w (.bool true)) := by
  have t1 : decide (0 ≤ j) = true := decide_eq_true h0
  have t2 : decide (j ≤ 1000) = true := decide_eq_true (by omega)
  go_enter Tryz.func52, Tryz.ntmps52
  go_wp2_with fail
  go_ret
  exact ⟨rfl, Below.refl _ _⟩

theorem igrid_no (w : World) {j : Int} (h : j < 0 ∨ 1000 < j) :
    Calls Tryz.prog 52 #[.int .i64 j] w (GotV w (.bool false)) := by
  by_cases h0 : 0 ≤ j
  · exact igrid_1 w h0 (by omega)
  · exact igrid_0 w (by omega)

theorem ioutward_N {w : World} {b0 p0 : Bool} {A0 B0 V0 U0 : Option Addr} {n0 c0 m0 d0 r0 k0 o0 q0 : Nat} {x0 y0 : Rat} (h0 : Rt w b0 A0 n0 c0 B0 m0 d0 x0) (g0 : Rt w p0 V0 r0 k0 U0 o0 q0 y0) (s0 : Sz x0 20) (t0 : Sz y0 20) {j : Int} (j0 : 0 ≤ j) (j1 : j ≤ 700) :
    Calls Tryz.prog 53 #[.agg #[.bool b0, .slice A0 n0 c0, .slice B0 m0 d0, .bool p0, .slice V0 r0 k0, .slice U0 o0 q0], .int .i64 j] w (GotZZ w (flo x0 j.toNat) (cei y0 j.toNat)) := by
  have cc := Below.refl w.heap.size w
  go_enter Tryz.func53, Tryz.ntmps53
  go_wp2_with fail
  generalize hv_ : ((w.alloc (.cells #[.bool b0, .slice A0 n0 c0, .slice B0 m0 d0, .bool p0, .slice V0 r0 k0, .slice U0 o0 q0] 29)).alloc (.cells #[.bool false, .slice none 0 0] 25)).alloc (.cells #[.bool false, .slice none 0 0] 25) = v1
  have bA : Below w.heap.size w v1 := by rw [← hv_]; exact ((((Below.refl _ w).alloc (by simp) _).alloc (by simp) _).alloc (by simp <;> omega) _)
  replace h0 := h0.on bA
  replace g0 := g0.on bA
  replace cc := bK cc bA
  clear bA
  obtain ⟨ka0, ka1, ka2, ka3, ka4, ka5⟩ : Cs6 v1 w.heap.size (.bool b0) (.slice A0 n0 c0) (.slice B0 m0 d0) (.bool p0) (.slice V0 r0 k0) (.slice U0 o0 q0) := by simp [Cs6, ← hv_, go_sem]
  have kal : w.heap.size < v1.heap.size := by simp [← hv_] <;> omega
  obtain ⟨ua0, ua1⟩ : Cs2 v1 (w.heap.size + 1) (.bool false) (.slice none 0 0) := by simp [Cs2, ← hv_, go_sem]
  have ual : w.heap.size + 1 < v1.heap.size := by simp [← hv_] <;> omega
  obtain ⟨ub0, ub1⟩ : Cs2 v1 (w.heap.size + 1 + 1) (.bool false) (.slice none 0 0) := by simp [Cs2, ← hv_, go_sem]
  have ubl : w.heap.size + 1 + 1 < v1.heap.size := by simp [← hv_] <;> omega
  obtain ⟨zua0, zua1⟩ : Fz2 v1 (w.heap.size + 1) := by simp [Fz2, ← hv_, go_sem]
  obtain ⟨zub0, zub1⟩ : Fz2 v1 (w.heap.size + 1 + 1) := by simp [Fz2, ← hv_, go_sem]
  clear hv_
  refine (dfloor_N h0 s0 j0 j1).mono ?_
  rintro e w2 ⟨be, Ae, ne, ce, rfl, he, b⟩
  replace h0 := h0.on b
  replace g0 := g0.on b
  rewrite [fR b ual] at zua0 zua1
  rewrite [fR b ubl] at zub0 zub1
  rewrite [cR b kal] at ka0 ka1 ka2 ka3 ka4 ka5
  replace kal := lK b kal
  rewrite [cR b ual] at ua0 ua1
  replace ual := lK b ual
  rewrite [cR b ubl] at ub0 ub1
  replace ubl := lK b ubl
  replace cc := bK cc b
  clear b
  go_wp2_with fail
  clear h0
  have bb_ : Box w2 (w.heap.size + 1) false none 0 0 := ⟨ua0, ua1⟩
  have bn_ : Box ((w2.setCell ⟨w.heap.size + 1, 0, none⟩ (.bool be)).setCell ⟨w.heap.size + 1, 1, none⟩ (.slice Ae ne ce)) (w.heap.size + 1) be Ae ne ce := bb_.put be Ae ne ce
  replace he : Zn ((w2.setCell ⟨w.heap.size + 1, 0, none⟩ (.bool be)).setCell ⟨w.heap.size + 1, 1, none⟩ (.slice Ae ne ce)) be Ae ne ce (flo x0 j.toNat) := Zn.put he bb_ _ _
  replace g0 : Rt ((w2.setCell ⟨w.heap.size + 1, 0, none⟩ (.bool be)).setCell ⟨w.heap.size + 1, 1, none⟩ (.slice Ae ne ce)) p0 V0 r0 k0 U0 o0 q0 y0 := ⟨Zn.put g0.1 bb_ _ _, (Zn.put (zn_nat g0.2) bb_ _ _).1⟩
  replace ka0 : ((w2.setCell ⟨w.heap.size + 1, 0, none⟩ (.bool be)).setCell ⟨w.heap.size + 1, 1, none⟩ (.slice Ae ne ce)).cell? ⟨w.heap.size, 0, none⟩ = some (.bool b0) := (cell_store (by omega)).trans ka0
  replace ka1 : ((w2.setCell ⟨w.heap.size + 1, 0, none⟩ (.bool be)).setCell ⟨w.heap.size + 1, 1, none⟩ (.slice Ae ne ce)).cell? ⟨w.heap.size, 1, none⟩ = some (.slice A0 n0 c0) := (cell_store (by omega)).trans ka1
  replace ka2 : ((w2.setCell ⟨w.heap.size + 1, 0, none⟩ (.bool be)).setCell ⟨w.heap.size + 1, 1, none⟩ (.slice Ae ne ce)).cell? ⟨w.heap.size, 2, none⟩ = some (.slice B0 m0 d0) := (cell_store (by omega)).trans ka2
  replace ka3 : ((w2.setCell ⟨w.heap.size + 1, 0, none⟩ (.bool be)).setCell ⟨w.heap.size + 1, 1, none⟩ (.slice Ae ne ce)).cell? ⟨w.heap.size, 3, none⟩ = some (.bool p0) := (cell_store (by omega)).trans ka3
  replace ka4 : ((w2.setCell ⟨w.heap.size + 1, 0, none⟩ (.bool be)).setCell ⟨w.heap.size + 1, 1, none⟩ (.slice Ae ne ce)).cell? ⟨w.heap.size, 4, none⟩ = some (.slice V0 r0 k0) := (cell_store (by omega)).trans ka4
  replace ka5 : ((w2.setCell ⟨w.heap.size + 1, 0, none⟩ (.bool be)).setCell ⟨w.heap.size + 1, 1, none⟩ (.slice Ae ne ce)).cell? ⟨w.heap.size, 5, none⟩ = some (.slice U0 o0 q0) := (cell_store (by omega)).trans ka5
  replace ub0 : ((w2.setCell ⟨w.heap.size + 1, 0, none⟩ (.bool be)).setCell ⟨w.heap.size + 1, 1, none⟩ (.slice Ae ne ce)).cell? ⟨w.heap.size + 1 + 1, 0, none⟩ = some (.bool false) := (cell_store (by omega)).trans ub0
  replace ub1 : ((w2.setCell ⟨w.heap.size + 1, 0, none⟩ (.bool be)).setCell ⟨w.heap.size + 1, 1, none⟩ (.slice Ae ne ce)).cell? ⟨w.heap.size + 1 + 1, 1, none⟩ = some (.slice none 0 0) := (cell_store (by omega)).trans ub1
  replace zua0 : ((w2.setCell ⟨w.heap.size + 1, 0, none⟩ (.bool be)).setCell ⟨w.heap.size + 1, 1, none⟩ (.slice Ae ne ce)).frozen? ⟨w.heap.size + 1, 0, none⟩ = false := by simpa [go_sem] using zua0
  replace zua1 : ((w2.setCell ⟨w.heap.size + 1, 0, none⟩ (.bool be)).setCell ⟨w.heap.size + 1, 1, none⟩ (.slice Ae ne ce)).frozen? ⟨w.heap.size + 1, 1, none⟩ = false := by simpa [go_sem] using zua1
  replace zub0 : ((w2.setCell ⟨w.heap.size + 1, 0, none⟩ (.bool be)).setCell ⟨w.heap.size + 1, 1, none⟩ (.slice Ae ne ce)).frozen? ⟨w.heap.size + 1 + 1, 0, none⟩ = false := by simpa [go_sem] using zub0
  replace zub1 : ((w2.setCell ⟨w.heap.size + 1, 0, none⟩ (.bool be)).setCell ⟨w.heap.size + 1, 1, none⟩ (.slice Ae ne ce)).frozen? ⟨w.heap.size + 1 + 1, 1, none⟩ = false := by simpa [go_sem] using zub1
  replace cc : Below w.heap.size w ((w2.setCell ⟨w.heap.size + 1, 0, none⟩ (.bool be)).setCell ⟨w.heap.size + 1, 1, none⟩ (.slice Ae ne ce)) := below_put cc (by omega) _ _
  have es_ : ((w2.setCell ⟨w.heap.size + 1, 0, none⟩ (.bool be)).setCell ⟨w.heap.size + 1, 1, none⟩ (.slice Ae ne ce)).heap.size = w2.heap.size := by simp
  rw [← es_] at kal ual ubl
  clear es_ bb_ ua0 ua1
  generalize (w2.setCell ⟨w.heap.size + 1, 0, none⟩ (.bool be)).setCell ⟨w.heap.size + 1, 1, none⟩ (.slice Ae ne ce) = wp at *
  obtain ⟨ua0, ua1⟩ := bn_
  refine (dceil_N g0 t0 j0 j1).mono ?_
  rintro e w3 ⟨bf, Af, nf, cf, rfl, hf, b⟩
  replace g0 := g0.on b
  replace he := he.on b
  rewrite [fR b ual] at zua0 zua1
  rewrite [fR b ubl] at zub0 zub1
  rewrite [cR b kal] at ka0 ka1 ka2 ka3 ka4 ka5
  replace kal := lK b kal
  rewrite [cR b ual] at ua0 ua1
  replace ual := lK b ual
  rewrite [cR b ubl] at ub0 ub1
  replace ubl := lK b ubl
  replace cc := bK cc b
  clear b
  clear g0
  go_upto_region 3 with fail
  have bb_ : Box w3 (w.heap.size + 1 + 1) false none 0 0 := ⟨ub0, ub1⟩
  have bn_ : Box ((w3.setCell ⟨w.heap.size + 1 + 1, 0, none⟩ (.bool bf)).setCell ⟨w.heap.size + 1 + 1, 1, none⟩ (.slice Af nf cf)) (w.heap.size + 1 + 1) bf Af nf cf := bb_.put bf Af nf cf
  replace he : Zn ((w3.setCell ⟨w.heap.size + 1 + 1, 0, none⟩ (.bool bf)).setCell ⟨w.heap.size + 1 + 1, 1, none⟩ (.slice Af nf cf)) be Ae ne ce (flo x0 j.toNat) := Zn.put he bb_ _ _
  replace hf : Zn ((w3.setCell ⟨w.heap.size + 1 + 1, 0, none⟩ (.bool bf)).setCell ⟨w.heap.size + 1 + 1, 1, none⟩ (.slice Af nf cf)) bf Af nf cf (cei y0 j.toNat) := Zn.put hf bb_ _ _
  replace ka0 : ((w3.setCell ⟨w.heap.size + 1 + 1, 0, none⟩ (.bool bf)).setCell ⟨w.heap.size + 1 + 1, 1, none⟩ (.slice Af nf cf)).cell? ⟨w.heap.size, 0, none⟩ = some (.bool b0) := (cell_store (by omega)).trans ka0
  replace ka1 : ((w3.setCell ⟨w.heap.size + 1 + 1, 0, none⟩ (.bool bf)).setCell ⟨w.heap.size + 1 + 1, 1, none⟩ (.slice Af nf cf)).cell? ⟨w.heap.size, 1, none⟩ = some (.slice A0 n0 c0) := (cell_store (by omega)).trans ka1
  replace ka2 : ((w3.setCell ⟨w.heap.size + 1 + 1, 0, none⟩ (.bool bf)).setCell ⟨w.heap.size + 1 + 1, 1, none⟩ (.slice Af nf cf)).cell? ⟨w.heap.size, 2, none⟩ = some (.slice B0 m0 d0) := (cell_store (by omega)).trans ka2
  replace ka3 : ((w3.setCell ⟨w.heap.size + 1 + 1, 0, none⟩ (.bool bf)).setCell ⟨w.heap.size + 1 + 1, 1, none⟩ (.slice Af nf cf)).cell? ⟨w.heap.size, 3, none⟩ = some (.bool p0) := (cell_store (by omega)).trans ka3
  replace ka4 : ((w3.setCell ⟨w.heap.size + 1 + 1, 0, none⟩ (.bool bf)).setCell ⟨w.heap.size + 1 + 1, 1, none⟩ (.slice Af nf cf)).cell? ⟨w.heap.size, 4, none⟩ = some (.slice V0 r0 k0) := (cell_store (by omega)).trans ka4
  replace ka5 : ((w3.setCell ⟨w.heap.size + 1 + 1, 0, none⟩ (.bool bf)).setCell ⟨w.heap.size + 1 + 1, 1, none⟩ (.slice Af nf cf)).cell? ⟨w.heap.size, 5, none⟩ = some (.slice U0 o0 q0) := (cell_store (by omega)).trans ka5
  replace ua0 : ((w3.setCell ⟨w.heap.size + 1 + 1, 0, none⟩ (.bool bf)).setCell ⟨w.heap.size + 1 + 1, 1, none⟩ (.slice Af nf cf)).cell? ⟨w.heap.size + 1, 0, none⟩ = some (.bool be) := (cell_store (by omega)).trans ua0
  replace ua1 : ((w3.setCell ⟨w.heap.size + 1 + 1, 0, none⟩ (.bool bf)).setCell ⟨w.heap.size + 1 + 1, 1, none⟩ (.slice Af nf cf)).cell? ⟨w.heap.size + 1, 1, none⟩ = some (.slice Ae ne ce) := (cell_store (by omega)).trans ua1
  replace zua0 : ((w3.setCell ⟨w.heap.size + 1 + 1, 0, none⟩ (.bool bf)).setCell ⟨w.heap.size + 1 + 1, 1, none⟩ (.slice Af nf cf)).frozen? ⟨w.heap.size + 1, 0, none⟩ = false := by simpa [go_sem] using zua0
  replace zua1 : ((w3.setCell ⟨w.heap.size + 1 + 1, 0, none⟩ (.bool bf)).setCell ⟨w.heap.size + 1 + 1, 1, none⟩ (.slice Af nf cf)).frozen? ⟨w.heap.size + 1, 1, none⟩ = false := by simpa [go_sem] using zua1
  replace zub0 : ((w3.setCell ⟨w.heap.size + 1 + 1, 0, none⟩ (.bool bf)).setCell ⟨w.heap.size + 1 + 1, 1, none⟩ (.slice Af nf cf)).frozen? ⟨w.heap.size + 1 + 1, 0, none⟩ = false := by simpa [go_sem] using zub0
  replace zub1 : ((w3.setCell ⟨w.heap.size + 1 + 1, 0, none⟩ (.bool bf)).setCell ⟨w.heap.size + 1 + 1, 1, none⟩ (.slice Af nf cf)).frozen? ⟨w.heap.size + 1 + 1, 1, none⟩ = false := by simpa [go_sem] using zub1
  replace cc : Below w.heap.size w ((w3.setCell ⟨w.heap.size + 1 + 1, 0, none⟩ (.bool bf)).setCell ⟨w.heap.size + 1 + 1, 1, none⟩ (.slice Af nf cf)) := below_put cc (by omega) _ _
  have es_ : ((w3.setCell ⟨w.heap.size + 1 + 1, 0, none⟩ (.bool bf)).setCell ⟨w.heap.size + 1 + 1, 1, none⟩ (.slice Af nf cf)).heap.size = w3.heap.size := by simp
  rw [← es_] at kal ual ubl
  clear es_ bb_ ub0 ub1
  generalize (w3.setCell ⟨w.heap.size + 1 + 1, 0, none⟩ (.bool bf)).setCell ⟨w.heap.size + 1 + 1, 1, none⟩ (.slice Af nf cf) = wq at *
  obtain ⟨ub0, ub1⟩ := bn_
  have B1 : Box wq (w.heap.size + 1) be Ae ne ce := ⟨ua0, ua1⟩
  have B2 : Box wq (w.heap.size + 1 + 1) bf Af nf cf := ⟨ub0, ub1⟩
  have B3 := Box.other (u := .bool be) (v := .slice Ae ne ce) B2 (show w.heap.size + 1 + 1 ≠ w.heap.size + 1 by omega)
  have HE := Lib.hid (((he.put B1 (.bool be) (.slice Ae ne ce)).put B3 (.bool bf) (.slice Af nf cf)).on (below_drewN (Below.refl _ _) 1))
  have HF := Lib.hid (((hf.put B1 (.bool be) (.slice Ae ne ce)).put B3 (.bool bf) (.slice Af nf cf)).on (below_drewN (Below.refl _ _) 1))
  clear B1 B2 B3 he hf
  go_region
  go_wp2_with fail
  refine bodyPost_ret (v := .tuple #[.agg #[.bool be, .slice Ae ne ce], .agg #[.bool bf, .slice Af nf cf]]) (by simp [results, Tryz.results53, go_sem, ua0, ua1, ub0, ub1]) rfl ⟨_, _, _, _, _, _, _, _, rfl, HE.out, HF.out, below_drewN (below_put (below_put cc (by omega) _ _) (by omega) _ _) 1⟩

theorem iongrid_N {w : World} {b p : Bool} {A V : Option Addr} {n c r k : Nat} {x y : Int} (h : Zn w b A n c x) (g : Zn w p V r k y) (s : (limbs x.natAbs).length ≤ 40) (t : (limbs y.natAbs).length ≤ 40) {j : Int} (j0 : 0 ≤ j) (j1 : j ≤ 700) :
    Calls Tryz.prog 54 #[.agg #[.bool b, .slice A n c], .agg #[.bool p, .slice V r k], .int .i64 j] w (GotSt w (bak x j.toNat) (bak y j.toNat)) := by
  have cc := Below.refl w.heap.size w
  go_enter Tryz.func54, Tryz.ntmps54
  go_wp2_with fail
  generalize hv_ : ((w.alloc (.cells #[.bool b, .slice A n c] 25)).alloc (.cells #[.bool p, .slice V r k] 25)).alloc (.cells #[.bool false, .slice none 0 0, .slice none 0 0, .bool false, .slice none 0 0, .slice none 0 0] 29) = v1
  obtain ⟨f0, f1, f2, f3, f4, f5⟩ : Fz6 v1 (w.heap.size + 1 + 1) := by simp [Fz6, ← hv_, go_sem]
  have bA : Below w.heap.size w v1 := by rw [← hv_]; exact ((((Below.refl _ w).alloc (by simp) _).alloc (by simp) _).alloc (by simp <;> omega) _)
  replace h := h.on bA
  replace g := g.on bA
  replace cc := bK cc bA
  clear bA
  obtain ⟨ka0, ka1⟩ : Cs2 v1 w.heap.size (.bool b) (.slice A n c) := by simp [Cs2, ← hv_, go_sem]
  have kal : w.heap.size < v1.heap.size := by simp [← hv_] <;> omega
  obtain ⟨kb0, kb1⟩ : Cs2 v1 (w.heap.size + 1) (.bool p) (.slice V r k) := by simp [Cs2, ← hv_, go_sem]
  have kbl : w.heap.size + 1 < v1.heap.size := by simp [← hv_] <;> omega
  obtain ⟨g_0, g_1, g_2, g_3, g_4, g_5⟩ : Cs6 v1 (w.heap.size + 1 + 1) (.bool false) (.slice none 0 0) (.slice none 0 0) (.bool false) (.slice none 0 0) (.slice none 0 0) := by simp [Cs6, ← hv_, go_sem]
  have g_l : w.heap.size + 1 + 1 < v1.heap.size := by simp [← hv_] <;> omega
  clear hv_
  refine (dback_N h s j0 j1).mono ?_
  rintro e w2 ⟨bx, Ax, nx, cx, Bx, mx, dx, rfl, hx, b⟩
  rewrite [fR b g_l] at f0 f1 f2 f3 f4 f5
  replace h := h.on b
  replace g := g.on b
  rewrite [cR b kal] at ka0 ka1
  replace kal := lK b kal
  rewrite [cR b kbl] at kb0 kb1
  replace kbl := lK b kbl
  rewrite [cR b g_l] at g_0 g_1 g_2 g_3 g_4 g_5
  replace g_l := lK b g_l
  replace cc := bK cc b
  clear b
  go_wp2_with fail
  generalize hv_ : w2.alloc (.cells #[.bool bx, .slice Ax nx cx, .slice Bx mx dx] 27) = v3
  have bA : Below w2.heap.size w2 v3 := by rw [← hv_]; exact below_one _ _
  rewrite [fR bA g_l] at f0 f1 f2 f3 f4 f5
  replace h := h.on bA
  replace g := g.on bA
  replace hx := hx.on bA
  rewrite [cR bA kal] at ka0 ka1
  replace kal := lK bA kal
  rewrite [cR bA kbl] at kb0 kb1
  replace kbl := lK bA kbl
  rewrite [cR bA g_l] at g_0 g_1 g_2 g_3 g_4 g_5
  replace g_l := lK bA g_l
  replace cc := bK cc bA
  clear bA
  obtain ⟨bc0, bc1, bc2⟩ : Cs3 v3 w2.heap.size (.bool bx) (.slice Ax nx cx) (.slice Bx mx dx) := by simp [Cs3, ← hv_, go_sem]
  have bcl : w2.heap.size < v3.heap.size := by simp [← hv_]
  clear hv_
  refine (dback_N g t j0 j1).mono ?_
  rintro e w4 ⟨bt, At, nt, ct, Bt, mt, dt, rfl, ht, b⟩
  rewrite [fR b g_l] at f0 f1 f2 f3 f4 f5
  replace h := h.on b
  replace g := g.on b
  replace hx := hx.on b
  rewrite [cR b kal] at ka0 ka1
  replace kal := lK b kal
  rewrite [cR b kbl] at kb0 kb1
  replace kbl := lK b kbl
  rewrite [cR b g_l] at g_0 g_1 g_2 g_3 g_4 g_5
  replace g_l := lK b g_l
  rewrite [cR b bcl] at bc0 bc1 bc2
  replace bcl := lK b bcl
  replace cc := bK cc b
  clear b
  go_upto_region 3 with fail
  generalize hv_ : w4.alloc (.cells #[.bool bt, .slice At nt ct, .slice Bt mt dt] 27) = v5
  have bA : Below w4.heap.size w4 v5 := by rw [← hv_]; exact below_one _ _
  rewrite [fR bA g_l] at f0 f1 f2 f3 f4 f5
  replace h := h.on bA
  replace g := g.on bA
  replace hx := hx.on bA
  replace ht := ht.on bA
  rewrite [cR bA kal] at ka0 ka1
  replace kal := lK bA kal
  rewrite [cR bA kbl] at kb0 kb1
  replace kbl := lK bA kbl
  rewrite [cR bA g_l] at g_0 g_1 g_2 g_3 g_4 g_5
  replace g_l := lK bA g_l
  rewrite [cR bA bcl] at bc0 bc1 bc2
  replace bcl := lK bA bcl
  replace cc := bK cc bA
  clear bA
  obtain ⟨bd0, bd1, bd2⟩ : Cs3 v5 w4.heap.size (.bool bt) (.slice At nt ct) (.slice Bt mt dt) := by simp [Cs3, ← hv_, go_sem]
  have bdl : w4.heap.size < v5.heap.size := by simp [← hv_]
  clear hv_
  have hb_ : Held v5 (w.heap.size + 1 + 1) := held6 g_0 g_1 g_2 g_3 g_4 g_5
  have HL : Hid (Rt (putS v5 (w.heap.size + 1 + 1) (.bool bx) (.slice Ax nx cx) (.slice Bx mx dx) (.bool bt) (.slice At nt ct) (.slice Bt mt dt)) bx Ax nx cx Bx mx dx (bak x j.toNat)) := Lib.hid (Rt.putS hx hb_ _ _)
  have HH : Hid (Rt (putS v5 (w.heap.size + 1 + 1) (.bool bx) (.slice Ax nx cx) (.slice Bx mx dx) (.bool bt) (.slice At nt ct) (.slice Bt mt dt)) bt At nt ct Bt mt dt (bak y j.toNat)) := Lib.hid (Rt.putS ht hb_ _ _)
  go_wp2_with fail
  refine bodyPost_ret (v := .agg #[.bool bx, .slice Ax nx cx, .slice Bx mx dx, .bool bt, .slice At nt ct, .slice Bt mt dt]) (by simp [results, Tryz.results54, go_sem, g_0, g_1, g_2, g_3, g_4, g_5]) rfl ⟨_, _, _, _, _, _, _, _, _, _, _, _, _, _, rfl, ⟨HL.out, HH.out⟩, below_putS cc (by omega) _ _ _ _ _ _⟩

theorem iout_N {w : World} {b0 p0 : Bool} {A0 B0 V0 U0 : Option Addr} {n0 c0 m0 d0 r0 k0 o0 q0 : Nat} {x0 y0 : Rat} (h0 : Rt w b0 A0 n0 c0 B0 m0 d0 x0) (g0 : Rt w p0 V0 r0 k0 U0 o0 q0 y0) (s0 : Sz x0 20) (t0 : Sz y0 20) {j : Int} (j0 : 0 ≤ j) (j1 : j ≤ 500) :
    Calls Tryz.prog 28 #[.agg #[.bool b0, .slice A0 n0 c0, .slice B0 m0 d0, .bool p0, .slice V0 r0 k0, .slice U0 o0 q0], .int .i64 j] w (GotSp w (bak (flo x0 j.toNat) j.toNat) (bak (cei y0 j.toNat) j.toNat) 0) := by
  have jl : j.toNat ≤ 700 := by omega
  have ll := flo_len7 s0 jl
  have lh := cei_len7 t0 jl
  have cc := Below.refl w.heap.size w
  go_enter Tryz.func28, Tryz.ntmps28
  go_wp2_with fail
  generalize hv_ : (w.alloc (.cells #[.bool b0, .slice A0 n0 c0, .slice B0 m0 d0, .bool p0, .slice V0 r0 k0, .slice U0 o0 q0] 29)).alloc (.cells #[.bool false, .slice none 0 0, .slice none 0 0, .bool false, .slice none 0 0, .slice none 0 0] 29) = v1
  obtain ⟨f0, f1, f2, f3, f4, f5⟩ : Fz6 v1 (w.heap.size + 1) := by simp [Fz6, ← hv_, go_sem]
  have bA : Below w.heap.size w v1 := by rw [← hv_]; exact (((Below.refl _ w).alloc (by simp) _).alloc (by simp) _)
  replace h0 := h0.on bA
  replace g0 := g0.on bA
  replace cc := bK cc bA
  clear bA
  obtain ⟨ka0, ka1, ka2, ka3, ka4, ka5⟩ : Cs6 v1 w.heap.size (.bool b0) (.slice A0 n0 c0) (.slice B0 m0 d0) (.bool p0) (.slice V0 r0 k0) (.slice U0 o0 q0) := by simp [Cs6, ← hv_, go_sem]
  have kal : w.heap.size < v1.heap.size := by simp [← hv_] <;> omega
  obtain ⟨g_0, g_1, g_2, g_3, g_4, g_5⟩ : Cs6 v1 (w.heap.size + 1) (.bool false) (.slice none 0 0) (.slice none 0 0) (.bool false) (.slice none 0 0) (.slice none 0 0) := by simp [Cs6, ← hv_, go_sem]
  have g_l : w.heap.size + 1 < v1.heap.size := by simp [← hv_] <;> omega
  clear hv_
  refine (igrid_2 _ j0 (by omega)).mono ?_
  rintro e w2 ⟨rfl, b⟩
  rewrite [fR b g_l] at f0 f1 f2 f3 f4 f5
  replace h0 := h0.on b
  replace g0 := g0.on b
  rewrite [cR b kal] at ka0 ka1 ka2 ka3 ka4 ka5
  replace kal := lK b kal
  rewrite [cR b g_l] at g_0 g_1 g_2 g_3 g_4 g_5
  replace g_l := lK b g_l
  replace cc := bK cc b
  clear b
  go_wp2_with fail
  refine (ioutward_N h0 g0 s0 t0 j0 (by omega)).mono ?_
  rintro e w3 ⟨bl, Al, nl, cl, bh, Ah, nh, ch, rfl, hl, hh, b⟩
  rewrite [fR b g_l] at f0 f1 f2 f3 f4 f5
  replace h0 := h0.on b
  replace g0 := g0.on b
  rewrite [cR b kal] at ka0 ka1 ka2 ka3 ka4 ka5
  replace kal := lK b kal
  rewrite [cR b g_l] at g_0 g_1 g_2 g_3 g_4 g_5
  replace g_l := lK b g_l
  replace cc := bK cc b
  clear b
  go_wp2_with fail
  generalize hv_ : (w3.alloc (.cells #[.bool bl, .slice Al nl cl] 25)).alloc (.cells #[.bool bh, .slice Ah nh ch] 25) = v4
  have bB : Below w3.heap.size w3 v4 := by rw [← hv_]; exact below_two _ _ _
  rewrite [fR bB g_l] at f0 f1 f2 f3 f4 f5
  clear bB
  have bA : Below w3.heap.size w3 v4 := by rw [← hv_]; exact (((Below.refl _ w3).alloc (by simp) _).alloc (by simp) _)
  replace h0 := h0.on bA
  replace g0 := g0.on bA
  replace hl := hl.on bA
  replace hh := hh.on bA
  rewrite [cR bA kal] at ka0 ka1 ka2 ka3 ka4 ka5
  replace kal := lK bA kal
  rewrite [cR bA g_l] at g_0 g_1 g_2 g_3 g_4 g_5
  replace g_l := lK bA g_l
  replace cc := bK cc bA
  clear bA
  obtain ⟨ba0, ba1⟩ : Cs2 v4 w3.heap.size (.bool bl) (.slice Al nl cl) := by simp [Cs2, ← hv_, go_sem]
  have bal : w3.heap.size < v4.heap.size := by simp [← hv_] <;> omega
  obtain ⟨bb0, bb1⟩ : Cs2 v4 (w3.heap.size + 1) (.bool bh) (.slice Ah nh ch) := by simp [Cs2, ← hv_, go_sem]
  have bbl : w3.heap.size + 1 < v4.heap.size := by simp [← hv_] <;> omega
  clear hv_
  refine (iongrid_N hl hh (by omega) (by omega) j0 (by omega)).mono ?_
  rintro e w5 ⟨bz, Az, nz, cz, Bz, mz, dz, pz, Vz, rz, kz, Uz, oz, qz, rfl, ⟨hz, gz⟩, b⟩
  rewrite [fR b g_l] at f0 f1 f2 f3 f4 f5
  replace h0 := h0.on b
  replace g0 := g0.on b
  replace hl := hl.on b
  replace hh := hh.on b
  rewrite [cR b kal] at ka0 ka1 ka2 ka3 ka4 ka5
  replace kal := lK b kal
  rewrite [cR b g_l] at g_0 g_1 g_2 g_3 g_4 g_5
  replace g_l := lK b g_l
  rewrite [cR b bal] at ba0 ba1
  replace bal := lK b bal
  rewrite [cR b bbl] at bb0 bb1
  replace bbl := lK b bbl
  replace cc := bK cc b
  clear b
  have hb_ : Held w5 (w.heap.size + 1) := held6 g_0 g_1 g_2 g_3 g_4 g_5
  have HL : Hid (Rt (putS w5 (w.heap.size + 1) (.bool bz) (.slice Az nz cz) (.slice Bz mz dz) (.bool pz) (.slice Vz rz kz) (.slice Uz oz qz)) bz Az nz cz Bz mz dz (bak (flo x0 j.toNat) j.toNat)) := Lib.hid (Rt.putS hz hb_ _ _)
  have HH : Hid (Rt (putS w5 (w.heap.size + 1) (.bool bz) (.slice Az nz cz) (.slice Bz mz dz) (.bool pz) (.slice Vz rz kz) (.slice Uz oz qz)) pz Vz rz kz Uz oz qz (bak (cei y0 j.toNat) j.toNat)) := Lib.hid (Rt.putS gz hb_ _ _)
  go_wp2_with fail
  refine bodyPost_ret (v := .tuple #[.agg #[.bool bz, .slice Az nz cz, .slice Bz mz dz, .bool pz, .slice Vz rz kz, .slice Uz oz qz], .int .i64 0]) (by simp [results, Tryz.results28, go_sem, g_0, g_1, g_2, g_3, g_4, g_5]) rfl ⟨_, _, _, _, _, _, _, _, _, _, _, _, _, _, rfl, ⟨HL.out, HH.out⟩, below_putS cc (by omega) _ _ _ _ _ _⟩

theorem iout_no {w : World} {b0 p0 : Bool} {A0 B0 V0 U0 : Option Addr} {n0 c0 m0 d0 r0 k0 o0 q0 : Nat} {j : Int} (h : j < 0 ∨ 1000 < j) :
    Calls Tryz.prog 28 #[.agg #[.bool b0, .slice A0 n0 c0, .slice B0 m0 d0, .bool p0, .slice V0 r0 k0, .slice U0 o0 q0], .int .i64 j] w (GotV w (.tuple #[.agg #[.bool false, .slice none 0 0, .slice none 0 0, .bool false, .slice none 0 0, .slice none 0 0], .int .i64 1])) := by
  have cc := Below.refl w.heap.size w
  go_enter Tryz.func28, Tryz.ntmps28
  go_wp2_with fail
  generalize hv_ : (w.alloc (.cells #[.bool b0, .slice A0 n0 c0, .slice B0 m0 d0, .bool p0, .slice V0 r0 k0, .slice U0 o0 q0] 29)).alloc (.cells #[.bool false, .slice none 0 0, .slice none 0 0, .bool false, .slice none 0 0, .slice none 0 0] 29) = v1
  obtain ⟨f0, f1, f2, f3, f4, f5⟩ : Fz6 v1 (w.heap.size + 1) := by simp [Fz6, ← hv_, go_sem]
  have bA : Below w.heap.size w v1 := by rw [← hv_]; exact (((Below.refl _ w).alloc (by simp) _).alloc (by simp) _)
  replace cc := bK cc bA
  clear bA
  obtain ⟨ka0, ka1, ka2, ka3, ka4, ka5⟩ : Cs6 v1 w.heap.size (.bool b0) (.slice A0 n0 c0) (.slice B0 m0 d0) (.bool p0) (.slice V0 r0 k0) (.slice U0 o0 q0) := by simp [Cs6, ← hv_, go_sem]
  have kal : w.heap.size < v1.heap.size := by simp [← hv_] <;> omega
  obtain ⟨g_0, g_1, g_2, g_3, g_4, g_5⟩ : Cs6 v1 (w.heap.size + 1) (.bool false) (.slice none 0 0) (.slice none 0 0) (.bool false) (.slice none 0 0) (.slice none 0 0) := by simp [Cs6, ← hv_, go_sem]
  have g_l : w.heap.size + 1 < v1.heap.size := by simp [← hv_] <;> omega
  clear hv_
  refine (igrid_no _ h).mono ?_
  rintro e w2 ⟨rfl, b⟩
  rewrite [fR b g_l] at f0 f1 f2 f3 f4 f5
  rewrite [cR b kal] at ka0 ka1 ka2 ka3 ka4 ka5
  replace kal := lK b kal
  rewrite [cR b g_l] at g_0 g_1 g_2 g_3 g_4 g_5
  replace g_l := lK b g_l
  replace cc := bK cc b
  clear b
  go_wp2_with fail
  exact bodyPost_ret (v := .tuple #[.agg #[.bool false, .slice none 0 0, .slice none 0 0, .bool false, .slice none 0 0, .slice none 0 0], .int .i64 1]) (by simp [results, Tryz.results28, go_sem, g_0, g_1, g_2, g_3, g_4, g_5]) rfl ⟨rfl, below_putS cc (by omega) _ _ _ _ _ _⟩

end Go.Proofs.YtanpklbconflmaaGreat

/-
  The contracts of ival: around.
-/
namespace Go.Proofs.YtanpklbconflmaaGreat
set_option maxRecDepth 100000
open Go.RowKit
set_option linter.unusedVariables false
set_option linter.unusedSimpArgs false

theorem cmpQ_nneg {a b : Rat} : 0 ≤ cmpQ a b ↔ b ≤ a := by unfold cmpQ; grind
theorem lowR_one (X : Nat → Rat) : lowR X 1 = X 0 := by show (if X 0 < X 0 then X 0 else X 0) = X 0; exact ite_self _
theorem highR_one (X : Nat → Rat) : highR X 1 = X 0 := by show (if X 0 < X 0 then X 0 else X 0) = X 0; exact ite_self _
theorem high_up {a b : Rat} (h : a ≤ b) : (if a < b then b else a) = b := by grind

set_option maxHeartbeats 8000000 in
theorem iaround_N {w : World} {b : Bool} {A B : Option Addr} {n c m d gl N : Nat} {X : Nat → Rat} (h : Rt w b A n c B m d (X 0)) (hgl : gl < w.heap.size) (hN : N ≤ 100) (hrow : RowR w gl N (fun i => X (i + 1))) (hs : ∀ i, i < N + 1 → Sz (X i) 30) :
    Calls Tryz.prog 49 #[.agg #[.bool b, .slice A n c, .slice B m d], .slice (some ⟨gl, 0, none⟩) N N] w (GotSt w (lowR X (N + 1)) (highR X (N + 1))) := by
  have HR := Lib.hid hrow
  have HS := Lib.hid hs
  have HL := Lib.hid hgl
  have hz0 : Rt w b A n c B m d (lowR X 1) := by rw [lowR_one]; exact h
  have gz0 : Rt w b A n c B m d (highR X 1) := by rw [highR_one]; exact h
  clear hrow hs h
  have cc := Below.refl w.heap.size w
  go_enter Tryz.func49, Tryz.ntmps49
  go_wp2_with fail
  generalize hv_ : ((w.alloc (.cells #[.bool b, .slice A n c, .slice B m d] 27)).alloc (.cells #[.bool false, .slice none 0 0, .slice none 0 0, .bool false, .slice none 0 0, .slice none 0 0] 29)).alloc (.cells #[.bool b, .slice A n c, .slice B m d, .bool b, .slice A n c, .slice B m d] 29) = v1
  obtain ⟨f0, f1, f2, f3, f4, f5⟩ : Fz6 v1 (w.heap.size + 1) := by simp [Fz6, ← hv_, go_sem]
  have bA : Below w.heap.size w v1 := by rw [← hv_]; exact ((((Below.refl _ w).alloc (by simp) _).alloc (by simp) _).alloc (by simp <;> omega) _)
  replace hz0 := hz0.on bA
  replace gz0 := gz0.on bA
  replace cc := bK cc bA
  clear bA
  obtain ⟨ka0, ka1, ka2⟩ : Cs3 v1 w.heap.size (.bool b) (.slice A n c) (.slice B m d) := by simp [Cs3, ← hv_, go_sem]
  have kal : w.heap.size < v1.heap.size := by simp [← hv_] <;> omega
  obtain ⟨g_0, g_1, g_2, g_3, g_4, g_5⟩ : Cs6 v1 (w.heap.size + 1) (.bool false) (.slice none 0 0) (.slice none 0 0) (.bool false) (.slice none 0 0) (.slice none 0 0) := by simp [Cs6, ← hv_, go_sem]
  have g_l : w.heap.size + 1 < v1.heap.size := by simp [← hv_] <;> omega
  obtain ⟨u0, u1, u2, u3, u4, u5⟩ : Cs6 v1 (w.heap.size + 1 + 1) (.bool b) (.slice A n c) (.slice B m d) (.bool b) (.slice A n c) (.slice B m d) := by simp [Cs6, ← hv_, go_sem]
  have ul : w.heap.size + 1 + 1 < v1.heap.size := by simp [← hv_] <;> omega
  have uf : Free6 v1 (w.heap.size + 1 + 1) := ⟨by simp [← hv_, go_sem], by simp [← hv_, go_sem], by simp [← hv_, go_sem], by simp [← hv_, go_sem], by simp [← hv_, go_sem], by simp [← hv_, go_sem]⟩
  clear hv_
  have gq : w.heap.size + 1 < w.heap.size + 1 + 1 := by omega
  have gf : Free6 v1 (w.heap.size + 1) := ⟨f0, f1, f2, f3, f4, f5⟩
  have gb : Box6 v1 (w.heap.size + 1) false none 0 0 none 0 0 false none 0 0 none 0 0 := ⟨g_0, g_1, g_2, g_3, g_4, g_5⟩
  have ub : Box6 v1 (w.heap.size + 1 + 1) b A n c B m d b A n c B m d := ⟨u0, u1, u2, u3, u4, u5⟩
  clear f0 f1 f2 f3 f4 f5 g_0 g_1 g_2 g_3 g_4 g_5 u0 u1 u2 u3 u4 u5 ka0 ka1 ka2 kal
  go_loopw [13] (fun iv wr => ∃ (wv : World) (i : Nat) (bu : Bool) (Au : Option Addr) (nu cu : Nat) (Bu : Option Addr) (mu du : Nat) (pu : Bool) (Vu : Option Addr) (ru ku : Nat) (Uu : Option Addr) (ou qu : Nat), wv = wr ∧ iv = .int .i64 (i : Int) ∧ i ≤ N ∧ Box6 wr (w.heap.size + 1 + 1) bu Au nu cu Bu mu du pu Vu ru ku Uu ou qu ∧ Free6 wr (w.heap.size + 1 + 1) ∧ Rt wr bu Au nu cu Bu mu du (lowR X (i + 1)) ∧ Rt wr pu Vu ru ku Uu ou qu (highR X (i + 1)) ∧ Below (w.heap.size + 1 + 1) v1 wr) (fun iv _ => N - (intOf iv).toNat)
  case atStart => exact ⟨_, 0, b, A, n, c, B, m, d, b, A, n, c, B, m, d, rfl, rfl, Nat.zero_le _, ub, uf, hz0, gz0, Below.refl _ _⟩
  case round =>
    obtain ⟨wv, i, bu, Au, nu, cu, Bu, mu, du, pu, Vu, ru, ku, Uu, ou, qu, e, rfl, hi, ⟨u0, u1, u2, u3, u4, u5⟩, ⟨z0_, z1_, z2_, z3_, z4_, z5_⟩, hlo, hhi, hB⟩ := hrel
    subst e
    have ccv := cc.trans (hB.mono (by omega))
    clear ub uf hz0 gz0
    have hrow := HR.out.on HL.out ccv
    have ul := cell_lt u0
    simp only at ul
    by_cases hlt : i < N
    · obtain ⟨bi, Ai, ni, ci, Bi, mi, di, e0, e1, e2, hr⟩ := hrow i hlt
      replace hr : Rt wv bi Ai ni ci Bi mi di (X (i + 1)) := hr
      have sl := lowR_sz HS.out (Nat.succ_pos N) (i + 1) (by omega)
      have sh := highR_sz HS.out (Nat.succ_pos N) (i + 1) (by omega)
      have si := HS.out (i + 1) (by omega)
      have el : gl < wv.heap.size := Nat.lt_of_lt_of_le HL.out ccv.size
      obtain ⟨c1_, h1⟩ : ∃ c, cmpQ (X (i + 1)) (lowR X (i + 1)) = c := ⟨_, rfl⟩
      obtain ⟨c2_, h2⟩ : ∃ c, cmpQ (X (i + 1)) (highR X (i + 1)) = c := ⟨_, rfl⟩
      have H1 := Lib.hid h1
      have H2 := Lib.hid h2
      have HI := Lib.hid hlt
      obtain ⟨lo, hlo_⟩ : ∃ v, lowR X (i + 1) = v := ⟨_, rfl⟩
      obtain ⟨hi_, hhi_⟩ : ∃ v, highR X (i + 1) = v := ⟨_, rfl⟩
      rw [hlo_] at hlo sl H1
      rw [hhi_] at hhi sh H2
      obtain ⟨xi, hxi⟩ : ∃ v, X (i + 1) = v := ⟨_, rfl⟩
      rw [hxi] at hr si H1 H2
      have DL : Hid (lowR X (i + 1 + 1) = if xi < lo then xi else lo) := Lib.hid (by rw [← hxi, ← hlo_]; rfl)
      have DH : Hid (highR X (i + 1 + 1) = if hi_ < xi then xi else hi_) := Lib.hid (by rw [← hxi, ← hhi_]; rfl)
      clear hrow h1 h2 hlo_ hhi_ hxi
      by_cases q1 : c1_ < 0
      · by_cases q2 : 0 ≤ c2_
        · skip
          have yq : w.heap.size + 1 + 1 < wv.heap.size := ul
          have t1 : decide (c1_ < 0) = true := decide_eq_true q1
          have t2 : decide (0 ≤ c2_) = true := decide_eq_true q2
          have DL2 : Hid (lowR X (i + 1 + 1) = xi) := Lib.hid (by rw [DL.out, if_pos (cmpQ_neg.1 (by rw [H1.out]; exact q1))])
          have DH2 : Hid (highR X (i + 1 + 1) = xi) := Lib.hid (by rw [DH.out]; exact high_up (cmpQ_nneg.1 (by rw [H2.out]; exact q2)))
          clear q1 q2 DL DH
          replace cc := ccv
          clear ccv
          go_wp2_with fail
          generalize hv_ : wv.alloc (.cells #[.bool bi, .slice Ai ni ci, .slice Bi mi di] 27) = v51
          have bA : Below wv.heap.size wv v51 := by rw [← hv_]; exact below_one _ _
          replace hB := hB.trans (bA.mono (Nat.le_of_lt ul))
          rewrite [fR bA ul] at z0_ z1_ z2_ z3_ z4_ z5_
          replace hr := hr.on bA
          replace hlo := hlo.on bA
          replace hhi := hhi.on bA
          rewrite [cR bA ul] at u0 u1 u2 u3 u4 u5
          replace ul := lK bA ul
          replace cc := bK cc bA
          clear bA
          obtain ⟨y0, y1, y2⟩ : Cs3 v51 wv.heap.size (.bool bi) (.slice Ai ni ci) (.slice Bi mi di) := by simp [Cs3, ← hv_, go_sem]
          have yl : wv.heap.size < v51.heap.size := by simp [← hv_]
          clear hv_
          go_wp2_with fail
          refine (qcmp_v' c1_ hr si hlo sl H1.out).mono ?_
          rintro e w52 ⟨rfl, b⟩
          replace hB := hB.trans (b.mono (Nat.le_of_lt ul))
          rewrite [fR b ul] at z0_ z1_ z2_ z3_ z4_ z5_
          replace hr := hr.on b
          replace hlo := hlo.on b
          replace hhi := hhi.on b
          rewrite [cR b ul] at u0 u1 u2 u3 u4 u5
          replace ul := lK b ul
          rewrite [cR b yl] at y0 y1 y2
          replace yl := lK b yl
          replace cc := bK cc b
          clear b
          go_wp2_with fail
          have hh_ : Held w52 (w.heap.size + 1 + 1) := Held.of ⟨u0, u1, u2, u3, u4, u5⟩
          have bx : Box6 (((w52.setCell ⟨w.heap.size + 1 + 1, 0, none⟩ (.bool bi)).setCell ⟨w.heap.size + 1 + 1, 1, none⟩ (.slice Ai ni ci)).setCell ⟨w.heap.size + 1 + 1, 2, none⟩ (.slice Bi mi di)) (w.heap.size + 1 + 1) bi Ai ni ci Bi mi di pu Vu ru ku Uu ou qu := box6_low (b1 := bi) (A1 := Ai) (n1 := ni) (c1 := ci) (B1 := Bi) (m1 := mi) (d1 := di) ⟨u0, u1, u2, u3, u4, u5⟩
          have fx : Free6 (((w52.setCell ⟨w.heap.size + 1 + 1, 0, none⟩ (.bool bi)).setCell ⟨w.heap.size + 1 + 1, 1, none⟩ (.slice Ai ni ci)).setCell ⟨w.heap.size + 1 + 1, 2, none⟩ (.slice Bi mi di)) (w.heap.size + 1 + 1) := free6_set (free6_set (free6_set ⟨z0_, z1_, z2_, z3_, z4_, z5_⟩))
          replace hr : Rt (((w52.setCell ⟨w.heap.size + 1 + 1, 0, none⟩ (.bool bi)).setCell ⟨w.heap.size + 1 + 1, 1, none⟩ (.slice Ai ni ci)).setCell ⟨w.heap.size + 1 + 1, 2, none⟩ (.slice Bi mi di)) bi Ai ni ci Bi mi di xi := rt_low hr hh_
          replace hlo : Rt (((w52.setCell ⟨w.heap.size + 1 + 1, 0, none⟩ (.bool bi)).setCell ⟨w.heap.size + 1 + 1, 1, none⟩ (.slice Ai ni ci)).setCell ⟨w.heap.size + 1 + 1, 2, none⟩ (.slice Bi mi di)) bu Au nu cu Bu mu du lo := rt_low hlo hh_
          replace hhi : Rt (((w52.setCell ⟨w.heap.size + 1 + 1, 0, none⟩ (.bool bi)).setCell ⟨w.heap.size + 1 + 1, 1, none⟩ (.slice Ai ni ci)).setCell ⟨w.heap.size + 1 + 1, 2, none⟩ (.slice Bi mi di)) pu Vu ru ku Uu ou qu hi_ := rt_low hhi hh_
          replace y0 : (((w52.setCell ⟨w.heap.size + 1 + 1, 0, none⟩ (.bool bi)).setCell ⟨w.heap.size + 1 + 1, 1, none⟩ (.slice Ai ni ci)).setCell ⟨w.heap.size + 1 + 1, 2, none⟩ (.slice Bi mi di)).cell? ⟨wv.heap.size, 0, none⟩ = some (.bool bi) := (cell_putR (u := .bool bi) (v := .slice Ai ni ci) (x := .slice Bi mi di) (by omega)).trans y0
          replace y1 : (((w52.setCell ⟨w.heap.size + 1 + 1, 0, none⟩ (.bool bi)).setCell ⟨w.heap.size + 1 + 1, 1, none⟩ (.slice Ai ni ci)).setCell ⟨w.heap.size + 1 + 1, 2, none⟩ (.slice Bi mi di)).cell? ⟨wv.heap.size, 1, none⟩ = some (.slice Ai ni ci) := (cell_putR (u := .bool bi) (v := .slice Ai ni ci) (x := .slice Bi mi di) (by omega)).trans y1
          replace y2 : (((w52.setCell ⟨w.heap.size + 1 + 1, 0, none⟩ (.bool bi)).setCell ⟨w.heap.size + 1 + 1, 1, none⟩ (.slice Ai ni ci)).setCell ⟨w.heap.size + 1 + 1, 2, none⟩ (.slice Bi mi di)).cell? ⟨wv.heap.size, 2, none⟩ = some (.slice Bi mi di) := (cell_putR (u := .bool bi) (v := .slice Ai ni ci) (x := .slice Bi mi di) (by omega)).trans y2
          replace hB : Below (w.heap.size + 1 + 1) v1 (((w52.setCell ⟨w.heap.size + 1 + 1, 0, none⟩ (.bool bi)).setCell ⟨w.heap.size + 1 + 1, 1, none⟩ (.slice Ai ni ci)).setCell ⟨w.heap.size + 1 + 1, 2, none⟩ (.slice Bi mi di)) := below_putR hB (Nat.le_refl _) (.bool bi) (.slice Ai ni ci) (.slice Bi mi di)
          replace cc : Below w.heap.size w (((w52.setCell ⟨w.heap.size + 1 + 1, 0, none⟩ (.bool bi)).setCell ⟨w.heap.size + 1 + 1, 1, none⟩ (.slice Ai ni ci)).setCell ⟨w.heap.size + 1 + 1, 2, none⟩ (.slice Bi mi di)) := below_putR cc (by omega) (.bool bi) (.slice Ai ni ci) (.slice Bi mi di)
          have es : (((w52.setCell ⟨w.heap.size + 1 + 1, 0, none⟩ (.bool bi)).setCell ⟨w.heap.size + 1 + 1, 1, none⟩ (.slice Ai ni ci)).setCell ⟨w.heap.size + 1 + 1, 2, none⟩ (.slice Bi mi di)).heap.size = w52.heap.size := by simp
          rw [← es] at ul yl
          clear u0 u1 u2 u3 u4 u5 z0_ z1_ z2_ z3_ z4_ z5_ hh_ es
          generalize ((w52.setCell ⟨w.heap.size + 1 + 1, 0, none⟩ (.bool bi)).setCell ⟨w.heap.size + 1 + 1, 1, none⟩ (.slice Ai ni ci)).setCell ⟨w.heap.size + 1 + 1, 2, none⟩ (.slice Bi mi di) = wp at *
          obtain ⟨u0, u1, u2, u3, u4, u5⟩ := bx
          obtain ⟨z0_, z1_, z2_, z3_, z4_, z5_⟩ := fx
          refine (qcmp_v' c2_ hr si hhi sh H2.out).mono ?_
          rintro e w53 ⟨rfl, b⟩
          replace hB := hB.trans (b.mono (Nat.le_of_lt ul))
          rewrite [fR b ul] at z0_ z1_ z2_ z3_ z4_ z5_
          replace hr := hr.on b
          replace hlo := hlo.on b
          replace hhi := hhi.on b
          rewrite [cR b ul] at u0 u1 u2 u3 u4 u5
          replace ul := lK b ul
          rewrite [cR b yl] at y0 y1 y2
          replace yl := lK b yl
          replace cc := bK cc b
          clear b
          have hh_ : Held w53 (w.heap.size + 1 + 1) := Held.of ⟨u0, u1, u2, u3, u4, u5⟩
          have BX := Lib.hid (box6_high (b1 := bi) (A1 := Ai) (n1 := ni) (c1 := ci) (B1 := Bi) (m1 := mi) (d1 := di) ⟨u0, u1, u2, u3, u4, u5⟩)
          have FX : Hid (Free6 (putH w53 (w.heap.size + 1 + 1) (.bool bi) (.slice Ai ni ci) (.slice Bi mi di)) (w.heap.size + 1 + 1)) := Lib.hid (free6_set (free6_set (free6_set ⟨z0_, z1_, z2_, z3_, z4_, z5_⟩)))
          have RL : Hid (Rt (putH w53 (w.heap.size + 1 + 1) (.bool bi) (.slice Ai ni ci) (.slice Bi mi di)) bi Ai ni ci Bi mi di xi) := Lib.hid (rt_high hr hh_)
          have RH : Hid (Rt (putH w53 (w.heap.size + 1 + 1) (.bool bi) (.slice Ai ni ci) (.slice Bi mi di)) bi Ai ni ci Bi mi di xi) := Lib.hid (rt_high hr hh_)
          have HBX := Lib.hid (below_putH hB (Nat.le_refl _) (.bool bi) (.slice Ai ni ci) (.slice Bi mi di))
          clear hh_ hr hlo hhi
          go_wp2_with fail
          go_roundw
          case rel => exact ⟨_, i + 1, bi, Ai, ni, ci, Bi, mi, di, bi, Ai, ni, ci, Bi, mi, di, rfl, by go_num, HI.out, BX.out, FX.out, by rw [DL2.out]; exact RL.out, by rw [DH2.out]; exact RH.out, HBX.out⟩
          case measure => have := HI.out; simp [intOf]; omega
        · skip
          have yq : w.heap.size + 1 + 1 < wv.heap.size := ul
          have t1 : decide (c1_ < 0) = true := decide_eq_true q1
          have t2 : decide (0 ≤ c2_) = false := decide_eq_false q2
          have DL2 : Hid (lowR X (i + 1 + 1) = xi) := Lib.hid (by rw [DL.out, if_pos (cmpQ_neg.1 (by rw [H1.out]; exact q1))])
          have DH2 : Hid (highR X (i + 1 + 1) = hi_) := Lib.hid (by rw [DH.out]; exact if_neg (fun h => q2 (by rw [← H2.out]; exact cmpQ_nneg.2 (Rat.le_of_lt h))))
          clear q1 q2 DL DH
          replace cc := ccv
          clear ccv
          go_wp2_with fail
          generalize hv_ : wv.alloc (.cells #[.bool bi, .slice Ai ni ci, .slice Bi mi di] 27) = v51
          have bA : Below wv.heap.size wv v51 := by rw [← hv_]; exact below_one _ _
          replace hB := hB.trans (bA.mono (Nat.le_of_lt ul))
          rewrite [fR bA ul] at z0_ z1_ z2_ z3_ z4_ z5_
          replace hr := hr.on bA
          replace hlo := hlo.on bA
          replace hhi := hhi.on bA
          rewrite [cR bA ul] at u0 u1 u2 u3 u4 u5
          replace ul := lK bA ul
          replace cc := bK cc bA
          clear bA
          obtain ⟨y0, y1, y2⟩ : Cs3 v51 wv.heap.size (.bool bi) (.slice Ai ni ci) (.slice Bi mi di) := by simp [Cs3, ← hv_, go_sem]
          have yl : wv.heap.size < v51.heap.size := by simp [← hv_]
          clear hv_
          go_wp2_with fail
          refine (qcmp_v' c1_ hr si hlo sl H1.out).mono ?_
          rintro e w52 ⟨rfl, b⟩
          replace hB := hB.trans (b.mono (Nat.le_of_lt ul))
          rewrite [fR b ul] at z0_ z1_ z2_ z3_ z4_ z5_
          replace hr := hr.on b
          replace hlo := hlo.on b
          replace hhi := hhi.on b
          rewrite [cR b ul] at u0 u1 u2 u3 u4 u5
          replace ul := lK b ul
          rewrite [cR b yl] at y0 y1 y2
          replace yl := lK b yl
          replace cc := bK cc b
          clear b
          go_wp2_with fail
          have hh_ : Held w52 (w.heap.size + 1 + 1) := Held.of ⟨u0, u1, u2, u3, u4, u5⟩
          have bx : Box6 (((w52.setCell ⟨w.heap.size + 1 + 1, 0, none⟩ (.bool bi)).setCell ⟨w.heap.size + 1 + 1, 1, none⟩ (.slice Ai ni ci)).setCell ⟨w.heap.size + 1 + 1, 2, none⟩ (.slice Bi mi di)) (w.heap.size + 1 + 1) bi Ai ni ci Bi mi di pu Vu ru ku Uu ou qu := box6_low (b1 := bi) (A1 := Ai) (n1 := ni) (c1 := ci) (B1 := Bi) (m1 := mi) (d1 := di) ⟨u0, u1, u2, u3, u4, u5⟩
          have fx : Free6 (((w52.setCell ⟨w.heap.size + 1 + 1, 0, none⟩ (.bool bi)).setCell ⟨w.heap.size + 1 + 1, 1, none⟩ (.slice Ai ni ci)).setCell ⟨w.heap.size + 1 + 1, 2, none⟩ (.slice Bi mi di)) (w.heap.size + 1 + 1) := free6_set (free6_set (free6_set ⟨z0_, z1_, z2_, z3_, z4_, z5_⟩))
          replace hr : Rt (((w52.setCell ⟨w.heap.size + 1 + 1, 0, none⟩ (.bool bi)).setCell ⟨w.heap.size + 1 + 1, 1, none⟩ (.slice Ai ni ci)).setCell ⟨w.heap.size + 1 + 1, 2, none⟩ (.slice Bi mi di)) bi Ai ni ci Bi mi di xi := rt_low hr hh_
          replace hlo : Rt (((w52.setCell ⟨w.heap.size + 1 + 1, 0, none⟩ (.bool bi)).setCell ⟨w.heap.size + 1 + 1, 1, none⟩ (.slice Ai ni ci)).setCell ⟨w.heap.size + 1 + 1, 2, none⟩ (.slice Bi mi di)) bu Au nu cu Bu mu du lo := rt_low hlo hh_
          replace hhi : Rt (((w52.setCell ⟨w.heap.size + 1 + 1, 0, none⟩ (.bool bi)).setCell ⟨w.heap.size + 1 + 1, 1, none⟩ (.slice Ai ni ci)).setCell ⟨w.heap.size + 1 + 1, 2, none⟩ (.slice Bi mi di)) pu Vu ru ku Uu ou qu hi_ := rt_low hhi hh_
          replace y0 : (((w52.setCell ⟨w.heap.size + 1 + 1, 0, none⟩ (.bool bi)).setCell ⟨w.heap.size + 1 + 1, 1, none⟩ (.slice Ai ni ci)).setCell ⟨w.heap.size + 1 + 1, 2, none⟩ (.slice Bi mi di)).cell? ⟨wv.heap.size, 0, none⟩ = some (.bool bi) := (cell_putR (u := .bool bi) (v := .slice Ai ni ci) (x := .slice Bi mi di) (by omega)).trans y0
          replace y1 : (((w52.setCell ⟨w.heap.size + 1 + 1, 0, none⟩ (.bool bi)).setCell ⟨w.heap.size + 1 + 1, 1, none⟩ (.slice Ai ni ci)).setCell ⟨w.heap.size + 1 + 1, 2, none⟩ (.slice Bi mi di)).cell? ⟨wv.heap.size, 1, none⟩ = some (.slice Ai ni ci) := (cell_putR (u := .bool bi) (v := .slice Ai ni ci) (x := .slice Bi mi di) (by omega)).trans y1
          replace y2 : (((w52.setCell ⟨w.heap.size + 1 + 1, 0, none⟩ (.bool bi)).setCell ⟨w.heap.size + 1 + 1, 1, none⟩ (.slice Ai ni ci)).setCell ⟨w.heap.size + 1 + 1, 2, none⟩ (.slice Bi mi di)).cell? ⟨wv.heap.size, 2, none⟩ = some (.slice Bi mi di) := (cell_putR (u := .bool bi) (v := .slice Ai ni ci) (x := .slice Bi mi di) (by omega)).trans y2
          replace hB : Below (w.heap.size + 1 + 1) v1 (((w52.setCell ⟨w.heap.size + 1 + 1, 0, none⟩ (.bool bi)).setCell ⟨w.heap.size + 1 + 1, 1, none⟩ (.slice Ai ni ci)).setCell ⟨w.heap.size + 1 + 1, 2, none⟩ (.slice Bi mi di)) := below_putR hB (Nat.le_refl _) (.bool bi) (.slice Ai ni ci) (.slice Bi mi di)
          replace cc : Below w.heap.size w (((w52.setCell ⟨w.heap.size + 1 + 1, 0, none⟩ (.bool bi)).setCell ⟨w.heap.size + 1 + 1, 1, none⟩ (.slice Ai ni ci)).setCell ⟨w.heap.size + 1 + 1, 2, none⟩ (.slice Bi mi di)) := below_putR cc (by omega) (.bool bi) (.slice Ai ni ci) (.slice Bi mi di)
          have es : (((w52.setCell ⟨w.heap.size + 1 + 1, 0, none⟩ (.bool bi)).setCell ⟨w.heap.size + 1 + 1, 1, none⟩ (.slice Ai ni ci)).setCell ⟨w.heap.size + 1 + 1, 2, none⟩ (.slice Bi mi di)).heap.size = w52.heap.size := by simp
          rw [← es] at ul yl
          clear u0 u1 u2 u3 u4 u5 z0_ z1_ z2_ z3_ z4_ z5_ hh_ es
          generalize ((w52.setCell ⟨w.heap.size + 1 + 1, 0, none⟩ (.bool bi)).setCell ⟨w.heap.size + 1 + 1, 1, none⟩ (.slice Ai ni ci)).setCell ⟨w.heap.size + 1 + 1, 2, none⟩ (.slice Bi mi di) = wp at *
          obtain ⟨u0, u1, u2, u3, u4, u5⟩ := bx
          obtain ⟨z0_, z1_, z2_, z3_, z4_, z5_⟩ := fx
          refine (qcmp_v' c2_ hr si hhi sh H2.out).mono ?_
          rintro e w53 ⟨rfl, b⟩
          replace hB := hB.trans (b.mono (Nat.le_of_lt ul))
          rewrite [fR b ul] at z0_ z1_ z2_ z3_ z4_ z5_
          replace hr := hr.on b
          replace hlo := hlo.on b
          replace hhi := hhi.on b
          rewrite [cR b ul] at u0 u1 u2 u3 u4 u5
          replace ul := lK b ul
          rewrite [cR b yl] at y0 y1 y2
          replace yl := lK b yl
          replace cc := bK cc b
          clear b
          have BX := Lib.hid (show Box6 w53 (w.heap.size + 1 + 1) bi Ai ni ci Bi mi di pu Vu ru ku Uu ou qu from ⟨u0, u1, u2, u3, u4, u5⟩)
          have FX := Lib.hid (show Free6 w53 (w.heap.size + 1 + 1) from ⟨z0_, z1_, z2_, z3_, z4_, z5_⟩)
          have RL := Lib.hid hr
          have RH := Lib.hid hhi
          have HBX := Lib.hid hB
          go_wp2_with fail
          go_roundw
          case rel => exact ⟨_, i + 1, bi, Ai, ni, ci, Bi, mi, di, pu, Vu, ru, ku, Uu, ou, qu, rfl, by go_num, HI.out, BX.out, FX.out, by rw [DL2.out]; exact RL.out, by rw [DH2.out]; exact RH.out, HBX.out⟩
          case measure => have := HI.out; simp [intOf]; omega
      · by_cases q2 : 0 ≤ c2_
        · skip
          have yq : w.heap.size + 1 + 1 < wv.heap.size := ul
          have t1 : decide (c1_ < 0) = false := decide_eq_false q1
          have t2 : decide (0 ≤ c2_) = true := decide_eq_true q2
          have DL2 : Hid (lowR X (i + 1 + 1) = lo) := Lib.hid (by rw [DL.out, if_neg (fun h => q1 (by rw [← H1.out]; exact cmpQ_neg.2 h))])
          have DH2 : Hid (highR X (i + 1 + 1) = xi) := Lib.hid (by rw [DH.out]; exact high_up (cmpQ_nneg.1 (by rw [H2.out]; exact q2)))
          clear q1 q2 DL DH
          replace cc := ccv
          clear ccv
          go_wp2_with fail
          generalize hv_ : wv.alloc (.cells #[.bool bi, .slice Ai ni ci, .slice Bi mi di] 27) = v51
          have bA : Below wv.heap.size wv v51 := by rw [← hv_]; exact below_one _ _
          replace hB := hB.trans (bA.mono (Nat.le_of_lt ul))
          rewrite [fR bA ul] at z0_ z1_ z2_ z3_ z4_ z5_
          replace hr := hr.on bA
          replace hlo := hlo.on bA
          replace hhi := hhi.on bA
          rewrite [cR bA ul] at u0 u1 u2 u3 u4 u5
          replace ul := lK bA ul
          replace cc := bK cc bA
          clear bA
          obtain ⟨y0, y1, y2⟩ : Cs3 v51 wv.heap.size (.bool bi) (.slice Ai ni ci) (.slice Bi mi di) := by simp [Cs3, ← hv_, go_sem]
          have yl : wv.heap.size < v51.heap.size := by simp [← hv_]
          clear hv_
          go_wp2_with fail
          refine (qcmp_v' c1_ hr si hlo sl H1.out).mono ?_
          rintro e w52 ⟨rfl, b⟩
          replace hB := hB.trans (b.mono (Nat.le_of_lt ul))
          rewrite [fR b ul] at z0_ z1_ z2_ z3_ z4_ z5_
          replace hr := hr.on b
          replace hlo := hlo.on b
          replace hhi := hhi.on b
          rewrite [cR b ul] at u0 u1 u2 u3 u4 u5
          replace ul := lK b ul
          rewrite [cR b yl] at y0 y1 y2
          replace yl := lK b yl
          replace cc := bK cc b
          clear b
          go_wp2_with fail
          refine (qcmp_v' c2_ hr si hhi sh H2.out).mono ?_
          rintro e w53 ⟨rfl, b⟩
          replace hB := hB.trans (b.mono (Nat.le_of_lt ul))
          rewrite [fR b ul] at z0_ z1_ z2_ z3_ z4_ z5_
          replace hr := hr.on b
          replace hlo := hlo.on b
          replace hhi := hhi.on b
          rewrite [cR b ul] at u0 u1 u2 u3 u4 u5
          replace ul := lK b ul
          rewrite [cR b yl] at y0 y1 y2
          replace yl := lK b yl
          replace cc := bK cc b
          clear b
          have hh_ : Held w53 (w.heap.size + 1 + 1) := Held.of ⟨u0, u1, u2, u3, u4, u5⟩
          have BX := Lib.hid (box6_high (b1 := bi) (A1 := Ai) (n1 := ni) (c1 := ci) (B1 := Bi) (m1 := mi) (d1 := di) ⟨u0, u1, u2, u3, u4, u5⟩)
          have FX : Hid (Free6 (putH w53 (w.heap.size + 1 + 1) (.bool bi) (.slice Ai ni ci) (.slice Bi mi di)) (w.heap.size + 1 + 1)) := Lib.hid (free6_set (free6_set (free6_set ⟨z0_, z1_, z2_, z3_, z4_, z5_⟩)))
          have RL : Hid (Rt (putH w53 (w.heap.size + 1 + 1) (.bool bi) (.slice Ai ni ci) (.slice Bi mi di)) bu Au nu cu Bu mu du lo) := Lib.hid (rt_high hlo hh_)
          have RH : Hid (Rt (putH w53 (w.heap.size + 1 + 1) (.bool bi) (.slice Ai ni ci) (.slice Bi mi di)) bi Ai ni ci Bi mi di xi) := Lib.hid (rt_high hr hh_)
          have HBX := Lib.hid (below_putH hB (Nat.le_refl _) (.bool bi) (.slice Ai ni ci) (.slice Bi mi di))
          clear hh_ hr hlo hhi
          go_wp2_with fail
          go_roundw
          case rel => exact ⟨_, i + 1, bu, Au, nu, cu, Bu, mu, du, bi, Ai, ni, ci, Bi, mi, di, rfl, by go_num, HI.out, BX.out, FX.out, by rw [DL2.out]; exact RL.out, by rw [DH2.out]; exact RH.out, HBX.out⟩
          case measure => have := HI.out; simp [intOf]; omega
        · skip
          have yq : w.heap.size + 1 + 1 < wv.heap.size := ul
          have t1 : decide (c1_ < 0) = false := decide_eq_false q1
          have t2 : decide (0 ≤ c2_) = false := decide_eq_false q2
          have DL2 : Hid (lowR X (i + 1 + 1) = lo) := Lib.hid (by rw [DL.out, if_neg (fun h => q1 (by rw [← H1.out]; exact cmpQ_neg.2 h))])
          have DH2 : Hid (highR X (i + 1 + 1) = hi_) := Lib.hid (by rw [DH.out]; exact if_neg (fun h => q2 (by rw [← H2.out]; exact cmpQ_nneg.2 (Rat.le_of_lt h))))
          clear q1 q2 DL DH
          replace cc := ccv
          clear ccv
          go_wp2_with fail
          generalize hv_ : wv.alloc (.cells #[.bool bi, .slice Ai ni ci, .slice Bi mi di] 27) = v51
          have bA : Below wv.heap.size wv v51 := by rw [← hv_]; exact below_one _ _
          replace hB := hB.trans (bA.mono (Nat.le_of_lt ul))
          rewrite [fR bA ul] at z0_ z1_ z2_ z3_ z4_ z5_
          replace hr := hr.on bA
          replace hlo := hlo.on bA
          replace hhi := hhi.on bA
          rewrite [cR bA ul] at u0 u1 u2 u3 u4 u5
          replace ul := lK bA ul
          replace cc := bK cc bA
          clear bA
          obtain ⟨y0, y1, y2⟩ : Cs3 v51 wv.heap.size (.bool bi) (.slice Ai ni ci) (.slice Bi mi di) := by simp [Cs3, ← hv_, go_sem]
          have yl : wv.heap.size < v51.heap.size := by simp [← hv_]
          clear hv_
          go_wp2_with fail
          refine (qcmp_v' c1_ hr si hlo sl H1.out).mono ?_
          rintro e w52 ⟨rfl, b⟩
          replace hB := hB.trans (b.mono (Nat.le_of_lt ul))
          rewrite [fR b ul] at z0_ z1_ z2_ z3_ z4_ z5_
          replace hr := hr.on b
          replace hlo := hlo.on b
          replace hhi := hhi.on b
          rewrite [cR b ul] at u0 u1 u2 u3 u4 u5
          replace ul := lK b ul
          rewrite [cR b yl] at y0 y1 y2
          replace yl := lK b yl
          replace cc := bK cc b
          clear b
          go_wp2_with fail
          refine (qcmp_v' c2_ hr si hhi sh H2.out).mono ?_
          rintro e w53 ⟨rfl, b⟩
          replace hB := hB.trans (b.mono (Nat.le_of_lt ul))
          rewrite [fR b ul] at z0_ z1_ z2_ z3_ z4_ z5_
          replace hr := hr.on b
          replace hlo := hlo.on b
          replace hhi := hhi.on b
          rewrite [cR b ul] at u0 u1 u2 u3 u4 u5
          replace ul := lK b ul
          rewrite [cR b yl] at y0 y1 y2
          replace yl := lK b yl
          replace cc := bK cc b
          clear b
          have BX := Lib.hid (show Box6 w53 (w.heap.size + 1 + 1) bu Au nu cu Bu mu du pu Vu ru ku Uu ou qu from ⟨u0, u1, u2, u3, u4, u5⟩)
          have FX := Lib.hid (show Free6 w53 (w.heap.size + 1 + 1) from ⟨z0_, z1_, z2_, z3_, z4_, z5_⟩)
          have RL := Lib.hid hlo
          have RH := Lib.hid hhi
          have HBX := Lib.hid hB
          go_wp2_with fail
          go_roundw
          case rel => exact ⟨_, i + 1, bu, Au, nu, cu, Bu, mu, du, pu, Vu, ru, ku, Uu, ou, qu, rfl, by go_num, HI.out, BX.out, FX.out, by rw [DL2.out]; exact RL.out, by rw [DH2.out]; exact RH.out, HBX.out⟩
          case measure => have := HI.out; simp [intOf]; omega
    · obtain rfl : i = N := by omega
      have gb2 : Box6 wv (w.heap.size + 1) false none 0 0 none 0 0 false none 0 0 none 0 0 := ⟨(hB.cell (p := ⟨w.heap.size + 1, 0, none⟩) gq).trans gb.1, (hB.cell (p := ⟨w.heap.size + 1, 1, none⟩) gq).trans gb.2.1, (hB.cell (p := ⟨w.heap.size + 1, 2, none⟩) gq).trans gb.2.2.1, (hB.cell (p := ⟨w.heap.size + 1, 3, none⟩) gq).trans gb.2.2.2.1, (hB.cell (p := ⟨w.heap.size + 1, 4, none⟩) gq).trans gb.2.2.2.2.1, (hB.cell (p := ⟨w.heap.size + 1, 5, none⟩) gq).trans gb.2.2.2.2.2⟩
      obtain ⟨g_0, g_1, g_2, g_3, g_4, g_5⟩ := gb2
      have f0 := (hB.frozen (p := ⟨w.heap.size + 1, 0, none⟩) gq).trans gf.1
      have f1 := (hB.frozen (p := ⟨w.heap.size + 1, 1, none⟩) gq).trans gf.2.1
      have f2 := (hB.frozen (p := ⟨w.heap.size + 1, 2, none⟩) gq).trans gf.2.2.1
      have f3 := (hB.frozen (p := ⟨w.heap.size + 1, 3, none⟩) gq).trans gf.2.2.2.1
      have f4 := (hB.frozen (p := ⟨w.heap.size + 1, 4, none⟩) gq).trans gf.2.2.2.2.1
      have f5 := (hB.frozen (p := ⟨w.heap.size + 1, 5, none⟩) gq).trans gf.2.2.2.2.2
      replace cc := ccv
      clear ccv hrow gb gf
      have hb_ : Held wv (w.heap.size + 1) := held6 g_0 g_1 g_2 g_3 g_4 g_5
      have HL : Hid (Rt (putS wv (w.heap.size + 1) (.bool bu) (.slice Au nu cu) (.slice Bu mu du) (.bool pu) (.slice Vu ru ku) (.slice Uu ou qu)) bu Au nu cu Bu mu du (lowR X (i + 1))) := Lib.hid (Rt.putS hlo hb_ _ _)
      have HH : Hid (Rt (putS wv (w.heap.size + 1) (.bool bu) (.slice Au nu cu) (.slice Bu mu du) (.bool pu) (.slice Vu ru ku) (.slice Uu ou qu)) pu Vu ru ku Uu ou qu (highR X (i + 1))) := Lib.hid (Rt.putS hhi hb_ _ _)
      go_wp2_with fail
      refine bodyPost_ret (v := .agg #[.bool bu, .slice Au nu cu, .slice Bu mu du, .bool pu, .slice Vu ru ku, .slice Uu ou qu]) (by simp [results, Tryz.results49, go_sem, g_0, g_1, g_2, g_3, g_4, g_5]) rfl ⟨_, _, _, _, _, _, _, _, _, _, _, _, _, _, rfl, ⟨HL.out, HH.out⟩, below_putS cc (by omega) _ _ _ _ _ _⟩

end Go.Proofs.YtanpklbconflmaaGreat
