/-
  Several texts in one: JMb, JMc, PZ, KS, H7, H8, K9, MathR, M15, C15a.
-/
import Derived.Test.YtckdbcngnghhiaaA5
import Derived.Test.YtckdbcngnghhiaaA4
import Derived.Test.YtckdbcngnghhiaaA2
import Derived.Test.YtckdbcngnghhiaaA1

/-
  The contract of the landed mom: step.
-/
namespace Go.Proofs.Ytckdbcngnghhiaa
set_option maxRecDepth 100000
set_option maxHeartbeats 8000000
open Go.RowKit
set_option linter.unusedVariables false
set_option linter.unusedSimpArgs false

theorem flags17 : ∀ q a b c d e x y z : Bool, (q && a && b && c && d && e && x && y && z) = (q && (((a && b) && ((c && (a && b) && d) && e) && x) && y && z)) := by decide
theorem flagf17 : ∀ q a b c d y z : Bool, (q && a && b && c && d && y && z) = (q && ((c && (a && b) && d) && y && z)) := by decide

theorem kstep_t {W : World} {g : Nat} {f lr mu wd x0 x1 x2 : Int} {q : Bool} (f0 : 0 ≤ f) (f1 : f ≤ 40) (hl : I64 lr) (hm : I64 mu) (hd : I64 wd) (h0 : I64 x0) (h1 : I64 x1) (h2 : I64 x2) (h : Rk W g f lr mu wd true q) :
    Calls Try.prog 24 #[.pointer (some ⟨g, 0, none⟩), .int .i64 x0, .int .i64 x1, .int .i64 x2] W (GotK W g f lr mu wd true (q && (stW lr mu wd true f.toNat x0 x1 x2).2) (.tuple #[.int .i64 (stW lr mu wd true f.toNat x0 x1 x2).1, .int .i64 (stV mu wd f.toNat x0 x1 x2).1])) := by
  obtain ⟨K, hK⟩ : ∃ K, f.toNat = K := ⟨_, rfl⟩
  obtain ⟨P, eP⟩ : ∃ P : Nm, nMul K (wd, true) (x0, true) = P := ⟨_, rfl⟩
  have iP : I64 P.1 := by rw [← eP]; exact nMul_i64 _ _ _
  obtain ⟨dP, hdP⟩ : ∃ d, decide (I64 (rn (wd * x0) (2 ^ K))) = d := ⟨_, rfl⟩
  have CP : ∀ {W : World} {q : Bool}, Rk W g f lr mu wd true q → Calls Try.prog 38 #[.pointer (some ⟨g, 0, none⟩), .int .i64 wd, .int .i64 x0] W (GotK W g f lr mu wd true (q && dP) (.int .i64 P.1)) := fun {W q} h => by have c := kMul_N hd h0 f0 f1 h; rw [hK, hdP, show nI (rn (wd * x0) (2 ^ K)) = P.1 by rw [← eP]; rfl] at c; exact c
  have gP : P.2 = (dP) := by rw [← eP, ← hdP]; rfl
  obtain ⟨D, eD⟩ : ∃ D : Nm, nAdd (x2, true) P = D := ⟨_, rfl⟩
  have iD : I64 D.1 := by rw [← eD]; exact nAdd_i64 _ _
  obtain ⟨dD, hdD⟩ : ∃ d, decide (I64 (x2 + P.1)) = d := ⟨_, rfl⟩
  have CD : ∀ {W : World} {q : Bool}, Rk W g f lr mu wd true q → Calls Try.prog 37 #[.pointer (some ⟨g, 0, none⟩), .int .i64 x2, .int .i64 P.1] W (GotK W g f lr mu wd true (q && dD) (.int .i64 D.1)) := fun {W q} h => by have c := kAdd_N h2 iP h; rw [hdD, show nI (x2 + P.1) = D.1 by rw [← eD]; rfl] at c; exact c
  have gD : D.2 = (P.2 && dD) := by rw [← eD, ← hdD]; rfl
  obtain ⟨R, eR⟩ : ∃ R : Nm, nMul K (mu, true) (x1, true) = R := ⟨_, rfl⟩
  have iR : I64 R.1 := by rw [← eR]; exact nMul_i64 _ _ _
  obtain ⟨dR, hdR⟩ : ∃ d, decide (I64 (rn (mu * x1) (2 ^ K))) = d := ⟨_, rfl⟩
  have CR : ∀ {W : World} {q : Bool}, Rk W g f lr mu wd true q → Calls Try.prog 38 #[.pointer (some ⟨g, 0, none⟩), .int .i64 mu, .int .i64 x1] W (GotK W g f lr mu wd true (q && dR) (.int .i64 R.1)) := fun {W q} h => by have c := kMul_N hm h1 f0 f1 h; rw [hK, hdR, show nI (rn (mu * x1) (2 ^ K)) = R.1 by rw [← eR]; rfl] at c; exact c
  have gR : R.2 = (dR) := by rw [← eR, ← hdR]; rfl
  obtain ⟨G, eG⟩ : ∃ G : Nm, nAdd R D = G := ⟨_, rfl⟩
  have iG : I64 G.1 := by rw [← eG]; exact nAdd_i64 _ _
  obtain ⟨dG, hdG⟩ : ∃ d, decide (I64 (R.1 + D.1)) = d := ⟨_, rfl⟩
  have CG : ∀ {W : World} {q : Bool}, Rk W g f lr mu wd true q → Calls Try.prog 37 #[.pointer (some ⟨g, 0, none⟩), .int .i64 R.1, .int .i64 D.1] W (GotK W g f lr mu wd true (q && dG) (.int .i64 G.1)) := fun {W q} h => by have c := kAdd_N iR iD h; rw [hdG, show nI (R.1 + D.1) = G.1 by rw [← eG]; rfl] at c; exact c
  have gG : G.2 = (R.2 && D.2 && dG) := by rw [← eG, ← hdG]; rfl
  obtain ⟨N, eN⟩ : ∃ N : Nm, nMul K (mu, true) G = N := ⟨_, rfl⟩
  have iN : I64 N.1 := by rw [← eN]; exact nMul_i64 _ _ _
  obtain ⟨dN, hdN⟩ : ∃ d, decide (I64 (rn (mu * G.1) (2 ^ K))) = d := ⟨_, rfl⟩
  have CN : ∀ {W : World} {q : Bool}, Rk W g f lr mu wd true q → Calls Try.prog 38 #[.pointer (some ⟨g, 0, none⟩), .int .i64 mu, .int .i64 G.1] W (GotK W g f lr mu wd true (q && dN) (.int .i64 N.1)) := fun {W q} h => by have c := kMul_N hm iG f0 f1 h; rw [hK, hdN, show nI (rn (mu * G.1) (2 ^ K)) = N.1 by rw [← eN]; rfl] at c; exact c
  have gN : N.2 = (G.2 && dN) := by rw [← eN, ← hdN]; rfl
  obtain ⟨U, eU⟩ : ∃ U : Nm, nAdd D N = U := ⟨_, rfl⟩
  have iU : I64 U.1 := by rw [← eU]; exact nAdd_i64 _ _
  obtain ⟨dU, hdU⟩ : ∃ d, decide (I64 (D.1 + N.1)) = d := ⟨_, rfl⟩
  have CU : ∀ {W : World} {q : Bool}, Rk W g f lr mu wd true q → Calls Try.prog 37 #[.pointer (some ⟨g, 0, none⟩), .int .i64 D.1, .int .i64 N.1] W (GotK W g f lr mu wd true (q && dU) (.int .i64 U.1)) := fun {W q} h => by have c := kAdd_N iD iN h; rw [hdU, show nI (D.1 + N.1) = U.1 by rw [← eU]; rfl] at c; exact c
  have gU : U.2 = (D.2 && N.2 && dU) := by rw [← eU, ← hdU]; rfl
  obtain ⟨M, eM⟩ : ∃ M : Nm, nMul K (lr, true) U = M := ⟨_, rfl⟩
  have iM : I64 M.1 := by rw [← eM]; exact nMul_i64 _ _ _
  obtain ⟨dM, hdM⟩ : ∃ d, decide (I64 (rn (lr * U.1) (2 ^ K))) = d := ⟨_, rfl⟩
  have CM : ∀ {W : World} {q : Bool}, Rk W g f lr mu wd true q → Calls Try.prog 38 #[.pointer (some ⟨g, 0, none⟩), .int .i64 lr, .int .i64 U.1] W (GotK W g f lr mu wd true (q && dM) (.int .i64 M.1)) := fun {W q} h => by have c := kMul_N hl iU f0 f1 h; rw [hK, hdM, show nI (rn (lr * U.1) (2 ^ K)) = M.1 by rw [← eM]; rfl] at c; exact c
  have gM : M.2 = (U.2 && dM) := by rw [← eM, ← hdM]; rfl
  obtain ⟨Y, eY⟩ : ∃ Y : Nm, nSub (x0, true) M = Y := ⟨_, rfl⟩
  have iY : I64 Y.1 := by rw [← eY]; exact nSub_i64 _ _
  obtain ⟨dY, hdY⟩ : ∃ d, decide (I64 (x0 - M.1)) = d := ⟨_, rfl⟩
  have CY : ∀ {W : World} {q : Bool}, Rk W g f lr mu wd true q → Calls Try.prog 39 #[.pointer (some ⟨g, 0, none⟩), .int .i64 x0, .int .i64 M.1] W (GotK W g f lr mu wd true (q && dY) (.int .i64 Y.1)) := fun {W q} h => by have c := kSub_N h0 iM h; rw [hdY, show nI (x0 - M.1) = Y.1 by rw [← eY]; rfl] at c; exact c
  have gY : Y.2 = (M.2 && dY) := by rw [← eY, ← hdY]; rfl
  have hV : stV mu wd K x0 x1 x2 = G := by unfold stV stD nOf; rw [eP, eD, eR, eG]
  have hU : stU mu wd true K x0 x1 x2 = U := by unfold stU; rw [hV]; unfold stD nOf; rw [if_pos rfl, eP, eD, eN, eU]
  have hW : stW lr mu wd true K x0 x1 x2 = Y := by unfold stW nOf; rw [hU, eM, eY]
  rw [hK, hV, hW]
  have HY : Hid ((q && dP && dD && dR && dG && dN && dU && dM && dY) = (q && Y.2)) := Lib.hid (by rw [gY, gM, gU, gN, gG, gR, gD, gP]; exact flags17 _ _ _ _ _ _ _ _ _)
  have HB := Lib.hid (Sp.refl g W)
  clear eP iP hdP gP eD iD hdD gD eR iR hdR gR eG iG hdG gG eN iN hdN gN eU iU hdU gU eM iM hdM gM eY iY hdY gY h0 h1 h2 hl hm hd hV hU hW hK f0 f1
  have HR := Lib.hid h
  have z := h.cells
  obtain ⟨z0, z1, z2, z3, z4, z5⟩ := z
  clear h z0 z1
  go_enter Try.func24, Try.ntmps24
  have h := HR.out
  have s := HB.out
  go_upto_region 1 with fail
  have bD := below_drewN (Below.refl W.heap.size W) 1
  replace s := s.trans (Sp.of (Nat.le_of_lt h.lt) bD)
  replace h := h.on bD
  clear bD
  refine wp_region_held_drew (S := fun w' => w'.cell? ⟨g, 2, none⟩ = some (.int .i64 lr) ∧ w'.cell? ⟨g, 3, none⟩ = some (.int .i64 mu) ∧ w'.cell? ⟨g, 4, none⟩ = some (.int .i64 wd) ∧ w'.cell? ⟨g, 5, none⟩ = some (.bool true)) (by kernel_rfl) ?_ (fun hHeld => ?_)
  · exact h.cells.2.2
  refine tY (i := 0) (v := ?_) rfl ?_ hHeld ?_
  rotate_left
  · (intro w hSw; (try dsimp only at hSw); go_simp; (try with_reducible rfl))
  try simp only [Act.put, pT]
  refine tY (i := 1) (v := ?_) rfl ?_ hHeld ?_
  rotate_left
  · (intro w hSw; (try dsimp only at hSw); go_simp; (try with_reducible rfl))
  try simp only [Act.put, pT]
  refine tY (i := 2) (v := ?_) rfl ?_ hHeld ?_
  rotate_left
  · (intro w hSw; (try dsimp only at hSw); go_simp; (try with_reducible rfl))
  try simp only [Act.put, pT]
  refine tY (i := 3) (v := ?_) rfl ?_ hHeld ?_
  rotate_left
  · (intro w hSw; (try dsimp only at hSw); go_simp; (try with_reducible rfl))
  try simp only [Act.put, pT]
  refine tY (i := 4) (v := ?_) rfl ?_ hHeld ?_
  rotate_left
  · (intro w hSw; (try dsimp only at hSw); go_simp; (try with_reducible rfl))
  try simp only [Act.put, pT]
  refine tY (i := 5) (v := ?_) rfl ?_ hHeld ?_
  rotate_left
  · (intro w hSw; (try dsimp only at hSw); go_simp; (try with_reducible rfl))
  try simp only [Act.put, pT]
  refine tY (i := 6) (v := ?_) rfl ?_ hHeld ?_
  rotate_left
  · (intro w hSw; (try dsimp only at hSw); go_simp; (try with_reducible rfl))
  try simp only [Act.put, pT]
  refine tY (i := 7) (v := ?_) rfl ?_ hHeld ?_
  rotate_left
  · (intro w hSw; (try dsimp only at hSw); go_simp; (try with_reducible rfl))
  try simp only [Act.put, pT]
  refine tY (i := 8) (v := ?_) rfl ?_ hHeld ?_
  rotate_left
  · (intro w hSw; (try dsimp only at hSw); go_simp; (try with_reducible rfl))
  try simp only [Act.put, pT]
  refine tY (i := 9) (v := ?_) rfl ?_ hHeld ?_
  rotate_left
  · (intro w hSw; (try dsimp only at hSw); go_simp; (try with_reducible rfl))
  try simp only [Act.put, pT]
  refine tY (i := 10) (v := ?_) rfl ?_ hHeld ?_
  rotate_left
  · (intro w hSw; (try dsimp only at hSw); go_simp; (try with_reducible rfl))
  try simp only [Act.put, pT]
  refine tY (i := 11) (v := ?_) rfl ?_ hHeld ?_
  rotate_left
  · (intro w hSw; (try dsimp only at hSw); go_simp; (try with_reducible rfl))
  try simp only [Act.put, pT]
  refine tY (i := 12) (v := ?_) rfl ?_ hHeld ?_
  rotate_left
  · (intro w hSw; (try dsimp only at hSw); go_simp; (try with_reducible rfl))
  try simp only [Act.put, pT]
  refine wpAnyH_ready (rs := [13]) (by kernel_rfl) (by simp) ?_
  refine AllReadyH.cons rfl (fun K hK => ?_) AllReadyH.nil
  (try simp only [pT])
  rw [if_pos (by rfl)]
  go_simp
  go_at_call 38
  refine (CP h).mono ?_
  rintro e V1 ⟨rfl, h_, s_⟩
  replace s := s.trans s_
  replace h := h_
  clear s_ h_
  refine hK.out _ _ ?_ (fun hHeld => ?_)
  · exact h.cells.2.2
  clear hK K
  try simp only [Act.put, pT]
  refine wpAnyH_ready (rs := [14]) (by kernel_rfl) (by simp) ?_
  refine AllReadyH.cons rfl (fun K hK => ?_) AllReadyH.nil
  (try simp only [pT])
  rw [if_pos (by rfl)]
  go_simp
  go_at_call 37
  refine (CD h).mono ?_
  rintro e V2 ⟨rfl, h_, s_⟩
  replace s := s.trans s_
  replace h := h_
  clear s_ h_
  refine hK.out _ _ ?_ (fun hHeld => ?_)
  · exact h.cells.2.2
  clear hK K
  try simp only [Act.put, pT]
  refine tY (i := 15) (v := ?_) rfl ?_ hHeld ?_
  rotate_left
  · (intro w hSw; (try dsimp only at hSw); go_simp; (try with_reducible rfl))
  try simp only [Act.put, pT]
  refine wpAnyH_done (by kernel_rfl) ?_ _
  clear hHeld
  go_upto_region 2 with fail
  have bD := below_drewN (Below.refl V2.heap.size V2) 1
  replace s := s.trans (Sp.of (Nat.le_of_lt h.lt) bD)
  replace h := h.on bD
  clear bD
  refine wp_region_held_drew (S := fun w' => w'.cell? ⟨g, 2, none⟩ = some (.int .i64 lr) ∧ w'.cell? ⟨g, 3, none⟩ = some (.int .i64 mu) ∧ w'.cell? ⟨g, 4, none⟩ = some (.int .i64 wd) ∧ w'.cell? ⟨g, 5, none⟩ = some (.bool true)) (by kernel_rfl) ?_ (fun hHeld => ?_)
  · exact h.cells.2.2
  refine tY (i := 0) (v := ?_) rfl ?_ hHeld ?_
  rotate_left
  · (intro w hSw; (try dsimp only at hSw); go_simp; (try with_reducible rfl))
  try simp only [Act.put, pT]
  refine tY (i := 1) (v := ?_) rfl ?_ hHeld ?_
  rotate_left
  · (intro w hSw; (try dsimp only at hSw); go_simp; (try with_reducible rfl))
  try simp only [Act.put, pT]
  refine tY (i := 2) (v := ?_) rfl ?_ hHeld ?_
  rotate_left
  · (intro w hSw; (try dsimp only at hSw); go_simp; (try with_reducible rfl))
  try simp only [Act.put, pT]
  refine tY (i := 3) (v := ?_) rfl ?_ hHeld ?_
  rotate_left
  · (intro w hSw; (try dsimp only at hSw); go_simp; (try with_reducible rfl))
  try simp only [Act.put, pT]
  refine tY (i := 4) (v := ?_) rfl ?_ hHeld ?_
  rotate_left
  · (intro w hSw; (try dsimp only at hSw); go_simp; (try with_reducible rfl))
  try simp only [Act.put, pT]
  refine tY (i := 5) (v := ?_) rfl ?_ hHeld ?_
  rotate_left
  · (intro w hSw; (try dsimp only at hSw); go_simp; (try with_reducible rfl))
  try simp only [Act.put, pT]
  refine tY (i := 6) (v := ?_) rfl ?_ hHeld ?_
  rotate_left
  · (intro w hSw; (try dsimp only at hSw); go_simp; (try with_reducible rfl))
  try simp only [Act.put, pT]
  refine tY (i := 7) (v := ?_) rfl ?_ hHeld ?_
  rotate_left
  · (intro w hSw; (try dsimp only at hSw); go_simp; (try with_reducible rfl))
  try simp only [Act.put, pT]
  refine tY (i := 8) (v := ?_) rfl ?_ hHeld ?_
  rotate_left
  · (intro w hSw; (try dsimp only at hSw); go_simp; (try with_reducible rfl))
  try simp only [Act.put, pT]
  refine tY (i := 9) (v := ?_) rfl ?_ hHeld ?_
  rotate_left
  · (intro w hSw; (try dsimp only at hSw); go_simp; (try with_reducible rfl))
  try simp only [Act.put, pT]
  refine tY (i := 10) (v := ?_) rfl ?_ hHeld ?_
  rotate_left
  · (intro w hSw; (try dsimp only at hSw); go_simp; (try with_reducible rfl))
  try simp only [Act.put, pT]
  refine tY (i := 11) (v := ?_) rfl ?_ hHeld ?_
  rotate_left
  · (intro w hSw; (try dsimp only at hSw); go_simp; (try with_reducible rfl))
  try simp only [Act.put, pT]
  refine tY (i := 13) (v := ?_) rfl ?_ hHeld ?_
  rotate_left
  · (intro w hSw; (try dsimp only at hSw); go_simp; (try with_reducible rfl))
  try simp only [Act.put, pT]
  refine wpAnyH_ready (rs := [12]) (by kernel_rfl) (by simp) ?_
  refine AllReadyH.cons rfl (fun K hK => ?_) AllReadyH.nil
  (try simp only [pT])
  rw [if_pos (by rfl)]
  go_simp
  go_at_call 38
  refine (CR h).mono ?_
  rintro e V3 ⟨rfl, h_, s_⟩
  replace s := s.trans s_
  replace h := h_
  clear s_ h_
  refine hK.out _ _ ?_ (fun hHeld => ?_)
  · exact h.cells.2.2
  clear hK K
  try simp only [Act.put, pT]
  refine wpAnyH_ready (rs := [14]) (by kernel_rfl) (by simp) ?_
  refine AllReadyH.cons rfl (fun K hK => ?_) AllReadyH.nil
  (try simp only [pT])
  rw [if_pos (by rfl)]
  go_simp
  go_at_call 37
  refine (CG h).mono ?_
  rintro e V4 ⟨rfl, h_, s_⟩
  replace s := s.trans s_
  replace h := h_
  clear s_ h_
  refine hK.out _ _ ?_ (fun hHeld => ?_)
  · exact h.cells.2.2
  clear hK K
  try simp only [Act.put, pT]
  refine tY (i := 15) (v := ?_) rfl ?_ hHeld ?_
  rotate_left
  · (intro w hSw; (try dsimp only at hSw); go_simp; (try with_reducible rfl))
  try simp only [Act.put, pT]
  refine wpAnyH_done (by kernel_rfl) ?_ _
  clear hHeld
  have z5 := h.cells.2.2.2.2.2
  go_upto_region 5 with fail
  have bD := below_drewN (Below.refl V4.heap.size V4) 1
  replace s := s.trans (Sp.of (Nat.le_of_lt h.lt) bD)
  replace h := h.on bD
  clear bD
  refine wp_region_held_drew (S := fun w' => w'.cell? ⟨g, 2, none⟩ = some (.int .i64 lr) ∧ w'.cell? ⟨g, 3, none⟩ = some (.int .i64 mu) ∧ w'.cell? ⟨g, 4, none⟩ = some (.int .i64 wd) ∧ w'.cell? ⟨g, 5, none⟩ = some (.bool true)) (by kernel_rfl) ?_ (fun hHeld => ?_)
  · exact h.cells.2.2
  refine tY (i := 0) (v := ?_) rfl ?_ hHeld ?_
  rotate_left
  · (intro w hSw; (try dsimp only at hSw); go_simp; (try with_reducible rfl))
  try simp only [Act.put, pT]
  refine tY (i := 1) (v := ?_) rfl ?_ hHeld ?_
  rotate_left
  · (intro w hSw; (try dsimp only at hSw); go_simp; (try with_reducible rfl))
  try simp only [Act.put, pT]
  refine tY (i := 2) (v := ?_) rfl ?_ hHeld ?_
  rotate_left
  · (intro w hSw; (try dsimp only at hSw); go_simp; (try with_reducible rfl))
  try simp only [Act.put, pT]
  refine tY (i := 3) (v := ?_) rfl ?_ hHeld ?_
  rotate_left
  · (intro w hSw; (try dsimp only at hSw); go_simp; (try with_reducible rfl))
  try simp only [Act.put, pT]
  refine tY (i := 4) (v := ?_) rfl ?_ hHeld ?_
  rotate_left
  · (intro w hSw; (try dsimp only at hSw); go_simp; (try with_reducible rfl))
  try simp only [Act.put, pT]
  refine tY (i := 5) (v := ?_) rfl ?_ hHeld ?_
  rotate_left
  · (intro w hSw; (try dsimp only at hSw); go_simp; (try with_reducible rfl))
  try simp only [Act.put, pT]
  refine tY (i := 6) (v := ?_) rfl ?_ hHeld ?_
  rotate_left
  · (intro w hSw; (try dsimp only at hSw); go_simp; (try with_reducible rfl))
  try simp only [Act.put, pT]
  refine tY (i := 7) (v := ?_) rfl ?_ hHeld ?_
  rotate_left
  · (intro w hSw; (try dsimp only at hSw); go_simp; (try with_reducible rfl))
  try simp only [Act.put, pT]
  refine tY (i := 8) (v := ?_) rfl ?_ hHeld ?_
  rotate_left
  · (intro w hSw; (try dsimp only at hSw); go_simp; (try with_reducible rfl))
  try simp only [Act.put, pT]
  refine tY (i := 9) (v := ?_) rfl ?_ hHeld ?_
  rotate_left
  · (intro w hSw; (try dsimp only at hSw); go_simp; (try with_reducible rfl))
  try simp only [Act.put, pT]
  refine tY (i := 10) (v := ?_) rfl ?_ hHeld ?_
  rotate_left
  · (intro w hSw; (try dsimp only at hSw); go_simp; (try with_reducible rfl))
  try simp only [Act.put, pT]
  refine tY (i := 11) (v := ?_) rfl ?_ hHeld ?_
  rotate_left
  · (intro w hSw; (try dsimp only at hSw); go_simp; (try with_reducible rfl))
  try simp only [Act.put, pT]
  refine tY (i := 12) (v := ?_) rfl ?_ hHeld ?_
  rotate_left
  · (intro w hSw; (try dsimp only at hSw); go_simp; (try with_reducible rfl))
  try simp only [Act.put, pT]
  refine wpAnyH_ready (rs := [13]) (by kernel_rfl) (by simp) ?_
  refine AllReadyH.cons rfl (fun K hK => ?_) AllReadyH.nil
  (try simp only [pT])
  rw [if_pos (by rfl)]
  go_simp
  go_at_call 38
  refine (CN h).mono ?_
  rintro e V5 ⟨rfl, h_, s_⟩
  replace s := s.trans s_
  replace h := h_
  clear s_ h_
  refine hK.out _ _ ?_ (fun hHeld => ?_)
  · exact h.cells.2.2
  clear hK K
  try simp only [Act.put, pT]
  refine wpAnyH_ready (rs := [14]) (by kernel_rfl) (by simp) ?_
  refine AllReadyH.cons rfl (fun K hK => ?_) AllReadyH.nil
  (try simp only [pT])
  rw [if_pos (by rfl)]
  go_simp
  go_at_call 37
  refine (CU h).mono ?_
  rintro e V6 ⟨rfl, h_, s_⟩
  replace s := s.trans s_
  replace h := h_
  clear s_ h_
  refine hK.out _ _ ?_ (fun hHeld => ?_)
  · exact h.cells.2.2
  clear hK K
  try simp only [Act.put, pT]
  refine tY (i := 15) (v := ?_) rfl ?_ hHeld ?_
  rotate_left
  · (intro w hSw; (try dsimp only at hSw); go_simp; (try with_reducible rfl))
  try simp only [Act.put, pT]
  refine wpAnyH_done (by kernel_rfl) ?_ _
  clear hHeld
  go_upto_region 6 with fail
  have bD := below_drewN (Below.refl V6.heap.size V6) 1
  replace s := s.trans (Sp.of (Nat.le_of_lt h.lt) bD)
  replace h := h.on bD
  clear bD
  refine wp_region_held_drew (S := fun w' => w'.cell? ⟨g, 2, none⟩ = some (.int .i64 lr) ∧ w'.cell? ⟨g, 3, none⟩ = some (.int .i64 mu) ∧ w'.cell? ⟨g, 4, none⟩ = some (.int .i64 wd) ∧ w'.cell? ⟨g, 5, none⟩ = some (.bool true)) (by kernel_rfl) ?_ (fun hHeld => ?_)
  · exact h.cells.2.2
  refine tY (i := 0) (v := ?_) rfl ?_ hHeld ?_
  rotate_left
  · (intro w hSw; (try dsimp only at hSw); go_simp; (try with_reducible rfl))
  try simp only [Act.put, pT]
  refine tY (i := 1) (v := ?_) rfl ?_ hHeld ?_
  rotate_left
  · (intro w hSw; (try dsimp only at hSw); go_simp; (try with_reducible rfl))
  try simp only [Act.put, pT]
  refine tY (i := 2) (v := ?_) rfl ?_ hHeld ?_
  rotate_left
  · (intro w hSw; (try dsimp only at hSw); go_simp; (try with_reducible rfl))
  try simp only [Act.put, pT]
  refine tY (i := 3) (v := ?_) rfl ?_ hHeld ?_
  rotate_left
  · (intro w hSw; (try dsimp only at hSw); go_simp; (try with_reducible rfl))
  try simp only [Act.put, pT]
  refine tY (i := 4) (v := ?_) rfl ?_ hHeld ?_
  rotate_left
  · (intro w hSw; (try dsimp only at hSw); go_simp; (try with_reducible rfl))
  try simp only [Act.put, pT]
  refine tY (i := 5) (v := ?_) rfl ?_ hHeld ?_
  rotate_left
  · (intro w hSw; (try dsimp only at hSw); go_simp; (try with_reducible rfl))
  try simp only [Act.put, pT]
  refine tY (i := 6) (v := ?_) rfl ?_ hHeld ?_
  rotate_left
  · (intro w hSw; (try dsimp only at hSw); go_simp; (try with_reducible rfl))
  try simp only [Act.put, pT]
  refine tY (i := 7) (v := ?_) rfl ?_ hHeld ?_
  rotate_left
  · (intro w hSw; (try dsimp only at hSw); go_simp; (try with_reducible rfl))
  try simp only [Act.put, pT]
  refine tY (i := 8) (v := ?_) rfl ?_ hHeld ?_
  rotate_left
  · (intro w hSw; (try dsimp only at hSw); go_simp; (try with_reducible rfl))
  try simp only [Act.put, pT]
  refine tY (i := 9) (v := ?_) rfl ?_ hHeld ?_
  rotate_left
  · (intro w hSw; (try dsimp only at hSw); go_simp; (try with_reducible rfl))
  try simp only [Act.put, pT]
  refine tY (i := 10) (v := ?_) rfl ?_ hHeld ?_
  rotate_left
  · (intro w hSw; (try dsimp only at hSw); go_simp; (try with_reducible rfl))
  try simp only [Act.put, pT]
  refine tY (i := 11) (v := ?_) rfl ?_ hHeld ?_
  rotate_left
  · (intro w hSw; (try dsimp only at hSw); go_simp; (try with_reducible rfl))
  try simp only [Act.put, pT]
  refine tY (i := 12) (v := ?_) rfl ?_ hHeld ?_
  rotate_left
  · (intro w hSw; (try dsimp only at hSw); go_simp; (try with_reducible rfl))
  try simp only [Act.put, pT]
  refine tY (i := 15) (v := ?_) rfl ?_ hHeld ?_
  rotate_left
  · (intro w hSw; (try dsimp only at hSw); go_simp; (try with_reducible rfl))
  try simp only [Act.put, pT]
  refine wpAnyH_ready (rs := [13]) (by kernel_rfl) (by simp) ?_
  refine AllReadyH.cons rfl (fun K hK => ?_) AllReadyH.nil
  (try simp only [pT])
  rw [if_pos (by rfl)]
  go_simp
  go_at_call 38
  refine (CM h).mono ?_
  rintro e V7 ⟨rfl, h_, s_⟩
  replace s := s.trans s_
  replace h := h_
  clear s_ h_
  refine hK.out _ _ ?_ (fun hHeld => ?_)
  · exact h.cells.2.2
  clear hK K
  try simp only [Act.put, pT]
  refine wpAnyH_ready (rs := [14]) (by kernel_rfl) (by simp) ?_
  refine AllReadyH.cons rfl (fun K hK => ?_) AllReadyH.nil
  (try simp only [pT])
  rw [if_pos (by rfl)]
  go_simp
  go_at_call 39
  refine (CY h).mono ?_
  rintro e V8 ⟨rfl, h_, s_⟩
  replace s := s.trans s_
  replace h := h_
  clear s_ h_
  refine hK.out _ _ ?_ (fun hHeld => ?_)
  · exact h.cells.2.2
  clear hK K
  try simp only [Act.put, pT]
  refine tY (i := 16) (v := ?_) rfl ?_ hHeld ?_
  rotate_left
  · (intro w hSw; (try dsimp only at hSw); go_simp; (try with_reducible rfl))
  try simp only [Act.put, pT]
  refine tY (i := 17) (v := ?_) rfl ?_ hHeld ?_
  rotate_left
  · (intro w hSw; (try dsimp only at hSw); go_simp; (try with_reducible rfl))
  try simp only [Act.put, pT]
  refine wpAnyH_done (by kernel_rfl) ?_ _
  clear hHeld
  rw [HY.out] at h
  have HH := Lib.hid h
  have HS := Lib.hid s
  clear h s
  go_wp2_with fail
  go_ret2
  exact ⟨rfl, HH.out, HS.out⟩

theorem kstep_f {W : World} {g : Nat} {f lr mu wd x0 x1 x2 : Int} {q : Bool} (f0 : 0 ≤ f) (f1 : f ≤ 40) (hl : I64 lr) (hm : I64 mu) (hd : I64 wd) (h0 : I64 x0) (h1 : I64 x1) (h2 : I64 x2) (h : Rk W g f lr mu wd false q) :
    Calls Try.prog 24 #[.pointer (some ⟨g, 0, none⟩), .int .i64 x0, .int .i64 x1, .int .i64 x2] W (GotK W g f lr mu wd false (q && (stW lr mu wd false f.toNat x0 x1 x2).2) (.tuple #[.int .i64 (stW lr mu wd false f.toNat x0 x1 x2).1, .int .i64 (stV mu wd f.toNat x0 x1 x2).1])) := by
  obtain ⟨K, hK⟩ : ∃ K, f.toNat = K := ⟨_, rfl⟩
  obtain ⟨P, eP⟩ : ∃ P : Nm, nMul K (wd, true) (x0, true) = P := ⟨_, rfl⟩
  have iP : I64 P.1 := by rw [← eP]; exact nMul_i64 _ _ _
  obtain ⟨dP, hdP⟩ : ∃ d, decide (I64 (rn (wd * x0) (2 ^ K))) = d := ⟨_, rfl⟩
  have CP : ∀ {W : World} {q : Bool}, Rk W g f lr mu wd false q → Calls Try.prog 38 #[.pointer (some ⟨g, 0, none⟩), .int .i64 wd, .int .i64 x0] W (GotK W g f lr mu wd false (q && dP) (.int .i64 P.1)) := fun {W q} h => by have c := kMul_N hd h0 f0 f1 h; rw [hK, hdP, show nI (rn (wd * x0) (2 ^ K)) = P.1 by rw [← eP]; rfl] at c; exact c
  have gP : P.2 = (dP) := by rw [← eP, ← hdP]; rfl
  obtain ⟨D, eD⟩ : ∃ D : Nm, nAdd (x2, true) P = D := ⟨_, rfl⟩
  have iD : I64 D.1 := by rw [← eD]; exact nAdd_i64 _ _
  obtain ⟨dD, hdD⟩ : ∃ d, decide (I64 (x2 + P.1)) = d := ⟨_, rfl⟩
  have CD : ∀ {W : World} {q : Bool}, Rk W g f lr mu wd false q → Calls Try.prog 37 #[.pointer (some ⟨g, 0, none⟩), .int .i64 x2, .int .i64 P.1] W (GotK W g f lr mu wd false (q && dD) (.int .i64 D.1)) := fun {W q} h => by have c := kAdd_N h2 iP h; rw [hdD, show nI (x2 + P.1) = D.1 by rw [← eD]; rfl] at c; exact c
  have gD : D.2 = (P.2 && dD) := by rw [← eD, ← hdD]; rfl
  obtain ⟨R, eR⟩ : ∃ R : Nm, nMul K (mu, true) (x1, true) = R := ⟨_, rfl⟩
  have iR : I64 R.1 := by rw [← eR]; exact nMul_i64 _ _ _
  obtain ⟨dR, hdR⟩ : ∃ d, decide (I64 (rn (mu * x1) (2 ^ K))) = d := ⟨_, rfl⟩
  have CR : ∀ {W : World} {q : Bool}, Rk W g f lr mu wd false q → Calls Try.prog 38 #[.pointer (some ⟨g, 0, none⟩), .int .i64 mu, .int .i64 x1] W (GotK W g f lr mu wd false (q && dR) (.int .i64 R.1)) := fun {W q} h => by have c := kMul_N hm h1 f0 f1 h; rw [hK, hdR, show nI (rn (mu * x1) (2 ^ K)) = R.1 by rw [← eR]; rfl] at c; exact c
  have gR : R.2 = (dR) := by rw [← eR, ← hdR]; rfl
  obtain ⟨G, eG⟩ : ∃ G : Nm, nAdd R D = G := ⟨_, rfl⟩
  have iG : I64 G.1 := by rw [← eG]; exact nAdd_i64 _ _
  obtain ⟨dG, hdG⟩ : ∃ d, decide (I64 (R.1 + D.1)) = d := ⟨_, rfl⟩
  have CG : ∀ {W : World} {q : Bool}, Rk W g f lr mu wd false q → Calls Try.prog 37 #[.pointer (some ⟨g, 0, none⟩), .int .i64 R.1, .int .i64 D.1] W (GotK W g f lr mu wd false (q && dG) (.int .i64 G.1)) := fun {W q} h => by have c := kAdd_N iR iD h; rw [hdG, show nI (R.1 + D.1) = G.1 by rw [← eG]; rfl] at c; exact c
  have gG : G.2 = (R.2 && D.2 && dG) := by rw [← eG, ← hdG]; rfl
  obtain ⟨M, eM⟩ : ∃ M : Nm, nMul K (lr, true) G = M := ⟨_, rfl⟩
  have iM : I64 M.1 := by rw [← eM]; exact nMul_i64 _ _ _
  obtain ⟨dM, hdM⟩ : ∃ d, decide (I64 (rn (lr * G.1) (2 ^ K))) = d := ⟨_, rfl⟩
  have CM : ∀ {W : World} {q : Bool}, Rk W g f lr mu wd false q → Calls Try.prog 38 #[.pointer (some ⟨g, 0, none⟩), .int .i64 lr, .int .i64 G.1] W (GotK W g f lr mu wd false (q && dM) (.int .i64 M.1)) := fun {W q} h => by have c := kMul_N hl iG f0 f1 h; rw [hK, hdM, show nI (rn (lr * G.1) (2 ^ K)) = M.1 by rw [← eM]; rfl] at c; exact c
  have gM : M.2 = (G.2 && dM) := by rw [← eM, ← hdM]; rfl
  obtain ⟨Y, eY⟩ : ∃ Y : Nm, nSub (x0, true) M = Y := ⟨_, rfl⟩
  have iY : I64 Y.1 := by rw [← eY]; exact nSub_i64 _ _
  obtain ⟨dY, hdY⟩ : ∃ d, decide (I64 (x0 - M.1)) = d := ⟨_, rfl⟩
  have CY : ∀ {W : World} {q : Bool}, Rk W g f lr mu wd false q → Calls Try.prog 39 #[.pointer (some ⟨g, 0, none⟩), .int .i64 x0, .int .i64 M.1] W (GotK W g f lr mu wd false (q && dY) (.int .i64 Y.1)) := fun {W q} h => by have c := kSub_N h0 iM h; rw [hdY, show nI (x0 - M.1) = Y.1 by rw [← eY]; rfl] at c; exact c
  have gY : Y.2 = (M.2 && dY) := by rw [← eY, ← hdY]; rfl
  have hV : stV mu wd K x0 x1 x2 = G := by unfold stV stD nOf; rw [eP, eD, eR, eG]
  have hU : stU mu wd false K x0 x1 x2 = G := by unfold stU; rw [hV]; rfl
  have hW : stW lr mu wd false K x0 x1 x2 = Y := by unfold stW nOf; rw [hU, eM, eY]
  rw [hK, hV, hW]
  have HY : Hid ((q && dP && dD && dR && dG && dM && dY) = (q && Y.2)) := Lib.hid (by rw [gY, gM, gG, gR, gD, gP]; exact flagf17 _ _ _ _ _ _ _)
  have HB := Lib.hid (Sp.refl g W)
  clear eP iP hdP gP eD iD hdD gD eR iR hdR gR eG iG hdG gG eM iM hdM gM eY iY hdY gY h0 h1 h2 hl hm hd hV hU hW hK f0 f1
  have HR := Lib.hid h
  have z := h.cells
  obtain ⟨z0, z1, z2, z3, z4, z5⟩ := z
  clear h z0 z1
  go_enter Try.func24, Try.ntmps24
  have h := HR.out
  have s := HB.out
  go_upto_region 1 with fail
  have bD := below_drewN (Below.refl W.heap.size W) 1
  replace s := s.trans (Sp.of (Nat.le_of_lt h.lt) bD)
  replace h := h.on bD
  clear bD
  refine wp_region_held_drew (S := fun w' => w'.cell? ⟨g, 2, none⟩ = some (.int .i64 lr) ∧ w'.cell? ⟨g, 3, none⟩ = some (.int .i64 mu) ∧ w'.cell? ⟨g, 4, none⟩ = some (.int .i64 wd) ∧ w'.cell? ⟨g, 5, none⟩ = some (.bool false)) (by kernel_rfl) ?_ (fun hHeld => ?_)
  · exact h.cells.2.2
  refine tY (i := 0) (v := ?_) rfl ?_ hHeld ?_
  rotate_left
  · (intro w hSw; (try dsimp only at hSw); go_simp; (try with_reducible rfl))
  try simp only [Act.put, pT]
  refine tY (i := 1) (v := ?_) rfl ?_ hHeld ?_
  rotate_left
  · (intro w hSw; (try dsimp only at hSw); go_simp; (try with_reducible rfl))
  try simp only [Act.put, pT]
  refine tY (i := 2) (v := ?_) rfl ?_ hHeld ?_
  rotate_left
  · (intro w hSw; (try dsimp only at hSw); go_simp; (try with_reducible rfl))
  try simp only [Act.put, pT]
  refine tY (i := 3) (v := ?_) rfl ?_ hHeld ?_
  rotate_left
  · (intro w hSw; (try dsimp only at hSw); go_simp; (try with_reducible rfl))
  try simp only [Act.put, pT]
  refine tY (i := 4) (v := ?_) rfl ?_ hHeld ?_
  rotate_left
  · (intro w hSw; (try dsimp only at hSw); go_simp; (try with_reducible rfl))
  try simp only [Act.put, pT]
  refine tY (i := 5) (v := ?_) rfl ?_ hHeld ?_
  rotate_left
  · (intro w hSw; (try dsimp only at hSw); go_simp; (try with_reducible rfl))
  try simp only [Act.put, pT]
  refine tY (i := 6) (v := ?_) rfl ?_ hHeld ?_
  rotate_left
  · (intro w hSw; (try dsimp only at hSw); go_simp; (try with_reducible rfl))
  try simp only [Act.put, pT]
  refine tY (i := 7) (v := ?_) rfl ?_ hHeld ?_
  rotate_left
  · (intro w hSw; (try dsimp only at hSw); go_simp; (try with_reducible rfl))
  try simp only [Act.put, pT]
  refine tY (i := 8) (v := ?_) rfl ?_ hHeld ?_
  rotate_left
  · (intro w hSw; (try dsimp only at hSw); go_simp; (try with_reducible rfl))
  try simp only [Act.put, pT]
  refine tY (i := 9) (v := ?_) rfl ?_ hHeld ?_
  rotate_left
  · (intro w hSw; (try dsimp only at hSw); go_simp; (try with_reducible rfl))
  try simp only [Act.put, pT]
  refine tY (i := 10) (v := ?_) rfl ?_ hHeld ?_
  rotate_left
  · (intro w hSw; (try dsimp only at hSw); go_simp; (try with_reducible rfl))
  try simp only [Act.put, pT]
  refine tY (i := 11) (v := ?_) rfl ?_ hHeld ?_
  rotate_left
  · (intro w hSw; (try dsimp only at hSw); go_simp; (try with_reducible rfl))
  try simp only [Act.put, pT]
  refine tY (i := 12) (v := ?_) rfl ?_ hHeld ?_
  rotate_left
  · (intro w hSw; (try dsimp only at hSw); go_simp; (try with_reducible rfl))
  try simp only [Act.put, pT]
  refine wpAnyH_ready (rs := [13]) (by kernel_rfl) (by simp) ?_
  refine AllReadyH.cons rfl (fun K hK => ?_) AllReadyH.nil
  (try simp only [pT])
  rw [if_pos (by rfl)]
  go_simp
  go_at_call 38
  refine (CP h).mono ?_
  rintro e V1 ⟨rfl, h_, s_⟩
  replace s := s.trans s_
  replace h := h_
  clear s_ h_
  refine hK.out _ _ ?_ (fun hHeld => ?_)
  · exact h.cells.2.2
  clear hK K
  try simp only [Act.put, pT]
  refine wpAnyH_ready (rs := [14]) (by kernel_rfl) (by simp) ?_
  refine AllReadyH.cons rfl (fun K hK => ?_) AllReadyH.nil
  (try simp only [pT])
  rw [if_pos (by rfl)]
  go_simp
  go_at_call 37
  refine (CD h).mono ?_
  rintro e V2 ⟨rfl, h_, s_⟩
  replace s := s.trans s_
  replace h := h_
  clear s_ h_
  refine hK.out _ _ ?_ (fun hHeld => ?_)
  · exact h.cells.2.2
  clear hK K
  try simp only [Act.put, pT]
  refine tY (i := 15) (v := ?_) rfl ?_ hHeld ?_
  rotate_left
  · (intro w hSw; (try dsimp only at hSw); go_simp; (try with_reducible rfl))
  try simp only [Act.put, pT]
  refine wpAnyH_done (by kernel_rfl) ?_ _
  clear hHeld
  go_upto_region 2 with fail
  have bD := below_drewN (Below.refl V2.heap.size V2) 1
  replace s := s.trans (Sp.of (Nat.le_of_lt h.lt) bD)
  replace h := h.on bD
  clear bD
  refine wp_region_held_drew (S := fun w' => w'.cell? ⟨g, 2, none⟩ = some (.int .i64 lr) ∧ w'.cell? ⟨g, 3, none⟩ = some (.int .i64 mu) ∧ w'.cell? ⟨g, 4, none⟩ = some (.int .i64 wd) ∧ w'.cell? ⟨g, 5, none⟩ = some (.bool false)) (by kernel_rfl) ?_ (fun hHeld => ?_)
  · exact h.cells.2.2
  refine tY (i := 0) (v := ?_) rfl ?_ hHeld ?_
  rotate_left
  · (intro w hSw; (try dsimp only at hSw); go_simp; (try with_reducible rfl))
  try simp only [Act.put, pT]
  refine tY (i := 1) (v := ?_) rfl ?_ hHeld ?_
  rotate_left
  · (intro w hSw; (try dsimp only at hSw); go_simp; (try with_reducible rfl))
  try simp only [Act.put, pT]
  refine tY (i := 2) (v := ?_) rfl ?_ hHeld ?_
  rotate_left
  · (intro w hSw; (try dsimp only at hSw); go_simp; (try with_reducible rfl))
  try simp only [Act.put, pT]
  refine tY (i := 3) (v := ?_) rfl ?_ hHeld ?_
  rotate_left
  · (intro w hSw; (try dsimp only at hSw); go_simp; (try with_reducible rfl))
  try simp only [Act.put, pT]
  refine tY (i := 4) (v := ?_) rfl ?_ hHeld ?_
  rotate_left
  · (intro w hSw; (try dsimp only at hSw); go_simp; (try with_reducible rfl))
  try simp only [Act.put, pT]
  refine tY (i := 5) (v := ?_) rfl ?_ hHeld ?_
  rotate_left
  · (intro w hSw; (try dsimp only at hSw); go_simp; (try with_reducible rfl))
  try simp only [Act.put, pT]
  refine tY (i := 6) (v := ?_) rfl ?_ hHeld ?_
  rotate_left
  · (intro w hSw; (try dsimp only at hSw); go_simp; (try with_reducible rfl))
  try simp only [Act.put, pT]
  refine tY (i := 7) (v := ?_) rfl ?_ hHeld ?_
  rotate_left
  · (intro w hSw; (try dsimp only at hSw); go_simp; (try with_reducible rfl))
  try simp only [Act.put, pT]
  refine tY (i := 8) (v := ?_) rfl ?_ hHeld ?_
  rotate_left
  · (intro w hSw; (try dsimp only at hSw); go_simp; (try with_reducible rfl))
  try simp only [Act.put, pT]
  refine tY (i := 9) (v := ?_) rfl ?_ hHeld ?_
  rotate_left
  · (intro w hSw; (try dsimp only at hSw); go_simp; (try with_reducible rfl))
  try simp only [Act.put, pT]
  refine tY (i := 10) (v := ?_) rfl ?_ hHeld ?_
  rotate_left
  · (intro w hSw; (try dsimp only at hSw); go_simp; (try with_reducible rfl))
  try simp only [Act.put, pT]
  refine tY (i := 11) (v := ?_) rfl ?_ hHeld ?_
  rotate_left
  · (intro w hSw; (try dsimp only at hSw); go_simp; (try with_reducible rfl))
  try simp only [Act.put, pT]
  refine tY (i := 13) (v := ?_) rfl ?_ hHeld ?_
  rotate_left
  · (intro w hSw; (try dsimp only at hSw); go_simp; (try with_reducible rfl))
  try simp only [Act.put, pT]
  refine wpAnyH_ready (rs := [12]) (by kernel_rfl) (by simp) ?_
  refine AllReadyH.cons rfl (fun K hK => ?_) AllReadyH.nil
  (try simp only [pT])
  rw [if_pos (by rfl)]
  go_simp
  go_at_call 38
  refine (CR h).mono ?_
  rintro e V3 ⟨rfl, h_, s_⟩
  replace s := s.trans s_
  replace h := h_
  clear s_ h_
  refine hK.out _ _ ?_ (fun hHeld => ?_)
  · exact h.cells.2.2
  clear hK K
  try simp only [Act.put, pT]
  refine wpAnyH_ready (rs := [14]) (by kernel_rfl) (by simp) ?_
  refine AllReadyH.cons rfl (fun K hK => ?_) AllReadyH.nil
  (try simp only [pT])
  rw [if_pos (by rfl)]
  go_simp
  go_at_call 37
  refine (CG h).mono ?_
  rintro e V4 ⟨rfl, h_, s_⟩
  replace s := s.trans s_
  replace h := h_
  clear s_ h_
  refine hK.out _ _ ?_ (fun hHeld => ?_)
  · exact h.cells.2.2
  clear hK K
  try simp only [Act.put, pT]
  refine tY (i := 15) (v := ?_) rfl ?_ hHeld ?_
  rotate_left
  · (intro w hSw; (try dsimp only at hSw); go_simp; (try with_reducible rfl))
  try simp only [Act.put, pT]
  refine wpAnyH_done (by kernel_rfl) ?_ _
  clear hHeld
  have z5 := h.cells.2.2.2.2.2
  go_upto_region 6 with fail
  have bD := below_drewN (Below.refl V4.heap.size V4) 1
  replace s := s.trans (Sp.of (Nat.le_of_lt h.lt) bD)
  replace h := h.on bD
  clear bD
  refine wp_region_held_drew (S := fun w' => w'.cell? ⟨g, 2, none⟩ = some (.int .i64 lr) ∧ w'.cell? ⟨g, 3, none⟩ = some (.int .i64 mu) ∧ w'.cell? ⟨g, 4, none⟩ = some (.int .i64 wd) ∧ w'.cell? ⟨g, 5, none⟩ = some (.bool false)) (by kernel_rfl) ?_ (fun hHeld => ?_)
  · exact h.cells.2.2
  refine tY (i := 0) (v := ?_) rfl ?_ hHeld ?_
  rotate_left
  · (intro w hSw; (try dsimp only at hSw); go_simp; (try with_reducible rfl))
  try simp only [Act.put, pT]
  refine tY (i := 1) (v := ?_) rfl ?_ hHeld ?_
  rotate_left
  · (intro w hSw; (try dsimp only at hSw); go_simp; (try with_reducible rfl))
  try simp only [Act.put, pT]
  refine tY (i := 2) (v := ?_) rfl ?_ hHeld ?_
  rotate_left
  · (intro w hSw; (try dsimp only at hSw); go_simp; (try with_reducible rfl))
  try simp only [Act.put, pT]
  refine tY (i := 3) (v := ?_) rfl ?_ hHeld ?_
  rotate_left
  · (intro w hSw; (try dsimp only at hSw); go_simp; (try with_reducible rfl))
  try simp only [Act.put, pT]
  refine tY (i := 4) (v := ?_) rfl ?_ hHeld ?_
  rotate_left
  · (intro w hSw; (try dsimp only at hSw); go_simp; (try with_reducible rfl))
  try simp only [Act.put, pT]
  refine tY (i := 5) (v := ?_) rfl ?_ hHeld ?_
  rotate_left
  · (intro w hSw; (try dsimp only at hSw); go_simp; (try with_reducible rfl))
  try simp only [Act.put, pT]
  refine tY (i := 6) (v := ?_) rfl ?_ hHeld ?_
  rotate_left
  · (intro w hSw; (try dsimp only at hSw); go_simp; (try with_reducible rfl))
  try simp only [Act.put, pT]
  refine tY (i := 7) (v := ?_) rfl ?_ hHeld ?_
  rotate_left
  · (intro w hSw; (try dsimp only at hSw); go_simp; (try with_reducible rfl))
  try simp only [Act.put, pT]
  refine tY (i := 8) (v := ?_) rfl ?_ hHeld ?_
  rotate_left
  · (intro w hSw; (try dsimp only at hSw); go_simp; (try with_reducible rfl))
  try simp only [Act.put, pT]
  refine tY (i := 9) (v := ?_) rfl ?_ hHeld ?_
  rotate_left
  · (intro w hSw; (try dsimp only at hSw); go_simp; (try with_reducible rfl))
  try simp only [Act.put, pT]
  refine tY (i := 10) (v := ?_) rfl ?_ hHeld ?_
  rotate_left
  · (intro w hSw; (try dsimp only at hSw); go_simp; (try with_reducible rfl))
  try simp only [Act.put, pT]
  refine tY (i := 11) (v := ?_) rfl ?_ hHeld ?_
  rotate_left
  · (intro w hSw; (try dsimp only at hSw); go_simp; (try with_reducible rfl))
  try simp only [Act.put, pT]
  refine tY (i := 12) (v := ?_) rfl ?_ hHeld ?_
  rotate_left
  · (intro w hSw; (try dsimp only at hSw); go_simp; (try with_reducible rfl))
  try simp only [Act.put, pT]
  refine tY (i := 15) (v := ?_) rfl ?_ hHeld ?_
  rotate_left
  · (intro w hSw; (try dsimp only at hSw); go_simp; (try with_reducible rfl))
  try simp only [Act.put, pT]
  refine wpAnyH_ready (rs := [13]) (by kernel_rfl) (by simp) ?_
  refine AllReadyH.cons rfl (fun K hK => ?_) AllReadyH.nil
  (try simp only [pT])
  rw [if_pos (by rfl)]
  go_simp
  go_at_call 38
  refine (CM h).mono ?_
  rintro e V5 ⟨rfl, h_, s_⟩
  replace s := s.trans s_
  replace h := h_
  clear s_ h_
  refine hK.out _ _ ?_ (fun hHeld => ?_)
  · exact h.cells.2.2
  clear hK K
  try simp only [Act.put, pT]
  refine wpAnyH_ready (rs := [14]) (by kernel_rfl) (by simp) ?_
  refine AllReadyH.cons rfl (fun K hK => ?_) AllReadyH.nil
  (try simp only [pT])
  rw [if_pos (by rfl)]
  go_simp
  go_at_call 39
  refine (CY h).mono ?_
  rintro e V6 ⟨rfl, h_, s_⟩
  replace s := s.trans s_
  replace h := h_
  clear s_ h_
  refine hK.out _ _ ?_ (fun hHeld => ?_)
  · exact h.cells.2.2
  clear hK K
  try simp only [Act.put, pT]
  refine tY (i := 16) (v := ?_) rfl ?_ hHeld ?_
  rotate_left
  · (intro w hSw; (try dsimp only at hSw); go_simp; (try with_reducible rfl))
  try simp only [Act.put, pT]
  refine tY (i := 17) (v := ?_) rfl ?_ hHeld ?_
  rotate_left
  · (intro w hSw; (try dsimp only at hSw); go_simp; (try with_reducible rfl))
  try simp only [Act.put, pT]
  refine wpAnyH_done (by kernel_rfl) ?_ _
  clear hHeld
  rw [HY.out] at h
  have HH := Lib.hid h
  have HS := Lib.hid s
  clear h s
  go_wp2_with fail
  go_ret2
  exact ⟨rfl, HH.out, HS.out⟩

theorem kstep_N {W : World} {g : Nat} {f lr mu wd x0 x1 x2 : Int} {ne q : Bool} (f0 : 0 ≤ f) (f1 : f ≤ 40) (hl : I64 lr) (hm : I64 mu) (hd : I64 wd) (h0 : I64 x0) (h1 : I64 x1) (h2 : I64 x2) (h : Rk W g f lr mu wd ne q) : Calls Try.prog 24 #[.pointer (some ⟨g, 0, none⟩), .int .i64 x0, .int .i64 x1, .int .i64 x2] W (GotK W g f lr mu wd ne (q && (stW lr mu wd ne f.toNat x0 x1 x2).2) (.tuple #[.int .i64 (stW lr mu wd ne f.toNat x0 x1 x2).1, .int .i64 (stV mu wd f.toNat x0 x1 x2).1])) := by
  cases ne
  · exact kstep_f f0 f1 hl hm hd h0 h1 h2 h
  · exact kstep_t f0 f1 hl hm hd h0 h1 h2 h

end Go.Proofs.Ytckdbcngnghhiaa

/-
  The contract of the landed mom: Right.
-/
namespace Go.Proofs.Ytckdbcngnghhiaa
set_option maxRecDepth 100000
set_option maxHeartbeats 8000000
open Go.RowKit
set_option linter.unusedVariables false
set_option linter.unusedSimpArgs false

theorem wrap_one17 {j : Int} (j0 : 0 ≤ j) (j1 : j ≤ 40) : wrap64 ((2 : Int) ^ min j.toNat 64) = ((2 ^ j.toNat : Nat) : Int) := by
  rw [show min j.toNat 64 = j.toNat by omega]
  have h := pow_size (show j.toNat ≤ 40 by omega)
  have e : ((2 : Int) ^ j.toNat) = ((2 ^ j.toNat : Nat) : Int) := by simp
  rw [e]
  obtain ⟨o, eo⟩ : ∃ o, 2 ^ j.toNat = o := ⟨_, rfl⟩
  rw [eo] at h ⊢
  exact IntWalk.wrap64_in _ ⟨by omega, by omega⟩

theorem kRight_0 {w : World} {lr mu wd f : Int} {ne : Bool} (q0 : f < 0) :
    Calls Try.prog 12 #[.agg #[.int .i64 lr, .int .i64 mu, .int .i64 wd, .bool ne], .int .i64 f] w (GotV w (.bool false)) := by
  have t0 : decide (f < 0) = true := decide_eq_true q0
  clear q0
  have cc := Below.refl w.heap.size w
  go_enter Try.func12, Try.ntmps12
  go_wp2_with fail
  generalize hv_ : w.alloc (.cells #[.int .i64 lr, .int .i64 mu, .int .i64 wd, .bool ne] 23) = v1
  have bA : Below w.heap.size w v1 := by rw [← hv_]; exact ((Below.refl _ w).alloc (by simp) _)
  replace cc := bK cc bA
  clear bA
  have sc0 : v1.cell? ⟨w.heap.size, 0, none⟩ = some (.int .i64 lr) := by simp [← hv_, go_sem]
  have sc1 : v1.cell? ⟨w.heap.size, 1, none⟩ = some (.int .i64 mu) := by simp [← hv_, go_sem]
  have sc2 : v1.cell? ⟨w.heap.size, 2, none⟩ = some (.int .i64 wd) := by simp [← hv_, go_sem]
  have sc3 : v1.cell? ⟨w.heap.size, 3, none⟩ = some (.bool ne) := by simp [← hv_, go_sem]
  have scl : w.heap.size < v1.heap.size := by simp [← hv_] <;> omega
  clear hv_
  go_wp2_with fail
  go_ret
  exact ⟨rfl, cc⟩

theorem kRight_1 {w : World} {lr mu wd f : Int} {ne : Bool} (q0 : ¬ f < 0) (q1 : 40 < f) :
    Calls Try.prog 12 #[.agg #[.int .i64 lr, .int .i64 mu, .int .i64 wd, .bool ne], .int .i64 f] w (GotV w (.bool false)) := by
  have t0 : decide (f < 0) = false := decide_eq_false q0
  have t1 : decide (40 < f) = true := decide_eq_true q1
  clear q0 q1
  have cc := Below.refl w.heap.size w
  go_enter Try.func12, Try.ntmps12
  go_wp2_with fail
  generalize hv_ : w.alloc (.cells #[.int .i64 lr, .int .i64 mu, .int .i64 wd, .bool ne] 23) = v1
  have bA : Below w.heap.size w v1 := by rw [← hv_]; exact ((Below.refl _ w).alloc (by simp) _)
  replace cc := bK cc bA
  clear bA
  have sc0 : v1.cell? ⟨w.heap.size, 0, none⟩ = some (.int .i64 lr) := by simp [← hv_, go_sem]
  have sc1 : v1.cell? ⟨w.heap.size, 1, none⟩ = some (.int .i64 mu) := by simp [← hv_, go_sem]
  have sc2 : v1.cell? ⟨w.heap.size, 2, none⟩ = some (.int .i64 wd) := by simp [← hv_, go_sem]
  have sc3 : v1.cell? ⟨w.heap.size, 3, none⟩ = some (.bool ne) := by simp [← hv_, go_sem]
  have scl : w.heap.size < v1.heap.size := by simp [← hv_] <;> omega
  clear hv_
  go_wp2_with fail
  go_ret
  exact ⟨rfl, cc⟩

theorem kRight_2 {w : World} {lr mu wd f D : Int} {ne : Bool} (hD : ((2 ^ f.toNat : Nat) : Int) = D) (q0 : ¬ f < 0) (q1 : ¬ 40 < f) (q2 : ¬ 0 ≤ lr) :
    Calls Try.prog 12 #[.agg #[.int .i64 lr, .int .i64 mu, .int .i64 wd, .bool ne], .int .i64 f] w (GotV w (.bool false)) := by
  have t0 : decide (f < 0) = false := decide_eq_false q0
  have t1 : decide (40 < f) = false := decide_eq_false q1
  have t2 : decide (0 ≤ lr) = false := decide_eq_false q2
  have k6 : wrap64 ((2 : Int) ^ min f.toNat 64) = D := by rw [← hD]; exact wrap_one17 (by omega) (by omega)
  have hs : ¬ (f < 0) := q0
  clear q0 q1 q2 hD
  have cc := Below.refl w.heap.size w
  go_enter Try.func12, Try.ntmps12
  go_wp2_with fail
  generalize hv_ : w.alloc (.cells #[.int .i64 lr, .int .i64 mu, .int .i64 wd, .bool ne] 23) = v1
  have bA : Below w.heap.size w v1 := by rw [← hv_]; exact ((Below.refl _ w).alloc (by simp) _)
  replace cc := bK cc bA
  clear bA
  have sc0 : v1.cell? ⟨w.heap.size, 0, none⟩ = some (.int .i64 lr) := by simp [← hv_, go_sem]
  have sc1 : v1.cell? ⟨w.heap.size, 1, none⟩ = some (.int .i64 mu) := by simp [← hv_, go_sem]
  have sc2 : v1.cell? ⟨w.heap.size, 2, none⟩ = some (.int .i64 wd) := by simp [← hv_, go_sem]
  have sc3 : v1.cell? ⟨w.heap.size, 3, none⟩ = some (.bool ne) := by simp [← hv_, go_sem]
  have scl : w.heap.size < v1.heap.size := by simp [← hv_] <;> omega
  clear hv_
  go_wp2_with fail
  go_ret
  exact ⟨rfl, cc⟩

theorem kRight_3 {w : World} {lr mu wd f D : Int} {ne : Bool} (hD : ((2 ^ f.toNat : Nat) : Int) = D) (q0 : ¬ f < 0) (q1 : ¬ 40 < f) (q2 : 0 ≤ lr) (q3 : ¬ 0 ≤ mu) :
    Calls Try.prog 12 #[.agg #[.int .i64 lr, .int .i64 mu, .int .i64 wd, .bool ne], .int .i64 f] w (GotV w (.bool false)) := by
  have t0 : decide (f < 0) = false := decide_eq_false q0
  have t1 : decide (40 < f) = false := decide_eq_false q1
  have t2 : decide (0 ≤ lr) = true := decide_eq_true q2
  have t3 : decide (0 ≤ mu) = false := decide_eq_false q3
  have k6 : wrap64 ((2 : Int) ^ min f.toNat 64) = D := by rw [← hD]; exact wrap_one17 (by omega) (by omega)
  have hs : ¬ (f < 0) := q0
  clear q0 q1 q2 q3 hD
  have cc := Below.refl w.heap.size w
  go_enter Try.func12, Try.ntmps12
  go_wp2_with fail
  generalize hv_ : w.alloc (.cells #[.int .i64 lr, .int .i64 mu, .int .i64 wd, .bool ne] 23) = v1
  have bA : Below w.heap.size w v1 := by rw [← hv_]; exact ((Below.refl _ w).alloc (by simp) _)
  replace cc := bK cc bA
  clear bA
  have sc0 : v1.cell? ⟨w.heap.size, 0, none⟩ = some (.int .i64 lr) := by simp [← hv_, go_sem]
  have sc1 : v1.cell? ⟨w.heap.size, 1, none⟩ = some (.int .i64 mu) := by simp [← hv_, go_sem]
  have sc2 : v1.cell? ⟨w.heap.size, 2, none⟩ = some (.int .i64 wd) := by simp [← hv_, go_sem]
  have sc3 : v1.cell? ⟨w.heap.size, 3, none⟩ = some (.bool ne) := by simp [← hv_, go_sem]
  have scl : w.heap.size < v1.heap.size := by simp [← hv_] <;> omega
  clear hv_
  go_wp2_with fail
  go_ret
  exact ⟨rfl, cc⟩

theorem kRight_4 {w : World} {lr mu wd f D : Int} {ne : Bool} (hD : ((2 ^ f.toNat : Nat) : Int) = D) (q0 : ¬ f < 0) (q1 : ¬ 40 < f) (q2 : 0 ≤ lr) (q3 : 0 ≤ mu) (q4 : ¬ mu < D) :
    Calls Try.prog 12 #[.agg #[.int .i64 lr, .int .i64 mu, .int .i64 wd, .bool ne], .int .i64 f] w (GotV w (.bool false)) := by
  have t0 : decide (f < 0) = false := decide_eq_false q0
  have t1 : decide (40 < f) = false := decide_eq_false q1
  have t2 : decide (0 ≤ lr) = true := decide_eq_true q2
  have t3 : decide (0 ≤ mu) = true := decide_eq_true q3
  have t4 : decide (mu < D) = false := decide_eq_false q4
  have k6 : wrap64 ((2 : Int) ^ min f.toNat 64) = D := by rw [← hD]; exact wrap_one17 (by omega) (by omega)
  have hs : ¬ (f < 0) := q0
  clear q0 q1 q2 q3 q4 hD
  have cc := Below.refl w.heap.size w
  go_enter Try.func12, Try.ntmps12
  go_wp2_with fail
  generalize hv_ : w.alloc (.cells #[.int .i64 lr, .int .i64 mu, .int .i64 wd, .bool ne] 23) = v1
  have bA : Below w.heap.size w v1 := by rw [← hv_]; exact ((Below.refl _ w).alloc (by simp) _)
  replace cc := bK cc bA
  clear bA
  have sc0 : v1.cell? ⟨w.heap.size, 0, none⟩ = some (.int .i64 lr) := by simp [← hv_, go_sem]
  have sc1 : v1.cell? ⟨w.heap.size, 1, none⟩ = some (.int .i64 mu) := by simp [← hv_, go_sem]
  have sc2 : v1.cell? ⟨w.heap.size, 2, none⟩ = some (.int .i64 wd) := by simp [← hv_, go_sem]
  have sc3 : v1.cell? ⟨w.heap.size, 3, none⟩ = some (.bool ne) := by simp [← hv_, go_sem]
  have scl : w.heap.size < v1.heap.size := by simp [← hv_] <;> omega
  clear hv_
  go_wp2_with fail
  go_ret
  exact ⟨rfl, cc⟩

theorem kRight_5 {w : World} {lr mu wd f D : Int} {ne : Bool} (hD : ((2 ^ f.toNat : Nat) : Int) = D) (q0 : ¬ f < 0) (q1 : ¬ 40 < f) (q2 : 0 ≤ lr) (q3 : 0 ≤ mu) (q4 : mu < D) (q5 : ¬ 0 ≤ wd) :
    Calls Try.prog 12 #[.agg #[.int .i64 lr, .int .i64 mu, .int .i64 wd, .bool ne], .int .i64 f] w (GotV w (.bool false)) := by
  have t0 : decide (f < 0) = false := decide_eq_false q0
  have t1 : decide (40 < f) = false := decide_eq_false q1
  have t2 : decide (0 ≤ lr) = true := decide_eq_true q2
  have t3 : decide (0 ≤ mu) = true := decide_eq_true q3
  have t4 : decide (mu < D) = true := decide_eq_true q4
  have t5 : decide (0 ≤ wd) = false := decide_eq_false q5
  have k6 : wrap64 ((2 : Int) ^ min f.toNat 64) = D := by rw [← hD]; exact wrap_one17 (by omega) (by omega)
  have hs : ¬ (f < 0) := q0
  clear q0 q1 q2 q3 q4 q5 hD
  have cc := Below.refl w.heap.size w
  go_enter Try.func12, Try.ntmps12
  go_wp2_with fail
  generalize hv_ : w.alloc (.cells #[.int .i64 lr, .int .i64 mu, .int .i64 wd, .bool ne] 23) = v1
  have bA : Below w.heap.size w v1 := by rw [← hv_]; exact ((Below.refl _ w).alloc (by simp) _)
  replace cc := bK cc bA
  clear bA
  have sc0 : v1.cell? ⟨w.heap.size, 0, none⟩ = some (.int .i64 lr) := by simp [← hv_, go_sem]
  have sc1 : v1.cell? ⟨w.heap.size, 1, none⟩ = some (.int .i64 mu) := by simp [← hv_, go_sem]
  have sc2 : v1.cell? ⟨w.heap.size, 2, none⟩ = some (.int .i64 wd) := by simp [← hv_, go_sem]
  have sc3 : v1.cell? ⟨w.heap.size, 3, none⟩ = some (.bool ne) := by simp [← hv_, go_sem]
  have scl : w.heap.size < v1.heap.size := by simp [← hv_] <;> omega
  clear hv_
  go_wp2_with fail
  go_ret
  exact ⟨rfl, cc⟩

theorem kRight_6 {w : World} {lr mu wd f D : Int} {ne : Bool} (hD : ((2 ^ f.toNat : Nat) : Int) = D) (q0 : ¬ f < 0) (q1 : ¬ 40 < f) (q2 : 0 ≤ lr) (q3 : 0 ≤ mu) (q4 : mu < D) (q5 : 0 ≤ wd) (q6 : ¬ wd ≤ D) :
    Calls Try.prog 12 #[.agg #[.int .i64 lr, .int .i64 mu, .int .i64 wd, .bool ne], .int .i64 f] w (GotV w (.bool false)) := by
  have t0 : decide (f < 0) = false := decide_eq_false q0
  have t1 : decide (40 < f) = false := decide_eq_false q1
  have t2 : decide (0 ≤ lr) = true := decide_eq_true q2
  have t3 : decide (0 ≤ mu) = true := decide_eq_true q3
  have t4 : decide (mu < D) = true := decide_eq_true q4
  have t5 : decide (0 ≤ wd) = true := decide_eq_true q5
  have t6 : decide (wd ≤ D) = false := decide_eq_false q6
  have k6 : wrap64 ((2 : Int) ^ min f.toNat 64) = D := by rw [← hD]; exact wrap_one17 (by omega) (by omega)
  have hs : ¬ (f < 0) := q0
  clear q0 q1 q2 q3 q4 q5 q6 hD
  have cc := Below.refl w.heap.size w
  go_enter Try.func12, Try.ntmps12
  go_wp2_with fail
  generalize hv_ : w.alloc (.cells #[.int .i64 lr, .int .i64 mu, .int .i64 wd, .bool ne] 23) = v1
  have bA : Below w.heap.size w v1 := by rw [← hv_]; exact ((Below.refl _ w).alloc (by simp) _)
  replace cc := bK cc bA
  clear bA
  have sc0 : v1.cell? ⟨w.heap.size, 0, none⟩ = some (.int .i64 lr) := by simp [← hv_, go_sem]
  have sc1 : v1.cell? ⟨w.heap.size, 1, none⟩ = some (.int .i64 mu) := by simp [← hv_, go_sem]
  have sc2 : v1.cell? ⟨w.heap.size, 2, none⟩ = some (.int .i64 wd) := by simp [← hv_, go_sem]
  have sc3 : v1.cell? ⟨w.heap.size, 3, none⟩ = some (.bool ne) := by simp [← hv_, go_sem]
  have scl : w.heap.size < v1.heap.size := by simp [← hv_] <;> omega
  clear hv_
  go_wp2_with fail
  go_ret
  exact ⟨rfl, cc⟩

theorem kRight_7 {w : World} {lr mu wd f D : Int} {ne : Bool} (hD : ((2 ^ f.toNat : Nat) : Int) = D) (q0 : ¬ f < 0) (q1 : ¬ 40 < f) (q2 : 0 ≤ lr) (q3 : 0 ≤ mu) (q4 : mu < D) (q5 : 0 ≤ wd) (q6 : wd ≤ D) :
    Calls Try.prog 12 #[.agg #[.int .i64 lr, .int .i64 mu, .int .i64 wd, .bool ne], .int .i64 f] w (GotV w (.bool true)) := by
  have t0 : decide (f < 0) = false := decide_eq_false q0
  have t1 : decide (40 < f) = false := decide_eq_false q1
  have t2 : decide (0 ≤ lr) = true := decide_eq_true q2
  have t3 : decide (0 ≤ mu) = true := decide_eq_true q3
  have t4 : decide (mu < D) = true := decide_eq_true q4
  have t5 : decide (0 ≤ wd) = true := decide_eq_true q5
  have t6 : decide (wd ≤ D) = true := decide_eq_true q6
  have k6 : wrap64 ((2 : Int) ^ min f.toNat 64) = D := by rw [← hD]; exact wrap_one17 (by omega) (by omega)
  have hs : ¬ (f < 0) := q0
  clear q0 q1 q2 q3 q4 q5 q6 hD
  have cc := Below.refl w.heap.size w
  go_enter Try.func12, Try.ntmps12
  go_wp2_with fail
  generalize hv_ : w.alloc (.cells #[.int .i64 lr, .int .i64 mu, .int .i64 wd, .bool ne] 23) = v1
  have bA : Below w.heap.size w v1 := by rw [← hv_]; exact ((Below.refl _ w).alloc (by simp) _)
  replace cc := bK cc bA
  clear bA
  have sc0 : v1.cell? ⟨w.heap.size, 0, none⟩ = some (.int .i64 lr) := by simp [← hv_, go_sem]
  have sc1 : v1.cell? ⟨w.heap.size, 1, none⟩ = some (.int .i64 mu) := by simp [← hv_, go_sem]
  have sc2 : v1.cell? ⟨w.heap.size, 2, none⟩ = some (.int .i64 wd) := by simp [← hv_, go_sem]
  have sc3 : v1.cell? ⟨w.heap.size, 3, none⟩ = some (.bool ne) := by simp [← hv_, go_sem]
  have scl : w.heap.size < v1.heap.size := by simp [← hv_] <;> omega
  clear hv_
  go_wp2_with fail
  go_ret
  exact ⟨rfl, cc⟩

theorem kRight_N {w : World} {lr mu wd f : Int} {ne : Bool} : Calls Try.prog 12 #[.agg #[.int .i64 lr, .int .i64 mu, .int .i64 wd, .bool ne], .int .i64 f] w (GotV w (.bool (decide (OkM17 lr mu wd f)))) := by
  by_cases q0 : f < 0
  · rw [decide_eq_false (fun h => by have := h.1; omega)]; exact kRight_0 q0
  by_cases q1 : 40 < f
  · rw [decide_eq_false (fun h => by have := h.2.1; omega)]; exact kRight_1 q0 q1
  by_cases q2 : 0 ≤ lr
  rotate_left
  · rw [decide_eq_false (fun h => q2 h.2.2.1)]; exact kRight_2 rfl q0 q1 q2
  by_cases q3 : 0 ≤ mu
  rotate_left
  · rw [decide_eq_false (fun h => q3 h.2.2.2.1)]; exact kRight_3 rfl q0 q1 q2 q3
  by_cases q4 : mu < ((2 ^ f.toNat : Nat) : Int)
  rotate_left
  · rw [decide_eq_false (fun h => q4 h.2.2.2.2.1)]; exact kRight_4 rfl q0 q1 q2 q3 q4
  by_cases q5 : 0 ≤ wd
  rotate_left
  · rw [decide_eq_false (fun h => q5 h.2.2.2.2.2.1)]; exact kRight_5 rfl q0 q1 q2 q3 q4 q5
  by_cases q6 : wd ≤ ((2 ^ f.toNat : Nat) : Int)
  rotate_left
  · rw [decide_eq_false (fun h => q6 h.2.2.2.2.2.2)]; exact kRight_6 rfl q0 q1 q2 q3 q4 q5 q6
  rw [decide_eq_true (show OkM17 lr mu wd f from ⟨by omega, by omega, q2, q3, q4, q5, q6⟩)]
  exact kRight_7 rfl q0 q1 q2 q3 q4 q5 q6

end Go.Proofs.Ytckdbcngnghhiaa

/-
  Made rows of noughts, and what is written into them from the head on; boxes of four that are written.
-/
namespace Go.Proofs.Ytckdbcngnghhiaa
set_option maxRecDepth 100000
open Go.RowKit
set_option linter.unusedVariables false
set_option linter.unusedSimpArgs false

theorem put_cells4 {W : World} {g : Nat} {a b c d a2 b2 c2 d2 : Value} {T : TypeId} (z : W.heap[g]? = some (.cells #[a, b, c, d] T)) : ((((W.setCell ⟨g, 0, none⟩ a2).setCell ⟨g, 1, none⟩ b2).setCell ⟨g, 2, none⟩ c2).setCell ⟨g, 3, none⟩ d2).heap[g]? = some (.cells #[a2, b2, c2, d2] T) := by
  have h := heap_setCell_same _ g 3 _ _ d2 (heap_setCell_same _ g 2 _ _ c2 (heap_setCell_same _ g 1 _ _ b2 (heap_setCell_same W g 0 _ _ a2 z)))
  simpa using h
theorem put_far4 {W : World} {g b : Nat} {a2 b2 c2 d2 : Value} {o : Option Obj} (z : W.heap[b]? = o) (hne : b ≠ g) : ((((W.setCell ⟨g, 0, none⟩ a2).setCell ⟨g, 1, none⟩ b2).setCell ⟨g, 2, none⟩ c2).setCell ⟨g, 3, none⟩ d2).heap[b]? = o :=
  (heap_setCell_other _ ⟨g, 3, none⟩ b d2 hne).trans ((heap_setCell_other _ ⟨g, 2, none⟩ b c2 hne).trans ((heap_setCell_other _ ⟨g, 1, none⟩ b b2 hne).trans ((heap_setCell_other W ⟨g, 0, none⟩ b a2 hne).trans z)))
/-- A made row of noughts. -/
def ziM (q : Nat) : Obj := .cells (madeCells #[.int .i64 0] q) 2
theorem ziM_run (q : Nat) (hq : q ≤ 1000000) (W : World) : (Instr.makeSlice 24 (.int .i64 (q : Int)) (.int .i64 (q : Int))).run Try.prog W = .ok (.slice (some ⟨W.heap.size, 0, none⟩) q q) (W.alloc (ziM q)) := by
  obtain ⟨i0, hi, hz0, hz1, hz2⟩ := info_parts infoI
  have h := run_make (P := Try.prog) W 24 2 i0 (.int .i64 0) Try.underlying24 hi hz0 .i64 .i64 (q : Int) (q : Int) (by omega) (Int.le_refl _) (by rw [hz2]; omega) (by omega)
  rw [hz1, Int.toNat_natCast, Nat.mul_one] at h
  exact h
theorem ziM_own {q t g : Nat} {W : World} (hq : q ≤ 1000000) (h : W.heap[g]? = some (ziM q)) (ht : t ≤ g) : W.ownsRow t 2 1 (.slice (some ⟨g, 0, none⟩) q q) q ((List.replicate q 0).map encI) := by
  refine ⟨by simp, .inr ⟨g, q, madeCells #[.int .i64 0] q, rfl, ht, h, Nat.le_refl _, by unfold maxLen; omega, by rw [size_madeCells, Nat.mul_one], ?_⟩⟩
  rw [toList_madeCells_one, List.map_replicate, Nat.mul_one, List.take_of_length_le (by simp)]
  rfl
/-- A row that is filled from its head on: noughts behind. -/
def pad (n : Nat) (L : List Int) : List Int := L ++ List.replicate (n - L.length) 0
theorem pad_nil (n : Nat) : pad n [] = List.replicate n 0 := by simp [pad]
theorem pad_full {n : Nat} {L : List Int} (h : L.length = n) : pad n L = L := by simp [pad, h]
theorem pad_len {n : Nat} {L : List Int} (h : L.length ≤ n) : (pad n L).length = n := by simp [pad]; omega
theorem pad_set {n i : Nat} {L : List Int} (y : Int) (h : L.length = i) (hi : i < n) : (pad n L).set i y = pad n (L ++ [y]) := by
  unfold pad
  rw [List.set_append_right _ _ (by omega), show i - L.length = 0 by omega, show n - L.length = (n - (L ++ [y]).length) + 1 by simp; omega, List.replicate_succ, List.set_cons_zero]
  simp
/-- A row of the call's own that is left alone stays. -/
theorem own_keep {t n : Nat} {w w' : World} {e : TypeId} {size : Nat} {g m cap : Nat} {xs : List Value} (hO : w.ownsRow t e size (.slice (some ⟨g, 0, none⟩) m cap) n xs) (hk : w'.heap[g]? = w.heap[g]?) : w'.ownsRow t e size (.slice (some ⟨g, 0, none⟩) m cap) n xs := by
  obtain ⟨h1, h2⟩ := hO
  refine ⟨h1, ?_⟩
  rcases h2 with h2 | ⟨g', cap', cur, hv, hg, hh, r⟩
  · exact Or.inl h2
  · have e : g = g' := by injection hv with e; injection e with e2; injection e2
    subst e
    exact Or.inr ⟨g, cap', cur, hv, hg, by rw [hk]; exact hh, r⟩
theorem own_cell {t g i n : Nat} {w : World} {L : List Int} (hO : w.ownsRow t 2 1 (.slice (some ⟨g, 0, none⟩) n n) n ((pad n L).map encI)) (hL : L.length = i) (hi : i < n) : ∃ z, w.cell? ⟨g, i, none⟩ = some (.int .i64 z) := by
  have hl := pad_len (n := n) (L := L) (by omega)
  refine ⟨(pad n L)[i]?.getD 0, ?_⟩
  rw [hO.cellAt i (by omega), List.getElem?_map, List.getElem?_eq_getElem (by omega)]
  rfl
theorem own_put {t g i n : Nat} {w : World} {L : List Int} {y : Int} (hO : w.ownsRow t 2 1 (.slice (some ⟨g, 0, none⟩) n n) n ((pad n L).map encI)) (hL : L.length = i) (hi : i < n) : (w.setCell ⟨g, i, none⟩ (.int .i64 y)).ownsRow t 2 1 (.slice (some ⟨g, 0, none⟩) n n) n ((pad n (L ++ [y])).map encI) := by
  have h := (hO.stored i (.int .i64 y)).1
  rw [← pad_set y hL hi, List.map_set]
  exact h
end Go.Proofs.Ytckdbcngnghhiaa

/-
  Spans: values, boxes, what is answered.
-/
namespace Go.Proofs.Ytckdbcngnghhiaa
open Go.RowKit
set_option linter.unusedVariables false
set_option linter.unusedSimpArgs false

/-- A span: both ends. -/
def St (w : World) (b : Bool) (A : Option Addr) (n c : Nat) (B : Option Addr) (m d : Nat) (v : Bool) (V : Option Addr) (r k : Nat) (U : Option Addr) (o q : Nat) (x y : Rat) : Prop := Rt w b A n c B m d x ∧ Rt w v V r k U o q y
/-- A call has answered a span; and one with a code. -/
def GotSt (w : World) (x y : Rat) (e : Ending) (w' : World) : Prop := ∃ b A n c B m d v V r k U o q, e = .returned (.agg #[.bool b, .slice A n c, .slice B m d, .bool v, .slice V r k, .slice U o q]) ∧ St w' b A n c B m d v V r k U o q x y ∧ Below w.heap.size w w'
def GotSp (w : World) (x y : Rat) (z : Int) (e : Ending) (w' : World) : Prop := ∃ b A n c B m d v V r k U o q, e = .returned (.tuple #[.agg #[.bool b, .slice A n c, .slice B m d, .bool v, .slice V r k, .slice U o q], .int .i64 z]) ∧ St w' b A n c B m d v V r k U o q x y ∧ Below w.heap.size w w'
/-- A box of six cells, none of which is a digit. -/
def Held (W : World) (g : Nat) : Prop := ∀ i, i < 6 → ∃ u, W.cell? ⟨g, i, none⟩ = some u ∧ ∀ k n, u ≠ .int k n
theorem Held.set {W : World} {g j : Nat} {v : Value} (h : Held W g) (hj : j < 6) (hv : ∀ k n, v ≠ .int k n) : Held (W.setCell ⟨g, j, none⟩ v) g := by
  intro i hi
  obtain ⟨u, h1, h2⟩ := h i hi
  by_cases e : j = i
  · subst e
    exact ⟨v, World.cell?_setCell_same _ _ _ h1, hv⟩
  · exact ⟨u, (World.cell?_setCell_other _ _ _ _ (addr_ne e)).trans h1, h2⟩
theorem Num.held {W : World} {g j : Nat} {v : Value} {A : Option Addr} {n c x : Nat} (hn : Num W A n c x) (h : Held W g) (hj : j < 6) : Num (W.setCell ⟨g, j, none⟩ v) A n c x := by
  obtain ⟨u, h1, h2⟩ := h j hj
  exact hn.set_other h1 h2
/-- All six cells are written. -/
@[reducible] def putS (W : World) (g : Nat) (a b c d e f : Value) : World := (((((W.setCell ⟨g, 0, none⟩ a).setCell ⟨g, 1, none⟩ b).setCell ⟨g, 2, none⟩ c).setCell ⟨g, 3, none⟩ d).setCell ⟨g, 4, none⟩ e).setCell ⟨g, 5, none⟩ f
section
variable {W : World} {g : Nat}
theorem Num.putS {A : Option Addr} {n c x : Nat} (hn : Num W A n c x) (h : Held W g) (b v : Bool) (u1 u2 u4 u5 : Option Addr × Nat × Nat) : Num (putS W g (.bool b) (.slice u1.1 u1.2.1 u1.2.2) (.slice u2.1 u2.2.1 u2.2.2) (.bool v) (.slice u4.1 u4.2.1 u4.2.2) (.slice u5.1 u5.2.1 u5.2.2)) A n c x := by
  have k0 := h.set (j := 0) (v := .bool b) (by omega) (fun _ _ e => by cases e)
  have k1 := k0.set (j := 1) (v := .slice u1.1 u1.2.1 u1.2.2) (by omega) (fun _ _ e => by cases e)
  have k2 := k1.set (j := 2) (v := .slice u2.1 u2.2.1 u2.2.2) (by omega) (fun _ _ e => by cases e)
  have k3 := k2.set (j := 3) (v := .bool v) (by omega) (fun _ _ e => by cases e)
  have k4 := k3.set (j := 4) (v := .slice u4.1 u4.2.1 u4.2.2) (by omega) (fun _ _ e => by cases e)
  exact (((((hn.held h (by omega)).held k0 (by omega)).held k1 (by omega)).held k2 (by omega)).held k3 (by omega)).held k4 (by omega)
theorem Rt.putS {b0 : Bool} {A0 B0 : Option Addr} {n0 c0 m0 d0 : Nat} {x : Rat} (hr : Rt W b0 A0 n0 c0 B0 m0 d0 x) (h : Held W g) (b v : Bool) {A1 A2 A4 A5 : Option Addr} {n1 c1 n2 c2 n4 c4 n5 c5 : Nat} : Rt (putS W g (.bool b) (.slice A1 n1 c1) (.slice A2 n2 c2) (.bool v) (.slice A4 n4 c4) (.slice A5 n5 c5)) b0 A0 n0 c0 B0 m0 d0 x :=
  ⟨⟨hr.1.1.putS h b v (A1, n1, c1) (A2, n2, c2) (A4, n4, c4) (A5, n5, c5), hr.1.2⟩, hr.2.putS h b v (A1, n1, c1) (A2, n2, c2) (A4, n4, c4) (A5, n5, c5)⟩
end

end Go.Proofs.Ytckdbcngnghhiaa

/-
  The contracts of the seventh reference: Same, Has, In.
-/
namespace Go.Proofs.Ytckdbcngnghhiaa
open Go.RowKit
set_option linter.unusedVariables false
set_option linter.unusedSimpArgs false






end Go.Proofs.Ytckdbcngnghhiaa

/-
  The contracts of the seventh reference: Add.
-/
namespace Go.Proofs.Ytckdbcngnghhiaa
open Go.RowKit
set_option linter.unusedVariables false
set_option linter.unusedSimpArgs false


end Go.Proofs.Ytckdbcngnghhiaa

/-
  The contracts of the eighth reference: Add, Sub, Mul, Div, Scale.
-/
namespace Go.Proofs.Ytckdbcngnghhiaa
set_option maxRecDepth 100000
set_option maxHeartbeats 8000000
open Go.RowKit
set_option linter.unusedVariables false
set_option linter.unusedSimpArgs false

theorem bak_sz8 {a : Int} (h : I64 a) {k : Nat} (hk : k ≤ 500) : Sz (bak a k) 8 := bak_sz (Nat.le_trans (len_one h.abs) (by omega)) (by omega) hk
theorem radd8_N {w : World} {a b : Int} (ha : I64 a) (hb : I64 b) :
    Calls Try.prog 64 #[.int .i64 a, .int .i64 b] w (GotV w (.tuple #[.int .i64 (nI (a + b)), .int .i64 (nE (a + b))])) := by
  have sa : Sz ((a : Int) : Rat) 1 := sz_of (len_one ha.abs)
  have sb : Sz ((b : Int) : Rat) 1 := sz_of (len_one hb.abs)
  have sv := sa.add sb
  obtain ⟨v, e⟩ : ∃ v, ((a : Int) : Rat) + ((b : Int) : Rat) = v := ⟨_, rfl⟩
  obtain ⟨z, ez⟩ : ∃ z, a + b = z := ⟨_, rfl⟩
  rw [e] at sv
  have CN : ∀ {W : World} {b : Bool} {A B : Option Addr} {n c m d : Nat}, Rt W b A n c B m d v → Calls Try.prog 33 #[.agg #[.bool b, .slice A n c, .slice B m d], .int .i64 0] W (GotV W (.tuple #[.int .i64 (nI (z)), .int .i64 (nE (z))])) := fun ha_ => by have h := near_N ha_ (sv.le (by omega)) (j := 0) (by omega) (by omega); rw [← e] at h; rw [← ez, ← nea_sum]; exact h
  have CO : ∀ {W : World} {b0 : Bool} {A0 B0 : Option Addr} {n0 c0 m0 d0 : Nat} {b1 : Bool} {A1 B1 : Option Addr} {n1 c1 m1 d1 : Nat}, Rt W b0 A0 n0 c0 B0 m0 d0 ((a : Int) : Rat) → Rt W b1 A1 n1 c1 B1 m1 d1 ((b : Int) : Rat) → Calls Try.prog 15 #[.agg #[.bool b0, .slice A0 n0 c0, .slice B0 m0 d0], .agg #[.bool b1, .slice A1 n1 c1, .slice B1 m1 d1]] W (GotRt W v) := fun ha_ hb_ => by rw [← e]; exact rtadd_N ha_ (sa.le (by omega)) hb_ (sb.le (by omega))
  rw [ez]
  clear e ez
  have cc := Below.refl w.heap.size w
  go_enter Try.func64, Try.ntmps64
  go_wp2_with fail
  refine (rtof_N _ a ha).mono ?_
  rintro e w1 ⟨bx, Ax, nx, cx, Bx, mx, dx, rfl, hx, b⟩
  replace cc := bK cc b
  clear b
  go_wp2_with fail
  refine (rtof_N _ b hb).mono ?_
  rintro e w2 ⟨bz, Az, nz, cz, Bz, mz, dz, rfl, hz, b⟩
  replace hx := hx.on b
  replace cc := bK cc b
  clear b
  go_wp2_with fail
  refine (CO hx hz).mono ?_
  rintro e w3 ⟨bu, Au, nu, cu, Bu, mu, du, rfl, hu, b⟩
  replace hx := hx.on b
  replace hz := hz.on b
  replace cc := bK cc b
  clear b
  go_wp2_with fail
  refine (CN hu).mono ?_
  rintro e w4 ⟨rfl, b⟩
  replace hx := hx.on b
  replace hz := hz.on b
  replace hu := hu.on b
  replace cc := bK cc b
  clear b
  go_wp2_with fail
  go_ret2
  exact ⟨rfl, cc⟩

theorem rsub8_N {w : World} {a b : Int} (ha : I64 a) (hb : I64 b) :
    Calls Try.prog 65 #[.int .i64 a, .int .i64 b] w (GotV w (.tuple #[.int .i64 (nI (a - b)), .int .i64 (nE (a - b))])) := by
  have sa : Sz ((a : Int) : Rat) 1 := sz_of (len_one ha.abs)
  have sb : Sz ((b : Int) : Rat) 1 := sz_of (len_one hb.abs)
  have sv := sa.sub sb
  obtain ⟨v, e⟩ : ∃ v, ((a : Int) : Rat) - ((b : Int) : Rat) = v := ⟨_, rfl⟩
  obtain ⟨z, ez⟩ : ∃ z, a - b = z := ⟨_, rfl⟩
  rw [e] at sv
  have CN : ∀ {W : World} {b : Bool} {A B : Option Addr} {n c m d : Nat}, Rt W b A n c B m d v → Calls Try.prog 33 #[.agg #[.bool b, .slice A n c, .slice B m d], .int .i64 0] W (GotV W (.tuple #[.int .i64 (nI (z)), .int .i64 (nE (z))])) := fun ha_ => by have h := near_N ha_ (sv.le (by omega)) (j := 0) (by omega) (by omega); rw [← e] at h; rw [← ez, ← nea_diff]; exact h
  have CO : ∀ {W : World} {b0 : Bool} {A0 B0 : Option Addr} {n0 c0 m0 d0 : Nat} {b1 : Bool} {A1 B1 : Option Addr} {n1 c1 m1 d1 : Nat}, Rt W b0 A0 n0 c0 B0 m0 d0 ((a : Int) : Rat) → Rt W b1 A1 n1 c1 B1 m1 d1 ((b : Int) : Rat) → Calls Try.prog 19 #[.agg #[.bool b0, .slice A0 n0 c0, .slice B0 m0 d0], .agg #[.bool b1, .slice A1 n1 c1, .slice B1 m1 d1]] W (GotRt W v) := fun ha_ hb_ => by rw [← e]; exact rtsub_N ha_ (sa.le (by omega)) hb_ (sb.le (by omega))
  rw [ez]
  clear e ez
  have cc := Below.refl w.heap.size w
  go_enter Try.func65, Try.ntmps65
  go_wp2_with fail
  refine (rtof_N _ a ha).mono ?_
  rintro e w1 ⟨bx, Ax, nx, cx, Bx, mx, dx, rfl, hx, b⟩
  replace cc := bK cc b
  clear b
  go_wp2_with fail
  refine (rtof_N _ b hb).mono ?_
  rintro e w2 ⟨bz, Az, nz, cz, Bz, mz, dz, rfl, hz, b⟩
  replace hx := hx.on b
  replace cc := bK cc b
  clear b
  go_wp2_with fail
  refine (CO hx hz).mono ?_
  rintro e w3 ⟨bu, Au, nu, cu, Bu, mu, du, rfl, hu, b⟩
  replace hx := hx.on b
  replace hz := hz.on b
  replace cc := bK cc b
  clear b
  go_wp2_with fail
  refine (CN hu).mono ?_
  rintro e w4 ⟨rfl, b⟩
  replace hx := hx.on b
  replace hz := hz.on b
  replace hu := hu.on b
  replace cc := bK cc b
  clear b
  go_wp2_with fail
  go_ret2
  exact ⟨rfl, cc⟩

theorem prod_sz {a b : Int} (ha : I64 a) (hb : I64 b) {k : Nat} (hk : k ≤ 40) : Sz (bak a k * bak b k) 15 := by
  have h1 : ∀ {z : Int}, I64 z → Sz (bak z k) 7 := fun {z} h => sz_mk (pow_ne k) (Nat.le_trans (len_one h.abs) (by omega)) (Nat.le_trans (len_one (Nat.lt_of_le_of_lt (Nat.pow_le_pow_right (by omega) hk) (by decide))) (by omega))
  exact ((h1 ha).mul (h1 hb)).le (by omega)

theorem rmul8_N {w : World} {a b j : Int} (ha : I64 a) (hb : I64 b) (j0 : 0 ≤ j) (j1 : j ≤ 40) :
    Calls Try.prog 18 #[.int .i64 a, .int .i64 b, .int .i64 j] w (GotV w (.tuple #[.int .i64 (nI (rn (a * b) (2 ^ j.toNat))), .int .i64 (nE (rn (a * b) (2 ^ j.toNat)))])) := by
  obtain ⟨x, ex⟩ : ∃ v, bak a j.toNat = v := ⟨_, rfl⟩
  obtain ⟨y, ey⟩ : ∃ v, bak b j.toNat = v := ⟨_, rfl⟩
  have sx := bak_sz8 ha (show j.toNat ≤ 500 by omega)
  have sy := bak_sz8 hb (show j.toNat ≤ 500 by omega)
  rw [ex] at sx
  rw [ey] at sy
  skip
  have eq := nea_prod a b j.toNat
  obtain ⟨z, ez⟩ : ∃ z, rn (a * b) (2 ^ j.toNat) = z := ⟨_, rfl⟩
  rw [ex, ey, ez] at eq
  have sv : Sz (x * y) 15 := by rw [← ex, ← ey]; exact prod_sz ha hb (by omega)
  have CX : ∀ W : World, Calls Try.prog 32 #[.int .i64 a, .int .i64 j] W (GotRp W x 0) := fun W => by rw [← ex]; exact rrat8_N ha j0 j1
  have CY : ∀ W : World, Calls Try.prog 32 #[.int .i64 b, .int .i64 j] W (GotRp W y 0) := fun W => by rw [← ey]; exact rrat8_N hb j0 j1
  have CN : ∀ {W : World} {b : Bool} {A B : Option Addr} {n c m d : Nat}, Rt W b A n c B m d (x * y) → Calls Try.prog 33 #[.agg #[.bool b, .slice A n c, .slice B m d], .int .i64 j] W (GotV W (.tuple #[.int .i64 (nI (z)), .int .i64 (nE (z))])) := fun h => by rw [← eq]; exact near_N h sv j0 (by omega)
  rw [ez]
  clear ex ey ez eq
  have cc := Below.refl w.heap.size w
  go_enter Try.func18, Try.ntmps18
  go_wp2_with fail
  refine (CX _).mono ?_
  rintro e w1 ⟨bu, Au, nu, cu, Bu, mu, du, rfl, hu, b⟩
  replace cc := bK cc b
  clear b
  go_wp2_with fail
  generalize hv_ : w1.alloc (.cells #[.bool bu, .slice Au nu cu, .slice Bu mu du] 40) = v2
  have bA : Below w1.heap.size w1 v2 := by rw [← hv_]; exact below_one _ _
  replace hu := hu.on bA
  replace cc := bK cc bA
  clear bA
  obtain ⟨xa0, xa1, xa2⟩ : Cs3 v2 w1.heap.size (.bool bu) (.slice Au nu cu) (.slice Bu mu du) := by simp [Cs3, ← hv_, go_sem]
  have xal : w1.heap.size < v2.heap.size := by simp [← hv_]
  clear hv_
  refine (CY _).mono ?_
  rintro e w3 ⟨bv, Av, nv, cv, Bv, mv, dv, rfl, hv, b⟩
  replace hu := hu.on b
  rewrite [cR b xal] at xa0 xa1 xa2
  replace xal := lK b xal
  replace cc := bK cc b
  clear b
  go_wp2_with fail
  generalize hv_ : w3.alloc (.cells #[.bool bv, .slice Av nv cv, .slice Bv mv dv] 40) = v4
  have bA : Below w3.heap.size w3 v4 := by rw [← hv_]; exact below_one _ _
  replace hu := hu.on bA
  replace hv := hv.on bA
  rewrite [cR bA xal] at xa0 xa1 xa2
  replace xal := lK bA xal
  replace cc := bK cc bA
  clear bA
  obtain ⟨xb0, xb1, xb2⟩ : Cs3 v4 w3.heap.size (.bool bv) (.slice Av nv cv) (.slice Bv mv dv) := by simp [Cs3, ← hv_, go_sem]
  have xbl : w3.heap.size < v4.heap.size := by simp [← hv_]
  clear hv_
  go_wp2_with fail
  refine (rtmul_N hu (sx.le (by omega)) hv (sy.le (by omega))).mono ?_
  rintro e w5 ⟨be, Ae, ne, ce, Be, me, de, rfl, he, b⟩
  replace hu := hu.on b
  replace hv := hv.on b
  rewrite [cR b xal] at xa0 xa1 xa2
  replace xal := lK b xal
  rewrite [cR b xbl] at xb0 xb1 xb2
  replace xbl := lK b xbl
  replace cc := bK cc b
  clear b
  go_wp2_with fail
  refine (CN he).mono ?_
  rintro e w6 ⟨rfl, b⟩
  replace hu := hu.on b
  replace hv := hv.on b
  replace he := he.on b
  rewrite [cR b xal] at xa0 xa1 xa2
  replace xal := lK b xal
  rewrite [cR b xbl] at xb0 xb1 xb2
  replace xbl := lK b xbl
  replace cc := bK cc b
  clear b
  go_wp2_with fail
  go_ret2
  exact ⟨rfl, cc⟩

end Go.Proofs.Ytckdbcngnghhiaa

/-
  Plain arithmetic of powers and roots.
-/
namespace Go.Proofs.Ytckdbcngnghhiaa

/-- The greatest number up to n whose power of k is at most x. -/
def irootTo (k x : Nat) : Nat → Nat
  | 0 => 0
  | n + 1 => if (n + 1) ^ k ≤ x then n + 1 else irootTo k x n
/-- A root, down. -/
def iroot (k x : Nat) : Nat := irootTo k x x
/-- A root, up. -/
def uroot (k x : Nat) : Nat := if iroot k x ^ k = x then iroot k x else iroot k x + 1

end Go.Proofs.Ytckdbcngnghhiaa

/-
  Rates by schedules: what is right, what the rate of a step is; numbers alone.
-/
namespace Go.Proofs.Ytckdbcngnghhiaa
set_option linter.unusedVariables false
set_option linter.unusedSimpArgs false

/-- A schedule is right, with f. -/
def OkR (f kd ba ra en wa ev la po : Int) : Prop :=
  (0 ≤ f ∧ f ≤ 40) ∧ (0 ≤ kd ∧ kd ≤ 3) ∧ 0 ≤ ba ∧ (0 ≤ wa ∧ wa ≤ 1000000) ∧ (kd = 2 → (1 ≤ ev ∧ ev ≤ 1000000) ∧ 0 ≤ ra ∧ ra ≤ ((2 ^ f.toNat : Nat) : Int)) ∧ (kd = 3 → (1 ≤ la ∧ la ≤ 1000000) ∧ (1 ≤ po ∧ po ≤ 8) ∧ 0 ≤ en ∧ en ≤ ba)
instance (f kd ba ra en wa ev la po : Int) : Decidable (OkR f kd ba ra en wa ev la po) := by unfold OkR; infer_instance
/-- By steps: so often times the rate. -/
def dropR (ba ra : Int) (d : Nat) : Nat → Int
  | 0 => ba
  | i + 1 => rn (dropR ba ra d i * ra) d
/-- By the root of the step. -/
def fellR (ba wa t : Int) : Int := ((iroot 2 (ba.toNat * ba.toNat * (max wa 1).toNat / t.toNat) : Nat) : Int)
/-- By a power. -/
def polyR (ba en t la po : Int) : Int := if la ≤ t then en else en + rn ((ba - en) * (la - t) ^ po.toNat) (la.toNat ^ po.toNat)
/-- The rate of a step. -/
def rt15 (f kd ba ra en wa ev la po t : Int) : Int :=
  if t ≤ wa then rn (ba * t) wa.toNat else if kd = 1 then fellR ba wa t else if kd = 3 then polyR ba en t la po else if kd = 2 then dropR ba ra (2 ^ f.toNat) (min ((t - wa) / ev) 200).toNat else ba
def rI (f kd ba ra en wa ev la po t : Int) : Prop := OkR f kd ba ra en wa ev la po ∧ 1 ≤ t ∧ t ≤ 1000000

instance (f kd ba ra en wa ev la po t : Int) : Decidable (rI f kd ba ra en wa ev la po t) := by unfold rI; infer_instance
/-- What Rate tells. -/
def rV (f kd ba ra en wa ev la po t : Int) : Int := if rI f kd ba ra en wa ev la po t then rt15 f kd ba ra en wa ev la po t else 0
def rE (f kd ba ra en wa ev la po t : Int) : Int := if rI f kd ba ra en wa ev la po t then 0 else 1
end Go.Proofs.Ytckdbcngnghhiaa

/-
  The contracts of the fifteenth reference: in, One, Right.
-/
namespace Go.Proofs.Ytckdbcngnghhiaa
set_option maxRecDepth 100000
open Go.RowKit
set_option linter.unusedVariables false
set_option linter.unusedSimpArgs false



set_option maxHeartbeats 8000000 in
theorem rOne15_N {w : World} {f : Int} (f0 : 0 ≤ f) (f1 : f ≤ 40) :
    Calls Try.prog 44 #[.int .i64 f] w (GotV w (.int .i64 ((2 ^ f.toNat : Nat) : Int))) := by
  obtain ⟨k, rfl⟩ : ∃ k : Nat, f = (k : Int) := ⟨f.toNat, by omega⟩
  rw [Int.toNat_natCast]
  have hP : ∀ i, i ≤ 40 → 2 ^ i ≤ 1099511627776 := fun i hi => Nat.le_trans (Nat.pow_le_pow_right (by omega) hi) (by decide)
  have HP := Lib.hid hP
  have HK := Lib.hid f1
  obtain ⟨S, eS⟩ : ∃ S : Nat → Nat, (fun i => 2 ^ i) = S := ⟨_, rfl⟩
  have HS : Hid (∀ i, S (i + 1) = S i * 2) := Lib.hid (fun i => by rw [← eS]; show 2 ^ (i + 1) = 2 ^ i * 2; rw [Nat.pow_succ])
  have H0 : Hid (S 0 = 1) := Lib.hid (by rw [← eS])
  have HB : Hid (∀ i, i ≤ 40 → S i ≤ 1099511627776) := Lib.hid (fun i hi => by rw [← eS]; exact hP i hi)
  have HE : Hid (2 ^ k = S k) := Lib.hid (by rw [← eS])
  clear hP HP eS f0 f1
  rw [HE.out]
  have cc := Below.refl w.heap.size w
  go_enter Try.func44, Try.ntmps44
  go_wp2_with fail
  go_loopw [3, 4] (fun nv iv wr => ∃ i : Nat, i ≤ k ∧ iv = .int .i64 (i : Int) ∧ nv = .int .i64 ((S i : Nat) : Int) ∧ Below w.heap.size w wr) (fun _ iv _ => k - (intOf iv).toNat)
  case atStart => exact ⟨0, by omega, rfl, by rw [H0.out]; rfl, Below.refl _ _⟩
  case round =>
    obtain ⟨i, hi, rfl, rfl, hbl⟩ := hrel
    have hk := HK.out
    by_cases hlt : i < k
    · have hS := HS.out i
      have hB := HB.out i (by omega)
      have k3 : IntKind.i64.wrap ((i : Int) + 1) = ((i + 1 : Nat) : Int) := by rw [IntWalk.i64_in _ (by omega)]; omega
      have k4 : IntKind.i64.wrap ((S i : Int) * 2) = ((S (i + 1) : Nat) : Int) := by rw [IntWalk.i64_in _ (by omega), hS]; omega
      obtain ⟨y, hy⟩ : ∃ y, S i = y := ⟨_, rfl⟩
      obtain ⟨z, hz⟩ : ∃ z, S (i + 1) = z := ⟨_, rfl⟩
      rw [hz, hy] at k4
      rw [hy]
      have HZ := Lib.hid hz
      clear hS hB hy hz
      go_wp2_with fail
      go_roundw
      case rel => exact ⟨i + 1, by omega, by go_num, by rw [HZ.out], hbl⟩
      case measure => simp [intOf] <;> omega
    · obtain rfl : i = k := by omega
      go_wp2_with fail
      go_ret
      exact ⟨rfl, hbl⟩
















end Go.Proofs.Ytckdbcngnghhiaa
