/-
  What the laws of book lean on: alive; cells of rows.
-/
import Derived.Test.YtcbchofjaegdgaaJB
namespace Go.Proofs.Ytcbchofjaegdgaa
set_option maxRecDepth 100000
open Go.RowKit
set_option linter.unusedVariables false
set_option linter.unusedSimpArgs false

theorem IR.cell {w : World} {b off n c j : Nat} {l : List Int} (h : IR w (some ⟨b, off, none⟩) n c l) (hj : j < n) : w.cell? ⟨b, off + j, none⟩ = some (.int .i64 (l[j]?.getD 0)) := by
  obtain ⟨b', off', e, hlt, hc⟩ := h.2.2 (by omega)
  injection e with e
  injection e with e1 e2
  subst e1
  subst e2
  exact hc j hj
theorem IR.some {w : World} {A : Option Addr} {n c : Nat} {l : List Int} (h : IR w A n c l) (hn : 0 < n) : ∃ b off, A = some ⟨b, off, none⟩ ∧ b < w.heap.size := by
  obtain ⟨b, off, e, hlt, hc⟩ := h.2.2 hn
  exact ⟨b, off, e, hlt⟩
theorem u255 : (ulinek 256)[255]?.getD 0 = 255 := by decide +kernel
theorem gap3 : gap9 3 = 1 := by decide +kernel

set_option maxRecDepth 100000 in
set_option maxHeartbeats 8000000 in
theorem alive9_any (w : World) :
    Calls Try.prog 10 #[] w (GotV w (.bool true)) := by
  have C3 : ∀ W : World, Calls Try.prog 8 #[.int .i64 3] W (GotIp W (ulinek 256) 0) := fun W => bbook_N W 3
  have C4 : ∀ W : World, Calls Try.prog 8 #[.int .i64 4] W (GotIp W [] 1) := fun W => bbook_N W 4
  have CD : ∀ W : World, Calls Try.prog 12 #[.int .i64 0] W (GotV W (.int .i64 2560000000)) := fun W => bden_N W 0
  have CG : ∀ W : World, Calls Try.prog 14 #[.int .i64 3] W (GotV W (.int .i64 1)) := fun W => by have h := bgap_N W 3; rw [gap3] at h; exact h
  have C2 : ∀ W : World, Calls Try.prog 16 #[.int .i64 2] W (GotV W (.bool true)) := fun W => bsig_N W 2
  have C1 : ∀ W : World, Calls Try.prog 16 #[.int .i64 1] W (GotV W (.bool false)) := fun W => bsig_N W 1
  have cc := Below.refl w.heap.size w
  go_enter Try.func10, Try.ntmps10
  go_wp2_with fail
  refine (C3 _).mono ?_
  rintro e w1 ⟨Al, nl, cl, rfl, hl, b⟩
  replace cc := cc.trans (b.mono cc.size)
  clear b
  obtain rfl : nl = 256 := by rw [hl.1, ulinek_len]
  go_wp2_with fail
  refine (C4 _).mono ?_
  rintro e w2 ⟨Am, nm, cm, rfl, hm, b⟩
  replace hl := hl.on b
  replace cc := cc.trans (b.mono cc.size)
  clear b
  obtain ⟨bl, ol, rfl, hb⟩ := hl.some (by omega)
  have h255 := hl.cell (j := 255) (by omega)
  rw [u255] at h255
  clear hm
  go_wp2_with fail
  refine (CD _).mono ?_
  rintro e w3 ⟨rfl, b⟩
  replace hl := hl.on b
  replace cc := cc.trans (b.mono cc.size)
  clear b
  go_wp2_with fail
  refine (CG _).mono ?_
  rintro e w4 ⟨rfl, b⟩
  replace hl := hl.on b
  replace cc := cc.trans (b.mono cc.size)
  clear b
  go_wp2_with fail
  refine (C2 _).mono ?_
  rintro e w5 ⟨rfl, b⟩
  replace hl := hl.on b
  replace cc := cc.trans (b.mono cc.size)
  clear b
  go_wp2_with fail
  refine (C1 _).mono ?_
  rintro e w6 ⟨rfl, b⟩
  replace hl := hl.on b
  replace cc := cc.trans (b.mono cc.size)
  clear b
  go_wp2_with fail
  go_ret
  exact ⟨rfl, cc⟩

end Go.Proofs.Ytcbchofjaegdgaa
