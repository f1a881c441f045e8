/-
  The walk of BookTells.
-/
import Derived.Test.YtcbchofjaegdgaaL9
namespace Go.Proofs.Ytcbchofjaegdgaa
set_option maxRecDepth 100000
open Go.RowKit
set_option linter.unusedVariables false
set_option linter.unusedSimpArgs false

set_option maxRecDepth 100000 in
set_option maxHeartbeats 8000000 in
theorem BookTells_walk {w : World} (k : Int) (wk : (Lit.int .i64 k).wf = true) :
    Calls Try.prog 3 #[.int .i64 k] w (fun e w' => e = .returned (.bool true) ∧ Below w.heap.size w w') := by
  have CB := fun W => bbook_N W k
  have CR := fun W => rbook9_N W k
  have hlen := book9_len k
  have CD := fun W => bden_N W k
  have CE := fun W => rden9_N W k
  have CG := fun W => bgap_N W k
  have CH := fun W => rgap9_N W k
  have CS := fun W => bsig_N W k
  have CT := fun W => rsig9_N W k
  generalize book9 k = L at *
  generalize code9 k = r at *
  generalize den9 k = d at *
  generalize gap9 k = g at *
  generalize sig9 k = s at *
  have cc := Below.refl w.heap.size w
  go_enter Try.func3, Try.ntmps3
  go_wp2_with fail
  refine (CB _).mono ?_
  rintro e w1 ⟨Ax, nx, cx, rfl, hx, b⟩
  replace cc := cc.trans (b.mono cc.size)
  clear b
  go_wp2_with fail
  refine (CR _).mono ?_
  rintro e w2 ⟨Ay, ny, cy, rfl, hy, b⟩
  replace hx := hx.on b
  replace cc := cc.trans (b.mono cc.size)
  clear b
  go_wp2_with fail
  refine (alive9_any _).mono ?_
  rintro e w3 ⟨rfl, b⟩
  replace hx := hx.on b
  replace hy := hy.on b
  replace cc := cc.trans (b.mono cc.size)
  clear b
  go_wp2_with fail
  refine (rsame9_N hx hy hlen).mono ?_
  rintro e w4 ⟨rfl, b⟩
  replace hx := hx.on b
  replace hy := hy.on b
  replace cc := cc.trans (b.mono cc.size)
  clear b
  go_wp2_with fail
  refine (CD _).mono ?_
  rintro e w5 ⟨rfl, b⟩
  replace hx := hx.on b
  replace hy := hy.on b
  replace cc := cc.trans (b.mono cc.size)
  clear b
  go_wp2_with fail
  refine (CE _).mono ?_
  rintro e w6 ⟨rfl, b⟩
  replace hx := hx.on b
  replace hy := hy.on b
  replace cc := cc.trans (b.mono cc.size)
  clear b
  go_wp2_with fail
  refine (CG _).mono ?_
  rintro e w7 ⟨rfl, b⟩
  replace hx := hx.on b
  replace hy := hy.on b
  replace cc := cc.trans (b.mono cc.size)
  clear b
  go_wp2_with fail
  refine (CH _).mono ?_
  rintro e w8 ⟨rfl, b⟩
  replace hx := hx.on b
  replace hy := hy.on b
  replace cc := cc.trans (b.mono cc.size)
  clear b
  go_wp2_with fail
  refine (CS _).mono ?_
  rintro e w9 ⟨rfl, b⟩
  replace hx := hx.on b
  replace hy := hy.on b
  replace cc := cc.trans (b.mono cc.size)
  clear b
  go_wp2_with fail
  refine (CT _).mono ?_
  rintro e w10 ⟨rfl, b⟩
  replace hx := hx.on b
  replace hy := hy.on b
  replace cc := cc.trans (b.mono cc.size)
  clear b
  go_wp2_with fail
  go_ret
  exact ⟨rfl, cc⟩

end Go.Proofs.Ytcbchofjaegdgaa
