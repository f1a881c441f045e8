/-
  The walk of SchedEnds.
-/
import Derived.Test.YtmaolhajeoigpaaWEndA15
import Derived.Test.YtmaolhajeoigpaaWEndB15
import Derived.Test.YtmaolhajeoigpaaWEndC15
namespace Go.Proofs.Ytmaolhajeoigpaa
set_option maxRecDepth 100000
open Go.RowKit
set_option linter.unusedVariables false
set_option linter.unusedSimpArgs false

theorem SchedEnds_all {w : World} {kd ba ra en wa ev la po t u f : Int} (hIt : I64 kd ∧ I64 ba ∧ I64 ra ∧ I64 en ∧ I64 wa ∧ I64 ev ∧ I64 la ∧ I64 po ∧ I64 t ∧ I64 f) (hIu : I64 kd ∧ I64 ba ∧ I64 ra ∧ I64 en ∧ I64 wa ∧ I64 ev ∧ I64 la ∧ I64 po ∧ I64 u ∧ I64 f) : Calls Try.prog 6 #[.agg #[.int .i64 kd, .int .i64 ba, .int .i64 ra, .int .i64 en, .int .i64 wa, .int .i64 ev, .int .i64 la, .int .i64 po], .agg #[.int .i64 t, .int .i64 u], .int .i64 f] w fun e w' => e = .returned (.bool true) ∧ Below w.heap.size w w' := by
  by_cases hR0 : OkR f kd ba ra en wa ev la po
  rotate_left
  · exact SchedEnds_n0 hR0
  by_cases h0 : t ≤ wa
  · exact SchedEnds_e0 hR0 h0
  by_cases h1 : u ≤ wa
  · exact SchedEnds_e1 hR0 h0 h1
  by_cases h2 : t < 1
  · exact SchedEnds_e2 hR0 h0 h1 h2
  by_cases h3 : u < 1
  · exact SchedEnds_e3 hR0 h0 h1 h2 h3
  by_cases h4 : 1000000 < t
  · exact SchedEnds_e4 hR0 h0 h1 h2 h3 h4
  by_cases h5 : 1000000 < u
  · exact SchedEnds_e5 hR0 h0 h1 h2 h3 h4 h5
  by_cases k3 : kd = 3
  · by_cases qa : t < la
    · by_cases qb : u < la
      · exact SchedEnds_p11 hR0 h0 h1 h2 h3 h4 h5 k3 qa qb hIt hIu
      · exact SchedEnds_p10 hR0 h0 h1 h2 h3 h4 h5 k3 qa qb hIt hIu
    · by_cases qb : u < la
      · exact SchedEnds_p01 hR0 h0 h1 h2 h3 h4 h5 k3 qa qb hIt hIu
      · exact SchedEnds_p00 hR0 h0 h1 h2 h3 h4 h5 k3 qa qb hIt hIu
  by_cases k2 : kd = 2
  · by_cases qn : (t - wa) / ev = (u - wa) / ev
    · by_cases q0 : 0 < (t - wa) / ev
      · by_cases qr : ra = ((2 ^ f.toNat : Nat) : Int)
        · exact SchedEnds_d111 hR0 h0 h1 h2 h3 h4 h5 k2 qn q0 qr hIt hIu
        · exact SchedEnds_d110 hR0 h0 h1 h2 h3 h4 h5 k2 qn q0 qr hIt hIu
      · by_cases qr : ra = ((2 ^ f.toNat : Nat) : Int)
        · exact SchedEnds_d101 hR0 h0 h1 h2 h3 h4 h5 k2 qn q0 qr hIt hIu
        · exact SchedEnds_d100 hR0 h0 h1 h2 h3 h4 h5 k2 qn q0 qr hIt hIu
    · by_cases q0 : 0 < (t - wa) / ev
      · by_cases qr : ra = ((2 ^ f.toNat : Nat) : Int)
        · exact SchedEnds_d011 hR0 h0 h1 h2 h3 h4 h5 k2 qn q0 qr hIt hIu
        · exact SchedEnds_d010 hR0 h0 h1 h2 h3 h4 h5 k2 qn q0 qr hIt hIu
      · by_cases qr : ra = ((2 ^ f.toNat : Nat) : Int)
        · exact SchedEnds_d001 hR0 h0 h1 h2 h3 h4 h5 k2 qn q0 qr hIt hIu
        · exact SchedEnds_d000 hR0 h0 h1 h2 h3 h4 h5 k2 qn q0 qr hIt hIu
  exact SchedEnds_k hR0 h0 h1 h2 h3 h4 h5 ⟨k3, k2⟩ hIt hIu

end Go.Proofs.Ytmaolhajeoigpaa
