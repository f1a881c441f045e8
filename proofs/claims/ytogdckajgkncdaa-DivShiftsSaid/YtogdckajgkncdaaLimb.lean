/-
  The contract of nat.limb.
-/
import Derived.Test.YtogdckajgkncdaaRows
import Derived.WalkKit
import Derived.WalkSpells
import Derived.WalkLawsBesides
import Derived.Lib.Hide
import Derived.Test.YtogdckajgkncdaaWords
namespace Go.Proofs.Ytogdckajgkncdaa
open Go.RowKit

set_option maxHeartbeats 400000 in
theorem limb_any (B : Nat) (A : Option Addr) (n c k : Nat) (l : List Nat) (w : World) (h : Lim B w A n c l) (hn : n ≤ 9223372036854775807) (hk : k ≤ 9223372036854775807) :
    Calls Try.prog 54 #[.slice A n c, .int .i64 k] w fun e w' => e = .returned (.int .u64 ((l[k]?.getD 0 : Nat) : Int)) ∧ w = w' := by
  obtain ⟨hl, hcap, hdg, hc⟩ := h
  by_cases hlt : k < n
  · obtain ⟨b, off, rfl, hb, hcell⟩ := hc (by omega)
    have h1 := hcell k hlt
    clear hcell hc hdg
    have HL := Lib.hid hl
    clear hl
    go_enter Try.func54, Try.ntmps54
    go_wp2
    go_ret
    exact ⟨rfl, rfl⟩
  · have hz : l[k]?.getD 0 = 0 := by rw [List.getElem?_eq_none (by omega)]; rfl
    have HZ := Lib.hid hz
    clear hc hdg hl hz
    go_enter Try.func54, Try.ntmps54
    go_wp2
    go_ret
    exact ⟨by rw [HZ.out]; rfl, rfl⟩

end Go.Proofs.Ytogdckajgkncdaa
