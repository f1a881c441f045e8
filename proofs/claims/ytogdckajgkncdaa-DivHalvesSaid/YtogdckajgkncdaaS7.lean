/-
  The contracts of div's lessTimes, addBack and takeOff: a window of a row of digits is changed in place.
-/
import Derived.Test.YtogdckajgkncdaaS6
namespace Go.Proofs.Ytogdckajgkncdaa
open Go.RowKit

theorem sub64_run0 (x y : Nat) (w : World) :
    (callFunc 59 #[.int .u64 (x : Int), .int .u64 (y : Int), .int .u64 0]).run Try.prog w = .ok (.value (.tuple #[.int .u64 (subLo x y 0 : Int), .int .u64 (subHi x y 0 : Int)])) w := sub64_run x y 0 (by omega) w

/-- A slice of digits in another block than the one that is written is kept. -/
theorem Lim.apart {B : Nat} {w w' : World} {b o n c g : Nat} {l : List Nat} (h : Lim B w (some ⟨b, o, none⟩) n c l) (hg : w.grownBy w' (some g)) (hne : b ≠ g) (hB : B ≤ w.heap.size) : Lim B w' (some ⟨b, o, none⟩) n c l :=
  ⟨h.1, h.2.1, h.2.2.1, fun hn => by
    obtain ⟨b', o', e, hlt, hc⟩ := h.2.2.2 hn
    injection e with e
    injection e with e1 e2
    subst e1; subst e2
    exact ⟨b, o, rfl, hlt, fun j hj => (World.cell?_of_block (a := ⟨b, o + j, none⟩) (hg.block b (by omega) (by simp; omega))).trans (hc j hj)⟩⟩

theorem win_get {pre Q post : List Nat} {i k : Nat} (hi : pre.length = i) (hk : k < Q.length) : ((pre ++ (Q ++ post)).map encD)[i + k]? = some (.int .u64 ((Q[k]?.getD 0 : Nat) : Int)) := by
  rw [List.getElem?_map, List.getElem?_append_right (by omega), hi, Nat.add_sub_cancel_left, List.getElem?_append_left hk, List.getElem?_eq_getElem hk]
  rfl
theorem win_set {pre Q post : List Nat} {i k : Nat} (d : Nat) (hi : pre.length = i) (hk : k < Q.length) : ((pre ++ (Q ++ post)).map encD).set (i + k) (.int .u64 (d : Int)) = (pre ++ (Q.set k d ++ post)).map encD := by
  rw [show (Value.int IntKind.u64 (d : Int)) = encD d from rfl, ← List.map_set, List.set_append_right _ _ (by omega), hi, Nat.add_sub_cancel_left, List.set_append_left _ _ hk]

theorem wrap_owed {x y q c : Nat} (hx : x < B64) (hy : y < B64) (hc : c < B64) :
    IntKind.u64.wrap (IntKind.u64.wrap ((mulHi y x : Int) + (sumHi (mulLo y x) c 0 : Int)) + (subHi q (sumLo (mulLo y x) c 0) 0 : Int)) = (owed x y q c : Int) := by
  obtain ⟨h1, h2⟩ := owed_lt (q := q) hx hy hc
  unfold owed at h2 ⊢
  generalize mulHi y x = a at *
  generalize sumHi (mulLo y x) c 0 = b at *
  generalize subHi q (sumLo (mulLo y x) c 0) 0 = d at *
  simp only [IntKind.wrap_u64]
  unfold B64 at h1 h2
  omega

theorem lessD_eq (x y q c : Nat) : subLo q (sumLo (mulLo y x) c 0) 0 = lessD x y q c := rfl
theorem times_none {a p M h : Nat} (e : a = p + M * h) (hz : h = 0) : a = p := by
  subst hz
  rw [e, Nat.mul_zero, Nat.add_zero]
theorem times_once {a p M h : Nat} (e : a = p + M * h) (hz : h = 1) : a = p + M := by
  subst hz
  rw [e, Nat.mul_one]
/-- A row of the caller's, with a window. -/
def Win (w : World) (base g N cap : Nat) (pre Q post : List Nat) : Prop := w.ownsRow base 38 1 (.slice (some ⟨g, 0, none⟩) N cap) N ((pre ++ (Q ++ post)).map encD)

set_option maxRecDepth 100000 in
set_option maxHeartbeats 2000000 in
theorem less_N (w : World) (base g N cap i cr b o cb m x : Nat) (pre P post Dl : List Nat) (hW : Win w base g N cap pre P post) (hi : pre.length = i) (hP : Dig P) (lP : P.length = m + 1) (hD : Lim w.heap.size w (some ⟨b, o, none⟩) m cb Dl) (hne : b ≠ g) (hm : m ≤ 1000000) (hx : x < B64) (hin : i ≤ 1000000) :
    Calls Try.prog 51 #[.slice (some ⟨g, i, none⟩) (m + 1) cr, .slice (some ⟨b, o, none⟩) m cb, .int .u64 (x : Int)] w fun e w' => ∃ Q, Dig Q ∧ Q.length = m + 1 ∧ Win w' base g N cap pre Q post ∧ w.grownBy w' (some g) ∧
      ((e = .returned (.bool false) ∧ val Q + x * val Dl = val P) ∨ (e = .returned (.bool true) ∧ val Q + x * val Dl = val P + B64 ^ (m + 1))) := by
  have hbg := World.ownsRow.lt hW g rfl
  have HI := Lib.hid hi
  have HP := Lib.hid lP
  have HD := Lib.hid hD.1
  clear hi lP
  go_enter Try.func51, Try.ntmps51
  go_wp2
  go_loopw [7, 16] (fun ov iv wr => ∃ (k : Nat) (Q : List Nat) (c : Nat), k ≤ m ∧ iv = .int .i64 (k : Int) ∧ ov = .int .u64 (c : Int) ∧ LessAt P Q k x Dl c ∧ Win wr base g N cap pre Q post ∧ w.grownBy wr (some g)) (fun _ iv _ => m - (intOf iv).toNat)
  case atStart => exact ⟨0, P, 0, Nat.zero_le _, rfl, rfl, LessAt.start hP x Dl, hW, World.grownBy.refl w _⟩
  case round =>
    obtain ⟨k, Q, c, hk, rfl, rfl, hT, hown, hgr⟩ := hrel
    have hQl : Q.length = m + 1 := by rw [hT.2.1]; exact HP.out
    have h2 : wr.cell? ⟨g, i + k, none⟩ = some (.int .u64 ((Q[k]?.getD 0 : Nat) : Int)) := by
      have hlN : (pre ++ (Q ++ post)).length = N := by have := hown.1; simpa using this
      rw [World.ownsRow.cellAt hown (i + k) (by have := HI.out; simp at hlN; omega), win_get HI.out (by omega)]
    have h3 := World.ownsRow.frozenAt hown (i + k)
    have hql : Q[k]?.getD 0 < B64 := hT.1.get _
    have hcc : c < B64 := hT.2.2.1
    have hs0 := sub64_run0
    have ha0 := add64_run0
    have HT := Lib.hid hT
    have HO := Lib.hid hown
    have HG := Lib.hid hgr
    have HQ := Lib.hid hQl
    clear hT hown hgr hQl
    by_cases hlt : k < m
    · obtain ⟨b', o', e, hblt, hcell⟩ := (hD.apart HG.out hne (Nat.le_refl _)).2.2.2 (by omega)
      injection e with e
      injection e with e1 e2
      subst e1; subst e2
      have h1 := hcell k hlt
      have hyl : Dl[k]?.getD 0 < B64 := hD.2.2.1.get k
      clear hcell
      go_wp2_with (go_at_call 57; refine (mul64_any _ _ _ hyl hx).mono ?_; rintro e w' ⟨rfl, rfl⟩)
      have hst := World.ownsRow.stored HO.out (i + k) (.int .u64 (subLo (Q[k]?.getD 0) (sumLo (mulLo (Dl[k]?.getD 0) x) c 0) 0 : Int))
      refine ⟨⟨k + 1, Q.set k (lessD x (Dl[k]?.getD 0) (Q[k]?.getD 0) c), owed x (Dl[k]?.getD 0) (Q[k]?.getD 0) c, by omega, by go_num, ?_, HT.out.step hx hD.2.2.1 (by have := HP.out; omega), ?_, HG.out.trans hst.2⟩, by simp [intOf]; omega⟩
      · rw [wrap_owed hx hyl hcc]
      · have h5 := hst.1
        rw [win_set _ HI.out (by have := HQ.out; omega), lessD_eq] at h5
        rw [lessD_eq]
        exact h5
    · obtain rfl : k = m := by omega
      have hT := HT.out
      rw [HD.out] at hT
      obtain ⟨q1, q2, q3⟩ := hT.done (by rw [HP.out, HD.out])
      rw [← HD.out] at q1 q2 q3
      have HQ1 := Lib.hid q1
      have HQ2 := Lib.hid q2
      have HQ3 := Lib.hid q3
      clear hT q1 q2 q3
      have hst := World.ownsRow.stored HO.out (i + k) (.int .u64 (subLo (Q[k]?.getD 0) c 0 : Int))
      have hW1 := hst.1
      rw [win_set _ HI.out (by have := HQ.out; omega)] at hW1
      have HW1 := Lib.hid hW1
      have HW2 := Lib.hid (HG.out.trans hst.2)
      clear hst hW1
      have hsub := subHi_le (Q[k]?.getD 0) c 0
      by_cases hz : subHi (Q[k]?.getD 0) c 0 = 0
      · have hzb : (((subHi (Q[k]?.getD 0) c 0 : Nat) : Int) != 0) = false := by simp [hz]
        have HZ := Lib.hid hz
        clear hz
        go_wp2
        go_ret
        exact ⟨_, HQ1.out, HQ2.out, HW1.out, HW2.out, .inl ⟨rfl, times_none HQ3.out HZ.out⟩⟩
      · have hzb : (((subHi (Q[k]?.getD 0) c 0 : Nat) : Int) != 0) = true := by simp [hz]
        have HZ := Lib.hid hz
        clear hz
        go_wp2
        go_ret
        exact ⟨_, HQ1.out, HQ2.out, HW1.out, HW2.out, .inr ⟨rfl, times_once HQ3.out (by have := HZ.out; omega)⟩⟩

theorem wrap_sum (x c : Nat) : IntKind.u64.wrap ((x : Int) + (c : Int)) = ((sumLo x c 0 : Nat) : Int) := by
  rw [IntKind.wrap_u64, show (18446744073709551616 : Int) = (B64 : Int) from rfl]
  unfold sumLo
  simp

set_option maxRecDepth 100000 in
set_option maxHeartbeats 2000000 in
theorem back_N (w : World) (base g N cap i cr b o cb m : Nat) (pre P post Dl : List Nat) (hW : Win w base g N cap pre P post) (hi : pre.length = i) (hP : Dig P) (lP : P.length = m + 1) (hD : Lim w.heap.size w (some ⟨b, o, none⟩) m cb Dl) (hne : b ≠ g) (hm : m ≤ 1000000) (hin : i ≤ 1000000) :
    Calls Try.prog 52 #[.slice (some ⟨g, i, none⟩) (m + 1) cr, .slice (some ⟨b, o, none⟩) m cb] w fun e w' => e = .returned (.tuple #[]) ∧ ∃ Q v, Dig Q ∧ Q.length = m + 1 ∧ Win w' base g N cap pre Q post ∧ w.grownBy w' (some g) ∧ val Q + B64 ^ (m + 1) * v = val P + val Dl := by
  have hbg := World.ownsRow.lt hW g rfl
  have HI := Lib.hid hi
  have HP := Lib.hid lP
  have HD := Lib.hid hD.1
  clear hi lP
  go_enter Try.func52, Try.ntmps52
  go_wp2
  go_loopw [4, 9] (fun ov iv wr => ∃ (k : Nat) (Q : List Nat) (c : Nat), k ≤ m ∧ iv = .int .i64 (k : Int) ∧ ov = .int .u64 (c : Int) ∧ BackAt P Q k Dl c ∧ Win wr base g N cap pre Q post ∧ w.grownBy wr (some g)) (fun _ iv _ => m - (intOf iv).toNat)
  case atStart => exact ⟨0, P, 0, Nat.zero_le _, rfl, rfl, BackAt.start hP Dl, hW, World.grownBy.refl w _⟩
  case round =>
    obtain ⟨k, Q, c, hk, rfl, rfl, hT, hown, hgr⟩ := hrel
    have hQl : Q.length = m + 1 := by rw [hT.2.1]; exact HP.out
    have h2 : wr.cell? ⟨g, i + k, none⟩ = some (.int .u64 ((Q[k]?.getD 0 : Nat) : Int)) := by
      have hlN : (pre ++ (Q ++ post)).length = N := by have := hown.1; simpa using this
      rw [World.ownsRow.cellAt hown (i + k) (by have := HI.out; simp at hlN; omega), win_get HI.out (by omega)]
    have h3 := World.ownsRow.frozenAt hown (i + k)
    have hcc : c ≤ 1 := hT.2.2.1
    have HT := Lib.hid hT
    have HO := Lib.hid hown
    have HG := Lib.hid hgr
    have HQ := Lib.hid hQl
    clear hT hown hgr hQl
    by_cases hlt : k < m
    · obtain ⟨b', o', e, hblt, hcell⟩ := (hD.apart HG.out hne (Nat.le_refl _)).2.2.2 (by omega)
      injection e with e
      injection e with e1 e2
      subst e1; subst e2
      have h1 := hcell k hlt
      have ha0 := add64_run (Q[k]?.getD 0) (Dl[k]?.getD 0) c hcc
      clear hcell
      go_wp2
      have hst := World.ownsRow.stored HO.out (i + k) (.int .u64 (sumLo (Q[k]?.getD 0) (Dl[k]?.getD 0) c : Int))
      refine ⟨⟨k + 1, Q.set k (sumLo (Q[k]?.getD 0) (Dl[k]?.getD 0) c), sumHi (Q[k]?.getD 0) (Dl[k]?.getD 0) c, by omega, by go_num, rfl, HT.out.step hD.2.2.1 (by have := HP.out; omega), ?_, HG.out.trans hst.2⟩, by simp [intOf]; omega⟩
      have h5 := hst.1
      rw [win_set _ HI.out (by have := HQ.out; omega)] at h5
      exact h5
    · obtain rfl : k = m := by omega
      have hT := HT.out
      rw [HD.out] at hT
      obtain ⟨q1, q2, v, q3⟩ := hT.done (by rw [HP.out, HD.out])
      rw [← HD.out] at q1 q2 q3
      have HQ1 := Lib.hid q1
      have HQ2 := Lib.hid q2
      have HQ3 := Lib.hid q3
      clear hT q1 q2 q3
      have hst := World.ownsRow.stored HO.out (i + k) (.int .u64 (sumLo (Q[k]?.getD 0) c 0 : Int))
      have hW1 := hst.1
      rw [win_set _ HI.out (by have := HQ.out; omega)] at hW1
      have HW1 := Lib.hid hW1
      have HW2 := Lib.hid (HG.out.trans hst.2)
      have hws := wrap_sum (Q[k]?.getD 0) c
      clear hst hW1
      go_wp2
      go_end0
      exact ⟨rfl, _, v, HQ1.out, HQ2.out, HW1.out, HW2.out, HQ3.out⟩

end Go.Proofs.Ytogdckajgkncdaa
