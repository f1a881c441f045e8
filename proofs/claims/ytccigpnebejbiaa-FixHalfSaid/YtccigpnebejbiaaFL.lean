/-
  Helps for the laws of dyad.
-/
import Derived.Test.YtccigpnebejbiaaA10
namespace Go.Proofs.Ytccigpnebejbiaa
set_option maxRecDepth 100000
open Go.RowKit
set_option linter.unusedVariables false
set_option linter.unusedSimpArgs false

theorem rzcmp_v {w : World} {b b' : Bool} {A B : Option Addr} {n c m d : Nat} {z z' : Int} (r : Int) (ha : Zn w b A n c z) (hb : Zn w b' B m d z') (hx : (limbs z.natAbs).length ≤ 300) (hy : (limbs z'.natAbs).length ≤ 300) (h : cmpZ z z' = r) : Calls Try.prog 44 #[.agg #[.bool b, .slice A n c], .agg #[.bool b', .slice B m d]] w (GotV w (.int .i64 r)) := by
  subst h
  exact rzcmp_N ha hb (by omega) (by omega)
theorem shr_pos {a x : Int} {n : Nat} (g : a = x / ((2 ^ n : Nat) : Int)) (h : ¬ x < 0) : a = ((x.natAbs / 2 ^ n : Nat) : Int) := by
  have e : ((x.natAbs : Nat) : Int) = x := by omega
  rw [Int.natCast_ediv, e]
  exact g
theorem cmpZ_le {a b : Int} : cmpZ a b ≤ 0 ↔ a ≤ b := by unfold cmpZ; split <;> (try split) <;> omega

theorem absQ_parts (x : Rat) : (absQ x).num = ((x.num.natAbs : Nat) : Int) ∧ (absQ x).den = x.den := by
  have h : x < 0 ↔ x.num < 0 := by
    rw [Rat.lt_iff]
    show x.num * ((1 : Nat) : Int) < 0 * (x.den : Int) ↔ _
    omega
  unfold absQ
  by_cases hx : x.num < 0
  · rw [if_pos (h.2 hx), Rat.neg_num, Rat.neg_den]; exact ⟨by omega, rfl⟩
  · rw [if_neg (fun a => hx (h.1 a))]; exact ⟨by omega, rfl⟩
theorem absQ_sz {x : Rat} {k : Nat} (h : Sz x k) : Sz (absQ x) k := by
  obtain ⟨a, b⟩ := absQ_parts x
  exact ⟨by rw [a, Int.natAbs_natCast]; exact h.1, by rw [b]; exact h.2⟩
set_option maxRecDepth 100000 in
set_option maxHeartbeats 2000000 in
theorem rtabs_N {w : World} {b : Bool} {A B : Option Addr} {n c m d : Nat} {x : Rat} (h : Rt w b A n c B m d x) :
    Calls Try.prog 21 #[.agg #[.bool b, .slice A n c, .slice B m d]] w (GotRt w (absQ x)) := by
  obtain ⟨e1, e2⟩ := absQ_parts x
  have HA : Hid (∀ W : World, Below w.heap.size w W → Rt W false A n c B m d (absQ x)) := Lib.hid (fun W hW => ⟨by rw [e1]; exact zn_nat (h.1.1.on hW), by rw [e2]; exact h.2.on hW⟩)
  obtain ⟨W, hW⟩ : ∃ W, (w.alloc (.cells #[.bool b, .slice A n c, .slice B m d] 35)).alloc (.cells #[.bool false, .slice none 0 0, .slice none 0 0] 35) = W := ⟨_, rfl⟩
  have hB : Below w.heap.size w W := by rw [← hW]; exact below_two w _ _
  have c0 : W.cell? ⟨w.heap.size, 0, none⟩ = some (.bool b) := by rw [← hW]; simp [go_sem]
  have c1 : W.cell? ⟨w.heap.size, 1, none⟩ = some (.slice A n c) := by rw [← hW]; simp [go_sem]
  have c2 : W.cell? ⟨w.heap.size, 2, none⟩ = some (.slice B m d) := by rw [← hW]; simp [go_sem]
  have d0 : W.cell? ⟨w.heap.size + 1, 0, none⟩ = some (.bool false) := by rw [← hW]; simp [go_sem]
  have d1 : W.cell? ⟨w.heap.size + 1, 1, none⟩ = some (.slice none 0 0) := by rw [← hW]; simp [go_sem]
  have d2 : W.cell? ⟨w.heap.size + 1, 2, none⟩ = some (.slice none 0 0) := by rw [← hW]; simp [go_sem]
  have f0 : W.frozen? ⟨w.heap.size + 1, 0, none⟩ = false := by rw [← hW]; simp [go_sem]
  have f1 : W.frozen? ⟨w.heap.size + 1, 1, none⟩ = false := by rw [← hW]; simp [go_sem]
  have f2 : W.frozen? ⟨w.heap.size + 1, 2, none⟩ = false := by rw [← hW]; simp [go_sem]
  have hr := HA.out W hB
  have eb : BoxR W (w.heap.size + 1) false none 0 0 none 0 0 := ⟨d0, d1, d2⟩
  have HZ : Hid (Rt (putR W (w.heap.size + 1) (.bool false) (.slice A n c) (.slice B m d)) false A n c B m d (absQ x)) := Lib.hid (Rt.putR hr eb _ _ _)
  clear hr h e1 e2
  go_enter Try.func21, Try.ntmps21
  go_wp2_with fail
  clear hW
  refine bodyPost_ret (v := .agg #[.bool false, .slice A n c, .slice B m d]) (by simp [results, Try.results21, go_sem, d0, d1, d2]) rfl ⟨_, _, _, _, _, _, _, rfl, HZ.out, below_putR hB (by omega) _ _ _⟩

end Go.Proofs.Ytccigpnebejbiaa
