/-
  Several texts in one: B3, B4, B5, M10, MathH, MathD, MathQ, Bare, Halves, Whole, RAdd, RSub, RMul, RShift, RDiv, U, Z4, Z5, Z6, Z7, MathF, YB, RGcd, E5, E6, E7, E8, E9.
-/
import Derived.Test.YtpidpebgeblenaaA1
import Derived.Deep.RegionLaw
import Derived.Deep.AppendLies
import Derived.WalkSmall
import Derived.Deep.QuietTactic
import Derived.BigQuiet
import Derived.Deep.RegionHeld3
import Derived.OpenShut
import Derived.Deep.DeepCutAuto
import Derived.Deep.LoopGhost

/-
  The contract of the ninth reference: tree.
-/
namespace Go.Proofs.Ytpidpebgeblenaa
open Go.RowKit
set_option linter.unusedVariables false
set_option linter.unusedSimpArgs false

/-- The first m of a decade's numbers below nought, and above it. -/
def dnk (n i m : Nat) : List Int := (List.range m).map fun r => -(p9 n i (n - 1 - r) : Int)
def upk (n i m : Nat) : List Int := (List.range m).map fun r => (p9 n i r : Int)
/-- The first k decades, from above; from below. -/
def downs (s : Bool) (k : Nat) : List Int := (List.range k).flatMap fun r => dnk (many9 s (6 - r)) (6 - r) (many9 s (6 - r))
def ups (s : Bool) (k : Nat) : List Int := (List.range k).flatMap fun r => upk (many9 s r) r (many9 s r)
def low9 (s : Bool) : List Int := if s then downs s 7 else []
def tree9 (s : Bool) : List Int := low9 s ++ [0] ++ ups s 7 ++ [2560000000]
theorem dnk_succ (n i m : Nat) : dnk n i (m + 1) = dnk n i m ++ [-(p9 n i (n - 1 - m) : Int)] := by unfold dnk; rw [List.range_succ, List.map_append]; rfl
theorem upk_succ (n i m : Nat) : upk n i (m + 1) = upk n i m ++ [(p9 n i m : Int)] := by unfold upk; rw [List.range_succ, List.map_append]; rfl
theorem dnk_len (n i m : Nat) : (dnk n i m).length = m := by unfold dnk; simp
theorem upk_len (n i m : Nat) : (upk n i m).length = m := by unfold upk; simp
theorem downs_succ (s : Bool) (k : Nat) : downs s (k + 1) = downs s k ++ dnk (many9 s (6 - k)) (6 - k) (many9 s (6 - k)) := by unfold downs; rw [List.range_succ, List.flatMap_append]; simp
theorem ups_succ (s : Bool) (k : Nat) : ups s (k + 1) = ups s k ++ upk (many9 s k) k (many9 s k) := by unfold ups; rw [List.range_succ, List.flatMap_append]; simp
theorem downs_len (s : Bool) : ∀ k, k ≤ 7 → (downs s k).length ≤ 128 * k
  | 0, _ => by simp [downs]
  | k + 1, h => by
    rw [downs_succ, List.length_append, dnk_len]
    have := downs_len s k (by omega)
    have := (many9_le s (i := 6 - k) (by omega)).2
    omega
theorem ups_len (s : Bool) : ∀ k, k ≤ 7 → (ups s k).length ≤ 128 * k
  | 0, _ => by simp [ups]
  | k + 1, h => by
    rw [ups_succ, List.length_append, upk_len]
    have := ups_len s k (by omega)
    have := (many9_le s (i := k) (by omega)).2
    omega

/-- A value that is a row of the call's own (its blocks from t on), which holds l; below t all is as it was. -/
def Grown (t : Nat) (w W : World) (v : Value) (l : List Int) : Prop :=
  ∃ g cap N, v = .slice (some ⟨g, 0, none⟩) N cap ∧ W.ownsRow t 2 1 (.slice (some ⟨g, 0, none⟩) N cap) N (l.map encI) ∧ Below t w W ∧ t ≤ W.heap.size
theorem own_len {t : Nat} {W : World} {v : Value} {N : Nat} {l : List Int} (h : W.ownsRow t 2 1 v N (l.map encI)) : N = l.length := by have := h.1; simp at this; omega
theorem Grown.push {t : Nat} {w W w1 : World} {g N g1 cap1 : Nat} {l : List Int} {z : Int} {o : Obj} (hbl : Below t w W) (hts : t ≤ W.heap.size) (hwt : w.heap.size = t) (hg : t ≤ g)
    (hown1 : w1.ownsRow t 2 1 (.slice (some ⟨g1, 0, none⟩) (N + 1) cap1) (N + 1) (l.map encI ++ [.int .i64 z])) (hgrow1 : (W.alloc o).grownBy w1 (some g)) :
    Grown t w w1 (.slice (some ⟨g1, 0, none⟩) (N + 1) cap1) (l ++ [z]) := by
  have h1 : Below t w w1 := (hbl.alloc (by omega) _).grown hgrow1 (by simp; omega) (fun q e => by injection (show some g = some q from e) with e1; omega)
  refine ⟨g1, cap1, N + 1, rfl, ?_, h1, ?_⟩
  · rw [List.map_append]; exact hown1
  · have := h1.size; omega
theorem Grown.ir {t : Nat} {w W : World} {A : Option Addr} {n c : Nat} {l : List Int} (h : Grown t w W (.slice A n c) l) : IR W A n c l ∧ Below t w W := by
  obtain ⟨g, cap, N, e, hO, hb, hs⟩ := h
  injection e with e1 e2 e3
  subst e1
  subst e2
  subst e3
  exact ⟨IR.of_own hO, hb⟩
theorem own_after {t : Nat} {w W W' : World} {g cap n : Nat} {xs : List Value} (hO : W.ownsRow t 2 1 (.slice (some ⟨g, 0, none⟩) n cap) n xs) (hbl : Below t w W) (hts : t ≤ W.heap.size) (b : Below W.heap.size W W') :
    W'.ownsRow t 2 1 (.slice (some ⟨g, 0, none⟩) n cap) n xs ∧ Below t w W' ∧ t ≤ W'.heap.size ∧ t ≤ g := by
  have hl := hO.lt g rfl
  refine ⟨?_, hbl.trans (b.mono hts), Nat.le_trans hts b.size, hl.1⟩
  obtain ⟨h1, h2⟩ := hO
  refine ⟨h1, ?_⟩
  rcases h2 with h2 | ⟨g', cap', cur, hv, hg, hh, r⟩
  · exact Or.inl h2
  · refine Or.inr ⟨g', cap', cur, hv, hg, ?_, r⟩
    have : g' = g := by injection hv with e; injection e with e2; injection e2 with e3; exact e3.symm
    subst this
    rw [b.block g' hl.2]; exact hh

end Go.Proofs.Ytpidpebgeblenaa

/-
  The contracts of the ninth reference: Book.
-/
namespace Go.Proofs.Ytpidpebgeblenaa
open Go.RowKit
set_option linter.unusedVariables false
set_option linter.unusedSimpArgs false

def linek (m : Nat) : List Int := (List.range m).map fun (c : Nat) => 2 * (c : Int) - 255
def ulinek (m : Nat) : List Int := (List.range m).map fun (c : Nat) => (c : Int)
theorem linek_succ (m : Nat) : linek (m + 1) = linek m ++ [2 * (m : Int) - 255] := by unfold linek; rw [List.range_succ, List.map_append]; rfl
theorem ulinek_succ (m : Nat) : ulinek (m + 1) = ulinek m ++ [(m : Int)] := by unfold ulinek; rw [List.range_succ, List.map_append]; rfl
theorem linek_len (m : Nat) : (linek m).length = m := by unfold linek; simp
theorem ulinek_len (m : Nat) : (ulinek m).length = m := by unfold ulinek; simp
/-- A kind's numbers. -/
def book9 (k : Int) : List Int := if k = 0 then tree9 true else if k = 1 then tree9 false else if k = 2 then linek 256 else if k = 3 then ulinek 256 else []
/-- Is there such a kind? -/
def Kind9 (k : Int) : Prop := k = 0 ∨ k = 1 ∨ k = 2 ∨ k = 3
instance (k : Int) : Decidable (Kind9 k) := by unfold Kind9; infer_instance
def code9 (k : Int) : Int := if Kind9 k then 0 else 1

end Go.Proofs.Ytpidpebgeblenaa

/-
  The contracts of the ninth reference: Signed, Den, Gap, Same.
-/
namespace Go.Proofs.Ytpidpebgeblenaa
set_option maxRecDepth 100000
open Go.RowKit
set_option linter.unusedVariables false
set_option linter.unusedSimpArgs false

/-- The greater of two, behind a name. -/
def mxI (a b : Int) : Int := max a b
theorem mxI_run {P : Program} (w : World) (ts : Array TypeId) (t : TypeId) (x y : Int) : (Builtin.max_ ts t #[.int .i64 x, .int .i64 y]).run P w = .ok (.int .i64 (mxI x y)) w := by
  rw [run_max_int2]
  congr 2
  unfold mxI
  split <;> omega
/-- The greatest of the first m gaps. -/
def gk (L : List Int) : Nat → Int
  | 0 => 0
  | m + 1 => mxI (gk L m) (L[m + 1]?.getD 0 - L[m]?.getD 0)
def gap9 (k : Int) : Int := gk (book9 k) ((book9 k).length - 1)
def sig9 (k : Int) : Bool := decide (k = 0 ∨ k = 2)
theorem book9_small : ∀ k : Int, ∀ x ∈ book9 k, -400000000000 ≤ x ∧ x ≤ 400000000000 := by
  intro k x hx
  have h : ∀ L : List Int, L.all (fun x => decide (-400000000000 ≤ x ∧ x ≤ 400000000000)) = true → x ∈ L → -400000000000 ≤ x ∧ x ≤ 400000000000 := fun L a b => of_decide_eq_true (List.all_eq_true.1 a x b)
  unfold book9 at hx
  split at hx
  · exact h _ (by decide +kernel) hx
  split at hx
  · exact h _ (by decide +kernel) hx
  split at hx
  · exact h _ (by decide +kernel) hx
  split at hx
  · exact h _ (by decide +kernel) hx
  · cases hx
theorem book9_len (k : Int) : (book9 k).length ≤ 256 := by
  unfold book9
  split
  · decide +kernel
  split
  · decide +kernel
  split
  · decide +kernel
  split
  · decide +kernel
  · simp
theorem book9_at (k : Int) (j : Nat) : -400000000000 ≤ (book9 k)[j]?.getD 0 ∧ (book9 k)[j]?.getD 0 ≤ 400000000000 := by
  rcases Nat.lt_or_ge j (book9 k).length with h | h
  · rw [List.getElem?_eq_getElem h]
    exact book9_small k _ (List.getElem_mem h)
  · rw [List.getElem?_eq_none h]; decide



attribute [local go_sem ↓] mxI_run

set_option maxRecDepth 100000 in
set_option maxHeartbeats 4000000 in
theorem rsame9_N {w : World} {A B : Option Addr} {n c m d : Nat} {L : List Int} (hA : IR w A n c L) (hB : IR w B m d L) (hl : L.length ≤ 256) :
    Calls Try.prog 19 #[.slice A n c, .slice B m d] w (GotV w (.bool true)) := by
  obtain rfl : n = m := by rw [hA.1, hB.1]
  have hn2 : n ≤ 256 := by rw [hA.1]; exact hl
  clear hl
  go_enter Try.func19, Try.ntmps19
  go_wp2_with fail
  go_loopw [5] (fun iv wr => ∃ i : Nat, i ≤ n ∧ iv = .int .i64 (i : Int) ∧ Below w.heap.size w wr) (fun iv _ => 256 - (intOf iv).toNat)
  case atStart => exact ⟨0, by omega, rfl, Below.refl _ _⟩
  case round =>
    obtain ⟨i, hi, rfl, hbl⟩ := hrel
    by_cases hlt : i < n
    · obtain ⟨b1, o1, rfl, hb1, hc1⟩ := (hA.on hbl).2.2 (by omega)
      obtain ⟨b2, o2, rfl, hb2, hc2⟩ := (hB.on hbl).2.2 (by omega)
      have h1 := hc1 i hlt
      have h2 := hc2 i hlt
      have k3 : IntKind.i64.wrap ((i : Int) + 1) = ((i + 1 : Nat) : Int) := by rw [IntWalk.i64_in _ (by omega)]; omega
      clear hc1 hc2
      generalize L[i]?.getD 0 = x at *
      go_wp2_with fail
      go_region_held3 (fun w' => w'.cell? ⟨b1, o1 + i, none⟩ = some (.int .i64 x) ∧ w'.cell? ⟨b2, o2 + i, none⟩ = some (.int .i64 x)) (exact ⟨h1, h2⟩) (fail)
      go_wp2_with fail
      go_roundw
      case rel => exact ⟨i + 1, by omega, rfl, below_drewN hbl 1⟩
      case measure => simp [intOf] <;> omega
    · go_wp2_with fail
      go_ret
      exact ⟨rfl, hbl⟩
end Go.Proofs.Ytpidpebgeblenaa

/-
  The place of the nearest number of a codebook: what it is, that there is one alone, how far it is, how it rises.
-/
namespace Go.Proofs.Ytpidpebgeblenaa

/-- The place of the least of d 0 to d m, the lowest of these. -/
def lpl (d : Nat → Int) : Nat → Nat
  | 0 => 0
  | m + 1 => if d (m + 1) < d (lpl d m) then m + 1 else lpl d m
theorem lpl_le (d : Nat → Int) : ∀ m, lpl d m ≤ m
  | 0 => Nat.le_refl 0
  | m + 1 => by unfold lpl; split; exact Nat.le_refl _; exact Nat.le_succ_of_le (lpl_le d m)
theorem lpl_least (d : Nat → Int) : ∀ m c, c ≤ m → d (lpl d m) ≤ d c ∧ (c < lpl d m → d (lpl d m) < d c)
  | 0, c, h => by obtain rfl : c = 0 := by omega
                  exact ⟨Int.le_refl _, fun h => absurd h (Nat.not_lt_zero _)⟩
  | m + 1, c, h => by
    have ih := lpl_least d m
    have hl := lpl_le d m
    unfold lpl
    split
    · rename_i hlt
      rcases Nat.lt_or_ge m c with h1 | h1
      · obtain rfl : c = m + 1 := by omega
        exact ⟨Int.le_refl _, fun h => absurd h (Nat.lt_irrefl _)⟩
      · have := (ih c h1).1
        exact ⟨by omega, fun _ => by omega⟩
    · rename_i hlt
      rcases Nat.lt_or_ge m c with h1 | h1
      · obtain rfl : c = m + 1 := by omega
        exact ⟨by omega, fun h => by omega⟩
      · exact ih c h1
theorem lpl_uniq {d : Nat → Int} {m b : Nat} (hb : b ≤ m) (h : ∀ c, c ≤ m → d b ≤ d c ∧ (c < b → d b < d c)) : lpl d m = b := by
  have h1 := lpl_least d m b hb
  have h2 := h (lpl d m) (lpl_le d m)
  rcases Nat.lt_trichotomy (lpl d m) b with e | e | e
  · have := h2.2 e; have := h1.1; omega
  · exact e
  · have := h1.2 e; have := h2.1; omega
theorem lpl_scale {d : Nat → Int} {t : Int} (ht : 0 < t) : ∀ m, lpl (fun c => t * d c) m = lpl d m
  | 0 => rfl
  | m + 1 => by
    have ih := lpl_scale (d := d) ht m
    unfold lpl
    rw [ih]
    have e : (t * d (m + 1) < t * d (lpl d m)) ↔ d (m + 1) < d (lpl d m) := ⟨fun h => Int.lt_of_mul_lt_mul_left h (Int.le_of_lt ht), fun h => Int.mul_lt_mul_of_pos_left h ht⟩
    by_cases h : d (m + 1) < d (lpl d m)
    · rw [if_pos h, if_pos (e.2 h)]
    · rw [if_neg h, if_neg (fun x => h (e.1 x))]
/-- A kind's number. -/
def num10 (k : Int) (c : Nat) : Int := (book9 k)[c]?.getD 0
/-- How far a code's number is from a share, times both denominators. -/
def dst (k num den : Int) (c : Nat) : Int := ((num * den9 k - num10 k c * den).natAbs : Int)
/-- The code of a share. -/
def near10 (k num den : Int) : Nat := lpl (dst k num den) 255
/-- Is it a share? -/
def Shr (k num den : Int) : Prop := Kind9 k ∧ 1 ≤ den ∧ num ≤ den ∧ -den ≤ num ∧ (0 ≤ num ∨ sig9 k = true)
instance (k num den : Int) : Decidable (Shr k num den) := by unfold Shr; infer_instance
theorem near10_le (k num den : Int) : near10 k num den ≤ 255 := lpl_le _ _
theorem near10_least {k num den : Int} {c : Nat} (h : c ≤ 255) : dst k num den (near10 k num den) ≤ dst k num den c ∧ (c < near10 k num den → dst k num den (near10 k num den) < dst k num den c) := lpl_least _ 255 c h

def rising (L : List Int) : Bool := (List.range 255).all fun j => decide (L[j]?.getD 0 < L[j + 1]?.getD 0)
def gapped (L : List Int) (g : Int) : Bool := (List.range 255).all fun j => decide (L[j + 1]?.getD 0 - L[j]?.getD 0 ≤ g)
theorem facts10 {k : Int} (h : Kind9 k) : (book9 k).length = 256 ∧ num10 k 255 = den9 k ∧ rising (book9 k) = true ∧ gapped (book9 k) (gap9 k) = true ∧ (if sig9 k then decide (2 * (num10 k 0 + den9 k) ≤ gap9 k) else decide (num10 k 0 = 0)) = true ∧ (if sig9 k then decide (-den9 k ≤ num10 k 0) else decide (num10 k 0 = 0)) = true ∧ 0 < den9 k := by
  rcases h with rfl | rfl | rfl | rfl <;> decide +kernel
theorem den9_bd (k : Int) : 0 ≤ den9 k ∧ den9 k ≤ 2560000000 := by unfold den9; split <;> (try split) <;> omega
theorem gap9_bd (k : Int) : 0 ≤ gap9 k ∧ gap9 k ≤ 800000000000 := by
  have h : ∀ L : List Int, (∀ j : Nat, -400000000000 ≤ L[j]?.getD 0 ∧ L[j]?.getD 0 ≤ 400000000000) → ∀ m, 0 ≤ gk L m ∧ gk L m ≤ 800000000000 := by
    intro L hL m
    induction m with
    | zero => exact ⟨Int.le_refl 0, by show (0 : Int) ≤ _; omega⟩
    | succ m ih =>
      have a := hL (m + 1)
      have b := hL m
      show 0 ≤ mxI _ _ ∧ mxI _ _ ≤ _
      unfold mxI
      omega
  exact h _ (book9_at k) _
theorem num10_bd (k : Int) (c : Nat) : -400000000000 ≤ num10 k c ∧ num10 k c ≤ 400000000000 := book9_at k c
theorem num10_step {k : Int} (h : Kind9 k) {j : Nat} (hj : j < 255) : num10 k j < num10 k (j + 1) ∧ num10 k (j + 1) - num10 k j ≤ gap9 k := by
  obtain ⟨_, _, h1, h2, _⟩ := facts10 h
  exact ⟨of_decide_eq_true (List.all_eq_true.1 h1 j (List.mem_range.2 hj)), of_decide_eq_true (List.all_eq_true.1 h2 j (List.mem_range.2 hj))⟩
theorem num10_up {k : Int} (h : Kind9 k) {a : Nat} : ∀ {b : Nat}, a < b → b ≤ 255 → num10 k a < num10 k b := by
  intro b
  induction b with
  | zero => intro hb; omega
  | succ b ih =>
    intro hb h5
    have hs := (num10_step h (j := b) (by omega)).1
    rcases Nat.lt_or_ge a b with e | e
    · have := ih e (by omega); omega
    · obtain rfl : a = b := by omega
      exact hs
/-- What is just a code's number has that code. -/
theorem near10_own {k num den : Int} {c : Nat} (h : Kind9 k) (hd : 0 < den) (hc : c ≤ 255) (e : num * den9 k = num10 k c * den) : near10 k num den = c := by
  refine lpl_uniq hc fun i hi => ?_
  have e0 : dst k num den c = 0 := by unfold dst; omega
  have e1 : 0 ≤ dst k num den i := by unfold dst; omega
  refine ⟨by omega, fun hl => ?_⟩
  have hm := Int.mul_lt_mul_of_pos_right (num10_up h hl hc) hd
  unfold dst at *
  omega
theorem near10_den {k den : Int} (h : Kind9 k) (hd : 0 < den) : near10 k den den = 255 := near10_own h hd (Nat.le_refl _) (by rw [(facts10 h).2.1, Int.mul_comm])
theorem near10_num {k t : Int} {c : Nat} (h : Kind9 k) (ht : 0 < t) (hc : c ≤ 255) : near10 k (num10 k c * t) (den9 k * t) = c :=
  near10_own h (Int.mul_pos (facts10 h).2.2.2.2.2.2 ht) hc (by rw [Int.mul_assoc, Int.mul_comm t])
theorem near10_scale {k num den t : Int} (ht : 0 < t) : near10 k (num * t) (den * t) = near10 k num den := by
  have e : dst k (num * t) (den * t) = fun c => t * dst k num den c := by
    funext c
    unfold dst
    have e1 : num * t * den9 k - num10 k c * (den * t) = t * (num * den9 k - num10 k c * den) := by rw [Int.mul_sub]; congr 1 <;> ac_rfl
    rw [e1, Int.natAbs_mul, Int.natCast_mul, Int.natAbs_of_nonneg (Int.le_of_lt ht)]
  unfold near10
  rw [e]
  exact lpl_scale ht 255
theorem near10_mono {k a b den : Int} (h : Kind9 k) (hd : 0 < den) (hab : a ≤ b) : near10 k a den ≤ near10 k b den := by
  rcases Nat.lt_or_ge (near10 k b den) (near10 k a den) with e | e
  · exfalso
    have h1 := (near10_least (k := k) (num := a) (den := den) (near10_le k b den)).2 e
    have h2 := (near10_least (k := k) (num := b) (den := den) (near10_le k a den)).1
    have h3 := Int.mul_lt_mul_of_pos_right (num10_up h e (near10_le k a den)) hd
    have h4 := Int.mul_le_mul_of_nonneg_right hab (den9_bd k).1
    unfold dst at h1 h2
    omega
  · exact e
theorem shr_scale {k num den t : Int} (ht : 0 < t) : Shr k (num * t) (den * t) ↔ Shr k num den := by
  have a1 : 1 ≤ den * t ↔ 1 ≤ den := ⟨fun h => by
      rcases Int.lt_or_le 0 den with e | e
      · omega
      · have := Int.mul_le_mul_of_nonneg_right e (Int.le_of_lt ht); omega, fun h => by have := Int.mul_le_mul_of_nonneg_right h (Int.le_of_lt ht); omega⟩
  have a2 : num * t ≤ den * t ↔ num ≤ den := ⟨fun h => Int.le_of_mul_le_mul_right h ht, fun h => Int.mul_le_mul_of_nonneg_right h (Int.le_of_lt ht)⟩
  have a3 : -(den * t) ≤ num * t ↔ -den ≤ num := ⟨fun h => Int.le_of_mul_le_mul_right (by rw [Int.neg_mul]; exact h) ht, fun h => by have := Int.mul_le_mul_of_nonneg_right h (Int.le_of_lt ht); rw [Int.neg_mul] at this; exact this⟩
  have a4 : 0 ≤ num * t ↔ 0 ≤ num := ⟨fun h => Int.le_of_mul_le_mul_right (by rw [Int.zero_mul]; exact h) ht, fun h => Int.mul_nonneg h (Int.le_of_lt ht)⟩
  unfold Shr
  rw [a1, a2, a3, a4]
theorem shr_own {k t : Int} {c : Nat} (h : Kind9 k) (ht : 0 < t) (hc : c ≤ 255) : Shr k (num10 k c * t) (den9 k * t) := by
  rw [shr_scale ht]
  obtain ⟨_, h1, _, _, _, h2, h3⟩ := facts10 h
  have u : num10 k c ≤ den9 k := by
    rcases Nat.lt_or_ge c 255 with e | e
    · have := num10_up h e (Nat.le_refl _); omega
    · obtain rfl : c = 255 := by omega
      omega
  have l : num10 k 0 ≤ num10 k c := by
    rcases Nat.eq_zero_or_pos c with e | e
    · subst e; exact Int.le_refl _
    · exact Int.le_of_lt (num10_up h e hc)
  refine ⟨h, by omega, u, ?_, ?_⟩
  · cases hs : sig9 k with
    | true => rw [hs] at h2; have := of_decide_eq_true (by simpa using h2 : decide (-den9 k ≤ num10 k 0) = true); omega
    | false => rw [hs] at h2; have := of_decide_eq_true (by simpa using h2 : decide (num10 k 0 = 0) = true); omega
  · cases hs : sig9 k with
    | true => exact .inr rfl
    | false => rw [hs] at h2; have := of_decide_eq_true (by simpa using h2 : decide (num10 k 0 = 0) = true); exact .inl (by omega)
theorem between10 {y : Nat → Int} {x : Int} : ∀ m, x ≤ y 0 ∨ (∃ j, j < m ∧ y j ≤ x ∧ x ≤ y (j + 1)) ∨ y m ≤ x
  | 0 => by rcases Int.le_total x (y 0) with h | h; exact .inl h; exact .inr (.inr h)
  | m + 1 => by
    rcases between10 (y := y) (x := x) m with h | ⟨j, h⟩ | h
    · exact .inl h
    · exact .inr (.inl ⟨j, by omega, h.2⟩)
    · rcases Int.le_total x (y (m + 1)) with h' | h'
      · exact .inr (.inl ⟨m, by omega, h, h'⟩)
      · exact .inr (.inr h')
theorem near10_half {k num den : Int} (h : Shr k num den) : dst k num den (near10 k num den) + dst k num den (near10 k num den) ≤ gap9 k * den := by
  obtain ⟨hk, hd, h1, h2, h3⟩ := h
  obtain ⟨_, f1, _, _, f2, _, f3⟩ := facts10 hk
  have hL := fun c hc => (near10_least (k := k) (num := num) (den := den) (c := c) hc).1
  have g0 : 0 ≤ gap9 k * den := Int.mul_nonneg (gap9_bd k).1 (by omega)
  have u : num * den9 k ≤ den9 k * den := by rw [Int.mul_comm (den9 k)]; exact Int.mul_le_mul_of_nonneg_right h1 (Int.le_of_lt f3)
  rcases between10 (y := fun c => num10 k c * den) (x := num * den9 k) 255 with e | ⟨j, hj, e1, e2⟩ | e
  · have h0 := hL 0 (by omega)
    cases hs : sig9 k with
    | true =>
      rw [hs] at f2
      have f2 := of_decide_eq_true (by simpa using f2 : decide (2 * (num10 k 0 + den9 k) ≤ gap9 k) = true)
      have l := Int.mul_le_mul_of_nonneg_right h2 (Int.le_of_lt f3)
      have m := Int.mul_le_mul_of_nonneg_right f2 (show (0 : Int) ≤ den by omega)
      rw [Int.neg_mul, Int.mul_comm den] at l
      rw [Int.mul_assoc, Int.add_mul] at m
      unfold dst at *
      omega
    | false =>
      rw [hs] at f2
      have f2 := of_decide_eq_true (by simpa using f2 : decide (num10 k 0 = 0) = true)
      have hn : 0 ≤ num := by rcases h3 with h3 | h3; exact h3; rw [hs] at h3; cases h3
      have l := Int.mul_nonneg hn (Int.le_of_lt f3)
      unfold dst at *
      rw [f2, Int.zero_mul] at e h0
      omega
  · have h0 := hL j (by omega)
    have h1 := hL (j + 1) (by omega)
    have m := Int.mul_le_mul_of_nonneg_right (num10_step hk hj).2 (show (0 : Int) ≤ den by omega)
    rw [Int.sub_mul] at m
    unfold dst at *
    omega
  · have h0 := hL 255 (by omega)
    simp only [f1] at e
    unfold dst at *
    rw [f1] at h0
    omega
theorem near10_tie {k num den : Int} {c : Nat} (hc : c ≤ 255) (h : ¬ dst k num den (near10 k num den) < dst k num den c) : dst k num den (near10 k num den) = dst k num den c ∧ near10 k num den ≤ c := by
  have l := near10_least (k := k) (num := num) (den := den) hc
  refine ⟨by omega, ?_⟩
  rcases Nat.lt_or_ge c (near10 k num den) with e | e
  · exact absurd (l.2 e) h
  · exact e
end Go.Proofs.Ytpidpebgeblenaa

/-
  Plain arithmetic: digits to the base 2 to the power of 32, as the reference reckons.
-/
namespace Go.Proofs.Ytpidpebgeblenaa

/-- 2 to the power of 32, behind a name. -/
def H32 : Nat := 4294967296
theorem H32_pos : 0 < H32 := by unfold H32; omega
theorem H32_gt : 1 < H32 := by unfold H32; omega
theorem H32_sq : H32 * H32 = B64 := rfl
theorem H32_lt : H32 < B64 := by unfold H32 B64; omega

/-- The number of figures of 32 bits, the lowest first. -/
def valH : List Nat → Nat
  | [] => 0
  | x :: xs => x + H32 * valH xs
def DigH (l : List Nat) : Prop := ∀ x ∈ l, x < H32

theorem valH_nil : valH [] = 0 := rfl
theorem valH_cons (x : Nat) (xs : List Nat) : valH (x :: xs) = x + H32 * valH xs := rfl
theorem DigH.nil : DigH [] := fun _ h => by cases h
theorem DigH.dig {l : List Nat} (h : DigH l) : Dig l := fun x hx => Nat.lt_trans (h x hx) H32_lt
theorem DigH.snoc {x : Nat} {xs : List Nat} (h : DigH xs) (hx : x < H32) : DigH (xs ++ [x]) := fun y hy => by
  rcases List.mem_append.1 hy with hy | hy
  · exact h y hy
  · simp at hy; subst hy; exact hx
theorem DigH.get {l : List Nat} (h : DigH l) (j : Nat) : l[j]?.getD 0 < H32 := by
  by_cases hj : j < l.length
  · simp [hj]; exact h _ (List.getElem_mem hj)
  · rw [List.getElem?_eq_none (by omega)]; exact H32_pos
theorem DigH.set {l : List Nat} (h : DigH l) (k : Nat) {d : Nat} (hd : d < H32) : DigH (l.set k d) := fun x hx => by
  rcases List.mem_or_eq_of_mem_set hx with h1 | h1
  · exact h x h1
  · rw [h1]; exact hd

theorem valH_lt {l : List Nat} (hd : DigH l) : valH l < H32 ^ l.length := by
  induction l with
  | nil => simp [valH_nil]
  | cons x xs ih =>
    rw [valH_cons, List.length_cons, Nat.pow_succ, Nat.mul_comm (H32 ^ xs.length)]
    have h1 := ih fun y hy => hd y (List.mem_cons_of_mem _ hy)
    have h2 := hd x List.mem_cons_self
    have h3 : H32 * (valH xs + 1) ≤ H32 * H32 ^ xs.length := Nat.mul_le_mul_left _ h1
    rw [Nat.mul_add, Nat.mul_one] at h3
    omega

theorem valH_snoc (l : List Nat) (x : Nat) : valH (l ++ [x]) = valH l + H32 ^ l.length * x := by
  induction l with
  | nil => simp [valH_cons, valH_nil]
  | cons y ys ih =>
    rw [List.cons_append, valH_cons, ih, valH_cons, List.length_cons, Nat.pow_succ, Nat.mul_add]
    rw [← Nat.mul_assoc, Nat.mul_comm H32 (H32 ^ ys.length)]
    omega

theorem valH_take_succ (l : List Nat) (k : Nat) : valH (l.take (k + 1)) = valH (l.take k) + H32 ^ k * l[k]?.getD 0 := by
  by_cases hk : k < l.length
  · rw [List.take_succ_eq_append_getElem hk, valH_snoc, List.length_take, Nat.min_eq_left (by omega)]
    simp [hk]
  · rw [List.take_of_length_le (by omega), List.take_of_length_le (by omega), List.getElem?_eq_none (by omega)]
    simp

theorem valH_take_lt {l : List Nat} (h : DigH l) (k : Nat) : valH (l.take k) < H32 ^ k :=
  Nat.lt_of_lt_of_le (valH_lt fun x hx => h x (List.mem_of_mem_take hx)) (Nat.pow_le_pow_right H32_pos (List.length_take_le _ _))

theorem valH_set {l : List Nat} {k : Nat} (hk : k < l.length) (d : Nat) : valH (l.set k d) + H32 ^ k * l[k]?.getD 0 = valH l + H32 ^ k * d := by
  induction l generalizing k with
  | nil => simp at hk
  | cons x xs ih =>
    cases k with
    | zero => simp [valH_cons]; omega
    | succ k =>
      have h := ih (k := k) (by simpa using hk)
      rw [List.set_cons_succ, valH_cons, valH_cons, List.getElem?_cons_succ, Nat.pow_succ, Nat.mul_comm (H32 ^ k) H32, Nat.mul_assoc, Nat.mul_assoc]
      have h2 : H32 * (valH (xs.set k d) + H32 ^ k * xs[k]?.getD 0) = H32 * (valH xs + H32 ^ k * d) := by rw [h]
      rw [Nat.mul_add, Nat.mul_add] at h2
      omega

theorem valH_zeros (n : Nat) : valH (List.replicate n 0) = 0 := by
  induction n with
  | zero => rfl
  | succ n ih => rw [List.replicate_succ, valH_cons, ih]; simp
theorem digH_zeros (n : Nat) : DigH (List.replicate n 0) := fun x hx => by rw [(List.mem_replicate.1 hx).2]; exact H32_pos

/-- The lower and the upper half of a digit. -/
def loH (x : Nat) : Nat := x % H32
def hiH (x : Nat) : Nat := x / H32
theorem loH_lt (x : Nat) : loH x < H32 := Nat.mod_lt _ H32_pos
theorem hiH_lt {x : Nat} (h : x < B64) : hiH x < H32 := by unfold hiH; rw [Nat.div_lt_iff_lt_mul H32_pos, H32_sq]; exact h
theorem half_split (x : Nat) : loH x + H32 * hiH x = x := Nat.mod_add_div _ _

/-- A number's figures. -/
def halvesL : List Nat → List Nat
  | [] => []
  | x :: xs => loH x :: hiH x :: halvesL xs
theorem halvesL_length (l : List Nat) : (halvesL l).length = 2 * l.length := by
  induction l with
  | nil => rfl
  | cons x xs ih => simp only [halvesL, List.length_cons, ih]; omega
theorem halvesL_snoc (l : List Nat) (x : Nat) : halvesL (l ++ [x]) = halvesL l ++ [loH x, hiH x] := by
  induction l with
  | nil => rfl
  | cons y ys ih => simp only [List.cons_append, halvesL, ih]
theorem halvesL_dig {l : List Nat} (h : Dig l) : DigH (halvesL l) := by
  induction l with
  | nil => exact DigH.nil
  | cons x xs ih =>
    intro y hy
    simp only [halvesL, List.mem_cons] at hy
    rcases hy with rfl | rfl | hy
    · exact loH_lt _
    · exact hiH_lt h.head
    · exact ih h.tail y hy
theorem halvesL_val (l : List Nat) : valH (halvesL l) = val l := by
  induction l with
  | nil => rfl
  | cons x xs ih =>
    simp only [halvesL, valH_cons, val_cons, ih]
    have := half_split x
    have e : H32 * (hiH x + H32 * val xs) = H32 * hiH x + B64 * val xs := by rw [Nat.mul_add, ← Nat.mul_assoc, H32_sq]
    omega

/-- Two figures as a digit. -/
def join (a b : Nat) : Nat := a + b * H32
theorem join_lt {a b : Nat} (ha : a < H32) (hb : b < H32) : join a b < B64 := by
  unfold join
  have : (b + 1) * H32 ≤ H32 * H32 := Nat.mul_le_mul_right _ hb
  rw [H32_sq, Nat.add_mul, Nat.one_mul] at this
  omega

/-- Digits of the first 2k figures. -/
def joinL (l : List Nat) (k : Nat) : List Nat := (List.range k).map fun j => join (l[2 * j]?.getD 0) (l[2 * j + 1]?.getD 0)
theorem joinL_length (l : List Nat) (k : Nat) : (joinL l k).length = k := by simp [joinL]
theorem joinL_succ (l : List Nat) (k : Nat) : joinL l (k + 1) = joinL l k ++ [join (l[2 * k]?.getD 0) (l[2 * k + 1]?.getD 0)] := by simp [joinL, List.range_succ]
theorem joinL_dig {l : List Nat} (h : DigH l) (k : Nat) : Dig (joinL l k) := fun x hx => by
  obtain ⟨j, _, rfl⟩ := List.mem_map.1 hx
  exact join_lt (h.get _) (h.get _)
theorem joinL_val (l : List Nat) (k : Nat) : val (joinL l k) = valH (l.take (2 * k)) := by
  induction k with
  | zero => simp [joinL, val_nil, valH_nil]
  | succ k ih =>
    rw [joinL_succ, val_snoc, joinL_length, ih, show 2 * (k + 1) = 2 * k + 1 + 1 by omega, valH_take_succ, valH_take_succ]
    have e : B64 ^ k = H32 ^ (2 * k) := by rw [← H32_sq, Nat.pow_mul, Nat.pow_two]
    rw [e, join, Nat.mul_add, Nat.pow_succ]
    have : H32 ^ (2 * k) * (l[2 * k + 1]?.getD 0 * H32) = H32 ^ (2 * k) * H32 * l[2 * k + 1]?.getD 0 := by ac_rfl
    omega

/-- Three figures' sum, in two parts. -/
theorem div_le_one {x y c : Nat} (hx : x < H32) (hy : y < H32) (hc : c ≤ 1) : hiH (x + y + c) ≤ 1 := by
  unfold hiH
  have : (x + y + c) / H32 < 2 := (Nat.div_lt_iff_lt_mul H32_pos).2 (by omega)
  omega

end Go.Proofs.Ytpidpebgeblenaa

/-
  Plain arithmetic: digits by division, powers of 2, binary figures.
-/
namespace Go.Proofs.Ytpidpebgeblenaa

/-- A number's digit at a place, by division. -/
def dig (y j : Nat) : Nat := y / B64 ^ j % B64
theorem dig_lt (y j : Nat) : dig y j < B64 := Nat.mod_lt _ B64_pos
theorem limbs_get (x j : Nat) : (limbs x)[j]?.getD 0 = dig x j := by
  induction j generalizing x with
  | zero =>
    unfold dig
    rw [Nat.pow_zero, Nat.div_one]
    by_cases h : x = 0
    · subst h; rw [limbs_zero]; simp
    · rw [limbs_pos h]; simp
  | succ j ih =>
    by_cases h : x = 0
    · subst h; rw [limbs_zero]; simp [dig]
    · rw [limbs_pos h, List.getElem?_cons_succ, ih]
      unfold dig
      rw [Nat.div_div_eq_div_mul, Nat.pow_succ, Nat.mul_comm B64]
/-- The first k digits. -/
def digs (y k : Nat) : List Nat := (List.range k).map (dig y)
theorem digs_length (y k : Nat) : (digs y k).length = k := by simp [digs]
theorem digs_succ (y k : Nat) : digs y (k + 1) = digs y k ++ [dig y k] := by simp [digs, List.range_succ]
theorem digs_dig (y k : Nat) : Dig (digs y k) := fun x hx => by
  obtain ⟨j, _, rfl⟩ := List.mem_map.1 hx
  exact dig_lt _ _
theorem digs_get {y k j : Nat} (h : j < k) : (digs y k)[j]?.getD 0 = dig y j := by simp [digs, h]
theorem digs_val (y k : Nat) : val (digs y k) = y % B64 ^ k := by
  induction k with
  | zero => simp [digs, val_nil, Nat.mod_one]
  | succ k ih =>
    rw [digs_succ, val_snoc, digs_length, ih, dig, Nat.pow_succ, Nat.mod_mul]
theorem digs_all {y k : Nat} (h : y < B64 ^ k) : val (digs y k) = y := by rw [digs_val, Nat.mod_eq_of_lt h]

theorem B64_two : B64 = 2 ^ 64 := rfl
theorem B64_pow2 (j : Nat) : B64 ^ j = 2 ^ (64 * j) := by rw [B64_two, Nat.pow_mul]

/-- 2 to a power, behind a name. -/
def pw (k : Nat) : Nat := 2 ^ k
theorem pw_zero : pw 0 = 1 := rfl
theorem pw_succ (k : Nat) : pw (k + 1) = pw k * 2 := Nat.pow_succ ..
theorem pw_pos (k : Nat) : 0 < pw k := Nat.pow_pos (by omega)
theorem pw_lt {k : Nat} (h : k < 64) : pw k < B64 := by rw [B64_two]; exact (Nat.pow_lt_pow_iff_right (by omega)).2 h
theorem pw_limbs (n : Nat) : (List.replicate (n / 64 + 1) 0).set (n / 64) (pw (n % 64)) = limbs (2 ^ n) := by
  have hz : ∀ m, val (List.replicate m 0) = 0 := fun m => by
    induction m with
    | zero => rfl
    | succ m ih => rw [List.replicate_succ, val_cons, ih]; simp
  have h1 := val_set (l := List.replicate (n / 64 + 1) 0) (k := n / 64) (by simp) (pw (n % 64))
  have h0 : (List.replicate (n / 64 + 1) 0)[n / 64]?.getD 0 = 0 := by simp
  rw [h0, hz, Nat.mul_zero, Nat.add_zero, Nat.zero_add] at h1
  have h2 : B64 ^ (n / 64) * pw (n % 64) = 2 ^ n := by
    rw [B64_pow2, pw, ← Nat.pow_add]
    congr 1
    omega
  rw [h2] at h1
  rw [← h1]
  refine eq_limbs (Dig.set (fun x hx => by rw [(List.mem_replicate.1 hx).2]; exact B64_pos) _ (pw_lt (Nat.mod_lt _ (by omega)))) fun _ => ?_
  rw [List.length_set, List.length_replicate, Nat.add_sub_cancel, h1, ← h2]
  exact Nat.le_mul_of_pos_right _ (pw_pos _)

/-- A binary figure. -/
def bitN (x i : Nat) : Nat := x / 2 ^ i % 2
theorem bitN_lt (x i : Nat) : bitN x i < 2 := Nat.mod_lt _ (by omega)
theorem bitN_dig (x i : Nat) : dig x (i / 64) / 2 ^ (i % 64) % 2 = bitN x i := by
  have h : ∀ y s : Nat, s < 64 → y % B64 / 2 ^ s % 2 = y / 2 ^ s % 2 := fun y s hs => by
    have e : B64 = 2 ^ s * 2 ^ (64 - s) := by rw [B64_two, ← Nat.pow_add]; congr 1; omega
    rw [e, Nat.mod_mul_right_div_self]
    obtain ⟨r, hr⟩ : ∃ r, 64 - s = r + 1 := ⟨64 - s - 1, by omega⟩
    rw [hr, Nat.pow_succ, Nat.mul_comm]
    exact Nat.mod_mul_right_mod _ _ _
  unfold dig bitN
  rw [h _ _ (Nat.mod_lt _ (by omega)), B64_pow2, Nat.div_div_eq_div_mul, ← Nat.pow_add]
  congr 3
  omega

/-- Two digits, shifted down by k places, the lower digit. -/
def sh2 (x y k : Nat) : Nat := (x + B64 * y) / 2 ^ k % B64
theorem sh2_lt (x y k : Nat) : sh2 x y k < B64 := Nat.mod_lt _ B64_pos
theorem sh2_zero {x : Nat} (hx : x < B64) (y : Nat) : sh2 x y 0 = x := by
  unfold sh2
  rw [Nat.pow_zero, Nat.div_one, Nat.add_mul_mod_self_left, Nat.mod_eq_of_lt hx]
theorem sh2_succ {x : Nat} (hx : x < B64) (y k : Nat) : sh2 x y k / 2 + y / 2 ^ k % 2 * 9223372036854775808 = sh2 x y (k + 1) := by
  have h1 : (x + B64 * y) / 2 ^ k / B64 = y / 2 ^ k := by
    rw [Nat.div_div_eq_div_mul, Nat.mul_comm (2 ^ k) B64, ← Nat.div_div_eq_div_mul, Nat.add_mul_div_left _ _ B64_pos, Nat.div_eq_of_lt hx, Nat.zero_add]
  have h2 : sh2 x y (k + 1) = (x + B64 * y) / 2 ^ k / 2 % B64 := by unfold sh2; rw [Nat.pow_succ, ← Nat.div_div_eq_div_mul]
  rw [h2]
  unfold sh2
  rw [← h1]
  generalize (x + B64 * y) / 2 ^ k = u
  unfold B64
  omega

theorem sh2_dig (x i s : Nat) (hs : s < 64) : sh2 (dig x i) (dig x (i + 1)) s = x / B64 ^ i / 2 ^ s % B64 := by
  have h1 : dig x i + B64 * dig x (i + 1) = x / B64 ^ i % (B64 * B64) := by
    unfold dig
    rw [Nat.mod_mul, Nat.pow_succ, Nat.div_div_eq_div_mul]
  unfold sh2
  rw [h1]
  generalize x / B64 ^ i = m
  have e : B64 * B64 = 2 ^ s * (B64 * 2 ^ (64 - s)) := by
    have e2 : 2 ^ s * 2 ^ (64 - s) = B64 := by rw [B64_two, ← Nat.pow_add]; congr 1; omega
    calc B64 * B64 = B64 * (2 ^ s * 2 ^ (64 - s)) := by rw [e2]
      _ = 2 ^ s * (B64 * 2 ^ (64 - s)) := by ac_rfl
  rw [e, Nat.mod_mul_right_div_self]
  exact Nat.mod_mul_right_mod _ _ _

/-- A digit of what is shifted down. -/
theorem shr_dig (x n j : Nat) : sh2 (dig x (n / 64 + j)) (dig x (n / 64 + j + 1)) (n % 64) = dig (x / 2 ^ n) j := by
  rw [sh2_dig _ _ _ (Nat.mod_lt _ (by omega))]
  unfold dig
  congr 1
  rw [B64_pow2, B64_pow2, Nat.div_div_eq_div_mul, Nat.div_div_eq_div_mul, ← Nat.pow_add, ← Nat.pow_add]
  congr 2
  omega

theorem shr_lt {x n k : Nat} (h : x < B64 ^ k) : x / 2 ^ n < B64 ^ (k - n / 64) := by
  rcases Nat.lt_or_ge (n / 64) k with h1 | h1
  · rw [Nat.div_lt_iff_lt_mul (Nat.pow_pos (by omega))]
    refine Nat.lt_of_lt_of_le h ?_
    have e : B64 ^ k = B64 ^ (k - n / 64) * B64 ^ (n / 64) := by rw [← Nat.pow_add]; congr 1; omega
    rw [e]
    refine Nat.mul_le_mul_left _ ?_
    rw [B64_pow2]
    exact Nat.pow_le_pow_right (by omega) (by omega)
  · have h2 : x < 2 ^ n := by
      refine Nat.lt_of_lt_of_le h ?_
      rw [B64_pow2]
      exact Nat.pow_le_pow_right (by omega) (by omega)
    rw [Nat.div_eq_of_lt h2]
    exact Nat.pow_pos B64_pos

end Go.Proofs.Ytpidpebgeblenaa

/-
  Plain arithmetic: a division bit by bit.
-/
namespace Go.Proofs.Ytpidpebgeblenaa

/-- Of a quotient F: what digit t holds when all binary figures from m on are known. -/
def qd (F m t : Nat) : Nat := F / 2 ^ (max m (64 * t)) % 2 ^ (64 * (t + 1) - max m (64 * t))
theorem qd_lt (F m t : Nat) : qd F m t < B64 := by
  unfold qd
  refine Nat.lt_of_lt_of_le (Nat.mod_lt _ (Nat.pow_pos (by omega))) ?_
  rw [B64_two]
  exact Nat.pow_le_pow_right (by omega) (by omega)
theorem qd_none {F m : Nat} (h : F < 2 ^ m) (t : Nat) : qd F m t = 0 := by
  unfold qd
  have : F < 2 ^ (max m (64 * t)) := Nat.lt_of_lt_of_le h (Nat.pow_le_pow_right (by omega) (by omega))
  rw [Nat.div_eq_of_lt this, Nat.zero_mod]
theorem qd_done (F t : Nat) : qd F 0 t = dig F t := by
  unfold qd dig
  have e1 : max 0 (64 * t) = 64 * t := by omega
  have e2 : 64 * (t + 1) - 64 * t = 64 := by omega
  rw [e1, e2, B64_pow2]
  rfl
theorem qd_other {F i t : Nat} (h : t ≠ i / 64) : qd F i t = qd F (i + 1) t := by
  unfold qd
  rcases Nat.lt_or_ge t (i / 64) with h1 | h1
  · have e1 : 64 * (t + 1) - max i (64 * t) = 0 := by omega
    have e2 : 64 * (t + 1) - max (i + 1) (64 * t) = 0 := by omega
    rw [e1, e2, Nat.pow_zero, Nat.mod_one, Nat.mod_one]
  · have e1 : max i (64 * t) = 64 * t := by omega
    have e2 : max (i + 1) (64 * t) = 64 * t := by omega
    rw [e1, e2]
theorem qd_same (F i : Nat) : qd F i (i / 64) = 2 * qd F (i + 1) (i / 64) + bitN F i := by
  unfold qd bitN
  have e1 : max i (64 * (i / 64)) = i := by omega
  have e2 : max (i + 1) (64 * (i / 64)) = i + 1 := by omega
  obtain ⟨e, he⟩ : ∃ e, 64 * (i / 64 + 1) - i = e + 1 := ⟨64 * (i / 64 + 1) - i - 1, by omega⟩
  have he2 : 64 * (i / 64 + 1) - (i + 1) = e := by omega
  rw [e1, e2, he, he2, Nat.pow_succ 2 i, ← Nat.div_div_eq_div_mul, Nat.pow_succ, Nat.mul_comm (2 ^ e) 2, Nat.mod_mul]
  omega
theorem qd_room (F i : Nat) : 2 * qd F (i + 1) (i / 64) + 1 < B64 := by
  have h : qd F (i + 1) (i / 64) < 2 ^ 63 := by
    unfold qd
    refine Nat.lt_of_lt_of_le (Nat.mod_lt _ (Nat.pow_pos (by omega))) ?_
    exact Nat.pow_le_pow_right (by omega) (by omega)
  unfold B64
  omega

/-- The digits of a quotient when all binary figures from m on are known. -/
def qlist (F m n : Nat) : List Nat := (List.range n).map (qd F m)
theorem qlist_length (F m n : Nat) : (qlist F m n).length = n := by simp [qlist]
theorem qlist_dig (F m n : Nat) : Dig (qlist F m n) := fun x hx => by
  obtain ⟨j, _, rfl⟩ := List.mem_map.1 hx
  exact qd_lt _ _ _
theorem qlist_get {F m n t : Nat} (h : t < n) : (qlist F m n)[t]?.getD 0 = qd F m t := by simp [qlist, h]
theorem qlist_none {F m : Nat} (h : F < 2 ^ m) (n : Nat) : qlist F m n = List.replicate n 0 := by
  apply List.ext_getElem
  · simp [qlist]
  · intro i h1 h2
    simp [qlist, qd_none h]
theorem qlist_done (F n : Nat) : qlist F 0 n = digs F n := by
  unfold qlist digs
  congr 1
  funext t
  exact qd_done F t
theorem qlist_set (F i n : Nat) : (qlist F (i + 1) n).set (i / 64) (qd F i (i / 64)) = qlist F i n := by
  apply List.ext_getElem
  · simp [qlist]
  · intro j h1 h2
    rw [List.getElem_set]
    by_cases h : i / 64 = j
    · simp [h, qlist]
    · rw [if_neg h]
      simp only [qlist, List.getElem_map, List.getElem_range]
      exact (qd_other (fun e => h e.symm)).symm

/-- One binary figure of a division. -/
theorem div_step {x y : Nat} (hy : 0 < y) (i : Nat) :
    (x / 2 ^ i) % y = (if y ≤ 2 * (x / 2 ^ (i + 1) % y) + bitN x i then 2 * (x / 2 ^ (i + 1) % y) + bitN x i - y else 2 * (x / 2 ^ (i + 1) % y) + bitN x i) ∧
    bitN (x / y) i = (if y ≤ 2 * (x / 2 ^ (i + 1) % y) + bitN x i then 1 else 0) := by
  have h1 : x / 2 ^ i = 2 * (x / 2 ^ (i + 1)) + bitN x i := by
    unfold bitN
    rw [Nat.pow_succ, ← Nat.div_div_eq_div_mul]
    omega
  have hb := bitN_lt x i
  have h2 := Nat.div_add_mod (x / 2 ^ (i + 1)) y
  have hr := Nat.mod_lt (x / 2 ^ (i + 1)) hy
  have h3 : x / y / 2 ^ i = x / 2 ^ i / y := by rw [Nat.div_div_eq_div_mul, Nat.div_div_eq_div_mul, Nat.mul_comm]
  have h4 : bitN (x / y) i = x / 2 ^ i / y % 2 := by unfold bitN; rw [h3]
  rw [h4, h1]
  generalize x / 2 ^ (i + 1) % y = r at *
  generalize x / 2 ^ (i + 1) / y = q at *
  generalize x / 2 ^ (i + 1) = u at *
  generalize bitN x i = b at *
  subst h2
  have e : 2 * (y * q + r) + b = (2 * r + b) + y * (2 * q) := by
    have : y * (2 * q) = 2 * (y * q) := by ac_rfl
    omega
  rw [e, Nat.add_mul_mod_self_left, Nat.add_mul_div_left _ _ hy]
  split
  · rename_i h
    have e1 : (2 * r + b) % y = 2 * r + b - y := by rw [Nat.mod_eq_sub_mod h, Nat.mod_eq_of_lt (by omega)]
    have e2 : (2 * r + b) / y = 1 := by
      rw [Nat.div_eq_sub_div hy h, Nat.div_eq_of_lt (by omega)]
    rw [e1, e2]
    exact ⟨rfl, by omega⟩
  · rename_i h
    have e1 : (2 * r + b) % y = 2 * r + b := Nat.mod_eq_of_lt (by omega)
    have e2 : (2 * r + b) / y = 0 := Nat.div_eq_of_lt (by omega)
    rw [e1, e2]
    exact ⟨rfl, by omega⟩

end Go.Proofs.Ytpidpebgeblenaa

/-
  The contracts of the reference's Bare and Of.
-/
namespace Go.Proofs.Ytpidpebgeblenaa
open Go.RowKit

theorem isL_of_own {w : World} {base : Nat} {e : TypeId} {v : Value} {n : Nat} {l : List Nat} (h : w.ownsRow base e 1 v n (l.map encD)) (hd : Dig l) : ∃ A c, v = .slice A n c ∧ Lim w.heap.size w A n c l := by
  rcases h.2 with ⟨rfl, rfl⟩ | ⟨g, cap, cur, rfl, _⟩
  · exact ⟨none, 0, rfl, Lim.of_own h hd⟩
  · exact ⟨_, _, rfl, Lim.of_own h hd⟩

/-- A slice lies in new memory: in a block from B on, if it has anything. -/
def Fresh (B : Nat) (A : Option Addr) (n : Nat) : Prop := 0 < n → ∃ b off, A = some ⟨b, off, none⟩ ∧ B ≤ b
theorem Fresh.mono {B B' : Nat} {A : Option Addr} {n : Nat} (h : Fresh B A n) (hB : B' ≤ B) : Fresh B' A n := fun h0 => by
  obtain ⟨b, off, e, hb⟩ := h h0
  exact ⟨b, off, e, Nat.le_trans hB hb⟩
theorem fresh_of_own {w : World} {base : Nat} {e : TypeId} {A : Option Addr} {n c : Nat} {xs : List Value} (h : w.ownsRow base e 1 (.slice A n c) n xs) : Fresh base A n := fun h0 => by
  rcases h.2 with ⟨_, h1⟩ | ⟨g, cap, cur, e1, hb, _⟩
  · omega
  · injection e1 with e2
    exact ⟨g, 0, e2, hb⟩
/-- A call has answered a number in new memory, and nothing that was there has changed. -/
def GotNF (w : World) (x : Nat) (e : Ending) (w' : World) : Prop := ∃ A n c, e = .returned (.slice A n c) ∧ Num w' A n c x ∧ Below w.heap.size w w' ∧ Fresh w.heap.size A n
theorem GotNF.weak {w w' : World} {x : Nat} {e : Ending} (h : GotNF w x e w') : GotN w x e w' := by
  obtain ⟨A, n, c, he, hl, hb, _⟩ := h
  exact ⟨A, n, c, he, hl, hb⟩
/-- Likewise, with a code. -/
def GotPF (w : World) (x : Nat) (r : Int) (e : Ending) (w' : World) : Prop := ∃ A n c, e = .returned (.tuple #[.slice A n c, .int .i64 r]) ∧ Num w' A n c x ∧ Below w.heap.size w w' ∧ Fresh w.heap.size A n
theorem GotPF.weak {w w' : World} {x : Nat} {r : Int} {e : Ending} (h : GotPF w x r e w') : GotP w x r e w' := by
  obtain ⟨A, n, c, he, hl, hb, _⟩ := h
  exact ⟨A, n, c, he, hl, hb⟩

theorem own_empty (w : World) (base : Nat) (h : base ≤ w.heap.size) : (w.alloc (.cells #[] 103)).ownsRow base 103 1 (.slice (some ⟨w.heap.size, 0, none⟩) 0 0) 0 [] :=
  ⟨rfl, .inr ⟨w.heap.size, 0, #[], rfl, h, heap_alloc_new w _, Nat.le_refl _, by unfold maxLen; omega, rfl, rfl⟩⟩

theorem encD_one (l : List Nat) : ∀ u ∈ l.map encD, u.oneCell' = true := fun u hu => by
  obtain ⟨x, _, rfl⟩ := List.mem_map.1 hu
  rfl

theorem lim_one {x : Nat} (hx : x < B64) (w : World) : Lim (w.alloc (.cells #[.int .u64 (x : Int)] 103)).heap.size (w.alloc (.cells #[.int .u64 (x : Int)] 103)) (some ⟨w.heap.size, 0, none⟩) 1 1 [x] := by
  refine ⟨rfl, Nat.le_refl _, Dig.cons hx Dig.nil, fun _ => ⟨_, _, rfl, by simp, fun j hj => ?_⟩⟩
  obtain rfl : j = 0 := by omega
  exact cell_one_new w _ 103 0 _ rfl

theorem GotN.from {w w1 : World} {x : Nat} {e : Ending} {w' : World} (h : GotN w1 x e w') (hb : Below w.heap.size w w1) : GotN w x e w' := by
  obtain ⟨A, n, c, he, hl, hb'⟩ := h
  exact ⟨A, n, c, he, hl, hb.trans (hb'.mono hb.size)⟩

end Go.Proofs.Ytpidpebgeblenaa

/-
  The contracts of the reference's at, halves and whole.
-/
namespace Go.Proofs.Ytpidpebgeblenaa
open Go.RowKit
theorem tmod_lo (x : Nat) : ((x : Int)).tmod 4294967296 = (loH x : Int) := by
  unfold loH H32
  rw [Int.tmod_eq_emod_of_nonneg (by omega)]
  omega
theorem wrap_hi {x : Nat} (h : x < B64) : IntKind.u64.wrap ((x : Int) / 4294967296) = (hiH x : Int) := by
  rw [IntKind.wrap_u64]
  unfold hiH H32
  unfold B64 at h
  omega

end Go.Proofs.Ytpidpebgeblenaa

/-
  The contract of the reference's whole: figures of 32 bits as a number.
-/
namespace Go.Proofs.Ytpidpebgeblenaa
open Go.RowKit
theorem wrap_join {a b : Nat} (ha : a < H32) (hb : b < H32) : IntKind.u64.wrap ((a : Int) + IntKind.u64.wrap ((b : Int) * 4294967296)) = (join a b : Int) := by
  have := join_lt ha hb
  simp only [IntKind.wrap_u64]
  unfold join H32 at *
  unfold B64 at this
  omega

end Go.Proofs.Ytpidpebgeblenaa

/-
  The contract of the reference's Add.
-/
namespace Go.Proofs.Ytpidpebgeblenaa
open Go.RowKit

attribute [local go_sem ↓] mx_run

/-- A call has answered a slice of figures, and nothing that was there has changed. -/
def GotF (w : World) (l : List Nat) (e : Ending) (w' : World) : Prop := ∃ A n c, e = .returned (.slice A n c) ∧ Lim w'.heap.size w' A n c l ∧ Below w.heap.size w w'
theorem Lim.on {w w' : World} {A : Option Addr} {n c : Nat} {l : List Nat} (h : Lim w.heap.size w A n c l) (hb : Below w.heap.size w w') : Lim w'.heap.size w' A n c l := (h.below hb).more hb.size

theorem radd_lo (a b c : Nat) : (IntKind.u64.wrap (IntKind.u64.wrap ((a : Int) + (b : Int)) + (c : Int))).tmod 4294967296 = (loH (a + b + c) : Int) := by
  simp only [IntKind.wrap_u64]
  rw [Int.tmod_eq_emod_of_nonneg (by omega)]
  unfold loH H32
  omega
theorem radd_hi {a b c : Nat} (ha : a < H32) (hb : b < H32) (hc : c ≤ 1) : IntKind.u64.wrap ((IntKind.u64.wrap (IntKind.u64.wrap ((a : Int) + (b : Int)) + (c : Int))).tdiv 4294967296) = (hiH (a + b + c) : Int) := by
  simp only [IntKind.wrap_u64]
  rw [Int.tdiv_eq_ediv_of_nonneg (by omega)]
  unfold hiH
  unfold H32 at *
  omega

/-- What has been reckoned when k figures are done: the figures D and the carry c. -/
def AddAt (la lb D : List Nat) (k c : Nat) : Prop := DigH D ∧ D.length = k ∧ c ≤ 1 ∧ valH D + H32 ^ k * c = valH (la.take k) + valH (lb.take k)
theorem AddAt.start (la lb : List Nat) : AddAt la lb [] 0 0 := ⟨DigH.nil, rfl, by omega, by simp [valH_nil]⟩
theorem AddAt.step {la lb D : List Nat} {k c : Nat} (ha : DigH la) (hb : DigH lb) (h : AddAt la lb D k c) :
    AddAt la lb (D ++ [loH (la[k]?.getD 0 + lb[k]?.getD 0 + c)]) (k + 1) (hiH (la[k]?.getD 0 + lb[k]?.getD 0 + c)) := by
  obtain ⟨h1, h2, h3, h4⟩ := h
  refine ⟨h1.snoc (loH_lt _), by simp [h2], div_le_one (ha.get k) (hb.get k) h3, ?_⟩
  rw [valH_snoc, h2, valH_take_succ, valH_take_succ, Nat.pow_succ, Nat.mul_assoc]
  have hs := half_split (la[k]?.getD 0 + lb[k]?.getD 0 + c)
  generalize loH (la[k]?.getD 0 + lb[k]?.getD 0 + c) = lo at *
  generalize hiH (la[k]?.getD 0 + lb[k]?.getD 0 + c) = hi at *
  have h5 : H32 ^ k * lo + H32 ^ k * (H32 * hi) = H32 ^ k * la[k]?.getD 0 + H32 ^ k * lb[k]?.getD 0 + H32 ^ k * c := by
    rw [← Nat.mul_add, hs, Nat.mul_add, Nat.mul_add]
  omega
theorem AddAt.done {la lb D : List Nat} {c N : Nat} (ha : DigH la) (hb : DigH lb) (hN : max la.length lb.length ≤ N) (h : AddAt la lb D (N + 1) c) : valH D = valH la + valH lb := by
  obtain ⟨h1, h2, h3, h4⟩ := h
  rw [List.take_of_length_le (by omega), List.take_of_length_le (by omega)] at h4
  have h5 := Nat.lt_of_lt_of_le (valH_lt ha) (Nat.pow_le_pow_right (n := H32) H32_pos (show la.length ≤ N by omega))
  have h6 := Nat.lt_of_lt_of_le (valH_lt hb) (Nat.pow_le_pow_right (n := H32) H32_pos (show lb.length ≤ N by omega))
  have hc : c = 0 ∨ c = 1 := by omega
  have hg : 2 ≤ H32 := by have := H32_gt; omega
  rw [Nat.pow_succ] at h4
  generalize H32 ^ N = P at *
  generalize H32 = Q at *
  have h8 : P * 2 ≤ P * Q := Nat.mul_le_mul_left _ hg
  rcases hc with rfl | rfl
  · rw [Nat.mul_zero, Nat.add_zero] at h4; exact h4
  · rw [Nat.mul_one] at h4; omega

end Go.Proofs.Ytpidpebgeblenaa

/-
  The contract of the reference's Sub.
-/
namespace Go.Proofs.Ytpidpebgeblenaa
open Go.RowKit

/-- A figure of a difference, and the borrow. -/
def dLo (a b c : Nat) : Nat := (H32 + a - b - c) % H32
def dHi (a b c : Nat) : Nat := 1 - (H32 + a - b - c) / H32
theorem dLo_lt (a b c : Nat) : dLo a b c < H32 := Nat.mod_lt _ H32_pos
theorem dHi_le (a b c : Nat) : dHi a b c ≤ 1 := Nat.sub_le _ _
theorem d_split {a b c : Nat} (ha : a < H32) (hb : b < H32) (hc : c ≤ 1) : dLo a b c + b + c = a + H32 * dHi a b c := by
  unfold dLo dHi
  unfold H32 at *
  omega
theorem rsub_lo {a b c : Nat} (hb : b < H32) (hc : c ≤ 1) : (IntKind.u64.wrap (IntKind.u64.wrap (IntKind.u64.wrap (4294967296 + (a : Int)) - (b : Int)) - (c : Int))).tmod 4294967296 = (dLo a b c : Int) := by
  simp only [IntKind.wrap_u64]
  rw [Int.tmod_eq_emod_of_nonneg (by omega)]
  unfold dLo
  unfold H32 at *
  omega
theorem rsub_hi {a b c : Nat} (ha : a < H32) (hb : b < H32) (hc : c ≤ 1) : IntKind.u64.wrap (1 - IntKind.u64.wrap ((IntKind.u64.wrap (IntKind.u64.wrap (IntKind.u64.wrap (4294967296 + (a : Int)) - (b : Int)) - (c : Int))).tdiv 4294967296)) = (dHi a b c : Int) := by
  simp only [IntKind.wrap_u64]
  rw [Int.tdiv_eq_ediv_of_nonneg (by omega)]
  unfold dHi
  unfold H32 at *
  omega

def SubAt (la lb D : List Nat) (k c : Nat) : Prop := DigH D ∧ D.length = k ∧ c ≤ 1 ∧ valH D + valH (lb.take k) = valH (la.take k) + H32 ^ k * c
theorem SubAt.start (la lb : List Nat) : SubAt la lb [] 0 0 := ⟨DigH.nil, rfl, by omega, by simp [valH_nil]⟩
theorem SubAt.step {la lb D : List Nat} {k c : Nat} (ha : DigH la) (hb : DigH lb) (h : SubAt la lb D k c) :
    SubAt la lb (D ++ [dLo (la[k]?.getD 0) (lb[k]?.getD 0) c]) (k + 1) (dHi (la[k]?.getD 0) (lb[k]?.getD 0) c) := by
  obtain ⟨h1, h2, h3, h4⟩ := h
  refine ⟨h1.snoc (dLo_lt _ _ _), by simp [h2], dHi_le _ _ _, ?_⟩
  rw [valH_snoc, h2, valH_take_succ, valH_take_succ, Nat.pow_succ, Nat.mul_assoc]
  have hs := d_split (ha.get k) (hb.get k) h3
  generalize dLo (la[k]?.getD 0) (lb[k]?.getD 0) c = lo at *
  generalize dHi (la[k]?.getD 0) (lb[k]?.getD 0) c = hi at *
  have h5 : H32 ^ k * lo + H32 ^ k * lb[k]?.getD 0 + H32 ^ k * c = H32 ^ k * la[k]?.getD 0 + H32 ^ k * (H32 * hi) := by
    rw [← Nat.mul_add, ← Nat.mul_add, hs, Nat.mul_add]
  omega
theorem SubAt.done {la lb D : List Nat} {c : Nat} (hl : lb.length ≤ la.length) (hle : valH lb ≤ valH la) (h : SubAt la lb D la.length c) : valH D = valH la - valH lb := by
  obtain ⟨h1, h2, h3, h4⟩ := h
  rw [List.take_of_length_le (by omega), List.take_of_length_le (by omega)] at h4
  have h5 := valH_lt h1
  rw [h2] at h5
  generalize H32 ^ la.length = P at *
  rcases (by omega : c = 0 ∨ c = 1) with rfl | rfl
  · rw [Nat.mul_zero, Nat.add_zero] at h4; omega
  · rw [Nat.mul_one] at h4; omega

end Go.Proofs.Ytpidpebgeblenaa

/-
  The contract of the reference's Mul.
-/
namespace Go.Proofs.Ytpidpebgeblenaa
open Go.RowKit

/-- A product of figures, a figure and a carry, in two parts. -/
def pLo (x y q c : Nat) : Nat := (q + x * y + c) % H32
def pHi (x y q c : Nat) : Nat := (q + x * y + c) / H32
theorem pLo_lt (x y q c : Nat) : pLo x y q c < H32 := Nat.mod_lt _ H32_pos
theorem p_split (x y q c : Nat) : pLo x y q c + H32 * pHi x y q c = q + x * y + c := Nat.mod_add_div _ _
theorem p_bound {x y q c : Nat} (hx : x < H32) (hy : y < H32) (hq : q < H32) (hc : c < H32) : q + x * y + c < B64 := by
  have h1 : x * y ≤ (H32 - 1) * (H32 - 1) := Nat.mul_le_mul (by omega) (by omega)
  have h2 : (H32 - 1) * (H32 - 1) + (H32 - 1) + (H32 - 1) < B64 := by unfold H32 B64; omega
  omega
theorem pHi_lt {x y q c : Nat} (hx : x < H32) (hy : y < H32) (hq : q < H32) (hc : c < H32) : pHi x y q c < H32 := by
  unfold pHi
  rw [Nat.div_lt_iff_lt_mul H32_pos, H32_sq]
  exact p_bound hx hy hq hc
theorem p_wrap {x y q c : Nat} (hx : x < H32) (hy : y < H32) (hq : q < H32) (hc : c < H32) :
    IntKind.u64.wrap (IntKind.u64.wrap ((q : Int) + IntKind.u64.wrap ((x : Int) * (y : Int))) + (c : Int)) = ((q + x * y + c : Nat) : Int) := by
  have h := p_bound hx hy hq hc
  simp only [IntKind.wrap_u64]
  have e : (x : Int) * (y : Int) = ((x * y : Nat) : Int) := by simp
  rw [e]
  generalize x * y = p at *
  unfold B64 at h
  omega
theorem rmul_lo {x y q c : Nat} (hx : x < H32) (hy : y < H32) (hq : q < H32) (hc : c < H32) :
    (IntKind.u64.wrap (IntKind.u64.wrap ((q : Int) + IntKind.u64.wrap ((x : Int) * (y : Int))) + (c : Int))).tmod 4294967296 = (pLo x y q c : Int) := by
  rw [p_wrap hx hy hq hc, tmod_lo]
  rfl
theorem rmul_hi {x y q c : Nat} (hx : x < H32) (hy : y < H32) (hq : q < H32) (hc : c < H32) :
    IntKind.u64.wrap ((IntKind.u64.wrap (IntKind.u64.wrap ((q : Int) + IntKind.u64.wrap ((x : Int) * (y : Int))) + (c : Int))).tdiv 4294967296) = (pHi x y q c : Int) := by
  rw [p_wrap hx hy hq hc, Int.tdiv_eq_ediv_of_nonneg (by omega), wrap_hi (p_bound hx hy hq hc)]
  rfl

/-- What has been reckoned when k figures of one line are done: the row Q and the carry c. -/
def LineAt (P Q : List Nat) (i k x : Nat) (l : List Nat) (c : Nat) : Prop :=
  DigH Q ∧ Q.length = P.length ∧ c < H32 ∧ (∀ j, i + k ≤ j → Q[j]?.getD 0 = P[j]?.getD 0) ∧ valH Q + H32 ^ (i + k) * c = valH P + H32 ^ i * (x * valH (l.take k))
theorem LineAt.start {P : List Nat} (h : DigH P) (i x : Nat) (l : List Nat) : LineAt P P i 0 x l 0 := ⟨h, rfl, H32_pos, fun _ _ => rfl, by simp [valH_nil]⟩
theorem LineAt.step {P Q l : List Nat} {i k x c : Nat} (h : LineAt P Q i k x l c) (hx : x < H32) (hl : DigH l) (hk : i + k < P.length) :
    LineAt P (Q.set (i + k) (pLo x (l[k]?.getD 0) (Q[i + k]?.getD 0) c)) i (k + 1) x l (pHi x (l[k]?.getD 0) (Q[i + k]?.getD 0) c) := by
  obtain ⟨hd, hlen, hc, hsame, hv⟩ := h
  refine ⟨hd.set _ (pLo_lt _ _ _ _), by rw [List.length_set, hlen], pHi_lt hx (hl.get k) (hd.get _) hc, fun j hj => ?_, ?_⟩
  · rw [List.getElem?_set_ne (by omega)]; exact hsame j (by omega)
  · have hs := valH_set (l := Q) (k := i + k) (by omega) (pLo x (l[k]?.getD 0) (Q[i + k]?.getD 0) c)
    have hm := p_split x (l[k]?.getD 0) (Q[i + k]?.getD 0) c
    rw [valH_take_succ, ← Nat.add_assoc, Nat.pow_succ, Nat.mul_assoc]
    generalize pLo x (l[k]?.getD 0) (Q[i + k]?.getD 0) c = lo at *
    generalize pHi x (l[k]?.getD 0) (Q[i + k]?.getD 0) c = hi at *
    generalize Q[i + k]?.getD 0 = q at *
    generalize l[k]?.getD 0 = y at *
    have h1 : H32 ^ (i + k) * lo + H32 ^ (i + k) * (H32 * hi) = H32 ^ (i + k) * q + H32 ^ (i + k) * (x * y) + H32 ^ (i + k) * c := by
      rw [← Nat.mul_add, hm, Nat.mul_add, Nat.mul_add]
    have h2 : H32 ^ i * (x * (valH (l.take k) + H32 ^ k * y)) = H32 ^ i * (x * valH (l.take k)) + H32 ^ (i + k) * (x * y) := by
      rw [Nat.mul_add, Nat.mul_add, Nat.pow_add]
      have : H32 ^ i * (x * (H32 ^ k * y)) = H32 ^ i * H32 ^ k * (x * y) := by ac_rfl
      rw [this]
    rw [h2]
    omega
theorem LineAt.done {P Q l : List Nat} {i x c m : Nat} (hml : m = l.length) (h : LineAt P Q i m x l c) (hk : i + m < P.length) (hz : P[i + m]?.getD 0 = 0) :
    DigH (Q.set (i + m) c) ∧ (Q.set (i + m) c).length = P.length ∧ (∀ j, i + m < j → (Q.set (i + m) c)[j]?.getD 0 = P[j]?.getD 0) ∧ valH (Q.set (i + m) c) = valH P + H32 ^ i * (x * valH l) := by
  obtain ⟨hd, hlen, hc, hsame, hv⟩ := h
  refine ⟨hd.set _ hc, by rw [List.length_set, hlen], fun j hj => ?_, ?_⟩
  · rw [List.getElem?_set_ne (by omega)]; exact hsame j (by omega)
  · have hs := valH_set (l := Q) (k := i + m) (by omega) c
    rw [hsame _ (Nat.le_refl _), hz, Nat.mul_zero, Nat.add_zero] at hs
    rw [List.take_of_length_le (by omega)] at hv
    omega

end Go.Proofs.Ytpidpebgeblenaa

/-
  The contracts of the second reference's power, bit, Shl and Shr.
-/
namespace Go.Proofs.Ytpidpebgeblenaa
open Go.RowKit

theorem made_zeros (n : Nat) : (madeCells (Value.int .u64 0).cells (n * 1)).toList = (List.replicate n 0).map encD := by
  rw [Nat.mul_one, show (Value.int .u64 0).cells = #[Value.int .u64 0] from rfl, toList_madeCells_one, List.map_replicate]
  rfl

theorem wrap_pw {k : Nat} (h : k + 1 < 64) : IntKind.u64.wrap ((pw k : Int) * 2) = (pw (k + 1) : Int) := by
  have h1 := pw_lt h
  rw [pw_succ] at h1 ⊢
  rw [IntKind.wrap_u64]
  unfold B64 at h1
  omega

theorem wrap_sh {g k : Nat} (h : g < B64) : IntKind.u64.wrap (((g / 2 ^ k : Nat) : Int) / 2) = ((g / 2 ^ (k + 1) : Nat) : Int) := by
  have h1 : g / 2 ^ k < B64 := Nat.lt_of_le_of_lt (Nat.div_le_self _ _) h
  rw [Nat.pow_succ, ← Nat.div_div_eq_div_mul]
  generalize g / 2 ^ k = t at *
  rw [IntKind.wrap_u64]
  unfold B64 at h1
  omega
/-- Shifted down by k places, behind a name. -/
def sd (g k : Nat) : Nat := g / 2 ^ k
theorem sd_step {g k : Nat} (h : g < B64) : IntKind.u64.wrap ((sd g k : Int) / 2) = (sd g (k + 1) : Int) := wrap_sh h
theorem sd_zero (g : Nat) : sd g 0 = g := Nat.div_one g

/-- A step of the inner loop, as the walk has it. -/
theorem wrap_step {x y k : Nat} (hx : x < B64) :
    IntKind.u64.wrap (IntKind.u64.wrap ((sh2 x y k : Int) / 2) + (sd y k : Int) % 2 * 9223372036854775808) = (sh2 x y (k + 1) : Int) := by
  have h1 := sh2_lt x y (k + 1)
  have h2 := sh2_succ hx y k
  rw [show y / 2 ^ k = sd y k from rfl] at h2
  have h3 := sh2_lt x y k
  generalize sh2 x y k = a at *
  generalize sh2 x y (k + 1) = b at *
  generalize sd y k = c at *
  simp only [IntKind.wrap_u64]
  unfold B64 at h1 h3
  omega

end Go.Proofs.Ytpidpebgeblenaa

/-
  The contract of the second reference's DivMod.
-/
namespace Go.Proofs.Ytpidpebgeblenaa
open Go.RowKit

/-- A call has answered a quotient, what is left, and no error. -/
def GotD (w : World) (q r : Nat) (e : Ending) (w' : World) : Prop := ∃ A n c B m d, e = .returned (.tuple #[.slice A n c, .slice B m d, .int .i64 0]) ∧ Num w' A n c q ∧ Num w' B m d r ∧ Below w.heap.size w w'

theorem ownsRow_below {w w' : World} {base : Nat} {e : TypeId} {size : Nat} {v : Value} {n : Nat} {xs : List Value} (h : w.ownsRow base e size v n xs) (hb : Below w.heap.size w w') : w'.ownsRow base e size v n xs := by
  refine h.kept (row := none) ⟨hb.os, hb.tape, hb.output, hb.size, fun k hk _ => hb.block k hk⟩ ?_
  rcases h.2 with ⟨rfl, _⟩ | ⟨g, cap, cur, rfl, _⟩
  · exact .inl rfl
  · exact .inr (by simp [Value.ownBlock])

/-- A number that lies elsewhere is kept where a cell of a block is written. -/
theorem Num.far {w : World} {A : Option Addr} {n c x s o : Nat} {v : Value} (h : Num w A n c x) (hf : Fresh (s + 1) A n) : Num (w.setCell ⟨s, o, none⟩ v) A n c x := by
  refine ⟨h.1, h.2.1, h.2.2.1, fun h0 => ?_⟩
  obtain ⟨b, off, e, hb, hc⟩ := h.2.2.2 h0
  obtain ⟨b', off', e', hb'⟩ := hf h0
  rw [e] at e'
  injection e' with e'
  injection e' with e1 e2
  refine ⟨b, off, e, by rw [World.size_setCell]; exact hb, fun j hj => ?_⟩
  exact (World.cell?_of_block (a := ⟨b, off + j, none⟩) (Below.heap_setCell w ⟨s, o, none⟩ v b (by simp; omega))).trans (hc j hj)

/-- Twice what a digit holds. -/
def tq (F i : Nat) : Nat := 2 * qd F (i + 1) (i / 64)
theorem wrap_two (F i : Nat) : IntKind.u64.wrap ((qd F (i + 1) (i / 64) : Int) * 2) = (tq F i : Int) := by
  have := qd_room F i
  unfold tq
  rw [IntKind.wrap_u64]
  unfold B64 at this
  omega
theorem wrap_tq (F i : Nat) : IntKind.u64.wrap ((tq F i : Int) + 1) = ((tq F i + 1 : Nat) : Int) := by
  have := qd_room F i
  unfold tq
  rw [IntKind.wrap_u64]
  unfold B64 at this
  omega

theorem div_start {x y f : Nat} (hy : y ≠ 0) (h : blen x = f + blen y) : x / y < 2 ^ (f + 1) ∧ x / 2 ^ (f + 1) < y := by
  have h1 := lt_blen x
  have h2 := blen_ge hy
  have h3 := blen_pos hy
  have e : 2 ^ blen x = 2 ^ (f + 1) * 2 ^ (blen y - 1) := by rw [← Nat.pow_add, h]; congr 1; omega
  have h4 : 2 ^ (f + 1) * 2 ^ (blen y - 1) ≤ 2 ^ (f + 1) * y := Nat.mul_le_mul_left _ h2
  constructor
  · rw [Nat.div_lt_iff_lt_mul (by omega)]; omega
  · rw [Nat.div_lt_iff_lt_mul (Nat.pow_pos (by omega)), Nat.mul_comm]; omega

theorem len_bits {x k : Nat} (h : (limbs x).length ≤ k) : blen x ≤ 64 * k := by
  refine blen_le ?_
  have h1 := lt_of_limbs_length h
  rw [B64_pow2] at h1
  exact h1
theorem r_len {x y k : Nat} (hy : 0 < y) (h : (limbs y).length ≤ k) : (limbs (x % y)).length ≤ k := Nat.le_trans (limbs_length_mono (Nat.le_of_lt (Nat.mod_lt _ hy))) h

theorem own_two (w : World) (o : Obj) (base : Nat) (h : base ≤ w.heap.size) : ((w.alloc o).alloc (.cells #[] 103)).ownsRow base 103 1 (.slice (some ⟨w.heap.size + 1, 0, none⟩) 0 0) 0 [] := by
  have := own_empty (w.alloc o) base (by rw [World.size_alloc]; omega)
  rw [World.size_alloc] at this
  exact this

theorem num_empty (w : World) (A : Option Addr) (c : Nat) : Num w A 0 c 0 := by
  unfold Num
  rw [limbs_zero]
  exact Lim.nil _ _ _ _

end Go.Proofs.Ytpidpebgeblenaa

/-
  Small helps for the laws: a digit in new memory, lengths of small numbers.
-/
namespace Go.Proofs.Ytpidpebgeblenaa
open Go.RowKit

theorem new_digit {x : Nat} (h0 : x ≠ 0) (hx : x < B64) (w : World) (t : TypeId) : Num (w.alloc (.cells #[.int .u64 (x : Int)] t)) (some ⟨w.heap.size, 0, none⟩) 1 1 x := by
  obtain ⟨A, n, c, e, hl⟩ := isN_new h0 hx w t
  injection e with e1 e2 e3
  subst e1; subst e2; subst e3
  exact hl
theorem len_one {x : Nat} (hx : x < B64) : (limbs x).length ≤ 1 := limbs_length_le (k := 1) (by rw [Nat.pow_one]; exact hx)
theorem len_nought : (limbs 0).length ≤ 0 := by rw [limbs_zero]; simp
/-- The only digit of a small number. -/
theorem Num.cell {w : World} {A : Option Addr} {n c x : Nat} (h : Num w A n c x) (h0 : x ≠ 0) (hx : x < B64) : n = 1 ∧ ∃ b off, A = some ⟨b, off, none⟩ ∧ w.cell? ⟨b, off, none⟩ = some (.int .u64 (x : Int)) := by
  have hn := h.len
  rw [limbs_one h0 hx] at hn
  obtain ⟨b, off, e, _, hc⟩ := h.2.2.2 (by simp at hn; omega)
  have := hc 0 (by simp at hn; omega)
  rw [limbs_one h0 hx] at this
  exact ⟨hn, b, off, e, this⟩
theorem new_first {x : Nat} {v : Int} (h0 : x ≠ 0) (hx : x < B64) (hv : v = (x : Int)) (w : World) (t : TypeId) : Num (w.alloc (.cells #[.int .u64 v] t)) (some ⟨w.heap.size, 0, none⟩) 1 1 x := by
  rw [hv]
  exact new_digit h0 hx w t
theorem Num.nought {w : World} {A : Option Addr} {n c : Nat} (h : Num w A n c 0) : n = 0 := by
  have := h.len
  rwa [limbs_zero] at this
theorem Num.some_len {w : World} {A : Option Addr} {n c x : Nat} (h : Num w A n c x) (h0 : x ≠ 0) : 0 < n := by
  have := h.len
  have := limbs_ne_nil h0
  omega

end Go.Proofs.Ytpidpebgeblenaa

/-
  Integers in memory, and the contracts of the fourth reference: made, Right, Same, Neg, Cmp.
-/
namespace Go.Proofs.Ytpidpebgeblenaa
open Go.RowKit

/-- The value '.agg #[.bool b, .slice A n c]' stands for the integer z. -/
def Zn (w : World) (b : Bool) (A : Option Addr) (n c : Nat) (z : Int) : Prop := Num w A n c z.natAbs ∧ b = decide (z < 0)
theorem Zn.on {w w' : World} {b : Bool} {A : Option Addr} {n c : Nat} {z : Int} (h : Zn w b A n c z) (hb : Below w.heap.size w w') : Zn w' b A n c z := ⟨h.1.on hb, h.2⟩
/-- A number with a side. -/
def sgn (b : Bool) (x : Nat) : Int := if b then -(x : Int) else (x : Int)
theorem sgn_abs (b : Bool) (x : Nat) : (sgn b x).natAbs = x := by unfold sgn; split <;> omega
theorem Zn.eq {w : World} {b : Bool} {A : Option Addr} {n c : Nat} {z : Int} (h : Zn w b A n c z) : z = sgn b z.natAbs := by
  rw [h.2]; unfold sgn
  by_cases hz : z < 0
  · simp [hz]; omega
  · simp [hz]; omega
/-- A call has answered an integer. -/
def GotZ (w : World) (z : Int) (e : Ending) (w' : World) : Prop := ∃ b A n c, e = .returned (.agg #[.bool b, .slice A n c]) ∧ Zn w' b A n c z ∧ Below w.heap.size w w'
theorem bcell {W w1 : World} (hb : Below W.heap.size W w1) : (∀ b o, b < W.heap.size → w1.cell? ⟨b, o, none⟩ = W.cell? ⟨b, o, none⟩) ∧ (∀ b o, b < W.heap.size → w1.frozen? ⟨b, o, none⟩ = W.frozen? ⟨b, o, none⟩) :=
  ⟨fun b o h => hb.cell (p := ⟨b, o, none⟩) h, fun b o h => hb.frozen (p := ⟨b, o, none⟩) h⟩

/-- The boxes of two structs that came in. -/
theorem below_two (w : World) (o o' : Obj) : Below w.heap.size w ((w.alloc o).alloc o') := ((Below.refl _ w).alloc (Nat.le_refl _) _).alloc (by simp) _
theorem below_one (w : World) (o : Obj) : Below w.heap.size w (w.alloc o) := (Below.refl _ w).alloc (Nat.le_refl _) _

/-- An integer's form is right. -/
def okZ (b : Bool) (n : Nat) (l : List Nat) : Bool := canon l && (decide (0 < n) || !b)

theorem zn_inj {w w' : World} {b b' : Bool} {A B : Option Addr} {n c m d : Nat} {z z' : Int} (ha : Zn w b A n c z) (hb : Zn w' b' B m d z') : (z = z' ↔ b = b' ∧ z.natAbs = z'.natAbs) := by
  constructor
  · intro h; subst h; exact ⟨ha.2.trans hb.2.symm, rfl⟩
  · intro ⟨h1, h2⟩
    rw [ha.eq, hb.eq, h1, h2]

theorem Zn.stored {w : World} {s : Nat} {b b0 : Bool} {A A0 : Option Addr} {n c n0 c0 : Nat} {z : Int} (h : Zn w b A n c z) (h0 : w.cell? ⟨s, 0, none⟩ = some (.bool b0)) (h1 : w.cell? ⟨s, 1, none⟩ = some (.slice A0 n0 c0)) :
    Zn ((w.setCell ⟨s, 0, none⟩ (.bool b)).setCell ⟨s, 1, none⟩ (.slice A n c)) b A n c z := by
  refine ⟨(h.1.set_other h0 (fun _ _ e => by cases e)).set_other (u := .slice A0 n0 c0) ?_ (fun _ _ e => by cases e), h.2⟩
  have hne : (⟨s, 0, none⟩ : Addr) ≠ ⟨s, 1, none⟩ := fun e => by injection e with _ e2; omega
  rw [World.cell?_setCell_other (h := hne)]
  exact h1

theorem sgn_neg {b : Bool} {z : Int} (hb : b = decide (z < 0)) : sgn (!b) z.natAbs = -z := by
  subst hb; unfold sgn
  by_cases h : z < 0
  · simp [h]; omega
  · simp [h]; omega

end Go.Proofs.Ytpidpebgeblenaa

/-
  The contracts of the fourth reference: Cmp, Mul, Add, Of, Int, Few.
-/
namespace Go.Proofs.Ytpidpebgeblenaa
open Go.RowKit

/-- Which of two integers is greater. -/
def cmpZ (a b : Int) : Int := if a < b then -1 else if b < a then 1 else 0
theorem cmpN_bd (a b : Nat) : -1 ≤ cmpN a b ∧ cmpN a b ≤ 1 := by unfold cmpN; split <;> (try split) <;> omega
theorem cmpZ_neg {z z' : Int} (h : z < 0) (h' : z' < 0) : cmpZ z z' = -cmpN z.natAbs z'.natAbs := by
  unfold cmpZ cmpN
  by_cases h1 : z < z'
  · rw [if_pos h1, if_neg (by omega), if_pos (by omega)]
  · rw [if_neg h1]
    by_cases h2 : z' < z
    · rw [if_pos h2, if_pos (by omega)]; rfl
    · rw [if_neg h2, if_neg (by omega), if_neg (by omega)]; rfl
theorem cmpZ_pos {z z' : Int} (h : ¬ z < 0) (h' : ¬ z' < 0) : cmpZ z z' = cmpN z.natAbs z'.natAbs := by
  have e1 : (z < z') ↔ (z.natAbs < z'.natAbs) := by omega
  have e2 : (z' < z) ↔ (z'.natAbs < z.natAbs) := by omega
  unfold cmpZ cmpN
  simp only [e1, e2]
theorem cmpZ_np {z z' : Int} (h : z < 0) (h' : ¬ z' < 0) : cmpZ z z' = -1 := by unfold cmpZ; rw [if_pos (by omega)]
theorem cmpZ_pn {z z' : Int} (h : ¬ z < 0) (h' : z' < 0) : cmpZ z z' = 1 := by unfold cmpZ; rw [if_neg (by omega), if_pos (by omega)]

theorem sgn_mul {b b' : Bool} {z z' : Int} (hb : b = decide (z < 0)) (hb' : b' = decide (z' < 0)) : sgn (b != b') (z.natAbs * z'.natAbs) = z * z' := by
  subst hb; subst hb'
  obtain ⟨x, hx⟩ : ∃ x : Nat, z.natAbs = x := ⟨_, rfl⟩
  obtain ⟨y, hy⟩ : ∃ y : Nat, z'.natAbs = y := ⟨_, rfl⟩
  unfold sgn
  by_cases h1 : z < 0
  · have e1 : z = -(x : Int) := by omega
    by_cases h2 : z' < 0
    · have e2 : z' = -(y : Int) := by omega
      simp only [h1, h2, hx, hy]
      simp [e1, e2, Int.neg_mul_neg]
    · have e2 : z' = (y : Int) := by omega
      simp only [h1, h2, hx, hy]
      simp [e1, e2, Int.neg_mul]
  · have e1 : z = (x : Int) := by omega
    by_cases h2 : z' < 0
    · have e2 : z' = -(y : Int) := by omega
      simp only [h1, h2, hx, hy]
      simp [e1, e2, Int.mul_neg]
    · have e2 : z' = (y : Int) := by omega
      simp only [h1, h2, hx, hy]
      simp [e1, e2]

theorem cell_store {w : World} {s b o : Nat} {u v : Value} (h : b ≠ s) : ((w.setCell ⟨s, 0, none⟩ u).setCell ⟨s, 1, none⟩ v).cell? ⟨b, o, none⟩ = w.cell? ⟨b, o, none⟩ := by
  have h0 : (⟨s, 0, none⟩ : Addr) ≠ ⟨b, o, none⟩ := fun e => by injection e with e1; omega
  have h1 : (⟨s, 1, none⟩ : Addr) ≠ ⟨b, o, none⟩ := fun e => by injection e with e1; omega
  rw [World.cell?_setCell_other (h := h1), World.cell?_setCell_other (h := h0)]

end Go.Proofs.Ytpidpebgeblenaa

/-
  The contracts of the fourth reference: Add, Of, Int.
-/
namespace Go.Proofs.Ytpidpebgeblenaa
open Go.RowKit

theorem sgn_same {b : Bool} {z z' : Int} (hb : b = decide (z < 0)) (hb' : b = decide (z' < 0)) : sgn b (z.natAbs + z'.natAbs) = z + z' := by
  by_cases h1 : z < 0
  · have h2 : z' < 0 := by simpa [h1] using hb.symm.trans hb'
    subst hb; unfold sgn; simp [h1]; omega
  · have h2 : ¬ z' < 0 := by have := hb.symm.trans hb'; simpa [h1] using this.symm
    subst hb; unfold sgn; simp [h1]; omega
theorem sgn_diff {b b' : Bool} {z z' : Int} (hb : b = decide (z < 0)) (hb' : b' = decide (z' < 0)) (hne : b ≠ b') (hle : z'.natAbs ≤ z.natAbs) : sgn b (z.natAbs - z'.natAbs) = z + z' := by
  subst hb; subst hb'
  unfold sgn
  by_cases h1 : z < 0
  · have h2 : ¬ z' < 0 := fun h => hne (by simp [h1, h])
    simp [h1]; omega
  · have h2 : z' < 0 := by
      by_cases h : z' < 0
      · exact h
      · exact absurd (by simp [h1, h]) hne
    simp [h1]; omega

/-- The boxes of two integers that came in, and of the one that goes out. -/
structure Box3 (w W : World) (b b' : Bool) (A B : Option Addr) (n c m d : Nat) : Prop where
  hB : Below w.heap.size w W
  sz : W.heap.size = w.heap.size + 3
  c1 : W.cell? ⟨w.heap.size, 0, none⟩ = some (.bool b)
  c2 : W.cell? ⟨w.heap.size, 1, none⟩ = some (.slice A n c)
  c3 : W.cell? ⟨w.heap.size + 1, 0, none⟩ = some (.bool b')
  c4 : W.cell? ⟨w.heap.size + 1, 1, none⟩ = some (.slice B m d)
  c5 : W.cell? ⟨w.heap.size + 1 + 1, 0, none⟩ = some (.bool false)
  c6 : W.cell? ⟨w.heap.size + 1 + 1, 1, none⟩ = some (.slice none 0 0)
  c7 : W.frozen? ⟨w.heap.size + 1 + 1, 0, none⟩ = false
  c8 : W.frozen? ⟨w.heap.size + 1 + 1, 1, none⟩ = false
theorem box3 {w W : World} {b b' : Bool} {A B : Option Addr} {n c m d : Nat} (hW : ((w.alloc (.cells #[.bool b, .slice A n c] 119)).alloc (.cells #[.bool b', .slice B m d] 119)).alloc (.cells #[.bool false, .slice none 0 0] 119) = W) : Box3 w W b b' A B n c m d := by
  refine ⟨?_, ?_, ?_, ?_, ?_, ?_, ?_, ?_, ?_, ?_⟩ <;> rw [← hW]
  · exact (below_two w (.cells #[.bool b, .slice A n c] 119) (.cells #[.bool b', .slice B m d] 119)).alloc (by simp; omega) (.cells #[.bool false, .slice none 0 0] 119)
  all_goals simp [go_sem]
theorem Box3.on {w W W' : World} {b b' : Bool} {A B : Option Addr} {n c m d : Nat} (h : Box3 w W b b' A B n c m d) (hb : Below W.heap.size W W') : Below w.heap.size w W' ∧ w.heap.size + 3 ≤ W'.heap.size ∧ W'.cell? ⟨w.heap.size, 0, none⟩ = some (.bool b) ∧ W'.cell? ⟨w.heap.size, 1, none⟩ = some (.slice A n c) ∧ W'.cell? ⟨w.heap.size + 1, 0, none⟩ = some (.bool b') ∧ W'.cell? ⟨w.heap.size + 1, 1, none⟩ = some (.slice B m d) ∧
    W'.cell? ⟨w.heap.size + 1 + 1, 0, none⟩ = some (.bool false) ∧ W'.cell? ⟨w.heap.size + 1 + 1, 1, none⟩ = some (.slice none 0 0) ∧ W'.frozen? ⟨w.heap.size + 1 + 1, 0, none⟩ = false ∧ W'.frozen? ⟨w.heap.size + 1 + 1, 1, none⟩ = false := by
  have hs := h.sz
  have hs' := hb.size
  refine ⟨h.hB.trans (hb.mono h.hB.size), by omega, ?_, ?_, ?_, ?_, ?_, ?_, ?_, ?_⟩
  · exact (hb.cell (p := ⟨w.heap.size, 0, none⟩) (by simp; omega)).trans h.c1
  · exact (hb.cell (p := ⟨w.heap.size, 1, none⟩) (by simp; omega)).trans h.c2
  · exact (hb.cell (p := ⟨w.heap.size + 1, 0, none⟩) (by simp; omega)).trans h.c3
  · exact (hb.cell (p := ⟨w.heap.size + 1, 1, none⟩) (by simp; omega)).trans h.c4
  · exact (hb.cell (p := ⟨w.heap.size + 1 + 1, 0, none⟩) (by simp; omega)).trans h.c5
  · exact (hb.cell (p := ⟨w.heap.size + 1 + 1, 1, none⟩) (by simp; omega)).trans h.c6
  · exact (hb.frozen (p := ⟨w.heap.size + 1 + 1, 0, none⟩) (by simp; omega)).trans h.c7
  · exact (hb.frozen (p := ⟨w.heap.size + 1 + 1, 1, none⟩) (by simp; omega)).trans h.c8

theorem below_undrew {W w' : World} (hb : Below W.drew.heap.size W.drew w') : Below W.heap.size W w' := ⟨hb.os, hb.tape, hb.output, hb.size, hb.block⟩

end Go.Proofs.Ytpidpebgeblenaa

/-
  The contracts of the fourth reference: Of, Int.
-/
namespace Go.Proofs.Ytpidpebgeblenaa
open Go.RowKit

/-- An integer of 64 bits. -/
def I64 (z : Int) : Prop := -9223372036854775808 ≤ z ∧ z ≤ 9223372036854775807
theorem I64.abs {z : Int} (h : I64 z) : z.natAbs < B64 := by unfold I64 at h; unfold B64; omega

theorem sgn_of {b : Bool} {z : Int} (hb : b = decide (z < 0)) : sgn b z.natAbs = z := by
  subst hb; unfold sgn
  by_cases h : z < 0
  · simp [h]; omega
  · simp [h]; omega

theorem abs_sgn {b : Bool} {z : Int} (hb : b = decide (z < 0)) (hz : z < 0) : b = true := by rw [hb]; simp [hz]
theorem abs_sgn' {b : Bool} {z : Int} (hb : b = decide (z < 0)) (hz : ¬ z < 0) : b = false := by rw [hb]; simp [hz]

end Go.Proofs.Ytpidpebgeblenaa

/-
  Rationals: one number by another one, reduced; how many limbs they have; which is greater.
-/
namespace Go.Proofs.Ytpidpebgeblenaa
open Go.RowKit

/-- Which of two rationals is greater. -/
def cmpQ (a b : Rat) : Int := if a < b then -1 else if b < a then 1 else 0
theorem cmpQ_eq (a b : Rat) : cmpZ (a.num * (b.den : Int)) (b.num * (a.den : Int)) = cmpQ a b := by
  unfold cmpQ cmpZ; simp only [Rat.lt_iff]
theorem cmpQ_bd (a b : Rat) : -1 ≤ cmpQ a b ∧ cmpQ a b ≤ 1 := by unfold cmpQ; split <;> (try split) <;> omega

theorem mkRat_den (p : Int) (q : Nat) (hq : q ≠ 0) : (mkRat p q).den = q / Nat.gcd p.natAbs q := by
  rw [Rat.den_mkRat, if_neg hq, Nat.gcd_comm]
theorem mkRat_num (p : Int) (q : Nat) (hq : q ≠ 0) : (mkRat p q).num = p / ((Nat.gcd p.natAbs q : Nat) : Int) := by
  rw [Rat.num_mkRat, if_neg hq, Nat.gcd_comm]
theorem natAbs_ediv (p : Int) (g : Nat) (hg : g ∣ p.natAbs) : (p / (g : Int)).natAbs = p.natAbs / g := by
  rcases Nat.eq_zero_or_pos g with h0 | h0
  · subst h0; simp
  · obtain ⟨k, hk⟩ := hg
    have h1 : p = (g : Int) * (k : Int) ∨ p = (g : Int) * (-(k : Int)) := by
      rcases Int.natAbs_eq p with h | h
      · left; rw [h, hk]; simp
      · right; rw [h, hk]; simp [Int.mul_neg]
    have hg0 : (g : Int) ≠ 0 := by omega
    rw [hk, Nat.mul_div_cancel_left _ h0]
    rcases h1 with h | h
    · rw [h, Int.mul_ediv_cancel_left _ hg0]; simp
    · rw [h, Int.mul_ediv_cancel_left _ hg0]; simp
theorem mkRat_abs (p : Int) (q : Nat) (hq : q ≠ 0) : (mkRat p q).num.natAbs = p.natAbs / Nat.gcd p.natAbs q := by
  rw [mkRat_num p q hq, natAbs_ediv _ _ (Nat.gcd_dvd_left _ _)]
theorem mkRat_neg (p : Int) (q : Nat) (hq : q ≠ 0) : decide ((mkRat p q).num < 0) = decide (p < 0) := by
  have hg : 0 < Nat.gcd p.natAbs q := Nat.gcd_pos_of_pos_right _ (by omega)
  have h1 := mkRat_num p q hq
  have h2 : (mkRat p q).num * ((Nat.gcd p.natAbs q : Nat) : Int) = p := by
    rw [h1]
    refine Int.ediv_mul_cancel ?_
    exact Int.ofNat_dvd_left.2 (Nat.gcd_dvd_left _ _)
  have h3 : (mkRat p q).num < 0 ↔ p < 0 := by
    constructor
    · intro h
      rw [← h2]
      exact Int.mul_neg_of_neg_of_pos h (by omega)
    · intro h
      rcases Int.lt_or_le (mkRat p q).num 0 with h4 | h4
      · exact h4
      · exfalso
        have := Int.mul_nonneg h4 (show (0 : Int) ≤ ((Nat.gcd p.natAbs q : Nat) : Int) by omega)
        omega
  simp only [h3]

/-- A rational both of whose sides have at most k limbs. -/
def Sz (r : Rat) (k : Nat) : Prop := (limbs r.num.natAbs).length ≤ k ∧ (limbs r.den).length ≤ k
theorem Sz.le {r : Rat} {k m : Nat} (h : Sz r k) (hk : k ≤ m) : Sz r m := ⟨Nat.le_trans h.1 hk, Nat.le_trans h.2 hk⟩
theorem sz_mk {p : Int} {q k : Nat} (hq : q ≠ 0) (hp : (limbs p.natAbs).length ≤ k) (hd : (limbs q).length ≤ k) : Sz (mkRat p q) k := by
  refine ⟨?_, ?_⟩
  · rw [mkRat_abs p q hq]; exact Nat.le_trans (limbs_length_mono (Nat.div_le_self _ _)) hp
  · rw [mkRat_den p q hq]; exact Nat.le_trans (limbs_length_mono (Nat.div_le_self _ _)) hd
theorem natAbs_over (a : Int) (b : Nat) : (a * (b : Int)).natAbs = a.natAbs * b := by rw [Int.natAbs_mul, Int.natAbs_natCast]
theorem den_mul_ne (a b : Rat) : a.den * b.den ≠ 0 := Nat.mul_ne_zero a.den_nz b.den_nz
theorem Sz.add {a b : Rat} {j k : Nat} (ha : Sz a j) (hb : Sz b k) : Sz (a + b) (j + k + 1) := by
  rw [Rat.add_def']
  refine sz_mk (den_mul_ne a b) ?_ (Nat.le_trans (limbs_length_mul ha.2 hb.2) (by omega))
  refine Nat.le_trans (limbs_length_mono (Int.natAbs_add_le _ _)) (limbs_length_add ?_ ?_)
  · rw [natAbs_over]; exact limbs_length_mul ha.1 hb.2
  · rw [natAbs_over, Nat.add_comm j k]; exact limbs_length_mul hb.1 ha.2
theorem Sz.neg {a : Rat} {j : Nat} (ha : Sz a j) : Sz (-a) j := ⟨by rw [Rat.neg_num, Int.natAbs_neg]; exact ha.1, ha.2⟩
theorem Sz.sub {a b : Rat} {j k : Nat} (ha : Sz a j) (hb : Sz b k) : Sz (a - b) (j + k + 1) := by
  rw [Rat.sub_eq_add_neg]; exact ha.add hb.neg
theorem Sz.mul {a b : Rat} {j k : Nat} (ha : Sz a j) (hb : Sz b k) : Sz (a * b) (j + k) := by
  rw [Rat.mul_def']
  refine sz_mk (den_mul_ne a b) ?_ (limbs_length_mul ha.2 hb.2)
  rw [Int.natAbs_mul]; exact limbs_length_mul ha.1 hb.1
theorem Sz.inv {a : Rat} {j : Nat} (ha : Sz a j) (h0 : a.num ≠ 0) : Sz a⁻¹ j := by
  refine ⟨?_, ?_⟩
  · rw [Rat.num_inv, Int.natAbs_mul, Int.natAbs_sign_of_ne_zero h0, Nat.one_mul, Int.natAbs_natCast]; exact ha.2
  · rw [Rat.den_inv, if_neg h0]; exact ha.1
theorem Sz.div {a b : Rat} {j k : Nat} (ha : Sz a j) (hb : Sz b k) (h0 : b.num ≠ 0) : Sz (a / b) (j + k) := by
  rw [Rat.div_def]; exact ha.mul (hb.inv h0)
/-- A quotient, as it is made. -/
def dnum (a b : Rat) : Int := if b.num < 0 then -(a.num * (b.den : Int)) else a.num * (b.den : Int)
theorem div_mk (a b : Rat) (h0 : b.num ≠ 0) : a / b = mkRat (a.num * sgn (decide (b.num < 0)) b.den) (a.den * b.num.natAbs) := by
  rw [Rat.div_def, Rat.mul_def', Rat.num_inv, Rat.den_inv, if_neg h0]
  congr 2
  unfold sgn
  by_cases h : b.num < 0
  · simp [h, Int.sign_eq_neg_one_of_neg h]
  · have : 0 < b.num := by omega
    simp [h, Int.sign_eq_one_of_pos this]
/-- Two sides that nothing divides are a rational's. -/
theorem rat_of (p : Int) (q : Nat) (hq : q ≠ 0) (hg : Nat.gcd p.natAbs q = 1) : ∃ r : Rat, r.num = p ∧ r.den = q := ⟨⟨p, q, hq, hg⟩, rfl, rfl⟩
theorem of_num (n : Int) : ((n : Int) : Rat).num = n := rfl
theorem of_den (n : Int) : ((n : Int) : Rat).den = 1 := rfl
theorem sz_of {n : Int} (h : (limbs n.natAbs).length ≤ 1) : Sz ((n : Int) : Rat) 1 := ⟨h, by rw [of_den]; exact limbs_length_le (by decide)⟩
theorem rat_inj (a b : Rat) : decide (a.num = b.num ∧ a.den = b.den) = decide (a = b) := by
  have : (a.num = b.num ∧ a.den = b.den) ↔ a = b := ⟨fun h => Rat.ext h.1 h.2, fun h => h ▸ ⟨rfl, rfl⟩⟩
  simp only [this]
end Go.Proofs.Ytpidpebgeblenaa

/-
  Small helps for the laws of integers: boxes, and what is kept.
-/
namespace Go.Proofs.Ytpidpebgeblenaa
open Go.RowKit
set_option linter.unusedVariables false

theorem Zn.ok {w : World} {b : Bool} {A : Option Addr} {n c : Nat} {z : Int} (h : Zn w b A n c z) : okZ b n (limbs z.natAbs) = true := by
  unfold okZ
  rw [limbs_canon, Bool.true_and]
  by_cases hz : z < 0
  · have h0 : 0 < n := by have := h.1.some_len (by omega); omega
    simp [h0]
  · rw [h.2]; simp [hz]
theorem len_z {z : Int} (h : z.natAbs < B64) : (limbs z.natAbs).length ≤ 300 := Nat.le_trans (len_one h) (by omega)
theorem okZ_zn {w : World} {b : Bool} {A : Option Addr} {n c : Nat} {l : List Nat} (h : Lim w.heap.size w A n c l) (hk : okZ b n l = true) : Zn w b A n c (sgn b (val l)) := by
  unfold okZ at hk
  rw [Bool.and_eq_true] at hk
  have hN := h.num hk.1
  refine ⟨by rw [sgn_abs]; exact hN, ?_⟩
  unfold sgn
  cases b
  · simp
  · have h0 : 0 < n := by simpa using hk.2
    have hl := hN.len
    have hv : val l ≠ 0 := fun e => by rw [e, limbs_zero] at hl; simp at hl; omega
    simp; omega
theorem len_z0 : (limbs (0 : Int).natAbs).length ≤ 1000000 := by rw [show (0 : Int).natAbs = 0 from rfl, limbs_zero]; simp
/-- A cell that is there stays behind a new block. -/
theorem keep_alloc {w : World} {o : Obj} {p : Addr} {v : Value} (h : w.cell? p = some v) : (w.alloc o).cell? p = some v := by
  have hlt : p.block < w.heap.size := by
    rcases Nat.lt_or_ge p.block w.heap.size with h1 | h1
    · exact h1
    · simp [World.cell?, Array.getElem?_eq_none h1] at h
  rw [World.cell?_of_block (w := w) (Below.heap_alloc w o p.block hlt)]
  exact h

theorem zlen_add {z z' : Int} {k : Nat} (h : (limbs z.natAbs).length ≤ k) (h' : (limbs z'.natAbs).length ≤ k) : (limbs (z + z').natAbs).length ≤ k + 1 :=
  Nat.le_trans (limbs_length_mono (Int.natAbs_add_le z z')) (limbs_length_add h h')
theorem zlen_mul {z z' : Int} {k m : Nat} (h : (limbs z.natAbs).length ≤ k) (h' : (limbs z'.natAbs).length ≤ m) : (limbs (z * z').natAbs).length ≤ k + m := by
  rw [Int.natAbs_mul]
  exact limbs_length_mul h h'
theorem zlen_neg {z : Int} {k : Nat} (h : (limbs z.natAbs).length ≤ k) : (limbs (-z).natAbs).length ≤ k := by
  rw [Int.natAbs_neg]
  exact h

theorem cell_lt {w : World} {p : Addr} {v : Value} (h : w.cell? p = some v) : p.block < w.heap.size := by
  rcases Nat.lt_or_ge p.block w.heap.size with h1 | h1
  · exact h1
  · simp [World.cell?, Array.getElem?_eq_none h1] at h
/-- A struct of two cells in memory. -/
def Box (W : World) (g : Nat) (b : Bool) (A : Option Addr) (n k : Nat) : Prop := W.cell? ⟨g, 0, none⟩ = some (.bool b) ∧ W.cell? ⟨g, 1, none⟩ = some (.slice A n k)
theorem Box.new (W : World) (b : Bool) (A : Option Addr) (n k : Nat) (T : TypeId) : Box (W.alloc (.cells #[.bool b, .slice A n k] T)) W.heap.size b A n k := ⟨by simp [go_sem], by simp [go_sem]⟩
theorem Box.alloc {W : World} {g : Nat} {b : Bool} {A : Option Addr} {n k : Nat} (h : Box W g b A n k) (o : Obj) : Box (W.alloc o) g b A n k := ⟨keep_alloc h.1, keep_alloc h.2⟩
theorem Box.other {W : World} {g g' : Nat} {b : Bool} {A : Option Addr} {n k : Nat} {u v : Value} (h : Box W g b A n k) (hne : g ≠ g') : Box ((W.setCell ⟨g', 0, none⟩ u).setCell ⟨g', 1, none⟩ v) g b A n k := ⟨(cell_store hne).trans h.1, (cell_store hne).trans h.2⟩
theorem Box.put {W : World} {g : Nat} {b0 : Bool} {A0 : Option Addr} {n0 k0 : Nat} (h : Box W g b0 A0 n0 k0) (b : Bool) (A : Option Addr) (n k : Nat) : Box ((W.setCell ⟨g, 0, none⟩ (.bool b)).setCell ⟨g, 1, none⟩ (.slice A n k)) g b A n k := by
  have h1 : (⟨g, 0, none⟩ : Addr) ≠ ⟨g, 1, none⟩ := fun e => by injection e with _ e2; omega
  have h2 : (⟨g, 1, none⟩ : Addr) ≠ ⟨g, 0, none⟩ := fun e => by injection e with _ e2; omega
  refine ⟨?_, ?_⟩
  · rw [World.cell?_setCell_other (h := h2)]
    exact World.cell?_setCell_same _ _ _ h.1
  · exact World.cell?_setCell_same _ _ _ ((World.cell?_setCell_other W _ _ _ h1).trans h.2)
theorem Zn.put {W : World} {g : Nat} {b b0 : Bool} {A A0 : Option Addr} {n c n0 c0 : Nat} {z : Int} (h : Zn W b A n c z) (hb : Box W g b0 A0 n0 c0) (u v : Value) : Zn ((W.setCell ⟨g, 0, none⟩ u).setCell ⟨g, 1, none⟩ v) b A n c z := by
  refine ⟨(h.1.set_other hb.1 (fun _ _ e => by cases e)).set_other (u := .slice A0 n0 c0) ?_ (fun _ _ e => by cases e), h.2⟩
  have hne : (⟨g, 0, none⟩ : Addr) ≠ ⟨g, 1, none⟩ := fun e => by injection e with _ e2; omega
  rw [World.cell?_setCell_other (h := hne)]
  exact hb.2
theorem Zn.alloc {W : World} {b : Bool} {A : Option Addr} {n c : Nat} {z : Int} (h : Zn W b A n c z) (o : Obj) : Zn (W.alloc o) b A n c z := h.on (below_one _ _)
theorem below_put {B g : Nat} {V W : World} (h : Below B V W) (hg : B ≤ g) (u v : Value) : Below B V ((W.setCell ⟨g, 0, none⟩ u).setCell ⟨g, 1, none⟩ v) := (h.setCell (p := ⟨g, 0, none⟩) hg u).setCell (p := ⟨g, 1, none⟩) hg v

/-- Behind 'top := ..': a box of two cells, and what it holds. -/
def LoneZ (V U : World) (g : Nat) (b : Bool) (A : Option Addr) (n k : Nat) (z : Int) : Prop := Box U g b A n k ∧ Zn U b A n k z ∧ Below V.heap.size V U ∧ V.heap.size ≤ g
section
variable {V wz : World} {g : Nat} {b : Bool} {A : Option Addr} {n k : Nat} {z : Int}
theorem loneZA (h : Zn wz b A n k z) (qq : Below V.heap.size V wz) (T : TypeId) : LoneZ V (wz.alloc (.cells #[.bool b, .slice A n k] T)) wz.heap.size b A n k z := ⟨Box.new wz b A n k T, h.alloc _, qq.alloc qq.size _, qq.size⟩
theorem loneZB (o0 : wz.cell? ⟨g, 0, none⟩ = some (.bool false)) (o1 : wz.cell? ⟨g, 1, none⟩ = some (.slice none 0 0)) (h : Zn wz b A n k z) (qq : Below V.heap.size V wz) (l : V.heap.size ≤ g) : LoneZ V ((wz.setCell ⟨g, 0, none⟩ (.bool b)).setCell ⟨g, 1, none⟩ (.slice A n k)) g b A n k z := have o : Box wz g false none 0 0 := ⟨o0, o1⟩; ⟨o.put b A n k, h.put o _ _, below_put qq l _ _, l⟩
end

/-- Behind 'x, y := f(..), g(..)': two boxes, and what they hold. -/
def Both (V U : World) (gx gy : Nat) (bx : Bool) (Ax : Option Addr) (nx kx : Nat) (bY : Bool) (Ay : Option Addr) (ny ky : Nat) (zx zy : Int) : Prop :=
  Box U gx bx Ax nx kx ∧ Box U gy bY Ay ny ky ∧ Zn U bx Ax nx kx zx ∧ Zn U bY Ay ny ky zy ∧ Below V.heap.size V U
section
variable {V wz : World} {gx gy : Nat} {bx bY : Bool} {Ax Ay : Option Addr} {nx kx ny ky : Nat} {zx zy : Int}
theorem pairA (hx : Zn wz bx Ax nx kx zx) (hy : Zn wz bY Ay ny ky zy) (qq : Below V.heap.size V wz) (T : TypeId) : Both V ((wz.alloc (.cells #[.bool bx, .slice Ax nx kx] T)).alloc (.cells #[.bool bY, .slice Ay ny ky] T)) wz.heap.size (wz.heap.size + 1) bx Ax nx kx bY Ay ny ky zx zy :=
  ⟨(Box.new wz bx Ax nx kx T).alloc _, by have := Box.new (wz.alloc (.cells #[.bool bx, .slice Ax nx kx] T)) bY Ay ny ky T; simpa using this, (hx.alloc _).alloc _, (hy.alloc _).alloc _, (qq.alloc qq.size _).alloc (by have := qq.size; simp; omega) _⟩
theorem pairA' (hx : Zn wz bx Ax nx kx zx) (hy : Zn wz bY Ay ny ky zy) (qq : Below V.heap.size V wz) (T : TypeId) : Both V ((wz.alloc (.cells #[.bool bY, .slice Ay ny ky] T)).alloc (.cells #[.bool bx, .slice Ax nx kx] T)) (wz.heap.size + 1) wz.heap.size bx Ax nx kx bY Ay ny ky zx zy :=
  ⟨by have := Box.new (wz.alloc (.cells #[.bool bY, .slice Ay ny ky] T)) bx Ax nx kx T; simpa using this, (Box.new wz bY Ay ny ky T).alloc _, (hx.alloc _).alloc _, (hy.alloc _).alloc _, (qq.alloc qq.size _).alloc (by have := qq.size; simp; omega) _⟩
theorem pairB (c0 : wz.cell? ⟨gx, 0, none⟩ = some (.bool false)) (c1 : wz.cell? ⟨gx, 1, none⟩ = some (.slice none 0 0)) (hx : Zn wz bx Ax nx kx zx) (hy : Zn wz bY Ay ny ky zy) (qq : Below V.heap.size V wz) (lx : V.heap.size ≤ gx) (T : TypeId) :
    Both V (((wz.setCell ⟨gx, 0, none⟩ (.bool bx)).setCell ⟨gx, 1, none⟩ (.slice Ax nx kx)).alloc (.cells #[.bool bY, .slice Ay ny ky] T)) gx wz.heap.size bx Ax nx kx bY Ay ny ky zx zy :=
  have B : Box wz gx false none 0 0 := ⟨c0, c1⟩
  ⟨(B.put bx Ax nx kx).alloc _, by have := Box.new ((wz.setCell ⟨gx, 0, none⟩ (.bool bx)).setCell ⟨gx, 1, none⟩ (.slice Ax nx kx)) bY Ay ny ky T; simpa using this, (hx.put B _ _).alloc _, (hy.put B _ _).alloc _, (below_put qq lx _ _).alloc (by have := qq.size; simp; omega) _⟩
theorem pairB' (c0 : wz.cell? ⟨gy, 0, none⟩ = some (.bool false)) (c1 : wz.cell? ⟨gy, 1, none⟩ = some (.slice none 0 0)) (hx : Zn wz bx Ax nx kx zx) (hy : Zn wz bY Ay ny ky zy) (qq : Below V.heap.size V wz) (ly : V.heap.size ≤ gy) (T : TypeId) :
    Both V (((wz.setCell ⟨gy, 0, none⟩ (.bool bY)).setCell ⟨gy, 1, none⟩ (.slice Ay ny ky)).alloc (.cells #[.bool bx, .slice Ax nx kx] T)) wz.heap.size gy bx Ax nx kx bY Ay ny ky zx zy :=
  have B : Box wz gy false none 0 0 := ⟨c0, c1⟩
  ⟨by have := Box.new ((wz.setCell ⟨gy, 0, none⟩ (.bool bY)).setCell ⟨gy, 1, none⟩ (.slice Ay ny ky)) bx Ax nx kx T; simpa using this, (B.put bY Ay ny ky).alloc _, (hx.put B _ _).alloc _, (hy.put B _ _).alloc _, (below_put qq ly _ _).alloc (by have := qq.size; simp; omega) _⟩
theorem pairC (c0 : wz.cell? ⟨gx, 0, none⟩ = some (.bool false)) (c1 : wz.cell? ⟨gx, 1, none⟩ = some (.slice none 0 0)) (d0 : wz.cell? ⟨gy, 0, none⟩ = some (.bool false)) (d1 : wz.cell? ⟨gy, 1, none⟩ = some (.slice none 0 0)) (hx : Zn wz bx Ax nx kx zx) (hy : Zn wz bY Ay ny ky zy) (qq : Below V.heap.size V wz) (lx : V.heap.size ≤ gx) (ly : V.heap.size ≤ gy) (hne : gx ≠ gy) :
    Both V ((((wz.setCell ⟨gx, 0, none⟩ (.bool bx)).setCell ⟨gx, 1, none⟩ (.slice Ax nx kx)).setCell ⟨gy, 0, none⟩ (.bool bY)).setCell ⟨gy, 1, none⟩ (.slice Ay ny ky)) gx gy bx Ax nx kx bY Ay ny ky zx zy :=
  have B : Box wz gx false none 0 0 := ⟨c0, c1⟩
  have D : Box ((wz.setCell ⟨gx, 0, none⟩ (.bool bx)).setCell ⟨gx, 1, none⟩ (.slice Ax nx kx)) gy false none 0 0 := Box.other ⟨d0, d1⟩ (Ne.symm hne)
  ⟨(B.put bx Ax nx kx).other hne, D.put bY Ay ny ky, (hx.put B _ _).put D _ _, (hy.put B _ _).put D _ _, below_put (below_put qq lx _ _) ly _ _⟩
end

/-- An integer that is right and of few limbs. -/
theorem few_zn {w : World} {b : Bool} {A : Option Addr} {n c : Nat} {l : List Nat} (m : Nat) (h : Lim w.heap.size w A n c l) (hr : (decide ((n : Int) ≤ (m : Int)) && okZ b n l) = true) : Zn w b A n c (sgn b (val l)) ∧ (limbs (sgn b (val l)).natAbs).length ≤ m := by
  rw [Bool.and_eq_true] at hr
  have h0 := okZ_zn h hr.2
  refine ⟨h0, ?_⟩
  rw [← h0.1.len]
  have := of_decide_eq_true hr.1
  omega

theorem i64_wf {n : Int} (h : (Lit.int .i64 n).wf = true) : I64 n := bounds_i64 h
theorem i32_wf {n : Int} (h : (Lit.int .i32 n).wf = true) : -2147483648 ≤ n ∧ n ≤ 2147483647 := bounds_i32 h

end Go.Proofs.Ytpidpebgeblenaa

/-
  The contracts of the second reference's Gcd and Goes.
-/
namespace Go.Proofs.Ytpidpebgeblenaa
open Go.RowKit
end Go.Proofs.Ytpidpebgeblenaa

/-
  The contracts of the fifth reference: Make, Of, Right.
-/
namespace Go.Proofs.Ytpidpebgeblenaa
open Go.RowKit

/-- The value '.agg #[.bool b, .slice A n c, .slice B m d]' has the sides p and q. -/
def Rw (w : World) (b : Bool) (A : Option Addr) (n c : Nat) (B : Option Addr) (m d : Nat) (p : Int) (q : Nat) : Prop := Zn w b A n c p ∧ Num w B m d q
theorem Rw.on {w w' : World} {b : Bool} {A B : Option Addr} {n c m d : Nat} {p : Int} {q : Nat} (h : Rw w b A n c B m d p q) (hb : Below w.heap.size w w') : Rw w' b A n c B m d p q := ⟨h.1.on hb, h.2.on hb⟩
/-- It is the rational r. -/
def Rt (w : World) (b : Bool) (A : Option Addr) (n c : Nat) (B : Option Addr) (m d : Nat) (r : Rat) : Prop := Rw w b A n c B m d r.num r.den
theorem Rt.on {w w' : World} {b : Bool} {A B : Option Addr} {n c m d : Nat} {r : Rat} (h : Rt w b A n c B m d r) (hb : Below w.heap.size w w') : Rt w' b A n c B m d r := Rw.on h hb
/-- A call has answered a rational; and one with a code. -/
def GotRt (w : World) (r : Rat) (e : Ending) (w' : World) : Prop := ∃ b A n c B m d, e = .returned (.agg #[.bool b, .slice A n c, .slice B m d]) ∧ Rt w' b A n c B m d r ∧ Below w.heap.size w w'
def GotRp (w : World) (r : Rat) (k : Int) (e : Ending) (w' : World) : Prop := ∃ b A n c B m d, e = .returned (.tuple #[.agg #[.bool b, .slice A n c, .slice B m d], .int .i64 k]) ∧ Rt w' b A n c B m d r ∧ Below w.heap.size w w'

/-- A struct of three cells in memory. -/
def BoxR (W : World) (g : Nat) (b : Bool) (A : Option Addr) (n k : Nat) (B : Option Addr) (m d : Nat) : Prop := W.cell? ⟨g, 0, none⟩ = some (.bool b) ∧ W.cell? ⟨g, 1, none⟩ = some (.slice A n k) ∧ W.cell? ⟨g, 2, none⟩ = some (.slice B m d)
/-- What is written into it. -/
@[reducible] def putR (W : World) (g : Nat) (u v x : Value) : World := ((W.setCell ⟨g, 0, none⟩ u).setCell ⟨g, 1, none⟩ v).setCell ⟨g, 2, none⟩ x
theorem addr_ne {g i j : Nat} (h : i ≠ j) : (⟨g, i, none⟩ : Addr) ≠ ⟨g, j, none⟩ := fun e => by injection e with _ e2; omega
theorem addr_ne' {g g' i j : Nat} (h : g ≠ g') : (⟨g, i, none⟩ : Addr) ≠ ⟨g', j, none⟩ := fun e => by injection e with e1; omega
theorem cell_putR {w : World} {s b o : Nat} {u v x : Value} (h : b ≠ s) : (putR w s u v x).cell? ⟨b, o, none⟩ = w.cell? ⟨b, o, none⟩ := by
  unfold putR
  rw [World.cell?_setCell_other (h := addr_ne' (Ne.symm h)), World.cell?_setCell_other (h := addr_ne' (Ne.symm h)), World.cell?_setCell_other (h := addr_ne' (Ne.symm h))]
section
variable {W : World} {g g' : Nat} {b b0 : Bool} {A A0 B B0 : Option Addr} {n k m d n0 k0 m0 d0 : Nat}
theorem BoxR.new (W : World) (b : Bool) (A : Option Addr) (n k : Nat) (B : Option Addr) (m d : Nat) (T : TypeId) : BoxR (W.alloc (.cells #[.bool b, .slice A n k, .slice B m d] T)) W.heap.size b A n k B m d := ⟨by simp [go_sem], by simp [go_sem], by simp [go_sem]⟩
theorem BoxR.alloc (h : BoxR W g b A n k B m d) (o : Obj) : BoxR (W.alloc o) g b A n k B m d := ⟨keep_alloc h.1, keep_alloc h.2.1, keep_alloc h.2.2⟩
theorem BoxR.otherZ {u v : Value} (h : BoxR W g b A n k B m d) (hne : g ≠ g') : BoxR ((W.setCell ⟨g', 0, none⟩ u).setCell ⟨g', 1, none⟩ v) g b A n k B m d := ⟨(cell_store hne).trans h.1, (cell_store hne).trans h.2.1, (cell_store hne).trans h.2.2⟩
theorem BoxR.other {u v x : Value} (h : BoxR W g b A n k B m d) (hne : g ≠ g') : BoxR (putR W g' u v x) g b A n k B m d := ⟨(cell_putR hne).trans h.1, (cell_putR hne).trans h.2.1, (cell_putR hne).trans h.2.2⟩
theorem Box.otherR {u v x : Value} (h : Box W g b A n k) (hne : g ≠ g') : Box (putR W g' u v x) g b A n k := ⟨(cell_putR hne).trans h.1, (cell_putR hne).trans h.2⟩
theorem BoxR.put (h : BoxR W g b0 A0 n0 k0 B0 m0 d0) (b : Bool) (A : Option Addr) (n k : Nat) (B : Option Addr) (m d : Nat) : BoxR (putR W g (.bool b) (.slice A n k) (.slice B m d)) g b A n k B m d := by
  have e1 : (W.setCell ⟨g, 0, none⟩ (.bool b)).cell? ⟨g, 1, none⟩ = some (.slice A0 n0 k0) := (World.cell?_setCell_other W _ _ _ (addr_ne (by omega))).trans h.2.1
  have e2 : ((W.setCell ⟨g, 0, none⟩ (.bool b)).setCell ⟨g, 1, none⟩ (.slice A n k)).cell? ⟨g, 2, none⟩ = some (.slice B0 m0 d0) := (World.cell?_setCell_other _ _ _ _ (addr_ne (by omega))).trans ((World.cell?_setCell_other W _ _ _ (addr_ne (by omega))).trans h.2.2)
  unfold putR
  refine ⟨?_, ?_, ?_⟩
  · rw [World.cell?_setCell_other (h := addr_ne (by omega)), World.cell?_setCell_other (h := addr_ne (by omega))]
    exact World.cell?_setCell_same _ _ _ h.1
  · rw [World.cell?_setCell_other (h := addr_ne (by omega))]
    exact World.cell?_setCell_same _ _ _ e1
  · exact World.cell?_setCell_same _ _ _ e2
theorem Num.putR {A : Option Addr} {n c x : Nat} (h : Num W A n c x) (hb : BoxR W g b0 A0 n0 k0 B0 m0 d0) (u v y : Value) : Num (putR W g u v y) A n c x := by
  have e1 : (W.setCell ⟨g, 0, none⟩ u).cell? ⟨g, 1, none⟩ = some (.slice A0 n0 k0) := (World.cell?_setCell_other W _ _ _ (addr_ne (by omega))).trans hb.2.1
  have e2 : ((W.setCell ⟨g, 0, none⟩ u).setCell ⟨g, 1, none⟩ v).cell? ⟨g, 2, none⟩ = some (.slice B0 m0 d0) := (World.cell?_setCell_other _ _ _ _ (addr_ne (by omega))).trans ((World.cell?_setCell_other W _ _ _ (addr_ne (by omega))).trans hb.2.2)
  exact ((h.set_other hb.1 (fun _ _ e => by cases e)).set_other e1 (fun _ _ e => by cases e)).set_other e2 (fun _ _ e => by cases e)
theorem Zn.putR {z : Int} {c : Nat} (h : Zn W b A n c z) (hb : BoxR W g b0 A0 n0 k0 B0 m0 d0) (u v y : Value) : Zn (putR W g u v y) b A n c z := ⟨h.1.putR hb u v y, h.2⟩
theorem Rw.putR {p : Int} {q : Nat} (h : Rw W b A n k B m d p q) (hb : BoxR W g b0 A0 n0 k0 B0 m0 d0) (u v y : Value) : Rw (putR W g u v y) b A n k B m d p q := ⟨h.1.putR hb u v y, h.2.putR hb u v y⟩
theorem Rt.putR {r : Rat} (h : Rt W b A n k B m d r) (hb : BoxR W g b0 A0 n0 k0 B0 m0 d0) (u v y : Value) : Rt (putR W g u v y) b A n k B m d r := Rw.putR h hb u v y
theorem Rt.alloc {r : Rat} (h : Rt W b A n k B m d r) (o : Obj) : Rt (W.alloc o) b A n k B m d r := h.on (below_one _ _)
theorem below_putR {C g : Nat} {V W : World} (h : Below C V W) (hg : C ≤ g) (u v y : Value) : Below C V (putR W g u v y) := ((h.setCell (p := ⟨g, 0, none⟩) hg u).setCell (p := ⟨g, 1, none⟩) hg v).setCell (p := ⟨g, 2, none⟩) hg y
end

/-- Behind 'x, e := f(..)': a box, and what it holds. -/
def Lone (V U : World) (g : Nat) (b : Bool) (A : Option Addr) (n k : Nat) (B : Option Addr) (m d : Nat) (r : Rat) : Prop := BoxR U g b A n k B m d ∧ Rt U b A n k B m d r ∧ Below V.heap.size V U
section
variable {V wz : World} {g : Nat} {b : Bool} {A B : Option Addr} {n k m d : Nat} {r : Rat}
theorem loneA (h : Rt wz b A n k B m d r) (qq : Below V.heap.size V wz) (T : TypeId) : Lone V (wz.alloc (.cells #[.bool b, .slice A n k, .slice B m d] T)) wz.heap.size b A n k B m d r := ⟨BoxR.new wz b A n k B m d T, h.alloc _, qq.alloc qq.size _⟩
theorem loneB (o0 : wz.cell? ⟨g, 0, none⟩ = some (.bool false)) (o1 : wz.cell? ⟨g, 1, none⟩ = some (.slice none 0 0)) (o2 : wz.cell? ⟨g, 2, none⟩ = some (.slice none 0 0)) (h : Rt wz b A n k B m d r) (qq : Below V.heap.size V wz) (l : V.heap.size ≤ g) : Lone V (putR wz g (.bool b) (.slice A n k) (.slice B m d)) g b A n k B m d r := have o : BoxR wz g false none 0 0 none 0 0 := ⟨o0, o1, o2⟩; ⟨o.put b A n k B m d, h.putR o _ _ _, below_putR qq l _ _ _⟩
end

theorem gcd_len {p q k : Nat} (hq : q ≠ 0) (h : (limbs q).length ≤ k) : (limbs (Nat.gcd p q)).length ≤ k := Nat.le_trans (limbs_length_mono (Nat.le_of_dvd (by omega) (Nat.gcd_dvd_right p q))) h

end Go.Proofs.Ytpidpebgeblenaa

/-
  The contracts of the fifth reference: over, Cmp.
-/
namespace Go.Proofs.Ytpidpebgeblenaa
open Go.RowKit
set_option linter.unusedVariables false

theorem zn_nat {w : World} {B : Option Addr} {m d q : Nat} (h : Num w B m d q) : Zn w false B m d (q : Int) := ⟨by rw [Int.natAbs_natCast]; exact h, by simp⟩





end Go.Proofs.Ytpidpebgeblenaa

/-
  The contracts of the fifth reference: Neg, Sub, Div and the rest.
-/
namespace Go.Proofs.Ytpidpebgeblenaa
open Go.RowKit
set_option linter.unusedVariables false



theorem zn_side {w : World} {b : Bool} {A B : Option Addr} {n c m d q : Nat} {p : Int} (h : Zn w b A n c p) (hB : Num w B m d q) (hq : q ≠ 0) : Zn w b B m d (sgn (decide (p < 0)) q) := by
  refine ⟨by rw [sgn_abs]; exact hB, ?_⟩
  rw [h.2]; unfold sgn
  by_cases h1 : p < 0
  · simp [h1]; omega
  · simp [h1]




end Go.Proofs.Ytpidpebgeblenaa

/-
  The contracts of the fifth reference: Of, Same, Right, Few.
-/
namespace Go.Proofs.Ytpidpebgeblenaa
open Go.RowKit
set_option linter.unusedVariables false







/-- A rational's form is right. -/
def okR (b : Bool) (n : Nat) (l : List Nat) (m : Nat) (l2 : List Nat) : Bool := okZ b n l && (canon l2 && (decide (0 < m) && decide (Nat.gcd (val l) (val l2) = 1)))


theorem okZ_canon {b : Bool} {n : Nat} {l : List Nat} (h : okZ b n l = true) : canon l = true := by
  unfold okZ at h
  rw [Bool.and_eq_true] at h
  exact h.1
theorem num_ne {w : World} {A : Option Addr} {n c x : Nat} (h : Num w A n c x) (h0 : 0 < n) : x ≠ 0 := by
  intro e
  have hl := h.len
  rw [e, limbs_zero] at hl
  simp at hl
  omega









end Go.Proofs.Ytpidpebgeblenaa

/-
  The contracts of the fifth reference: Frac.
-/
namespace Go.Proofs.Ytpidpebgeblenaa
set_option maxRecDepth 100000
open Go.RowKit
set_option linter.unusedVariables false

/-- The parts of a struct that is no variable. -/
theorem field_N (b : Bool) (A : Option Addr) (n c : Nat) (w : World) : Sem.run Try.prog (Instr.field 119 (.agg #[.bool b, .slice A n c]) 1) w = .ok (.slice A n c) w := by rfl
attribute [local go_sem] field_N


end Go.Proofs.Ytpidpebgeblenaa
