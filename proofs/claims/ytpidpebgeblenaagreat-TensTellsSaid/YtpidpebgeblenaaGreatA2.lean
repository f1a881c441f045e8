/-
  Several texts in one: RB, FrB, B2, B3, B4, B5, M10, MathH, MathD, MathQ, Bare, Halves.
-/
import Derived.Test.YtpidpebgeblenaaGreatA1
import Derived.WalkKit
import Derived.ProofKit
import Derived.OpenShut
import Derived.ShutString
import Derived.ChangeOld
import Derived.Below
import Derived.Lib.SmallJoins
import Derived.SizedLaws
import Derived.Deep.RegionLaw
import Derived.Deep.AppendLies
import Derived.WalkSmall

/-
  Rows of bytes: what a slice value reads as, what keeps it; a row of the call's own.
-/
namespace Go.Proofs.YtpidpebgeblenaaGreat
set_option maxRecDepth 100000
open Go.RowKit
set_option linter.unusedVariables false

theorem mem_at {α : Type} {L : List α} {d : α} {j : Nat} (h : j < L.length) : L[j]?.getD d ∈ L := by rw [List.getElem?_eq_getElem h]; exact List.getElem_mem h
theorem at_mem {α : Type} {L : List α} (d : α) {x : α} (h : x ∈ L) : ∃ j, j < L.length ∧ L[j]?.getD d = x := by
  obtain ⟨j, hj, e⟩ := List.mem_iff_getElem.1 h
  exact ⟨j, hj, by rw [List.getElem?_eq_getElem hj]; exact e⟩
/-- A byte as a value. -/
def encB (x : Nat) : Value := .int .u8 (x : Int)
/-- The slice value '.slice A n c' holds the bytes l. -/
def BR (w : World) (A : Option Addr) (n c : Nat) (l : List Nat) : Prop :=
  n = l.length ∧ n ≤ c ∧ (∀ x ∈ l, x < 256) ∧ (0 < n → ∃ b off, A = some ⟨b, off, none⟩ ∧ b < w.heap.size ∧ ∀ j, j < n → w.cell? ⟨b, off + j, none⟩ = some (.int .u8 ((l[j]?.getD 0 : Nat) : Int)))
theorem BR.on {w w' : World} {A : Option Addr} {n c : Nat} {l : List Nat} (h : BR w A n c l) (hb : Below w.heap.size w w') : BR w' A n c l :=
  ⟨h.1, h.2.1, h.2.2.1, fun hn => by
    obtain ⟨b, off, e, hlt, hc⟩ := h.2.2.2 hn
    exact ⟨b, off, e, Nat.lt_of_lt_of_le hlt hb.size, fun j hj => (hb.cell (p := ⟨b, off + j, none⟩) hlt).trans (hc j hj)⟩⟩
theorem BR.nil (w : World) (A : Option Addr) (c : Nat) : BR w A 0 c [] := ⟨rfl, Nat.zero_le _, fun _ h => by simp at h, fun h => absurd h (by omega)⟩
theorem BR.cell {w : World} {b off n c j : Nat} {l : List Nat} (h : BR w (some ⟨b, off, none⟩) n c l) (hj : j < n) : w.cell? ⟨b, off + j, none⟩ = some (.int .u8 ((l[j]?.getD 0 : Nat) : Int)) := by
  obtain ⟨b', off', e, hlt, hc⟩ := h.2.2.2 (by omega)
  injection e with e
  injection e with e1 e2
  subst e1
  subst e2
  exact hc j hj
theorem BR.some {w : World} {A : Option Addr} {n c : Nat} {l : List Nat} (h : BR w A n c l) (hn : 0 < n) : ∃ b off, A = some ⟨b, off, none⟩ ∧ b < w.heap.size := by
  obtain ⟨b, off, e, hlt, hc⟩ := h.2.2.2 hn
  exact ⟨b, off, e, hlt⟩
theorem BR.at {w : World} {A : Option Addr} {n c : Nat} {l : List Nat} (h : BR w A n c l) {j : Nat} (hj : j < n) : l[j]?.getD 0 < 256 := h.2.2.1 _ (mem_at (by rw [← h.1]; exact hj))
theorem infoB : (Tryz.prog.info? 5).map (fun i => (i.zero, i.size, i.bytes)) = some (some (.int .u8 0), 1, 1) := by kernel_rfl
theorem BR.of_own {w : World} {base : Nat} {e : TypeId} {A : Option Addr} {n c : Nat} {l : List Nat} (h : w.ownsRow base e 1 (.slice A n c) n (l.map encB)) (hl8 : ∀ x ∈ l, x < 256) : BR w A n c l := by
  have hl : n = l.length := by have := h.1; simp at this; omega
  refine ⟨hl, ?_, hl8, fun hn => ?_⟩
  · rcases h.2 with ⟨e1, h0⟩ | ⟨g, cap, cur, e1, _, _, hnc, _⟩
    · omega
    · injection e1 with _ _ e2; omega
  · have hlt := h.lt
    rcases h.2 with ⟨e1, h0⟩ | ⟨g, cap, cur, e1, _, _, hnc, _⟩
    · omega
    · injection e1 with e2 _ e3
      subst e2; subst e3
      refine ⟨g, 0, rfl, (hlt g rfl).2, fun j hj => ?_⟩
      have := h.cellAt j (by omega)
      rw [Nat.zero_add, this, List.getElem?_map, List.getElem?_eq_getElem (by omega)]
      simp [encB]
/-- A row of bytes is answered; with a code. -/
def GotB (w : World) (l : List Nat) (e : Ending) (w' : World) : Prop := ∃ A n c, e = .returned (.slice A n c) ∧ BR w' A n c l ∧ Below w.heap.size w w'
def GotBr (w : World) (l : List Nat) (r : Int) (e : Ending) (w' : World) : Prop := ∃ A n c, e = .returned (.tuple #[.slice A n c, .int .i64 r]) ∧ BR w' A n c l ∧ Below w.heap.size w w'
theorem addr_add (b o j : Nat) : (⟨b, o, none⟩ : Addr).add j = ⟨b, o + j, none⟩ := by unfold Addr.add; split; (rename_i h0; subst h0; rfl); rfl
/-- Nothing is appended. -/
theorem run_append_zero {P : Program} (w : World) (t ty e : TypeId) (i : TypeInfo) (ht : P.underlying t = some (.slice e)) (hi : P.info? e = some i) (A B : Option Addr) (n c d : Nat) (hn : n ≤ c) :
    (Builtin.append_ #[t, t] ty #[.slice A n c, .slice B 0 d]).run P w = .ok (.slice A n c) w := by
  simp only [Builtin.append_]
  rcases A with _ | a <;> rcases B with _ | b <;> simp [run_underlying ht, sizeOf, typeInfo, hi, Builtin.firstCells, Builtin.lenOf, hn, storeCells, Result.andThen, go_sem]
theorem wpList_append_zero {P : Program} (w : World) {ops : Array Oper} {rest : List Oper} {o : Oper} {a : Act} {Q : Exit → Act → World → Prop} (hgd : o.guard = none) (s x : Operand) (t : TypeId)
    (ho : o.op = .call { callee := .builtin .append, args := #[s, x], argTypes := #[t, t] }) (e : TypeId) (i : TypeInfo) (ht : P.underlying t = some (.slice e)) (hi : P.info? e = some i)
    (A B : Option Addr) (n c d : Nat) (hs : a.eval s = .slice A n c) (hx : a.eval x = .slice B 0 d) (hn : n ≤ c)
    (h : wpList P ops Q rest (a.put o.dst (.slice A n c)) w) : wpList P ops Q (o :: rest) a w :=
  wpList_plain hgd fun K hK => by
    have hr := run_append_zero (P := P) w t o.type e i ht hi A B n c d hn
    unfold Oper.wp execOp
    simp only [ho, resolve, invoke, builtin, Sem.run_bind, Sem.run_pure, Result.andThen_ok, List.map_toArray, List.map_cons, List.map_nil, hs, hx, hr]
    exact hK _ _ h
end Go.Proofs.YtpidpebgeblenaaGreat

/-
  Rows of bytes that came in; small arrays of integers.
-/
namespace Go.Proofs.YtpidpebgeblenaaGreat
set_option maxRecDepth 100000
open Go.ChangeShapes Go.WideShapes Go.ChangeAt Go.RowKit Go.Joins

theorem cell_blockB {w : World} {b o : Nat} {v : Value} (h : w.cell? ⟨b, o, none⟩ = some v) : b < w.heap.size := by
  rcases Nat.lt_or_ge b w.heap.size with h1 | h1
  · exact h1
  · simp [World.cell?, Array.getElem?_eq_none h1] at h
theorem br_row {w : World} {a : Option Addr} {len cap : Nat} {zs : List Int}
    (h : (a = none ∧ len = 0 ∧ cap = 0 ∧ zs = []) ∨ ∃ x, a = some x ∧ len ≤ cap ∧ cap ≤ maxLen ∧ zs.length = cap ∧ (∀ i, i < zs.length → w.cell? (x.add i) = some (.int .u8 (zs.getD i 0))) ∧ ∀ n ∈ zs, (Lit.int .u8 n).wf = true) :
    ∃ l, BR w a len cap l ∧ len ≤ 9223372036854775807 := by
  rcases h with ⟨rfl, rfl, rfl, rfl⟩ | ⟨x, rfl, hl, hm, hz, hc, hw⟩
  · exact ⟨[], BR.nil _ _ _, by omega⟩
  · refine ⟨(zs.take len).map Int.toNat, ⟨by simp; omega, hl, ?_, fun h0 => ?_⟩, by unfold maxLen at hm; omega⟩
    · intro y hy
      obtain ⟨z, hz1, rfl⟩ := List.mem_map.1 hy
      have := bounds_u8 (hw z (List.mem_of_mem_take hz1))
      omega
    · obtain ⟨b, off, rfl, hcell⟩ := ints_at hc (by omega)
      refine ⟨b, off, rfl, cell_blockB (hcell 0 (by omega)), fun j hj => ?_⟩
      rw [hcell j (by omega)]
      have hb := bounds_u8 (hw (zs[j]'(by omega)) (List.getElem_mem _))
      have hj2 : j < zs.length := by omega
      rw [List.getElem?_map, List.getElem?_take_of_lt hj, List.getElem?_eq_getElem hj2]
      simp only [List.getD_eq_getElem?_getD, List.getElem?_eq_getElem hj2, Option.getD_some, Option.map_some]
      rw [Int.toNat_of_nonneg hb.1]
/-- How a row of that capacity is read. -/
def Read {H : Type} (cap : Nat) (d : DataW H) : Prop := cap = 0 ∨ ∃ es ss, d = .slice es ss ∧ es.length + ss.length = cap
section
variable {H : Type} {enc : TypeId × Value → H} {W : World} {base : Nat} {held : Bool} {v : Value} {y : DataW H × List MemPlace} {n : Nat}
theorem trod_u8s (h : DataW.trod enc Tryz.prog W base (fun _ => true) held n 41 [v] = some y) :
    ∃ (a : Option Addr) (len cap : Nat) (l : List Nat), v = .slice a len cap ∧ BR W a len cap l ∧ len ≤ 9223372036854775807 ∧ Read cap y.1 := by
  rcases open_ints Tryz.underlying41 Tryz.underlying5 (by kernel_rfl) h with ⟨hcs, _⟩ | ⟨x, l, c, zs, hcs, _, hl, hm, hz, hy, hcell, hwz⟩
  · injection hcs with hcs _
    subst hcs
    obtain ⟨l, hl, hn⟩ := br_row (w := W) (a := none) (len := 0) (cap := 0) (zs := []) (.inl ⟨rfl, rfl, rfl, rfl⟩)
    exact ⟨none, 0, 0, l, rfl, hl, hn, .inl rfl⟩
  · injection hcs with hcs _
    subst hcs
    have hz2 : zs.length = c := by simpa using hz
    obtain ⟨l', hl', hn'⟩ := br_row (w := W) (a := some x) (len := l) (cap := c) (zs := zs) (.inr ⟨x, rfl, hl, hm, hz2, hcell, hwz⟩)
    exact ⟨some x, l, c, l', rfl, hl', hn', .inr ⟨_, _, by rw [hy], by simp only [lits, List.length_map, List.length_take, List.length_drop]; omega⟩⟩
end
end Go.Proofs.YtpidpebgeblenaaGreat

/-
  The contracts of the ninth reference: Signed, Den, power, part, many.
-/
namespace Go.Proofs.YtpidpebgeblenaaGreat
set_option maxRecDepth 100000
set_option maxHeartbeats 1000000
open Go.RowKit
set_option linter.unusedVariables false
set_option linter.unusedSimpArgs false

theorem rpow9 (n k : Nat) (w : World) (h1 : 1 ≤ n) (hn : n ≤ 1000) (hk : k ≤ 20) (hp : n ^ k ≤ 4611686018427387904) :
    Calls Tryz.prog 72 #[.int .i64 (n : Int), .int .i64 (k : Int)] w fun e w' => e = .returned (.int .i64 ((n ^ k : Nat) : Int)) ∧ w = w' := by
  have key : ∀ j, j < k → n ^ j * n ≤ 4611686018427387904 := fun j hj => by rw [← Nat.pow_succ]; exact Nat.le_trans (Nat.pow_le_pow_right h1 hj) hp
  go_enter Tryz.func72, Tryz.ntmps72
  go_wp2_with fail
  go_loop [5, 6] (fun ov iv => ∃ (j : Nat), j ≤ k ∧ iv = .int .i64 (j : Int) ∧ ov = .int .i64 ((n ^ j : Nat) : Int)) (fun _ iv => k - (intOf iv).toNat)
  case atStart => exact ⟨0, Nat.zero_le _, rfl, rfl⟩
  case round =>
    obtain ⟨j, hj, rfl, rfl⟩ := hrel
    by_cases hlt : j < k
    · obtain ⟨m, hm⟩ : ∃ m, n ^ j = m := ⟨_, rfl⟩
      have k1 := key j hlt
      obtain ⟨q, hq⟩ : ∃ q, m * n = q := ⟨_, rfl⟩
      have hnext : n ^ (j + 1) = q := by rw [Nat.pow_succ, hm, hq]
      rw [hm] at k1 ⊢
      rw [hq] at k1
      have k2 : IntKind.i64.wrap ((m : Int) * (n : Int)) = (q : Int) := by rw [← Int.natCast_mul, hq]; exact IntWalk.i64_in _ (by omega)
      have HN := Lib.hid hnext
      clear key hp hm hq hnext
      go_wp2_with fail
      go_round
      case rel => exact ⟨j + 1, by omega, by go_num, by rw [HN.out]⟩
      case measure => simp [intOf]; omega
    · obtain rfl : j = k := by omega
      go_wp2_with fail
      go_ret
      exact ⟨rfl, rfl⟩

/-- A tree's number of a decade. -/
def p9 (n i j : Nat) : Nat := (2 * n + 9 * (2 * j + 1)) * (128 / n) * 10 ^ i
theorem p9_le {n i j : Nat} (h1 : 1 ≤ n) (hn : n ≤ 128) (hi : i ≤ 6) (hj : j < n) : (2 * n + 9 * (2 * j + 1)) * (128 / n) ≤ 400000 ∧ 10 ^ i ≤ 1000000 ∧ p9 n i j ≤ 400000000000 := by
  have a1 : 128 / n ≤ 128 := Nat.div_le_self _ _
  have a2 : (2 * n + 9 * (2 * j + 1)) * (128 / n) ≤ 2570 * 128 := Nat.mul_le_mul (by omega) a1
  have a3 : 10 ^ i ≤ 10 ^ 6 := Nat.pow_le_pow_right (by omega) hi
  have a4 : p9 n i j ≤ 2570 * 128 * 10 ^ 6 := Nat.mul_le_mul a2 a3
  refine ⟨Nat.le_trans a2 (by decide), Nat.le_trans a3 (by decide), Nat.le_trans a4 (by decide)⟩
theorem rpart9 (n i j : Nat) (w : World) (h1 : 1 ≤ n) (hn : n ≤ 128) (hi : i ≤ 6) (hj : j < n) :
    Calls Tryz.prog 61 #[.int .i64 (n : Int), .int .i64 (i : Int), .int .i64 (j : Int)] w fun e w' => e = .returned (.int .i64 ((p9 n i j : Nat) : Int)) ∧ Below w.heap.size w w' := by
  obtain ⟨b1, b2, b3⟩ := p9_le h1 hn hi hj
  have CP : ∀ W : World, Calls Tryz.prog 72 #[.int .i64 10, .int .i64 (i : Int)] W fun e w' => e = .returned (.int .i64 ((10 ^ i : Nat) : Int)) ∧ W = w' := fun W => rpow9 10 i W (by omega) (by omega) (by omega) (by omega)
  have hq : ((128 : Int)).tdiv (n : Int) = ((128 / n : Nat) : Int) := by rw [Int.tdiv_eq_ediv_of_nonneg (by omega)]; simp
  have hq' : ((128 : Int)) / (n : Int) = ((128 / n : Nat) : Int) := by simp
  have q1 : 128 / n ≤ 128 := Nat.div_le_self _ _
  unfold p9 at b3 ⊢
  obtain ⟨q, eq⟩ : ∃ q, 128 / n = q := ⟨_, rfl⟩
  obtain ⟨t, et⟩ : ∃ t, 10 ^ i = t := ⟨_, rfl⟩
  rw [eq] at b1 b3 hq hq' q1 ⊢
  rw [et] at b2 b3 CP ⊢
  obtain ⟨u, eu⟩ : ∃ u, 2 * n + 9 * (2 * j + 1) = u := ⟨_, rfl⟩
  have ul : u ≤ 2570 := by omega
  rw [eu] at b1 b3 ⊢
  obtain ⟨v, ev⟩ : ∃ v, u * q = v := ⟨_, rfl⟩
  rw [ev] at b1 b3 ⊢
  obtain ⟨x, ex⟩ : ∃ x, v * t = x := ⟨_, rfl⟩
  rw [ex] at b3 ⊢
  have n1 : ¬ n = 0 := by omega
  have n0 : ((n : Int) == 0) = false := by simp; omega
  obtain ⟨a, ea⟩ : ∃ a, 2 * n = a := ⟨_, rfl⟩
  obtain ⟨c, ec⟩ : ∃ c, 2 * j = c := ⟨_, rfl⟩
  obtain ⟨d, ed⟩ : ∃ d, c + 1 = d := ⟨_, rfl⟩
  obtain ⟨o, eo⟩ : ∃ o, 9 * d = o := ⟨_, rfl⟩
  have k1 : IntKind.i64.wrap ((2 : Int) * (n : Int)) = (a : Int) := by rw [IntWalk.i64_in _ (by omega)]; omega
  have k2 : IntKind.i64.wrap ((2 : Int) * (j : Int)) = (c : Int) := by rw [IntWalk.i64_in _ (by omega)]; omega
  have k3 : IntKind.i64.wrap ((c : Int) + 1) = (d : Int) := by rw [IntWalk.i64_in _ (by omega)]; omega
  have k4 : IntKind.i64.wrap ((9 : Int) * (d : Int)) = (o : Int) := by rw [IntWalk.i64_in _ (by omega)]; omega
  have k5 : IntKind.i64.wrap ((a : Int) + (o : Int)) = (u : Int) := by rw [IntWalk.i64_in _ (by omega)]; omega
  have kq : IntKind.i64.wrap (q : Int) = (q : Int) := IntWalk.i64_in _ (by omega)
  have KV : IntKind.i64.wrap ((u : Int) * (q : Int)) = (v : Int) := by rw [← Int.natCast_mul, ev]; exact IntWalk.i64_in _ (by omega)
  have KX : IntKind.i64.wrap ((v : Int) * (t : Int)) = (x : Int) := by rw [← Int.natCast_mul, ex]; exact IntWalk.i64_in _ (by omega)
  have cc := Below.refl w.heap.size w
  clear et ev ex ea ec ed eo eu eq
  go_enter Tryz.func61, Tryz.ntmps61
  go_wp2_with fail
  go_region_held3 (fun w' => True) (trivial) (first | (go_at_call 72; refine (CP _).mono ?_; rintro e w' ⟨rfl, rfl⟩))
  go_wp2_with fail
  go_ret
  exact ⟨rfl, below_drewN cc 1⟩

/-- How many numbers a decade has, on a side. -/
def many9 (s : Bool) (i : Nat) : Nat := if s then 2 ^ i else 2 ^ (i + 1)
theorem many9_le (s : Bool) {i : Nat} (hi : i ≤ 6) : 1 ≤ many9 s i ∧ many9 s i ≤ 128 := by
  have a : 1 ≤ 2 ^ i := Nat.pow_pos (by omega)
  have b : 2 ^ i ≤ 2 ^ 6 := Nat.pow_le_pow_right (by omega) hi
  unfold many9
  cases s
  · rw [if_neg (by decide), Nat.pow_succ]; omega
  · rw [if_pos rfl]; omega
theorem rmany9 (s : Bool) (i : Nat) (w : World) (hi : i ≤ 6) :
    Calls Tryz.prog 60 #[.bool s, .int .i64 (i : Int)] w fun e w' => e = .returned (.int .i64 ((many9 s i : Nat) : Int)) ∧ w = w' := by
  have b1 : 2 ^ i ≤ 2 ^ 6 := Nat.pow_le_pow_right (by omega) hi
  have b2 : 2 ^ (i + 1) ≤ 2 ^ 7 := Nat.pow_le_pow_right (by omega) (by omega)
  have C1 : ∀ W : World, Calls Tryz.prog 72 #[.int .i64 2, .int .i64 (i : Int)] W fun e w' => e = .returned (.int .i64 ((2 ^ i : Nat) : Int)) ∧ W = w' := fun W => rpow9 2 i W (by omega) (by omega) (by omega) (by omega)
  have C2 : ∀ W : World, Calls Tryz.prog 72 #[.int .i64 2, .int .i64 ((i : Int) + 1)] W fun e w' => e = .returned (.int .i64 ((2 ^ (i + 1) : Nat) : Int)) ∧ W = w' := fun W => rpow9 2 (i + 1) W (by omega) (by omega) (by omega) (by omega)
  obtain ⟨x, ex⟩ : ∃ x, 2 ^ i = x := ⟨_, rfl⟩
  obtain ⟨y, ey⟩ : ∃ y, 2 ^ (i + 1) = y := ⟨_, rfl⟩
  unfold many9
  rw [ex] at C1 ⊢
  rw [ey] at C2 ⊢
  clear ex ey b1 b2
  cases s
  · go_enter Tryz.func60, Tryz.ntmps60
    go_wp2_with fail
    refine (C2 _).mono ?_
    rintro e w' ⟨rfl, rfl⟩
    go_wp2_with fail
    go_ret
    exact ⟨rfl, rfl⟩
  · go_enter Tryz.func60, Tryz.ntmps60
    go_wp2_with fail
    refine (C1 _).mono ?_
    rintro e w' ⟨rfl, rfl⟩
    go_wp2_with fail
    go_ret
    exact ⟨rfl, rfl⟩

/-- The denominator of a kind; of none 0. -/
def den9 (k : Int) : Int := if k = 0 ∨ k = 1 then 2560000000 else if k = 2 ∨ k = 3 then 255 else 0
end Go.Proofs.YtpidpebgeblenaaGreat

/-
  The contract of the ninth reference: tree.
-/
namespace Go.Proofs.YtpidpebgeblenaaGreat
set_option maxRecDepth 100000
set_option maxHeartbeats 8000000
open Go.RowKit
set_option linter.unusedVariables false
set_option linter.unusedSimpArgs false

/-- The first m of a decade's numbers below nought, and above it. -/
def dnk (n i m : Nat) : List Int := (List.range m).map fun r => -(p9 n i (n - 1 - r) : Int)
def upk (n i m : Nat) : List Int := (List.range m).map fun r => (p9 n i r : Int)
/-- The first k decades, from above; from below. -/
def downs (s : Bool) (k : Nat) : List Int := (List.range k).flatMap fun r => dnk (many9 s (6 - r)) (6 - r) (many9 s (6 - r))
def ups (s : Bool) (k : Nat) : List Int := (List.range k).flatMap fun r => upk (many9 s r) r (many9 s r)
def low9 (s : Bool) : List Int := if s then downs s 7 else []
def tree9 (s : Bool) : List Int := low9 s ++ [0] ++ ups s 7 ++ [2560000000]
theorem dnk_succ (n i m : Nat) : dnk n i (m + 1) = dnk n i m ++ [-(p9 n i (n - 1 - m) : Int)] := by unfold dnk; rw [List.range_succ, List.map_append]; rfl
theorem upk_succ (n i m : Nat) : upk n i (m + 1) = upk n i m ++ [(p9 n i m : Int)] := by unfold upk; rw [List.range_succ, List.map_append]; rfl
theorem dnk_len (n i m : Nat) : (dnk n i m).length = m := by unfold dnk; simp
theorem upk_len (n i m : Nat) : (upk n i m).length = m := by unfold upk; simp
theorem downs_succ (s : Bool) (k : Nat) : downs s (k + 1) = downs s k ++ dnk (many9 s (6 - k)) (6 - k) (many9 s (6 - k)) := by unfold downs; rw [List.range_succ, List.flatMap_append]; simp
theorem ups_succ (s : Bool) (k : Nat) : ups s (k + 1) = ups s k ++ upk (many9 s k) k (many9 s k) := by unfold ups; rw [List.range_succ, List.flatMap_append]; simp
theorem downs_len (s : Bool) : ∀ k, k ≤ 7 → (downs s k).length ≤ 128 * k
  | 0, _ => by simp [downs]
  | k + 1, h => by
    rw [downs_succ, List.length_append, dnk_len]
    have := downs_len s k (by omega)
    have := (many9_le s (i := 6 - k) (by omega)).2
    omega
theorem ups_len (s : Bool) : ∀ k, k ≤ 7 → (ups s k).length ≤ 128 * k
  | 0, _ => by simp [ups]
  | k + 1, h => by
    rw [ups_succ, List.length_append, upk_len]
    have := ups_len s k (by omega)
    have := (many9_le s (i := k) (by omega)).2
    omega

/-- A value that is a row of the call's own (its blocks from t on), which holds l; below t all is as it was. -/
def Grown (t : Nat) (w W : World) (v : Value) (l : List Int) : Prop :=
  ∃ g cap N, v = .slice (some ⟨g, 0, none⟩) N cap ∧ W.ownsRow t 2 1 (.slice (some ⟨g, 0, none⟩) N cap) N (l.map encI) ∧ Below t w W ∧ t ≤ W.heap.size
theorem own_len {t : Nat} {W : World} {v : Value} {N : Nat} {l : List Int} (h : W.ownsRow t 2 1 v N (l.map encI)) : N = l.length := by have := h.1; simp at this; omega
theorem Grown.push {t : Nat} {w W w1 : World} {g N g1 cap1 : Nat} {l : List Int} {z : Int} {o : Obj} (hbl : Below t w W) (hts : t ≤ W.heap.size) (hwt : w.heap.size = t) (hg : t ≤ g)
    (hown1 : w1.ownsRow t 2 1 (.slice (some ⟨g1, 0, none⟩) (N + 1) cap1) (N + 1) (l.map encI ++ [.int .i64 z])) (hgrow1 : (W.alloc o).grownBy w1 (some g)) :
    Grown t w w1 (.slice (some ⟨g1, 0, none⟩) (N + 1) cap1) (l ++ [z]) := by
  have h1 : Below t w w1 := (hbl.alloc (by omega) _).grown hgrow1 (by simp; omega) (fun q e => by injection (show some g = some q from e) with e1; omega)
  refine ⟨g1, cap1, N + 1, rfl, ?_, h1, ?_⟩
  · rw [List.map_append]; exact hown1
  · have := h1.size; omega
theorem Grown.ir {t : Nat} {w W : World} {A : Option Addr} {n c : Nat} {l : List Int} (h : Grown t w W (.slice A n c) l) : IR W A n c l ∧ Below t w W := by
  obtain ⟨g, cap, N, e, hO, hb, hs⟩ := h
  injection e with e1 e2 e3
  subst e1
  subst e2
  subst e3
  exact ⟨IR.of_own hO, hb⟩
theorem own_after {t : Nat} {w W W' : World} {g cap n : Nat} {xs : List Value} (hO : W.ownsRow t 2 1 (.slice (some ⟨g, 0, none⟩) n cap) n xs) (hbl : Below t w W) (hts : t ≤ W.heap.size) (b : Below W.heap.size W W') :
    W'.ownsRow t 2 1 (.slice (some ⟨g, 0, none⟩) n cap) n xs ∧ Below t w W' ∧ t ≤ W'.heap.size ∧ t ≤ g := by
  have hl := hO.lt g rfl
  refine ⟨?_, hbl.trans (b.mono hts), Nat.le_trans hts b.size, hl.1⟩
  obtain ⟨h1, h2⟩ := hO
  refine ⟨h1, ?_⟩
  rcases h2 with h2 | ⟨g', cap', cur, hv, hg, hh, r⟩
  · exact Or.inl h2
  · refine Or.inr ⟨g', cap', cur, hv, hg, ?_, r⟩
    have : g' = g := by injection hv with e; injection e with e2; injection e2 with e3; exact e3.symm
    subst this
    rw [b.block g' hl.2]; exact hh

theorem rtree9_t (w : World) :
    Calls Tryz.prog 50 #[.bool true] w (GotI w (tree9 true)) := by
  obtain ⟨i0, hi, hz0, hz1, hz2⟩ := info_parts infoI
  obtain ⟨t, ht⟩ : ∃ t, w.heap.size = t := ⟨_, rfl⟩
  have HT := Lib.hid ht
  have hB0 : Below t w w := Below.refl _ _
  have hown : ∀ W : World, t ≤ W.heap.size → (W.alloc (.cells #[] 2)).ownsRow t 2 1 (.slice (some ⟨W.heap.size, 0, none⟩) 0 0) 0 ([] : List Value) := fun W h => World.ownsRow_lit W #[] 0 h (by unfold maxLen; omega) rfl
  clear ht
  go_enter Tryz.func50, Tryz.ntmps50
  go_upto_block 0 with fail
  go_cut [3] (fun ov wx => Grown t w wx ov (low9 true))
  case first =>
    go_wp2_with fail
    go_loopw [3, 4] (fun ov iv wr => ∃ k : Nat, k ≤ 7 ∧ iv = .int .i64 (6 - (k : Int)) ∧ Grown t w wr ov (downs true k)) (fun _ iv _ => (intOf iv + 1).toNat)
    case atStart => exact ⟨0, by omega, rfl, w.heap.size, 0, 0, rfl, hown w (by rw [HT.out]; omega), hB0.alloc (by rw [HT.out]; omega) _, by simp; rw [HT.out]; omega⟩
    case round =>
      obtain ⟨k, hk, rfl, g, cap, N, rfl, hO, hbl, hts⟩ := hrel
      by_cases hlt : k < 7
      · obtain ⟨i, hik⟩ : ∃ i : Nat, 6 - k = i := ⟨_, rfl⟩
        have ek : (6 : Int) - (k : Int) = (i : Int) := by omega
        have i6 : i ≤ 6 := by omega
        rw [ek]
        have hn := many9_le true i6
        have CM : ∀ W : World, Calls Tryz.prog 60 #[.bool true, .int .i64 (i : Int)] W fun e w' => e = .returned (.int .i64 ((many9 true i : Nat) : Int)) ∧ W = w' := fun W => rmany9 true i W i6
        have hD := downs_succ true k
        rw [hik] at hD
        obtain ⟨n, en⟩ : ∃ n, many9 true i = n := ⟨_, rfl⟩
        rw [en] at hn CM hD
        have HD := Lib.hid hD
        have HO := Lib.hid hO
        clear hD hO
        go_wp2_with fail
        refine (CM _).mono ?_
        rintro e w' ⟨rfl, rfl⟩
        have en1 : IntKind.i64.wrap ((n : Int) - 1) = (n : Int) - 1 := IntWalk.i64_in _ (by omega)
        go_wp2_with fail
        go_loopw [3, 6] (fun ov jv wr => ∃ m : Nat, m ≤ n ∧ jv = .int .i64 ((n : Int) - 1 - (m : Int)) ∧ Grown t w wr ov (downs true k ++ dnk n i m)) (fun _ jv _ => (intOf jv + 1).toNat)
        case atStart => exact ⟨0, by omega, by simp, g, cap, N, rfl, by simpa [dnk] using HO.out, hbl, hts⟩
        case round =>
          clear HO hbl hts
          obtain ⟨m, hm, rfl, g, cap, N, rfl, hO, hbl, hts⟩ := hrel
          by_cases hlt2 : m < n
          · obtain ⟨j, ej⟩ : ∃ j : Nat, n - 1 - m = j := ⟨_, rfl⟩
            have ej' : (n : Int) - 1 - (m : Int) = (j : Int) := by omega
            rw [ej']
            have CP : ∀ W : World, Calls Tryz.prog 61 #[.int .i64 (n : Int), .int .i64 (i : Int), .int .i64 (j : Int)] W fun e w' => e = .returned (.int .i64 ((p9 n i j : Nat) : Int)) ∧ Below W.heap.size W w' := fun W => rpart9 n i j W (by omega) (by omega) i6 (by omega)
            have hp := (p9_le (n := n) (i := i) (j := j) (by omega) (by omega) i6 (by omega)).2.2
            have hS := dnk_succ n i m
            rw [ej] at hS
            obtain ⟨x, ex⟩ : ∃ x, p9 n i j = x := ⟨_, rfl⟩
            rw [ex] at CP hp hS
            have HS := Lib.hid hS
            have HO := Lib.hid hO
            have hll : N ≤ 2000 := by have e := own_len hO; rw [List.length_append, dnk_len] at e; have := downs_len true k (by omega); omega
            clear hS hO ex
            go_wp2_with fail
            refine (CP _).mono ?_
            rintro e w2 ⟨rfl, b⟩
            obtain ⟨hO2, hbl2, hts2, hg⟩ := own_after HO.out hbl hts b
            have HO2 := Lib.hid hO2
            have kx : IntKind.i64.wrap (-(x : Int)) = -(x : Int) := IntWalk.i64_in _ (by omega)
            have kj : IntKind.i64.wrap ((j : Int) - 1) = (j : Int) - 1 := IntWalk.i64_in _ (by omega)
            clear hO2 HO hbl hts b CP hp
            go_wp2_with (at_builtin; refine wpList_append_lies _ rfl _ _ 34 rfl t 2 i0 (.int .i64 0) 1 8 Tryz.underlying34 hi hz0 hz1 hz2 rfl (by decide) _ _ _ rfl (HO2.out.alloc _) ⟨w2.heap.size, 0, none⟩ 1 1 [.int .i64 (-(x : Int))] rfl rfl (cell_one_new _ _ _) (by simp [Value.oneCell']) (by omega) (by unfold maxLen; omega) (by omega) (by simp; omega) _ rfl ?_; intro g1 cap1 w3 hown1 hgrow1 hat hlt1)
            go_roundw
            case rel =>
              refine ⟨m + 1, by omega, by rw [show (n : Int) - 1 - ((m + 1 : Nat) : Int) = (j : Int) - 1 by omega], ?_⟩
              have hG := Grown.push hbl2 hts2 HT.out hg hown1 hgrow1
              rw [HS.out, ← List.append_assoc]
              exact hG
            case measure => simp [intOf] <;> omega
          · obtain rfl : m = n := by omega
            have ki : IntKind.i64.wrap ((i : Int) - 1) = (i : Int) - 1 := IntWalk.i64_in _ (by omega)
            have HO := Lib.hid hO
            clear hO
            go_wp2_with fail
            go_roundw
            case rel => exact ⟨k + 1, by omega, by rw [show (6 : Int) - ((k + 1 : Nat) : Int) = (i : Int) - 1 by omega], g, cap, N, rfl, by rw [HD.out]; exact HO.out, hbl, hts⟩
            case measure => simp [intOf] <;> omega
      · obtain rfl : k = 7 := by omega
        go_wp2_with fail
        go_meet
        exact ⟨g, cap, N, rfl, hO, hbl, hts⟩
  case rest =>
    obtain ⟨l0, el0⟩ : ∃ l, low9 true = l := ⟨_, rfl⟩
    have hl0 : l0.length ≤ 900 := by rw [← el0]; have := downs_len true 7 (by omega); show (downs true 7).length ≤ 900; omega
    rw [el0] at hcut
    have EL0 := Lib.hid el0
    obtain ⟨g, cap, N, rfl, hO, hbl, hts⟩ := hcut
    have hg := (hO.lt g rfl).1
    have hN : N ≤ 900 := by have := own_len hO; omega
    have HO := Lib.hid hO
    clear hO hown el0
    go_upto_block 4 with (at_builtin; refine wpList_append_lies _ rfl _ _ 34 rfl t 2 i0 (.int .i64 0) 1 8 Tryz.underlying34 hi hz0 hz1 hz2 rfl (by decide) _ _ _ rfl (HO.out.alloc _) ⟨wc.heap.size, 0, none⟩ 1 1 [.int .i64 0] rfl rfl (cell_one_new _ _ _) (by simp [Value.oneCell']) (by omega) (by unfold maxLen; omega) (by omega) (by simp; omega) _ rfl ?_; intro g1 cap1 w3 hown1 hgrow1 hat hlt1)
    have hG := Grown.push hbl hts HT.out hg hown1 hgrow1
    clear hown1 hgrow1 hat HO hbl hts hg
    go_cut [3] (fun ov wx => Grown t w wx ov (l0 ++ [0] ++ ups true 7))
    case first =>
      go_wp2_with fail
      go_loopw [3, 7] (fun ov iv wr => ∃ i : Nat, i ≤ 7 ∧ iv = .int .i64 (i : Int) ∧ Grown t w wr ov (l0 ++ [0] ++ ups true i)) (fun _ iv _ => 7 - (intOf iv).toNat)
      case atStart => exact ⟨0, by omega, rfl, by simpa [ups] using hG⟩
      case round =>
        clear hG
        obtain ⟨i, hik, rfl, g, cap, N, rfl, hO, hbl, hts⟩ := hrel
        by_cases hlt : i < 7
        · have i6 : i ≤ 6 := by omega
          have hn := many9_le true i6
          have CM : ∀ W : World, Calls Tryz.prog 60 #[.bool true, .int .i64 (i : Int)] W fun e w' => e = .returned (.int .i64 ((many9 true i : Nat) : Int)) ∧ W = w' := fun W => rmany9 true i W i6
          have hD := ups_succ true i
          obtain ⟨n, en⟩ : ∃ n, many9 true i = n := ⟨_, rfl⟩
          rw [en] at hn CM hD
          have HD := Lib.hid hD
          have HO := Lib.hid hO
          clear hD hO
          go_wp2_with fail
          refine (CM _).mono ?_
          rintro e w' ⟨rfl, rfl⟩
          go_wp2_with fail
          go_loopw [3, 9] (fun ov jv wr => ∃ j : Nat, j ≤ n ∧ jv = .int .i64 (j : Int) ∧ Grown t w wr ov (l0 ++ [0] ++ ups true i ++ upk n i j)) (fun _ jv _ => n - (intOf jv).toNat)
          case atStart => exact ⟨0, by omega, rfl, g, cap, N, rfl, by simpa [upk] using HO.out, hbl, hts⟩
          case round =>
            clear HO hbl hts
            obtain ⟨j, hm, rfl, g, cap, N, rfl, hO, hbl, hts⟩ := hrel
            by_cases hlt2 : j < n
            · have CP : ∀ W : World, Calls Tryz.prog 61 #[.int .i64 (n : Int), .int .i64 (i : Int), .int .i64 (j : Int)] W fun e w' => e = .returned (.int .i64 ((p9 n i j : Nat) : Int)) ∧ Below W.heap.size W w' := fun W => rpart9 n i j W (by omega) (by omega) i6 (by omega)
              have hp := (p9_le (n := n) (i := i) (j := j) (by omega) (by omega) i6 (by omega)).2.2
              have hS := upk_succ n i j
              obtain ⟨x, ex⟩ : ∃ x, p9 n i j = x := ⟨_, rfl⟩
              rw [ex] at CP hp hS
              have HS := Lib.hid hS
              have HO := Lib.hid hO
              have hll : N ≤ 3000 := by have e := own_len hO; simp only [List.length_append, upk_len, List.length_cons, List.length_nil] at e; have := ups_len true i (by omega); omega
              clear hS hO ex
              go_wp2_with fail
              refine (CP _).mono ?_
              rintro e w2 ⟨rfl, b⟩
              obtain ⟨hO2, hbl2, hts2, hg⟩ := own_after HO.out hbl hts b
              have HO2 := Lib.hid hO2
              clear hO2 HO hbl hts b CP hp
              go_wp2_with (at_builtin; refine wpList_append_lies _ rfl _ _ 34 rfl t 2 i0 (.int .i64 0) 1 8 Tryz.underlying34 hi hz0 hz1 hz2 rfl (by decide) _ _ _ rfl (HO2.out.alloc _) ⟨w2.heap.size, 0, none⟩ 1 1 [.int .i64 (x : Int)] rfl rfl (cell_one_new _ _ _) (by simp [Value.oneCell']) (by omega) (by unfold maxLen; omega) (by omega) (by simp; omega) _ rfl ?_; intro g1 cap1 w3 hown1 hgrow1 hat hlt1)
              go_roundw
              case rel =>
                refine ⟨j + 1, by omega, by go_num, ?_⟩
                have hG := Grown.push hbl2 hts2 HT.out hg hown1 hgrow1
                rw [HS.out, ← List.append_assoc]
                exact hG
              case measure => simp [intOf] <;> omega
            · obtain rfl : j = n := by omega
              have HO := Lib.hid hO
              clear hO
              go_wp2_with fail
              go_roundw
              case rel => exact ⟨i + 1, by omega, by go_num, g, cap, N, rfl, by rw [HD.out, ← List.append_assoc]; exact HO.out, hbl, hts⟩
              case measure => simp [intOf] <;> omega
        · obtain rfl : i = 7 := by omega
          go_wp2_with fail
          go_meet
          exact ⟨g, cap, N, rfl, hO, hbl, hts⟩
    case rest =>
      clear hG
      obtain ⟨g, cap, N, rfl, hO, hbl, hts⟩ := hcut
      have hg := (hO.lt g rfl).1
      have hll : N ≤ 3000 := by have e := own_len hO; simp only [List.length_append, List.length_cons, List.length_nil] at e; have := ups_len true 7 (by omega); omega
      have HO := Lib.hid hO
      clear hO
      go_wp2_with (at_builtin; refine wpList_append_lies _ rfl _ _ 34 rfl t 2 i0 (.int .i64 0) 1 8 Tryz.underlying34 hi hz0 hz1 hz2 rfl (by decide) _ _ _ rfl (HO.out.alloc _) ⟨wc.heap.size, 0, none⟩ 1 1 [.int .i64 2560000000] rfl rfl (cell_one_new _ _ _) (by simp [Value.oneCell']) (by omega) (by unfold maxLen; omega) (by omega) (by simp; omega) _ rfl ?_; intro g1 cap1 w4 hown1 hgrow1 hat hlt1)
      go_ret
      have hG := Grown.push hbl hts HT.out hg hown1 hgrow1
      exact ⟨_, _, _, rfl, by unfold tree9; rw [EL0.out]; exact hG.ir.1, by rw [HT.out]; exact hG.ir.2⟩

theorem rtree9_f (w : World) :
    Calls Tryz.prog 50 #[.bool false] w (GotI w (tree9 false)) := by
  obtain ⟨i0, hi, hz0, hz1, hz2⟩ := info_parts infoI
  obtain ⟨t, ht⟩ : ∃ t, w.heap.size = t := ⟨_, rfl⟩
  have HT := Lib.hid ht
  have hB0 : Below t w w := Below.refl _ _
  have hown : ∀ W : World, t ≤ W.heap.size → (W.alloc (.cells #[] 2)).ownsRow t 2 1 (.slice (some ⟨W.heap.size, 0, none⟩) 0 0) 0 ([] : List Value) := fun W h => World.ownsRow_lit W #[] 0 h (by unfold maxLen; omega) rfl
  clear ht
  go_enter Tryz.func50, Tryz.ntmps50
  go_upto_block 0 with fail
  go_cut [3] (fun ov wx => Grown t w wx ov (low9 false))
  case first =>
    go_wp2_with fail
    go_loopw [3, 4] (fun ov iv wr => iv = .int .i64 6 ∧ Grown t w wr ov []) (fun _ iv _ => (intOf iv + 1).toNat)
    case atStart => exact ⟨rfl, w.heap.size, 0, 0, rfl, hown w (by rw [HT.out]; omega), hB0.alloc (by rw [HT.out]; omega) _, by simp; rw [HT.out]; omega⟩
    case round =>
      obtain ⟨rfl, g, cap, N, rfl, hO, hbl, hts⟩ := hrel
      go_wp2_with fail
      go_meet
      exact ⟨g, cap, N, rfl, hO, hbl, hts⟩
  case rest =>
    obtain ⟨l0, el0⟩ : ∃ l, low9 false = l := ⟨_, rfl⟩
    have hl0 : l0.length ≤ 900 := by rw [← el0]; show ([] : List Int).length ≤ 900; simp
    rw [el0] at hcut
    have EL0 := Lib.hid el0
    obtain ⟨g, cap, N, rfl, hO, hbl, hts⟩ := hcut
    have hg := (hO.lt g rfl).1
    have hN : N ≤ 900 := by have := own_len hO; omega
    have HO := Lib.hid hO
    clear hO hown el0
    go_upto_block 4 with (at_builtin; refine wpList_append_lies _ rfl _ _ 34 rfl t 2 i0 (.int .i64 0) 1 8 Tryz.underlying34 hi hz0 hz1 hz2 rfl (by decide) _ _ _ rfl (HO.out.alloc _) ⟨wc.heap.size, 0, none⟩ 1 1 [.int .i64 0] rfl rfl (cell_one_new _ _ _) (by simp [Value.oneCell']) (by omega) (by unfold maxLen; omega) (by omega) (by simp; omega) _ rfl ?_; intro g1 cap1 w3 hown1 hgrow1 hat hlt1)
    have hG := Grown.push hbl hts HT.out hg hown1 hgrow1
    clear hown1 hgrow1 hat HO hbl hts hg
    go_cut [3] (fun ov wx => Grown t w wx ov (l0 ++ [0] ++ ups false 7))
    case first =>
      go_wp2_with fail
      go_loopw [3, 7] (fun ov iv wr => ∃ i : Nat, i ≤ 7 ∧ iv = .int .i64 (i : Int) ∧ Grown t w wr ov (l0 ++ [0] ++ ups false i)) (fun _ iv _ => 7 - (intOf iv).toNat)
      case atStart => exact ⟨0, by omega, rfl, by simpa [ups] using hG⟩
      case round =>
        clear hG
        obtain ⟨i, hik, rfl, g, cap, N, rfl, hO, hbl, hts⟩ := hrel
        by_cases hlt : i < 7
        · have i6 : i ≤ 6 := by omega
          have hn := many9_le false i6
          have CM : ∀ W : World, Calls Tryz.prog 60 #[.bool false, .int .i64 (i : Int)] W fun e w' => e = .returned (.int .i64 ((many9 false i : Nat) : Int)) ∧ W = w' := fun W => rmany9 false i W i6
          have hD := ups_succ false i
          obtain ⟨n, en⟩ : ∃ n, many9 false i = n := ⟨_, rfl⟩
          rw [en] at hn CM hD
          have HD := Lib.hid hD
          have HO := Lib.hid hO
          clear hD hO
          go_wp2_with fail
          refine (CM _).mono ?_
          rintro e w' ⟨rfl, rfl⟩
          go_wp2_with fail
          go_loopw [3, 9] (fun ov jv wr => ∃ j : Nat, j ≤ n ∧ jv = .int .i64 (j : Int) ∧ Grown t w wr ov (l0 ++ [0] ++ ups false i ++ upk n i j)) (fun _ jv _ => n - (intOf jv).toNat)
          case atStart => exact ⟨0, by omega, rfl, g, cap, N, rfl, by simpa [upk] using HO.out, hbl, hts⟩
          case round =>
            clear HO hbl hts
            obtain ⟨j, hm, rfl, g, cap, N, rfl, hO, hbl, hts⟩ := hrel
            by_cases hlt2 : j < n
            · have CP : ∀ W : World, Calls Tryz.prog 61 #[.int .i64 (n : Int), .int .i64 (i : Int), .int .i64 (j : Int)] W fun e w' => e = .returned (.int .i64 ((p9 n i j : Nat) : Int)) ∧ Below W.heap.size W w' := fun W => rpart9 n i j W (by omega) (by omega) i6 (by omega)
              have hp := (p9_le (n := n) (i := i) (j := j) (by omega) (by omega) i6 (by omega)).2.2
              have hS := upk_succ n i j
              obtain ⟨x, ex⟩ : ∃ x, p9 n i j = x := ⟨_, rfl⟩
              rw [ex] at CP hp hS
              have HS := Lib.hid hS
              have HO := Lib.hid hO
              have hll : N ≤ 3000 := by have e := own_len hO; simp only [List.length_append, upk_len, List.length_cons, List.length_nil] at e; have := ups_len false i (by omega); omega
              clear hS hO ex
              go_wp2_with fail
              refine (CP _).mono ?_
              rintro e w2 ⟨rfl, b⟩
              obtain ⟨hO2, hbl2, hts2, hg⟩ := own_after HO.out hbl hts b
              have HO2 := Lib.hid hO2
              clear hO2 HO hbl hts b CP hp
              go_wp2_with (at_builtin; refine wpList_append_lies _ rfl _ _ 34 rfl t 2 i0 (.int .i64 0) 1 8 Tryz.underlying34 hi hz0 hz1 hz2 rfl (by decide) _ _ _ rfl (HO2.out.alloc _) ⟨w2.heap.size, 0, none⟩ 1 1 [.int .i64 (x : Int)] rfl rfl (cell_one_new _ _ _) (by simp [Value.oneCell']) (by omega) (by unfold maxLen; omega) (by omega) (by simp; omega) _ rfl ?_; intro g1 cap1 w3 hown1 hgrow1 hat hlt1)
              go_roundw
              case rel =>
                refine ⟨j + 1, by omega, by go_num, ?_⟩
                have hG := Grown.push hbl2 hts2 HT.out hg hown1 hgrow1
                rw [HS.out, ← List.append_assoc]
                exact hG
              case measure => simp [intOf] <;> omega
            · obtain rfl : j = n := by omega
              have HO := Lib.hid hO
              clear hO
              go_wp2_with fail
              go_roundw
              case rel => exact ⟨i + 1, by omega, by go_num, g, cap, N, rfl, by rw [HD.out, ← List.append_assoc]; exact HO.out, hbl, hts⟩
              case measure => simp [intOf] <;> omega
        · obtain rfl : i = 7 := by omega
          go_wp2_with fail
          go_meet
          exact ⟨g, cap, N, rfl, hO, hbl, hts⟩
    case rest =>
      clear hG
      obtain ⟨g, cap, N, rfl, hO, hbl, hts⟩ := hcut
      have hg := (hO.lt g rfl).1
      have hll : N ≤ 3000 := by have e := own_len hO; simp only [List.length_append, List.length_cons, List.length_nil] at e; have := ups_len false 7 (by omega); omega
      have HO := Lib.hid hO
      clear hO
      go_wp2_with (at_builtin; refine wpList_append_lies _ rfl _ _ 34 rfl t 2 i0 (.int .i64 0) 1 8 Tryz.underlying34 hi hz0 hz1 hz2 rfl (by decide) _ _ _ rfl (HO.out.alloc _) ⟨wc.heap.size, 0, none⟩ 1 1 [.int .i64 2560000000] rfl rfl (cell_one_new _ _ _) (by simp [Value.oneCell']) (by omega) (by unfold maxLen; omega) (by omega) (by simp; omega) _ rfl ?_; intro g1 cap1 w4 hown1 hgrow1 hat hlt1)
      go_ret
      have hG := Grown.push hbl hts HT.out hg hown1 hgrow1
      exact ⟨_, _, _, rfl, by unfold tree9; rw [EL0.out]; exact hG.ir.1, by rw [HT.out]; exact hG.ir.2⟩
end Go.Proofs.YtpidpebgeblenaaGreat

/-
  The contracts of the ninth reference: Book.
-/
namespace Go.Proofs.YtpidpebgeblenaaGreat
set_option maxRecDepth 100000
set_option maxHeartbeats 4000000
open Go.RowKit
set_option linter.unusedVariables false
set_option linter.unusedSimpArgs false

def linek (m : Nat) : List Int := (List.range m).map fun (c : Nat) => 2 * (c : Int) - 255
def ulinek (m : Nat) : List Int := (List.range m).map fun (c : Nat) => (c : Int)
theorem linek_succ (m : Nat) : linek (m + 1) = linek m ++ [2 * (m : Int) - 255] := by unfold linek; rw [List.range_succ, List.map_append]; rfl
theorem ulinek_succ (m : Nat) : ulinek (m + 1) = ulinek m ++ [(m : Int)] := by unfold ulinek; rw [List.range_succ, List.map_append]; rfl
theorem linek_len (m : Nat) : (linek m).length = m := by unfold linek; simp
theorem ulinek_len (m : Nat) : (ulinek m).length = m := by unfold ulinek; simp
/-- A kind's numbers. -/
def book9 (k : Int) : List Int := if k = 0 then tree9 true else if k = 1 then tree9 false else if k = 2 then linek 256 else if k = 3 then ulinek 256 else []
/-- Is there such a kind? -/
def Kind9 (k : Int) : Prop := k = 0 ∨ k = 1 ∨ k = 2 ∨ k = 3
instance (k : Int) : Decidable (Kind9 k) := by unfold Kind9; infer_instance
def code9 (k : Int) : Int := if Kind9 k then 0 else 1

theorem rbook9_0 (w : World) :
    Calls Tryz.prog 43 #[.int .i64 0] w (GotIp w (tree9 true) 0) := by
  go_enter Tryz.func43, Tryz.ntmps43
  go_wp2_with fail
  refine (rtree9_t _).mono ?_
  rintro e w' ⟨A, n, c, rfl, h, b⟩
  go_wp2_with fail
  go_ret2
  exact ⟨A, n, c, rfl, h, b⟩
theorem rbook9_1 (w : World) :
    Calls Tryz.prog 43 #[.int .i64 1] w (GotIp w (tree9 false) 0) := by
  go_enter Tryz.func43, Tryz.ntmps43
  go_wp2_with fail
  refine (rtree9_f _).mono ?_
  rintro e w' ⟨A, n, c, rfl, h, b⟩
  go_wp2_with fail
  go_ret2
  exact ⟨A, n, c, rfl, h, b⟩
theorem rbook9_no (w : World) {k : Int} (h : ¬ Kind9 k) :
    Calls Tryz.prog 43 #[.int .i64 k] w (GotIp w [] 1) := by
  have k0 : (k == 0) = false := by simp; exact fun e => h (.inl e)
  have k1 : (k == 1) = false := by simp; exact fun e => h (.inr (.inl e))
  have k2 : (k == 2) = false := by simp; exact fun e => h (.inr (.inr (.inl e)))
  have k3 : (k == 3) = false := by simp; exact fun e => h (.inr (.inr (.inr e)))
  have k4 : (k != 2) = true := by simp; exact fun e => h (.inr (.inr (.inl e)))
  have k5 : (k != 3) = true := by simp; exact fun e => h (.inr (.inr (.inr e)))
  clear h
  go_enter Tryz.func43, Tryz.ntmps43
  go_wp2_with fail
  go_ret2
  exact ⟨none, 0, 0, rfl, IR.nil _ _ _, Below.refl _ _⟩
theorem rbook9_2 (w : World) :
    Calls Tryz.prog 43 #[.int .i64 2] w (GotIp w (linek 256) 0) := by
  obtain ⟨i0, hi, hz0, hz1, hz2⟩ := info_parts infoI
  obtain ⟨t, ht⟩ : ∃ t, w.heap.size = t := ⟨_, rfl⟩
  have HT := Lib.hid ht
  have hB0 : Below t w w := Below.refl _ _
  have hown : ∀ W : World, t ≤ W.heap.size → (W.alloc (.cells #[] 2)).ownsRow t 2 1 (.slice (some ⟨W.heap.size, 0, none⟩) 0 0) 0 ([] : List Value) := fun W h => World.ownsRow_lit W #[] 0 h (by unfold maxLen; omega) rfl
  clear ht
  go_enter Tryz.func43, Tryz.ntmps43
  go_wp2_with fail
  go_loopw [4, 5] (fun ov cv wr => ∃ c : Nat, c ≤ 256 ∧ cv = .int .i64 (c : Int) ∧ Grown t w wr ov (linek c)) (fun _ cv _ => 256 - (intOf cv).toNat)
  case atStart => exact ⟨0, by omega, rfl, w.heap.size, 0, 0, rfl, hown w (by rw [HT.out]; omega), hB0.alloc (by rw [HT.out]; omega) _, by simp; rw [HT.out]; omega⟩
  case round =>
    obtain ⟨c, hc, rfl, g, cap, N, rfl, hO, hbl, hts⟩ := hrel
    by_cases hlt : c < 256
    · have hS := linek_succ c
      have HS := Lib.hid hS
      have HO := Lib.hid hO
      have hg := (hO.lt g rfl).1
      have hll : N ≤ 256 := by have e := own_len hO; rw [linek_len] at e; omega
      clear hS hO
      obtain ⟨x, ex⟩ : ∃ x, 2 * (c : Int) - 255 = x := ⟨_, rfl⟩
      have k1 : IntKind.i64.wrap (2 * (c : Int)) = 2 * (c : Int) := IntWalk.i64_in _ (by omega)
      have k2 : IntKind.i64.wrap (2 * (c : Int) - 255) = x := by rw [← ex]; exact IntWalk.i64_in _ (by omega)
      rw [ex] at HS
      clear ex
      go_wp2_with (at_builtin; refine wpList_append_lies _ rfl _ _ 34 rfl t 2 i0 (.int .i64 0) 1 8 Tryz.underlying34 hi hz0 hz1 hz2 rfl (by decide) _ _ _ rfl (HO.out.alloc _) ⟨wr.heap.size, 0, none⟩ 1 1 [.int .i64 x] rfl rfl (cell_one_new _ _ _) (by simp [Value.oneCell']) (by omega) (by unfold maxLen; omega) (by omega) (by simp; omega) _ rfl ?_; intro g1 cap1 w3 hown1 hgrow1 hat hlt1)
      go_roundw
      case rel =>
        refine ⟨c + 1, by omega, by go_num, ?_⟩
        have hG := Grown.push hbl hts HT.out hg hown1 hgrow1
        rw [HS.out]
        exact hG
      case measure => simp [intOf] <;> omega
    · obtain rfl : c = 256 := by omega
      have HO := Lib.hid hO
      clear hO hown
      go_wp2_with fail
      go_ret2
      exact ⟨_, _, _, rfl, IR.of_own HO.out, by rw [HT.out]; exact hbl⟩
theorem rbook9_3 (w : World) :
    Calls Tryz.prog 43 #[.int .i64 3] w (GotIp w (ulinek 256) 0) := by
  obtain ⟨i0, hi, hz0, hz1, hz2⟩ := info_parts infoI
  obtain ⟨t, ht⟩ : ∃ t, w.heap.size = t := ⟨_, rfl⟩
  have HT := Lib.hid ht
  have hB0 : Below t w w := Below.refl _ _
  have hown : ∀ W : World, t ≤ W.heap.size → (W.alloc (.cells #[] 2)).ownsRow t 2 1 (.slice (some ⟨W.heap.size, 0, none⟩) 0 0) 0 ([] : List Value) := fun W h => World.ownsRow_lit W #[] 0 h (by unfold maxLen; omega) rfl
  clear ht
  go_enter Tryz.func43, Tryz.ntmps43
  go_wp2_with fail
  go_loopw [4, 5] (fun ov cv wr => ∃ c : Nat, c ≤ 256 ∧ cv = .int .i64 (c : Int) ∧ Grown t w wr ov (ulinek c)) (fun _ cv _ => 256 - (intOf cv).toNat)
  case atStart => exact ⟨0, by omega, rfl, w.heap.size, 0, 0, rfl, hown w (by rw [HT.out]; omega), hB0.alloc (by rw [HT.out]; omega) _, by simp; rw [HT.out]; omega⟩
  case round =>
    obtain ⟨c, hc, rfl, g, cap, N, rfl, hO, hbl, hts⟩ := hrel
    by_cases hlt : c < 256
    · have hS := ulinek_succ c
      have HS := Lib.hid hS
      have HO := Lib.hid hO
      have hg := (hO.lt g rfl).1
      have hll : N ≤ 256 := by have e := own_len hO; rw [ulinek_len] at e; omega
      clear hS hO
      go_wp2_with (at_builtin; refine wpList_append_lies _ rfl _ _ 34 rfl t 2 i0 (.int .i64 0) 1 8 Tryz.underlying34 hi hz0 hz1 hz2 rfl (by decide) _ _ _ rfl (HO.out.alloc _) ⟨wr.heap.size, 0, none⟩ 1 1 [.int .i64 (c : Int)] rfl rfl (cell_one_new _ _ _) (by simp [Value.oneCell']) (by omega) (by unfold maxLen; omega) (by omega) (by simp; omega) _ rfl ?_; intro g1 cap1 w3 hown1 hgrow1 hat hlt1)
      go_roundw
      case rel =>
        refine ⟨c + 1, by omega, by go_num, ?_⟩
        have hG := Grown.push hbl hts HT.out hg hown1 hgrow1
        rw [HS.out]
        exact hG
      case measure => simp [intOf] <;> omega
    · obtain rfl : c = 256 := by omega
      have HO := Lib.hid hO
      clear hO hown
      go_wp2_with fail
      go_ret2
      exact ⟨_, _, _, rfl, IR.of_own HO.out, by rw [HT.out]; exact hbl⟩
theorem rbook9_N (w : World) (k : Int) :
    Calls Tryz.prog 43 #[.int .i64 k] w (GotIp w (book9 k) (code9 k)) := by
  by_cases h : Kind9 k
  · rcases h with rfl | rfl | rfl | rfl
    · exact rbook9_0 w
    · exact rbook9_1 w
    · exact rbook9_2 w
    · exact rbook9_3 w
  · have e1 : book9 k = [] := by unfold book9; unfold Kind9 at h; rw [if_neg (fun e => h (.inl e)), if_neg (fun e => h (.inr (.inl e))), if_neg (fun e => h (.inr (.inr (.inl e)))), if_neg (fun e => h (.inr (.inr (.inr e))))]
    have e2 : code9 k = 1 := if_neg h
    rw [e1, e2]
    exact rbook9_no w h
end Go.Proofs.YtpidpebgeblenaaGreat

/-
  The contracts of the ninth reference: Signed, Den, Gap, Same.
-/
namespace Go.Proofs.YtpidpebgeblenaaGreat
set_option maxRecDepth 100000
set_option maxHeartbeats 1000000
open Go.RowKit
set_option linter.unusedVariables false
set_option linter.unusedSimpArgs false

/-- The greater of two, behind a name. -/
def mxI (a b : Int) : Int := max a b
theorem mxI_run {P : Program} (w : World) (ts : Array TypeId) (t : TypeId) (x y : Int) : (Builtin.max_ ts t #[.int .i64 x, .int .i64 y]).run P w = .ok (.int .i64 (mxI x y)) w := by
  rw [run_max_int2]
  congr 2
  unfold mxI
  split <;> omega
/-- The greatest of the first m gaps. -/
def gk (L : List Int) : Nat → Int
  | 0 => 0
  | m + 1 => mxI (gk L m) (L[m + 1]?.getD 0 - L[m]?.getD 0)
def gap9 (k : Int) : Int := gk (book9 k) ((book9 k).length - 1)
def sig9 (k : Int) : Bool := decide (k = 0 ∨ k = 2)
theorem book9_small : ∀ k : Int, ∀ x ∈ book9 k, -400000000000 ≤ x ∧ x ≤ 400000000000 := by
  intro k x hx
  have h : ∀ L : List Int, L.all (fun x => decide (-400000000000 ≤ x ∧ x ≤ 400000000000)) = true → x ∈ L → -400000000000 ≤ x ∧ x ≤ 400000000000 := fun L a b => of_decide_eq_true (List.all_eq_true.1 a x b)
  unfold book9 at hx
  split at hx
  · exact h _ (by decide +kernel) hx
  split at hx
  · exact h _ (by decide +kernel) hx
  split at hx
  · exact h _ (by decide +kernel) hx
  split at hx
  · exact h _ (by decide +kernel) hx
  · cases hx
theorem book9_at (k : Int) (j : Nat) : -400000000000 ≤ (book9 k)[j]?.getD 0 ∧ (book9 k)[j]?.getD 0 ≤ 400000000000 := by
  rcases Nat.lt_or_ge j (book9 k).length with h | h
  · rw [List.getElem?_eq_getElem h]
    exact book9_small k _ (List.getElem_mem h)
  · rw [List.getElem?_eq_none h]; decide

theorem rden9_N (w : World) (k : Int) :
    Calls Tryz.prog 45 #[.int .i64 k] w (GotV w (.int .i64 (den9 k))) := by
  by_cases h : Kind9 k
  · rcases h with rfl | rfl | rfl | rfl
    · go_enter Tryz.func45, Tryz.ntmps45
      go_wp2_with fail
      go_ret
      exact ⟨rfl, Below.refl _ _⟩
    · go_enter Tryz.func45, Tryz.ntmps45
      go_wp2_with fail
      go_ret
      exact ⟨rfl, Below.refl _ _⟩
    · go_enter Tryz.func45, Tryz.ntmps45
      go_wp2_with fail
      go_ret
      exact ⟨rfl, Below.refl _ _⟩
    · go_enter Tryz.func45, Tryz.ntmps45
      go_wp2_with fail
      go_ret
      exact ⟨rfl, Below.refl _ _⟩
  · have k0 : (k == 0) = false := by simp; exact fun e => h (.inl e)
    have k1 : (k == 1) = false := by simp; exact fun e => h (.inr (.inl e))
    have k2 : (k == 2) = false := by simp; exact fun e => h (.inr (.inr (.inl e)))
    have k3 : (k == 3) = false := by simp; exact fun e => h (.inr (.inr (.inr e)))
    have e1 : den9 k = 0 := by unfold den9; simp at k0 k1 k2 k3; simp [k0, k1, k2, k3]
    rw [e1]
    clear h
    go_enter Tryz.func45, Tryz.ntmps45
    go_wp2_with fail
    go_ret
    exact ⟨rfl, Below.refl _ _⟩

theorem rsig9_N (w : World) (k : Int) :
    Calls Tryz.prog 69 #[.int .i64 k] w (GotV w (.bool (sig9 k))) := by
  by_cases h : Kind9 k
  · rcases h with rfl | rfl | rfl | rfl
    · go_enter Tryz.func69, Tryz.ntmps69
      go_wp2_with fail
      go_ret
      exact ⟨rfl, Below.refl _ _⟩
    · go_enter Tryz.func69, Tryz.ntmps69
      go_wp2_with fail
      go_ret
      exact ⟨rfl, Below.refl _ _⟩
    · go_enter Tryz.func69, Tryz.ntmps69
      go_wp2_with fail
      go_ret
      exact ⟨rfl, Below.refl _ _⟩
    · go_enter Tryz.func69, Tryz.ntmps69
      go_wp2_with fail
      go_ret
      exact ⟨rfl, Below.refl _ _⟩
  · have k0 : (k == 0) = false := by simp; exact fun e => h (.inl e)
    have k1 : (k == 1) = false := by simp; exact fun e => h (.inr (.inl e))
    have k2 : (k == 2) = false := by simp; exact fun e => h (.inr (.inr (.inl e)))
    have k3 : (k == 3) = false := by simp; exact fun e => h (.inr (.inr (.inr e)))
    have e1 : sig9 k = false := by unfold sig9; simp at k0 k1 k2 k3; simp [k0, k2]
    rw [e1]
    clear h
    go_enter Tryz.func69, Tryz.ntmps69
    go_wp2_with fail
    go_ret
    exact ⟨rfl, Below.refl _ _⟩

attribute [local go_sem ↓] mxI_run

end Go.Proofs.YtpidpebgeblenaaGreat

/-
  The place of the nearest number of a codebook: what it is, that there is one alone, how far it is, how it rises.
-/
namespace Go.Proofs.YtpidpebgeblenaaGreat

/-- The place of the least of d 0 to d m, the lowest of these. -/
def lpl (d : Nat → Int) : Nat → Nat
  | 0 => 0
  | m + 1 => if d (m + 1) < d (lpl d m) then m + 1 else lpl d m
theorem lpl_le (d : Nat → Int) : ∀ m, lpl d m ≤ m
  | 0 => Nat.le_refl 0
  | m + 1 => by unfold lpl; split; exact Nat.le_refl _; exact Nat.le_succ_of_le (lpl_le d m)
theorem lpl_least (d : Nat → Int) : ∀ m c, c ≤ m → d (lpl d m) ≤ d c ∧ (c < lpl d m → d (lpl d m) < d c)
  | 0, c, h => by obtain rfl : c = 0 := by omega
                  exact ⟨Int.le_refl _, fun h => absurd h (Nat.not_lt_zero _)⟩
  | m + 1, c, h => by
    have ih := lpl_least d m
    have hl := lpl_le d m
    unfold lpl
    split
    · rename_i hlt
      rcases Nat.lt_or_ge m c with h1 | h1
      · obtain rfl : c = m + 1 := by omega
        exact ⟨Int.le_refl _, fun h => absurd h (Nat.lt_irrefl _)⟩
      · have := (ih c h1).1
        exact ⟨by omega, fun _ => by omega⟩
    · rename_i hlt
      rcases Nat.lt_or_ge m c with h1 | h1
      · obtain rfl : c = m + 1 := by omega
        exact ⟨by omega, fun h => by omega⟩
      · exact ih c h1
theorem lpl_uniq {d : Nat → Int} {m b : Nat} (hb : b ≤ m) (h : ∀ c, c ≤ m → d b ≤ d c ∧ (c < b → d b < d c)) : lpl d m = b := by
  have h1 := lpl_least d m b hb
  have h2 := h (lpl d m) (lpl_le d m)
  rcases Nat.lt_trichotomy (lpl d m) b with e | e | e
  · have := h2.2 e; have := h1.1; omega
  · exact e
  · have := h1.2 e; have := h2.1; omega
theorem lpl_scale {d : Nat → Int} {t : Int} (ht : 0 < t) : ∀ m, lpl (fun c => t * d c) m = lpl d m
  | 0 => rfl
  | m + 1 => by
    have ih := lpl_scale (d := d) ht m
    unfold lpl
    rw [ih]
    have e : (t * d (m + 1) < t * d (lpl d m)) ↔ d (m + 1) < d (lpl d m) := ⟨fun h => Int.lt_of_mul_lt_mul_left h (Int.le_of_lt ht), fun h => Int.mul_lt_mul_of_pos_left h ht⟩
    by_cases h : d (m + 1) < d (lpl d m)
    · rw [if_pos h, if_pos (e.2 h)]
    · rw [if_neg h, if_neg (fun x => h (e.1 x))]
/-- A kind's number. -/
def num10 (k : Int) (c : Nat) : Int := (book9 k)[c]?.getD 0
/-- How far a code's number is from a share, times both denominators. -/
def dst (k num den : Int) (c : Nat) : Int := ((num * den9 k - num10 k c * den).natAbs : Int)
/-- The code of a share. -/
def near10 (k num den : Int) : Nat := lpl (dst k num den) 255
/-- Is it a share? -/
def Shr (k num den : Int) : Prop := Kind9 k ∧ 1 ≤ den ∧ num ≤ den ∧ -den ≤ num ∧ (0 ≤ num ∨ sig9 k = true)
instance (k num den : Int) : Decidable (Shr k num den) := by unfold Shr; infer_instance
theorem near10_le (k num den : Int) : near10 k num den ≤ 255 := lpl_le _ _
theorem near10_least {k num den : Int} {c : Nat} (h : c ≤ 255) : dst k num den (near10 k num den) ≤ dst k num den c ∧ (c < near10 k num den → dst k num den (near10 k num den) < dst k num den c) := lpl_least _ 255 c h

def rising (L : List Int) : Bool := (List.range 255).all fun j => decide (L[j]?.getD 0 < L[j + 1]?.getD 0)
def gapped (L : List Int) (g : Int) : Bool := (List.range 255).all fun j => decide (L[j + 1]?.getD 0 - L[j]?.getD 0 ≤ g)
theorem facts10 {k : Int} (h : Kind9 k) : (book9 k).length = 256 ∧ num10 k 255 = den9 k ∧ rising (book9 k) = true ∧ gapped (book9 k) (gap9 k) = true ∧ (if sig9 k then decide (2 * (num10 k 0 + den9 k) ≤ gap9 k) else decide (num10 k 0 = 0)) = true ∧ (if sig9 k then decide (-den9 k ≤ num10 k 0) else decide (num10 k 0 = 0)) = true ∧ 0 < den9 k := by
  rcases h with rfl | rfl | rfl | rfl <;> decide +kernel
theorem den9_bd (k : Int) : 0 ≤ den9 k ∧ den9 k ≤ 2560000000 := by unfold den9; split <;> (try split) <;> omega
theorem num10_bd (k : Int) (c : Nat) : -400000000000 ≤ num10 k c ∧ num10 k c ≤ 400000000000 := book9_at k c
theorem num10_step {k : Int} (h : Kind9 k) {j : Nat} (hj : j < 255) : num10 k j < num10 k (j + 1) ∧ num10 k (j + 1) - num10 k j ≤ gap9 k := by
  obtain ⟨_, _, h1, h2, _⟩ := facts10 h
  exact ⟨of_decide_eq_true (List.all_eq_true.1 h1 j (List.mem_range.2 hj)), of_decide_eq_true (List.all_eq_true.1 h2 j (List.mem_range.2 hj))⟩
theorem num10_up {k : Int} (h : Kind9 k) {a : Nat} : ∀ {b : Nat}, a < b → b ≤ 255 → num10 k a < num10 k b := by
  intro b
  induction b with
  | zero => intro hb; omega
  | succ b ih =>
    intro hb h5
    have hs := (num10_step h (j := b) (by omega)).1
    rcases Nat.lt_or_ge a b with e | e
    · have := ih e (by omega); omega
    · obtain rfl : a = b := by omega
      exact hs
/-- What is just a code's number has that code. -/
theorem near10_own {k num den : Int} {c : Nat} (h : Kind9 k) (hd : 0 < den) (hc : c ≤ 255) (e : num * den9 k = num10 k c * den) : near10 k num den = c := by
  refine lpl_uniq hc fun i hi => ?_
  have e0 : dst k num den c = 0 := by unfold dst; omega
  have e1 : 0 ≤ dst k num den i := by unfold dst; omega
  refine ⟨by omega, fun hl => ?_⟩
  have hm := Int.mul_lt_mul_of_pos_right (num10_up h hl hc) hd
  unfold dst at *
  omega
theorem near10_den {k den : Int} (h : Kind9 k) (hd : 0 < den) : near10 k den den = 255 := near10_own h hd (Nat.le_refl _) (by rw [(facts10 h).2.1, Int.mul_comm])
theorem near10_scale {k num den t : Int} (ht : 0 < t) : near10 k (num * t) (den * t) = near10 k num den := by
  have e : dst k (num * t) (den * t) = fun c => t * dst k num den c := by
    funext c
    unfold dst
    have e1 : num * t * den9 k - num10 k c * (den * t) = t * (num * den9 k - num10 k c * den) := by rw [Int.mul_sub]; congr 1 <;> ac_rfl
    rw [e1, Int.natAbs_mul, Int.natCast_mul, Int.natAbs_of_nonneg (Int.le_of_lt ht)]
  unfold near10
  rw [e]
  exact lpl_scale ht 255
end Go.Proofs.YtpidpebgeblenaaGreat

/-
  Plain arithmetic: digits to the base 2 to the power of 32, as the reference reckons.
-/
namespace Go.Proofs.YtpidpebgeblenaaGreat

/-- 2 to the power of 32, behind a name. -/
def H32 : Nat := 4294967296
theorem H32_pos : 0 < H32 := by unfold H32; omega
theorem H32_gt : 1 < H32 := by unfold H32; omega
theorem H32_sq : H32 * H32 = B64 := rfl
theorem H32_lt : H32 < B64 := by unfold H32 B64; omega

/-- The number of figures of 32 bits, the lowest first. -/
def valH : List Nat → Nat
  | [] => 0
  | x :: xs => x + H32 * valH xs
def DigH (l : List Nat) : Prop := ∀ x ∈ l, x < H32

theorem valH_nil : valH [] = 0 := rfl
theorem valH_cons (x : Nat) (xs : List Nat) : valH (x :: xs) = x + H32 * valH xs := rfl
theorem DigH.nil : DigH [] := fun _ h => by cases h
theorem DigH.dig {l : List Nat} (h : DigH l) : Dig l := fun x hx => Nat.lt_trans (h x hx) H32_lt
theorem DigH.snoc {x : Nat} {xs : List Nat} (h : DigH xs) (hx : x < H32) : DigH (xs ++ [x]) := fun y hy => by
  rcases List.mem_append.1 hy with hy | hy
  · exact h y hy
  · simp at hy; subst hy; exact hx
theorem DigH.get {l : List Nat} (h : DigH l) (j : Nat) : l[j]?.getD 0 < H32 := by
  by_cases hj : j < l.length
  · simp [hj]; exact h _ (List.getElem_mem hj)
  · rw [List.getElem?_eq_none (by omega)]; exact H32_pos
theorem DigH.set {l : List Nat} (h : DigH l) (k : Nat) {d : Nat} (hd : d < H32) : DigH (l.set k d) := fun x hx => by
  rcases List.mem_or_eq_of_mem_set hx with h1 | h1
  · exact h x h1
  · rw [h1]; exact hd

theorem valH_lt {l : List Nat} (hd : DigH l) : valH l < H32 ^ l.length := by
  induction l with
  | nil => simp [valH_nil]
  | cons x xs ih =>
    rw [valH_cons, List.length_cons, Nat.pow_succ, Nat.mul_comm (H32 ^ xs.length)]
    have h1 := ih fun y hy => hd y (List.mem_cons_of_mem _ hy)
    have h2 := hd x List.mem_cons_self
    have h3 : H32 * (valH xs + 1) ≤ H32 * H32 ^ xs.length := Nat.mul_le_mul_left _ h1
    rw [Nat.mul_add, Nat.mul_one] at h3
    omega

theorem valH_snoc (l : List Nat) (x : Nat) : valH (l ++ [x]) = valH l + H32 ^ l.length * x := by
  induction l with
  | nil => simp [valH_cons, valH_nil]
  | cons y ys ih =>
    rw [List.cons_append, valH_cons, ih, valH_cons, List.length_cons, Nat.pow_succ, Nat.mul_add]
    rw [← Nat.mul_assoc, Nat.mul_comm H32 (H32 ^ ys.length)]
    omega

theorem valH_take_succ (l : List Nat) (k : Nat) : valH (l.take (k + 1)) = valH (l.take k) + H32 ^ k * l[k]?.getD 0 := by
  by_cases hk : k < l.length
  · rw [List.take_succ_eq_append_getElem hk, valH_snoc, List.length_take, Nat.min_eq_left (by omega)]
    simp [hk]
  · rw [List.take_of_length_le (by omega), List.take_of_length_le (by omega), List.getElem?_eq_none (by omega)]
    simp

theorem valH_set {l : List Nat} {k : Nat} (hk : k < l.length) (d : Nat) : valH (l.set k d) + H32 ^ k * l[k]?.getD 0 = valH l + H32 ^ k * d := by
  induction l generalizing k with
  | nil => simp at hk
  | cons x xs ih =>
    cases k with
    | zero => simp [valH_cons]; omega
    | succ k =>
      have h := ih (k := k) (by simpa using hk)
      rw [List.set_cons_succ, valH_cons, valH_cons, List.getElem?_cons_succ, Nat.pow_succ, Nat.mul_comm (H32 ^ k) H32, Nat.mul_assoc, Nat.mul_assoc]
      have h2 : H32 * (valH (xs.set k d) + H32 ^ k * xs[k]?.getD 0) = H32 * (valH xs + H32 ^ k * d) := by rw [h]
      rw [Nat.mul_add, Nat.mul_add] at h2
      omega

theorem valH_zeros (n : Nat) : valH (List.replicate n 0) = 0 := by
  induction n with
  | zero => rfl
  | succ n ih => rw [List.replicate_succ, valH_cons, ih]; simp
theorem digH_zeros (n : Nat) : DigH (List.replicate n 0) := fun x hx => by rw [(List.mem_replicate.1 hx).2]; exact H32_pos

/-- The lower and the upper half of a digit. -/
def loH (x : Nat) : Nat := x % H32
def hiH (x : Nat) : Nat := x / H32
theorem loH_lt (x : Nat) : loH x < H32 := Nat.mod_lt _ H32_pos
theorem hiH_lt {x : Nat} (h : x < B64) : hiH x < H32 := by unfold hiH; rw [Nat.div_lt_iff_lt_mul H32_pos, H32_sq]; exact h
theorem half_split (x : Nat) : loH x + H32 * hiH x = x := Nat.mod_add_div _ _

/-- A number's figures. -/
def halvesL : List Nat → List Nat
  | [] => []
  | x :: xs => loH x :: hiH x :: halvesL xs
theorem halvesL_length (l : List Nat) : (halvesL l).length = 2 * l.length := by
  induction l with
  | nil => rfl
  | cons x xs ih => simp only [halvesL, List.length_cons, ih]; omega
theorem halvesL_snoc (l : List Nat) (x : Nat) : halvesL (l ++ [x]) = halvesL l ++ [loH x, hiH x] := by
  induction l with
  | nil => rfl
  | cons y ys ih => simp only [List.cons_append, halvesL, ih]
theorem halvesL_dig {l : List Nat} (h : Dig l) : DigH (halvesL l) := by
  induction l with
  | nil => exact DigH.nil
  | cons x xs ih =>
    intro y hy
    simp only [halvesL, List.mem_cons] at hy
    rcases hy with rfl | rfl | hy
    · exact loH_lt _
    · exact hiH_lt h.head
    · exact ih h.tail y hy
theorem halvesL_val (l : List Nat) : valH (halvesL l) = val l := by
  induction l with
  | nil => rfl
  | cons x xs ih =>
    simp only [halvesL, valH_cons, val_cons, ih]
    have := half_split x
    have e : H32 * (hiH x + H32 * val xs) = H32 * hiH x + B64 * val xs := by rw [Nat.mul_add, ← Nat.mul_assoc, H32_sq]
    omega

/-- Two figures as a digit. -/
def join (a b : Nat) : Nat := a + b * H32
theorem join_lt {a b : Nat} (ha : a < H32) (hb : b < H32) : join a b < B64 := by
  unfold join
  have : (b + 1) * H32 ≤ H32 * H32 := Nat.mul_le_mul_right _ hb
  rw [H32_sq, Nat.add_mul, Nat.one_mul] at this
  omega

/-- Digits of the first 2k figures. -/
def joinL (l : List Nat) (k : Nat) : List Nat := (List.range k).map fun j => join (l[2 * j]?.getD 0) (l[2 * j + 1]?.getD 0)
theorem joinL_length (l : List Nat) (k : Nat) : (joinL l k).length = k := by simp [joinL]
theorem joinL_succ (l : List Nat) (k : Nat) : joinL l (k + 1) = joinL l k ++ [join (l[2 * k]?.getD 0) (l[2 * k + 1]?.getD 0)] := by simp [joinL, List.range_succ]
theorem joinL_dig {l : List Nat} (h : DigH l) (k : Nat) : Dig (joinL l k) := fun x hx => by
  obtain ⟨j, _, rfl⟩ := List.mem_map.1 hx
  exact join_lt (h.get _) (h.get _)
theorem joinL_val (l : List Nat) (k : Nat) : val (joinL l k) = valH (l.take (2 * k)) := by
  induction k with
  | zero => simp [joinL, val_nil, valH_nil]
  | succ k ih =>
    rw [joinL_succ, val_snoc, joinL_length, ih, show 2 * (k + 1) = 2 * k + 1 + 1 by omega, valH_take_succ, valH_take_succ]
    have e : B64 ^ k = H32 ^ (2 * k) := by rw [← H32_sq, Nat.pow_mul, Nat.pow_two]
    rw [e, join, Nat.mul_add, Nat.pow_succ]
    have : H32 ^ (2 * k) * (l[2 * k + 1]?.getD 0 * H32) = H32 ^ (2 * k) * H32 * l[2 * k + 1]?.getD 0 := by ac_rfl
    omega

/-- Three figures' sum, in two parts. -/
theorem div_le_one {x y c : Nat} (hx : x < H32) (hy : y < H32) (hc : c ≤ 1) : hiH (x + y + c) ≤ 1 := by
  unfold hiH
  have : (x + y + c) / H32 < 2 := (Nat.div_lt_iff_lt_mul H32_pos).2 (by omega)
  omega

end Go.Proofs.YtpidpebgeblenaaGreat

/-
  Plain arithmetic: digits by division, powers of 2, binary figures.
-/
namespace Go.Proofs.YtpidpebgeblenaaGreat

/-- A number's digit at a place, by division. -/
def dig (y j : Nat) : Nat := y / B64 ^ j % B64
theorem dig_lt (y j : Nat) : dig y j < B64 := Nat.mod_lt _ B64_pos
theorem limbs_get (x j : Nat) : (limbs x)[j]?.getD 0 = dig x j := by
  induction j generalizing x with
  | zero =>
    unfold dig
    rw [Nat.pow_zero, Nat.div_one]
    by_cases h : x = 0
    · subst h; rw [limbs_zero]; simp
    · rw [limbs_pos h]; simp
  | succ j ih =>
    by_cases h : x = 0
    · subst h; rw [limbs_zero]; simp [dig]
    · rw [limbs_pos h, List.getElem?_cons_succ, ih]
      unfold dig
      rw [Nat.div_div_eq_div_mul, Nat.pow_succ, Nat.mul_comm B64]
/-- The first k digits. -/
def digs (y k : Nat) : List Nat := (List.range k).map (dig y)
theorem digs_length (y k : Nat) : (digs y k).length = k := by simp [digs]
theorem digs_succ (y k : Nat) : digs y (k + 1) = digs y k ++ [dig y k] := by simp [digs, List.range_succ]
theorem digs_dig (y k : Nat) : Dig (digs y k) := fun x hx => by
  obtain ⟨j, _, rfl⟩ := List.mem_map.1 hx
  exact dig_lt _ _
theorem digs_val (y k : Nat) : val (digs y k) = y % B64 ^ k := by
  induction k with
  | zero => simp [digs, val_nil, Nat.mod_one]
  | succ k ih =>
    rw [digs_succ, val_snoc, digs_length, ih, dig, Nat.pow_succ, Nat.mod_mul]
theorem digs_all {y k : Nat} (h : y < B64 ^ k) : val (digs y k) = y := by rw [digs_val, Nat.mod_eq_of_lt h]

theorem B64_two : B64 = 2 ^ 64 := rfl
theorem B64_pow2 (j : Nat) : B64 ^ j = 2 ^ (64 * j) := by rw [B64_two, Nat.pow_mul]

/-- 2 to a power, behind a name. -/
def pw (k : Nat) : Nat := 2 ^ k
theorem pw_succ (k : Nat) : pw (k + 1) = pw k * 2 := Nat.pow_succ ..
theorem pw_pos (k : Nat) : 0 < pw k := Nat.pow_pos (by omega)
theorem pw_lt {k : Nat} (h : k < 64) : pw k < B64 := by rw [B64_two]; exact (Nat.pow_lt_pow_iff_right (by omega)).2 h
theorem pw_limbs (n : Nat) : (List.replicate (n / 64 + 1) 0).set (n / 64) (pw (n % 64)) = limbs (2 ^ n) := by
  have hz : ∀ m, val (List.replicate m 0) = 0 := fun m => by
    induction m with
    | zero => rfl
    | succ m ih => rw [List.replicate_succ, val_cons, ih]; simp
  have h1 := val_set (l := List.replicate (n / 64 + 1) 0) (k := n / 64) (by simp) (pw (n % 64))
  have h0 : (List.replicate (n / 64 + 1) 0)[n / 64]?.getD 0 = 0 := by simp
  rw [h0, hz, Nat.mul_zero, Nat.add_zero, Nat.zero_add] at h1
  have h2 : B64 ^ (n / 64) * pw (n % 64) = 2 ^ n := by
    rw [B64_pow2, pw, ← Nat.pow_add]
    congr 1
    omega
  rw [h2] at h1
  rw [← h1]
  refine eq_limbs (Dig.set (fun x hx => by rw [(List.mem_replicate.1 hx).2]; exact B64_pos) _ (pw_lt (Nat.mod_lt _ (by omega)))) fun _ => ?_
  rw [List.length_set, List.length_replicate, Nat.add_sub_cancel, h1, ← h2]
  exact Nat.le_mul_of_pos_right _ (pw_pos _)

/-- A binary figure. -/
def bitN (x i : Nat) : Nat := x / 2 ^ i % 2
theorem bitN_lt (x i : Nat) : bitN x i < 2 := Nat.mod_lt _ (by omega)
theorem bitN_dig (x i : Nat) : dig x (i / 64) / 2 ^ (i % 64) % 2 = bitN x i := by
  have h : ∀ y s : Nat, s < 64 → y % B64 / 2 ^ s % 2 = y / 2 ^ s % 2 := fun y s hs => by
    have e : B64 = 2 ^ s * 2 ^ (64 - s) := by rw [B64_two, ← Nat.pow_add]; congr 1; omega
    rw [e, Nat.mod_mul_right_div_self]
    obtain ⟨r, hr⟩ : ∃ r, 64 - s = r + 1 := ⟨64 - s - 1, by omega⟩
    rw [hr, Nat.pow_succ, Nat.mul_comm]
    exact Nat.mod_mul_right_mod _ _ _
  unfold dig bitN
  rw [h _ _ (Nat.mod_lt _ (by omega)), B64_pow2, Nat.div_div_eq_div_mul, ← Nat.pow_add]
  congr 3
  omega

/-- Two digits, shifted down by k places, the lower digit. -/
def sh2 (x y k : Nat) : Nat := (x + B64 * y) / 2 ^ k % B64
theorem sh2_lt (x y k : Nat) : sh2 x y k < B64 := Nat.mod_lt _ B64_pos
theorem sh2_zero {x : Nat} (hx : x < B64) (y : Nat) : sh2 x y 0 = x := by
  unfold sh2
  rw [Nat.pow_zero, Nat.div_one, Nat.add_mul_mod_self_left, Nat.mod_eq_of_lt hx]
theorem sh2_succ {x : Nat} (hx : x < B64) (y k : Nat) : sh2 x y k / 2 + y / 2 ^ k % 2 * 9223372036854775808 = sh2 x y (k + 1) := by
  have h1 : (x + B64 * y) / 2 ^ k / B64 = y / 2 ^ k := by
    rw [Nat.div_div_eq_div_mul, Nat.mul_comm (2 ^ k) B64, ← Nat.div_div_eq_div_mul, Nat.add_mul_div_left _ _ B64_pos, Nat.div_eq_of_lt hx, Nat.zero_add]
  have h2 : sh2 x y (k + 1) = (x + B64 * y) / 2 ^ k / 2 % B64 := by unfold sh2; rw [Nat.pow_succ, ← Nat.div_div_eq_div_mul]
  rw [h2]
  unfold sh2
  rw [← h1]
  generalize (x + B64 * y) / 2 ^ k = u
  unfold B64
  omega

theorem sh2_dig (x i s : Nat) (hs : s < 64) : sh2 (dig x i) (dig x (i + 1)) s = x / B64 ^ i / 2 ^ s % B64 := by
  have h1 : dig x i + B64 * dig x (i + 1) = x / B64 ^ i % (B64 * B64) := by
    unfold dig
    rw [Nat.mod_mul, Nat.pow_succ, Nat.div_div_eq_div_mul]
  unfold sh2
  rw [h1]
  generalize x / B64 ^ i = m
  have e : B64 * B64 = 2 ^ s * (B64 * 2 ^ (64 - s)) := by
    have e2 : 2 ^ s * 2 ^ (64 - s) = B64 := by rw [B64_two, ← Nat.pow_add]; congr 1; omega
    calc B64 * B64 = B64 * (2 ^ s * 2 ^ (64 - s)) := by rw [e2]
      _ = 2 ^ s * (B64 * 2 ^ (64 - s)) := by ac_rfl
  rw [e, Nat.mod_mul_right_div_self]
  exact Nat.mod_mul_right_mod _ _ _

/-- A digit of what is shifted down. -/
theorem shr_dig (x n j : Nat) : sh2 (dig x (n / 64 + j)) (dig x (n / 64 + j + 1)) (n % 64) = dig (x / 2 ^ n) j := by
  rw [sh2_dig _ _ _ (Nat.mod_lt _ (by omega))]
  unfold dig
  congr 1
  rw [B64_pow2, B64_pow2, Nat.div_div_eq_div_mul, Nat.div_div_eq_div_mul, ← Nat.pow_add, ← Nat.pow_add]
  congr 2
  omega

theorem shr_lt {x n k : Nat} (h : x < B64 ^ k) : x / 2 ^ n < B64 ^ (k - n / 64) := by
  rcases Nat.lt_or_ge (n / 64) k with h1 | h1
  · rw [Nat.div_lt_iff_lt_mul (Nat.pow_pos (by omega))]
    refine Nat.lt_of_lt_of_le h ?_
    have e : B64 ^ k = B64 ^ (k - n / 64) * B64 ^ (n / 64) := by rw [← Nat.pow_add]; congr 1; omega
    rw [e]
    refine Nat.mul_le_mul_left _ ?_
    rw [B64_pow2]
    exact Nat.pow_le_pow_right (by omega) (by omega)
  · have h2 : x < 2 ^ n := by
      refine Nat.lt_of_lt_of_le h ?_
      rw [B64_pow2]
      exact Nat.pow_le_pow_right (by omega) (by omega)
    rw [Nat.div_eq_of_lt h2]
    exact Nat.pow_pos B64_pos

end Go.Proofs.YtpidpebgeblenaaGreat

/-
  Plain arithmetic: a division bit by bit.
-/
namespace Go.Proofs.YtpidpebgeblenaaGreat

/-- Of a quotient F: what digit t holds when all binary figures from m on are known. -/
def qd (F m t : Nat) : Nat := F / 2 ^ (max m (64 * t)) % 2 ^ (64 * (t + 1) - max m (64 * t))
theorem qd_lt (F m t : Nat) : qd F m t < B64 := by
  unfold qd
  refine Nat.lt_of_lt_of_le (Nat.mod_lt _ (Nat.pow_pos (by omega))) ?_
  rw [B64_two]
  exact Nat.pow_le_pow_right (by omega) (by omega)
theorem qd_none {F m : Nat} (h : F < 2 ^ m) (t : Nat) : qd F m t = 0 := by
  unfold qd
  have : F < 2 ^ (max m (64 * t)) := Nat.lt_of_lt_of_le h (Nat.pow_le_pow_right (by omega) (by omega))
  rw [Nat.div_eq_of_lt this, Nat.zero_mod]
theorem qd_done (F t : Nat) : qd F 0 t = dig F t := by
  unfold qd dig
  have e1 : max 0 (64 * t) = 64 * t := by omega
  have e2 : 64 * (t + 1) - 64 * t = 64 := by omega
  rw [e1, e2, B64_pow2]
  rfl
theorem qd_other {F i t : Nat} (h : t ≠ i / 64) : qd F i t = qd F (i + 1) t := by
  unfold qd
  rcases Nat.lt_or_ge t (i / 64) with h1 | h1
  · have e1 : 64 * (t + 1) - max i (64 * t) = 0 := by omega
    have e2 : 64 * (t + 1) - max (i + 1) (64 * t) = 0 := by omega
    rw [e1, e2, Nat.pow_zero, Nat.mod_one, Nat.mod_one]
  · have e1 : max i (64 * t) = 64 * t := by omega
    have e2 : max (i + 1) (64 * t) = 64 * t := by omega
    rw [e1, e2]
theorem qd_same (F i : Nat) : qd F i (i / 64) = 2 * qd F (i + 1) (i / 64) + bitN F i := by
  unfold qd bitN
  have e1 : max i (64 * (i / 64)) = i := by omega
  have e2 : max (i + 1) (64 * (i / 64)) = i + 1 := by omega
  obtain ⟨e, he⟩ : ∃ e, 64 * (i / 64 + 1) - i = e + 1 := ⟨64 * (i / 64 + 1) - i - 1, by omega⟩
  have he2 : 64 * (i / 64 + 1) - (i + 1) = e := by omega
  rw [e1, e2, he, he2, Nat.pow_succ 2 i, ← Nat.div_div_eq_div_mul, Nat.pow_succ, Nat.mul_comm (2 ^ e) 2, Nat.mod_mul]
  omega
theorem qd_room (F i : Nat) : 2 * qd F (i + 1) (i / 64) + 1 < B64 := by
  have h : qd F (i + 1) (i / 64) < 2 ^ 63 := by
    unfold qd
    refine Nat.lt_of_lt_of_le (Nat.mod_lt _ (Nat.pow_pos (by omega))) ?_
    exact Nat.pow_le_pow_right (by omega) (by omega)
  unfold B64
  omega

/-- The digits of a quotient when all binary figures from m on are known. -/
def qlist (F m n : Nat) : List Nat := (List.range n).map (qd F m)
theorem qlist_length (F m n : Nat) : (qlist F m n).length = n := by simp [qlist]
theorem qlist_dig (F m n : Nat) : Dig (qlist F m n) := fun x hx => by
  obtain ⟨j, _, rfl⟩ := List.mem_map.1 hx
  exact qd_lt _ _ _
theorem qlist_none {F m : Nat} (h : F < 2 ^ m) (n : Nat) : qlist F m n = List.replicate n 0 := by
  apply List.ext_getElem
  · simp [qlist]
  · intro i h1 h2
    simp [qlist, qd_none h]
theorem qlist_done (F n : Nat) : qlist F 0 n = digs F n := by
  unfold qlist digs
  congr 1
  funext t
  exact qd_done F t
theorem qlist_set (F i n : Nat) : (qlist F (i + 1) n).set (i / 64) (qd F i (i / 64)) = qlist F i n := by
  apply List.ext_getElem
  · simp [qlist]
  · intro j h1 h2
    rw [List.getElem_set]
    by_cases h : i / 64 = j
    · simp [h, qlist]
    · rw [if_neg h]
      simp only [qlist, List.getElem_map, List.getElem_range]
      exact (qd_other (fun e => h e.symm)).symm

/-- One binary figure of a division. -/
theorem div_step {x y : Nat} (hy : 0 < y) (i : Nat) :
    (x / 2 ^ i) % y = (if y ≤ 2 * (x / 2 ^ (i + 1) % y) + bitN x i then 2 * (x / 2 ^ (i + 1) % y) + bitN x i - y else 2 * (x / 2 ^ (i + 1) % y) + bitN x i) ∧
    bitN (x / y) i = (if y ≤ 2 * (x / 2 ^ (i + 1) % y) + bitN x i then 1 else 0) := by
  have h1 : x / 2 ^ i = 2 * (x / 2 ^ (i + 1)) + bitN x i := by
    unfold bitN
    rw [Nat.pow_succ, ← Nat.div_div_eq_div_mul]
    omega
  have hb := bitN_lt x i
  have h2 := Nat.div_add_mod (x / 2 ^ (i + 1)) y
  have hr := Nat.mod_lt (x / 2 ^ (i + 1)) hy
  have h3 : x / y / 2 ^ i = x / 2 ^ i / y := by rw [Nat.div_div_eq_div_mul, Nat.div_div_eq_div_mul, Nat.mul_comm]
  have h4 : bitN (x / y) i = x / 2 ^ i / y % 2 := by unfold bitN; rw [h3]
  rw [h4, h1]
  generalize x / 2 ^ (i + 1) % y = r at *
  generalize x / 2 ^ (i + 1) / y = q at *
  generalize x / 2 ^ (i + 1) = u at *
  generalize bitN x i = b at *
  subst h2
  have e : 2 * (y * q + r) + b = (2 * r + b) + y * (2 * q) := by
    have : y * (2 * q) = 2 * (y * q) := by ac_rfl
    omega
  rw [e, Nat.add_mul_mod_self_left, Nat.add_mul_div_left _ _ hy]
  split
  · rename_i h
    have e1 : (2 * r + b) % y = 2 * r + b - y := by rw [Nat.mod_eq_sub_mod h, Nat.mod_eq_of_lt (by omega)]
    have e2 : (2 * r + b) / y = 1 := by
      rw [Nat.div_eq_sub_div hy h, Nat.div_eq_of_lt (by omega)]
    rw [e1, e2]
    exact ⟨rfl, by omega⟩
  · rename_i h
    have e1 : (2 * r + b) % y = 2 * r + b := Nat.mod_eq_of_lt (by omega)
    have e2 : (2 * r + b) / y = 0 := Nat.div_eq_of_lt (by omega)
    rw [e1, e2]
    exact ⟨rfl, by omega⟩

end Go.Proofs.YtpidpebgeblenaaGreat

/-
  The contracts of the reference's Bare and Of.
-/
namespace Go.Proofs.YtpidpebgeblenaaGreat
set_option maxRecDepth 100000
set_option maxHeartbeats 2000000
open Go.RowKit

theorem isL_of_own {w : World} {base : Nat} {e : TypeId} {v : Value} {n : Nat} {l : List Nat} (h : w.ownsRow base e 1 v n (l.map encD)) (hd : Dig l) : ∃ A c, v = .slice A n c ∧ Lim w.heap.size w A n c l := by
  rcases h.2 with ⟨rfl, rfl⟩ | ⟨g, cap, cur, rfl, _⟩
  · exact ⟨none, 0, rfl, Lim.of_own h hd⟩
  · exact ⟨_, _, rfl, Lim.of_own h hd⟩

/-- A slice lies in new memory: in a block from B on, if it has anything. -/
def Fresh (B : Nat) (A : Option Addr) (n : Nat) : Prop := 0 < n → ∃ b off, A = some ⟨b, off, none⟩ ∧ B ≤ b
theorem Fresh.mono {B B' : Nat} {A : Option Addr} {n : Nat} (h : Fresh B A n) (hB : B' ≤ B) : Fresh B' A n := fun h0 => by
  obtain ⟨b, off, e, hb⟩ := h h0
  exact ⟨b, off, e, Nat.le_trans hB hb⟩
theorem fresh_of_own {w : World} {base : Nat} {e : TypeId} {A : Option Addr} {n c : Nat} {xs : List Value} (h : w.ownsRow base e 1 (.slice A n c) n xs) : Fresh base A n := fun h0 => by
  rcases h.2 with ⟨_, h1⟩ | ⟨g, cap, cur, e1, hb, _⟩
  · omega
  · injection e1 with e2
    exact ⟨g, 0, e2, hb⟩
/-- A call has answered a number in new memory, and nothing that was there has changed. -/
def GotNF (w : World) (x : Nat) (e : Ending) (w' : World) : Prop := ∃ A n c, e = .returned (.slice A n c) ∧ Num w' A n c x ∧ Below w.heap.size w w' ∧ Fresh w.heap.size A n
theorem GotNF.weak {w w' : World} {x : Nat} {e : Ending} (h : GotNF w x e w') : GotN w x e w' := by
  obtain ⟨A, n, c, he, hl, hb, _⟩ := h
  exact ⟨A, n, c, he, hl, hb⟩
/-- Likewise, with a code. -/
def GotPF (w : World) (x : Nat) (r : Int) (e : Ending) (w' : World) : Prop := ∃ A n c, e = .returned (.tuple #[.slice A n c, .int .i64 r]) ∧ Num w' A n c x ∧ Below w.heap.size w w' ∧ Fresh w.heap.size A n
theorem GotPF.weak {w w' : World} {x : Nat} {r : Int} {e : Ending} (h : GotPF w x r e w') : GotP w x r e w' := by
  obtain ⟨A, n, c, he, hl, hb, _⟩ := h
  exact ⟨A, n, c, he, hl, hb⟩

theorem own_empty (w : World) (base : Nat) (h : base ≤ w.heap.size) : (w.alloc (.cells #[] 101)).ownsRow base 101 1 (.slice (some ⟨w.heap.size, 0, none⟩) 0 0) 0 [] :=
  ⟨rfl, .inr ⟨w.heap.size, 0, #[], rfl, h, heap_alloc_new w _, Nat.le_refl _, by unfold maxLen; omega, rfl, rfl⟩⟩

theorem encD_one (l : List Nat) : ∀ u ∈ l.map encD, u.oneCell' = true := fun u hu => by
  obtain ⟨x, _, rfl⟩ := List.mem_map.1 hu
  rfl

theorem bare_F (b off n c : Nat) (l : List Nat) (w : World) (h : Lim w.heap.size w (some ⟨b, off, none⟩) n c l) (hn : n ≤ 4294967296) (hc : ∀ j, j < n → w.cell? ⟨b, off + j, none⟩ = some (.int .u64 ((l[j]?.getD 0 : Nat) : Int))) (hb : 0 < n → b < w.heap.size) :
    Calls Tryz.prog 78 #[.slice (some ⟨b, off, none⟩) n c] w (GotNF w (val l)) := by
  obtain ⟨i0, hi, hz0, hz1, hz2⟩ := info_parts info24
  obtain ⟨hl, hcap, hdg, _⟩ := h
  have HL := Lib.hid hl
  clear hl
  go_enter Tryz.func78, Tryz.ntmps78
  go_wp2
  go_loop [3] (fun v => ∃ k : Nat, k ≤ n ∧ v = .int .i64 (k : Int) ∧ Hid (val (l.take k) = val l)) (fun v => (intOf v).toNat)
  case atStart => exact ⟨n, Nat.le_refl _, rfl, by rw [List.take_of_length_le (by have := HL.out; omega)]; exact Lib.hid rfl⟩
  case round =>
    obtain ⟨k, hk, rfl, hv⟩ := hrel
    by_cases hz : 0 < k ∧ l[k - 1]?.getD 0 = 0
    · obtain ⟨hk0, hz⟩ := hz
      obtain ⟨j, hj⟩ : ∃ j, k = j + 1 := ⟨k - 1, by omega⟩
      subst hj
      rw [Nat.add_sub_cancel] at hz
      have h1 := hc j (by omega)
      have hzb : (((l[j]?.getD 0 : Nat) : Int) == 0) = true := by simp [hz]
      have HZ := Lib.hid hz
      have HC := Lib.hid hc
      clear hz hc
      go_wp2
      go_round
      case rel => exact ⟨j, by omega, by go_num, Lib.hid (val_take_zero HZ.out hv.out)⟩
      case measure => simp [intOf]
    · have hne : 0 < k → l[k - 1]?.getD 0 ≠ 0 := fun h0 h1 => hz ⟨h0, h1⟩
      have ht := take_limbs hdg (by have := HL.out; omega) hv.out hne
      have HT := Lib.hid ht
      have hcells : ∀ (j : Nat) u, ((l.take k).map encD)[j]? = some u → (w.alloc (.cells #[] 101)).cell? ((⟨b, off, none⟩ : Addr).add j) = some u := by
        intro j u hu
        have hj : j < k := by
          have := (List.getElem?_eq_some_iff.1 hu).1
          simp at this; omega
        have hlj : j < l.length := by have := HL.out; omega
        have e1 : ((⟨b, off, none⟩ : Addr).add j) = ⟨b, off + j, none⟩ := by unfold Addr.add; split <;> simp_all
        rw [e1, World.cell?_alloc_lt w _ _ (hb (by omega)), hc j (by omega)]
        rw [List.getElem?_map, List.getElem?_take_of_lt hj, List.getElem?_eq_getElem hlj] at hu
        simp only [List.getElem?_eq_getElem hlj, Option.getD_some]
        exact hu
      have HCE := Lib.hid hcells
      have htest : (k = 0) ∨ (∃ j, k = j + 1 ∧ (((l[j]?.getD 0 : Nat) : Int) == 0) = false ∧ w.cell? ⟨b, off + j, none⟩ = some (.int .u64 ((l[j]?.getD 0 : Nat) : Int))) := by
        rcases Nat.eq_zero_or_pos k with h0 | h0
        · exact .inl h0
        · refine .inr ⟨k - 1, by omega, ?_, hc _ (by omega)⟩
          have := hne h0
          simp; omega
      have hlk : (l.take k).length = k := by rw [List.length_take, Nat.min_eq_left (by have := HL.out; omega)]
      have HLK := Lib.hid hlk
      clear hz hne ht hcells hc hlk
      rcases htest with rfl | ⟨j, rfl, hzb, h1⟩
      · go_wp2_with (at_builtin; go_must (refine wpList_append_own _ rfl _ _ 79 rfl w.heap.size 101 i0 (.int .u64 0) 1 8 Tryz.underlying79 hi hz0 hz1 hz2 rfl (by decide) _ _ _ rfl (own_empty w w.heap.size (Nat.le_refl _)) ⟨b, off, none⟩ (0) _ ((l.take (0)).map encD) rfl (by have := HLK.out; simp only [List.length_map]; omega) HCE.out (encD_one _) (by unfold maxLen; omega) (by omega) (by simp) ?_); intro v' w1 hown1 hgrow1 _)
        go_ret
        rw [List.nil_append] at hown1
        obtain ⟨A', c', rfl, hl'⟩ := isL_of_own hown1 (hdg.take _)
        have hfr := fresh_of_own hown1
        rw [HT.out] at hl'
        exact ⟨_, _, _, rfl, hl', ((Below.refl _ w).alloc (Nat.le_refl _) _).grown hgrow1 (by simp) (fun q e => by injection (show some w.heap.size = some q from e) with e1; omega), hfr⟩
      · go_wp2_with (at_builtin; go_must (refine wpList_append_own _ rfl _ _ 79 rfl w.heap.size 101 i0 (.int .u64 0) 1 8 Tryz.underlying79 hi hz0 hz1 hz2 rfl (by decide) _ _ _ rfl (own_empty w w.heap.size (Nat.le_refl _)) ⟨b, off, none⟩ (j + 1) _ ((l.take (j + 1)).map encD) rfl (by have := HLK.out; simp only [List.length_map]; omega) HCE.out (encD_one _) (by unfold maxLen; omega) (by omega) (by simp) ?_); intro v' w1 hown1 hgrow1 _)
        go_ret
        rw [List.nil_append] at hown1
        obtain ⟨A', c', rfl, hl'⟩ := isL_of_own hown1 (hdg.take _)
        have hfr := fresh_of_own hown1
        rw [HT.out] at hl'
        exact ⟨_, _, _, rfl, hl', ((Below.refl _ w).alloc (Nat.le_refl _) _).grown hgrow1 (by simp) (fun q e => by injection (show some w.heap.size = some q from e) with e1; omega), hfr⟩

theorem bare_any (b off n c : Nat) (l : List Nat) (w : World) (h : Lim w.heap.size w (some ⟨b, off, none⟩) n c l) (hn : n ≤ 4294967296) (hc : ∀ j, j < n → w.cell? ⟨b, off + j, none⟩ = some (.int .u64 ((l[j]?.getD 0 : Nat) : Int))) (hb : 0 < n → b < w.heap.size) :
    Calls Tryz.prog 78 #[.slice (some ⟨b, off, none⟩) n c] w (GotN w (val l)) := (bare_F b off n c l w h hn hc hb).mono fun _ _ h => h.weak

theorem lim_one {x : Nat} (hx : x < B64) (w : World) : Lim (w.alloc (.cells #[.int .u64 (x : Int)] 101)).heap.size (w.alloc (.cells #[.int .u64 (x : Int)] 101)) (some ⟨w.heap.size, 0, none⟩) 1 1 [x] := by
  refine ⟨rfl, Nat.le_refl _, Dig.cons hx Dig.nil, fun _ => ⟨_, _, rfl, by simp, fun j hj => ?_⟩⟩
  obtain rfl : j = 0 := by omega
  exact cell_one_new w _ 101 0 _ rfl

theorem GotN.from {w w1 : World} {x : Nat} {e : Ending} {w' : World} (h : GotN w1 x e w') (hb : Below w.heap.size w w1) : GotN w x e w' := by
  obtain ⟨A, n, c, he, hl, hb'⟩ := h
  exact ⟨A, n, c, he, hl, hb.trans (hb'.mono hb.size)⟩

theorem rof_N (w : World) (x : Nat) (hx : x < B64) : Calls Tryz.prog 66 #[.int .u64 (x : Int)] w (GotN w x) := by
  have hl := lim_one hx w
  have hv : val [x] = x := by simp [val_cons, val_nil]
  have hB := bare_any w.heap.size 0 1 1 [x] _ hl (by omega) (fun j hj => by
    obtain rfl : j = 0 := by omega
    exact cell_one_new w _ 101 0 _ rfl) (fun _ => by simp)
  rw [hv] at hB
  have HB := Lib.hid hB
  clear hB hl hv
  go_enter Tryz.func66, Tryz.ntmps66
  go_wp2_with fail
  refine HB.out.mono ?_
  rintro e w' h
  obtain ⟨A, n, c, rfl, hl, hb⟩ := h.from ((Below.refl _ w).alloc (Nat.le_refl _) _)
  go_wp2_with fail
  go_ret
  exact ⟨A, n, c, rfl, hl, hb⟩

end Go.Proofs.YtpidpebgeblenaaGreat

/-
  The contracts of the reference's at, halves and whole.
-/
namespace Go.Proofs.YtpidpebgeblenaaGreat
set_option maxRecDepth 100000
set_option maxHeartbeats 2000000
open Go.RowKit

theorem at_any (B : Nat) (A : Option Addr) (n c k : Nat) (l : List Nat) (w : World) (h : Lim B w A n c l) (hn : n ≤ 9223372036854775807) (hk : k ≤ 9223372036854775807) :
    Calls Tryz.prog 97 #[.slice A n c, .int .i64 k] w fun e w' => e = .returned (.int .u64 ((l[k]?.getD 0 : Nat) : Int)) ∧ w = w' := by
  obtain ⟨hl, hcap, hdg, hc⟩ := h
  by_cases hlt : k < n
  · obtain ⟨b, off, rfl, hb, hcell⟩ := hc (by omega)
    have h1 := hcell k hlt
    clear hcell hc hdg
    have HL := Lib.hid hl
    clear hl
    go_enter Tryz.func97, Tryz.ntmps97
    go_wp2
    go_ret
    exact ⟨rfl, rfl⟩
  · have hz : l[k]?.getD 0 = 0 := by rw [List.getElem?_eq_none (by omega)]; rfl
    have HZ := Lib.hid hz
    clear hc hdg hl hz
    go_enter Tryz.func97, Tryz.ntmps97
    go_wp2
    go_ret
    exact ⟨by rw [HZ.out]; rfl, rfl⟩

theorem tmod_lo (x : Nat) : ((x : Int)).tmod 4294967296 = (loH x : Int) := by
  unfold loH H32
  rw [Int.tmod_eq_emod_of_nonneg (by omega)]
  omega
theorem wrap_hi {x : Nat} (h : x < B64) : IntKind.u64.wrap ((x : Int) / 4294967296) = (hiH x : Int) := by
  rw [IntKind.wrap_u64]
  unfold hiH H32
  unfold B64 at h
  omega

theorem halves_any (A : Option Addr) (n c : Nat) (l : List Nat) (w : World) (h : Lim w.heap.size w A n c l) (hn : n ≤ 2147483648) :
    Calls Tryz.prog 76 #[.slice A n c] w fun e w' => ∃ A' c', e = .returned (.slice A' (2 * n) c') ∧ Lim w'.heap.size w' A' (2 * n) c' (halvesL l) ∧ Below w.heap.size w w' := by
  obtain ⟨i0, hi, hz0, hz1, hz2⟩ := info_parts info24
  have HL := Lib.hid h.1
  go_enter Tryz.func76, Tryz.ntmps76
  go_wp2
  go_loopw [3, 4] (fun ov iv wr => ∃ k : Nat, k ≤ n ∧ iv = .int .i64 (k : Int) ∧ wr.ownsRow w.heap.size 101 1 ov (2 * k) ((halvesL (l.take k)).map encD) ∧ Below w.heap.size w wr) (fun _ iv _ => n - (intOf iv).toNat)
  case atStart => exact ⟨0, Nat.zero_le _, rfl, own_empty w _ (Nat.le_refl _), (Below.refl _ w).alloc (Nat.le_refl _) _⟩
  case round =>
    obtain ⟨k, hk, rfl, hown, hbl⟩ := hrel
    by_cases hlt : k < n
    · obtain ⟨b, off, rfl, hb, hcell⟩ := (h.below hbl).2.2.2 (by omega)
      have h1 := hcell k hlt
      have hdk : l[k]?.getD 0 < B64 := h.2.2.1.get k
      clear hcell
      have HO := Lib.hid hown
      clear hown
      have hk0 : (0 : Int) ≤ (k : Int) := by omega
      have hkn : (k : Int) < (n : Int) := by omega
      go_wp2
      go_region_law ((refine step_append_lies _ rfl _ _ 78 rfl w.heap.size 101 i0 (.int .u64 0) 1 8 Tryz.underlying78 hi hz0 hz1 hz2 rfl (by decide) _ _ _ rfl ((HO.out.alloc _).drew) ⟨wr.heap.size, 0, none⟩ 2 2 [.int .u64 (((l[k]?.getD 0 : Nat) : Int).tmod 4294967296), .int .u64 (IntKind.u64.wrap (((l[k]?.getD 0 : Nat) : Int) / 4294967296))] rfl rfl (fun j u h => cell_two_new wr _ _ 101 j u h) (by simp [Value.oneCell']) (by omega) (by unfold maxLen; omega) (by omega) (by simp; have := hbl.size; omega) _ rfl ?_; intro g cap w1 hown1 hgrow1 hat hlt1))
      all_goals
        go_wp2
        go_roundw
        case rel =>
          refine ⟨k + 1, by omega, by go_num, ?_, ?_⟩
          · have e : halvesL (l.take (k + 1)) = halvesL (l.take k) ++ [loH (l[k]?.getD 0), hiH (l[k]?.getD 0)] := by
              have hkl : k < l.length := by have := HL.out; omega
              rw [List.take_succ_eq_append_getElem hkl, halvesL_snoc]
              simp [hkl]
            rw [e, List.map_append]
            rw [tmod_lo, wrap_hi hdk] at hown1
            exact hown1
          · exact (below_drewN (hbl.alloc hbl.size _) 1).grown hgrow1 (by simp; have := hbl.size; omega) (fun q e => (HO.out.lt q e).1)
        case measure => simp [intOf]; omega
    · obtain rfl : k = n := by omega
      go_wp2
      go_ret
      rw [List.take_of_length_le (by have := HL.out; omega)] at hown
      obtain ⟨A', c', rfl, hl'⟩ := isL_of_own hown (halvesL_dig h.2.2.1).dig
      exact ⟨A', c', rfl, hl', hbl⟩

end Go.Proofs.YtpidpebgeblenaaGreat
