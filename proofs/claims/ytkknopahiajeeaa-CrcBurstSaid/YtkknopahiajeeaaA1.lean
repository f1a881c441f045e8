/-
  Several texts in one: B1, RB, FrB, M12, C12a, C12b, JGa, JGb, JGc, JGd, JG.
-/
import Derived.WalkKit
import Derived.WalkSpells
import Derived.WalkLawsBesides
import Derived.Lib.Hide
import Derived.Lib.SliceRun
import Derived.Deep.RegionHeld3
import Derived.Deep.AppendLies
import Derived.Deep.QuietTactic
import Derived.Deep.DeepCutAuto
import Derived.Deep.CutBlock
import Derived.Deep.Draws
import Derived.Laws.OwnMore
import Derived.Below
import Derived.OpenShut
import Derived.Test.YtkknopahiajeeaaRows
import Derived.ProofKit
import Derived.ShutString
import Derived.ChangeOld
import Derived.Lib.SmallJoins
import Derived.SizedLaws
import Derived.Deep.WholeRow
import Derived.Laws.CopyOwn

/-
  Rows of integers: what a slice value reads as, what keeps it, what is answered; a row of the call's own.
-/
namespace Go.Proofs.Ytkknopahiajeeaa
set_option maxRecDepth 100000
open Go.RowKit
set_option linter.unusedVariables false

/-- An integer as a value. -/
def encI (z : Int) : Value := .int .i64 z
/-- What 64 bits hold. -/
def Fits (z : Int) : Prop := -9223372036854775808 ≤ z ∧ z ≤ 9223372036854775807
theorem Fits.wrap {z : Int} (h : Fits z) : IntKind.i64.wrap z = z := IntWalk.i64_in z h
theorem infoI : (Try.prog.info? 2).map (fun i => (i.zero, i.size, i.bytes)) = some (some (.int .i64 0), 1, 8) := by kernel_rfl

/-- The slice value '.slice A n c' holds the integers l. -/
def IR (w : World) (A : Option Addr) (n c : Nat) (l : List Int) : Prop :=
  n = l.length ∧ n ≤ c ∧ (0 < n → ∃ b off, A = some ⟨b, off, none⟩ ∧ b < w.heap.size ∧ ∀ j, j < n → w.cell? ⟨b, off + j, none⟩ = some (.int .i64 (l[j]?.getD 0)))
theorem IR.on {w w' : World} {A : Option Addr} {n c : Nat} {l : List Int} (h : IR w A n c l) (hb : Below w.heap.size w w') : IR w' A n c l :=
  ⟨h.1, h.2.1, fun hn => by
    obtain ⟨b, off, e, hlt, hc⟩ := h.2.2 hn
    exact ⟨b, off, e, Nat.lt_of_lt_of_le hlt hb.size, fun j hj => (hb.cell (p := ⟨b, off + j, none⟩) hlt).trans (hc j hj)⟩⟩
theorem IR.nil (w : World) (A : Option Addr) (c : Nat) : IR w A 0 c [] := ⟨rfl, Nat.zero_le _, fun h => absurd h (by omega)⟩
theorem IR.of_own {w : World} {base : Nat} {e : TypeId} {A : Option Addr} {n c : Nat} {l : List Int} (h : w.ownsRow base e 1 (.slice A n c) n (l.map encI)) : IR w A n c l := by
  have hl : n = l.length := by have := h.1; simp at this; omega
  refine ⟨hl, ?_, fun hn => ?_⟩
  · rcases h.2 with ⟨e1, h0⟩ | ⟨g, cap, cur, e1, _, _, hnc, _⟩
    · omega
    · injection e1 with _ _ e2; omega
  · have hlt := h.lt
    rcases h.2 with ⟨e1, h0⟩ | ⟨g, cap, cur, e1, _, _, hnc, _⟩
    · omega
    · injection e1 with e2 _ e3
      subst e2; subst e3
      refine ⟨g, 0, rfl, (hlt g rfl).2, fun j hj => ?_⟩
      have := h.cellAt j (by omega)
      rw [Nat.zero_add, this, List.getElem?_map, List.getElem?_eq_getElem (by omega)]
      simp [encI]

/-- A known value. -/
def GotV (w : World) (v : Value) (e : Ending) (w' : World) : Prop := e = .returned v ∧ Below w.heap.size w w'
/-- A row of integers. -/
def GotI (w : World) (l : List Int) (e : Ending) (w' : World) : Prop := ∃ A n c, e = .returned (.slice A n c) ∧ IR w' A n c l ∧ Below w.heap.size w w'
/-- A row of integers, and a code. -/
def GotIp (w : World) (l : List Int) (r : Int) (e : Ending) (w' : World) : Prop := ∃ A n c, e = .returned (.tuple #[.slice A n c, .int .i64 r]) ∧ IR w' A n c l ∧ Below w.heap.size w w'
end Go.Proofs.Ytkknopahiajeeaa

/-
  Rows of bytes: what a slice value reads as, what keeps it; a row of the call's own.
-/
namespace Go.Proofs.Ytkknopahiajeeaa
set_option maxRecDepth 100000
open Go.RowKit
set_option linter.unusedVariables false

theorem mem_at {α : Type} {L : List α} {d : α} {j : Nat} (h : j < L.length) : L[j]?.getD d ∈ L := by rw [List.getElem?_eq_getElem h]; exact List.getElem_mem h
theorem at_mem {α : Type} {L : List α} (d : α) {x : α} (h : x ∈ L) : ∃ j, j < L.length ∧ L[j]?.getD d = x := by
  obtain ⟨j, hj, e⟩ := List.mem_iff_getElem.1 h
  exact ⟨j, hj, by rw [List.getElem?_eq_getElem hj]; exact e⟩
theorem map_at {α β : Type} {L : List α} {f : α → β} {d : α} {e : β} {j : Nat} (h : j < L.length) : (L.map f)[j]?.getD e = f (L[j]?.getD d) := by
  rw [List.getElem?_map, List.getElem?_eq_getElem h]; rfl
/-- A byte as a value. -/
def encB (x : Nat) : Value := .int .u8 (x : Int)
/-- The slice value '.slice A n c' holds the bytes l. -/
def BR (w : World) (A : Option Addr) (n c : Nat) (l : List Nat) : Prop :=
  n = l.length ∧ n ≤ c ∧ (∀ x ∈ l, x < 256) ∧ (0 < n → ∃ b off, A = some ⟨b, off, none⟩ ∧ b < w.heap.size ∧ ∀ j, j < n → w.cell? ⟨b, off + j, none⟩ = some (.int .u8 ((l[j]?.getD 0 : Nat) : Int)))
theorem BR.on {w w' : World} {A : Option Addr} {n c : Nat} {l : List Nat} (h : BR w A n c l) (hb : Below w.heap.size w w') : BR w' A n c l :=
  ⟨h.1, h.2.1, h.2.2.1, fun hn => by
    obtain ⟨b, off, e, hlt, hc⟩ := h.2.2.2 hn
    exact ⟨b, off, e, Nat.lt_of_lt_of_le hlt hb.size, fun j hj => (hb.cell (p := ⟨b, off + j, none⟩) hlt).trans (hc j hj)⟩⟩
theorem BR.nil (w : World) (A : Option Addr) (c : Nat) : BR w A 0 c [] := ⟨rfl, Nat.zero_le _, fun _ h => by simp at h, fun h => absurd h (by omega)⟩
theorem BR.cell {w : World} {b off n c j : Nat} {l : List Nat} (h : BR w (some ⟨b, off, none⟩) n c l) (hj : j < n) : w.cell? ⟨b, off + j, none⟩ = some (.int .u8 ((l[j]?.getD 0 : Nat) : Int)) := by
  obtain ⟨b', off', e, hlt, hc⟩ := h.2.2.2 (by omega)
  injection e with e
  injection e with e1 e2
  subst e1
  subst e2
  exact hc j hj
theorem BR.some {w : World} {A : Option Addr} {n c : Nat} {l : List Nat} (h : BR w A n c l) (hn : 0 < n) : ∃ b off, A = some ⟨b, off, none⟩ ∧ b < w.heap.size := by
  obtain ⟨b, off, e, hlt, hc⟩ := h.2.2.2 hn
  exact ⟨b, off, e, hlt⟩
theorem BR.at {w : World} {A : Option Addr} {n c : Nat} {l : List Nat} (h : BR w A n c l) {j : Nat} (hj : j < n) : l[j]?.getD 0 < 256 := h.2.2.1 _ (mem_at (by rw [← h.1]; exact hj))
theorem infoB : (Try.prog.info? 5).map (fun i => (i.zero, i.size, i.bytes)) = some (some (.int .u8 0), 1, 1) := by kernel_rfl
theorem BR.of_own {w : World} {base : Nat} {e : TypeId} {A : Option Addr} {n c : Nat} {l : List Nat} (h : w.ownsRow base e 1 (.slice A n c) n (l.map encB)) (hl8 : ∀ x ∈ l, x < 256) : BR w A n c l := by
  have hl : n = l.length := by have := h.1; simp at this; omega
  refine ⟨hl, ?_, hl8, fun hn => ?_⟩
  · rcases h.2 with ⟨e1, h0⟩ | ⟨g, cap, cur, e1, _, _, hnc, _⟩
    · omega
    · injection e1 with _ _ e2; omega
  · have hlt := h.lt
    rcases h.2 with ⟨e1, h0⟩ | ⟨g, cap, cur, e1, _, _, hnc, _⟩
    · omega
    · injection e1 with e2 _ e3
      subst e2; subst e3
      refine ⟨g, 0, rfl, (hlt g rfl).2, fun j hj => ?_⟩
      have := h.cellAt j (by omega)
      rw [Nat.zero_add, this, List.getElem?_map, List.getElem?_eq_getElem (by omega)]
      simp [encB]
/-- A row of bytes is answered; with a code. -/
def GotB (w : World) (l : List Nat) (e : Ending) (w' : World) : Prop := ∃ A n c, e = .returned (.slice A n c) ∧ BR w' A n c l ∧ Below w.heap.size w w'
def GotBr (w : World) (l : List Nat) (r : Int) (e : Ending) (w' : World) : Prop := ∃ A n c, e = .returned (.tuple #[.slice A n c, .int .i64 r]) ∧ BR w' A n c l ∧ Below w.heap.size w w'
theorem addr_add (b o j : Nat) : (⟨b, o, none⟩ : Addr).add j = ⟨b, o + j, none⟩ := by unfold Addr.add; split; (rename_i h0; subst h0; rfl); rfl
/-- The cells of a row, as an append wants them. -/
theorem br_news {w W : World} {b off n c : Nat} {l : List Nat} (h : BR w (some ⟨b, off, none⟩) n c l) (hb : Below w.heap.size w W) : ∀ j u, (l.map encB)[j]? = some u → W.cell? ((⟨b, off, none⟩ : Addr).add j) = some u := by
  intro j u e
  rw [List.getElem?_map] at e
  rcases hj : l[j]? with _ | z
  · rw [hj] at e; cases e
  · rw [hj] at e; injection e with e
    have hlt : j < l.length := (List.getElem?_eq_some_iff.1 hj).1
    have h1 := (h.on hb).cell (j := j) (by rw [h.1]; exact hlt)
    rw [hj] at h1
    rw [← e, addr_add]
    exact h1
/-- Nothing is appended. -/
theorem run_append_zero {P : Program} (w : World) (t ty e : TypeId) (i : TypeInfo) (ht : P.underlying t = some (.slice e)) (hi : P.info? e = some i) (A B : Option Addr) (n c d : Nat) (hn : n ≤ c) :
    (Builtin.append_ #[t, t] ty #[.slice A n c, .slice B 0 d]).run P w = .ok (.slice A n c) w := by
  simp only [Builtin.append_]
  rcases A with _ | a <;> rcases B with _ | b <;> simp [run_underlying ht, sizeOf, typeInfo, hi, Builtin.firstCells, Builtin.lenOf, hn, storeCells, Result.andThen, go_sem]
theorem wpList_append_zero {P : Program} (w : World) {ops : Array Oper} {rest : List Oper} {o : Oper} {a : Act} {Q : Exit → Act → World → Prop} (hgd : o.guard = none) (s x : Operand) (t : TypeId)
    (ho : o.op = .call { callee := .builtin .append, args := #[s, x], argTypes := #[t, t] }) (e : TypeId) (i : TypeInfo) (ht : P.underlying t = some (.slice e)) (hi : P.info? e = some i)
    (A B : Option Addr) (n c d : Nat) (hs : a.eval s = .slice A n c) (hx : a.eval x = .slice B 0 d) (hn : n ≤ c)
    (h : wpList P ops Q rest (a.put o.dst (.slice A n c)) w) : wpList P ops Q (o :: rest) a w :=
  wpList_plain hgd fun K hK => by
    have hr := run_append_zero (P := P) w t o.type e i ht hi A B n c d hn
    unfold Oper.wp execOp
    simp only [ho, resolve, invoke, builtin, Sem.run_bind, Sem.run_pure, Result.andThen_ok, List.map_toArray, List.map_cons, List.map_nil, hs, hx, hr]
    exact hK _ _ h
end Go.Proofs.Ytkknopahiajeeaa

/-
  Rows of bytes that came in; small arrays of integers.
-/
namespace Go.Proofs.Ytkknopahiajeeaa
set_option maxRecDepth 100000
open Go.ChangeShapes Go.WideShapes Go.ChangeAt Go.RowKit Go.Joins

theorem cell_blockB {w : World} {b o : Nat} {v : Value} (h : w.cell? ⟨b, o, none⟩ = some v) : b < w.heap.size := by
  rcases Nat.lt_or_ge b w.heap.size with h1 | h1
  · exact h1
  · simp [World.cell?, Array.getElem?_eq_none h1] at h
theorem br_row {w : World} {a : Option Addr} {len cap : Nat} {zs : List Int}
    (h : (a = none ∧ len = 0 ∧ cap = 0 ∧ zs = []) ∨ ∃ x, a = some x ∧ len ≤ cap ∧ cap ≤ maxLen ∧ zs.length = cap ∧ (∀ i, i < zs.length → w.cell? (x.add i) = some (.int .u8 (zs.getD i 0))) ∧ ∀ n ∈ zs, (Lit.int .u8 n).wf = true) :
    ∃ l, BR w a len cap l ∧ len ≤ 9223372036854775807 := by
  rcases h with ⟨rfl, rfl, rfl, rfl⟩ | ⟨x, rfl, hl, hm, hz, hc, hw⟩
  · exact ⟨[], BR.nil _ _ _, by omega⟩
  · refine ⟨(zs.take len).map Int.toNat, ⟨by simp; omega, hl, ?_, fun h0 => ?_⟩, by unfold maxLen at hm; omega⟩
    · intro y hy
      obtain ⟨z, hz1, rfl⟩ := List.mem_map.1 hy
      have := bounds_u8 (hw z (List.mem_of_mem_take hz1))
      omega
    · obtain ⟨b, off, rfl, hcell⟩ := ints_at hc (by omega)
      refine ⟨b, off, rfl, cell_blockB (hcell 0 (by omega)), fun j hj => ?_⟩
      rw [hcell j (by omega)]
      have hb := bounds_u8 (hw (zs[j]'(by omega)) (List.getElem_mem _))
      have hj2 : j < zs.length := by omega
      rw [List.getElem?_map, List.getElem?_take_of_lt hj, List.getElem?_eq_getElem hj2]
      simp only [List.getD_eq_getElem?_getD, List.getElem?_eq_getElem hj2, Option.getD_some, Option.map_some]
      rw [Int.toNat_of_nonneg hb.1]
/-- How a row of that capacity is read. -/
def Read {H : Type} (cap : Nat) (d : DataW H) : Prop := cap = 0 ∨ ∃ es ss, d = .slice es ss ∧ es.length + ss.length = cap
section
variable {H : Type} {enc : TypeId × Value → H} {W : World} {base : Nat} {held : Bool} {v : Value} {y : DataW H × List MemPlace} {n : Nat}
theorem trod_u8s (h : DataW.trod enc Try.prog W base (fun _ => true) held n 23 [v] = some y) :
    ∃ (a : Option Addr) (len cap : Nat) (l : List Nat), v = .slice a len cap ∧ BR W a len cap l ∧ len ≤ 9223372036854775807 ∧ Read cap y.1 := by
  rcases open_ints Try.underlying23 Try.underlying5 (by kernel_rfl) h with ⟨hcs, _⟩ | ⟨x, l, c, zs, hcs, _, hl, hm, hz, hy, hcell, hwz⟩
  · injection hcs with hcs _
    subst hcs
    obtain ⟨l, hl, hn⟩ := br_row (w := W) (a := none) (len := 0) (cap := 0) (zs := []) (.inl ⟨rfl, rfl, rfl, rfl⟩)
    exact ⟨none, 0, 0, l, rfl, hl, hn, .inl rfl⟩
  · injection hcs with hcs _
    subst hcs
    have hz2 : zs.length = c := by simpa using hz
    obtain ⟨l', hl', hn'⟩ := br_row (w := W) (a := some x) (len := l) (cap := c) (zs := zs) (.inr ⟨x, rfl, hl, hm, hz2, hcell, hwz⟩)
    exact ⟨some x, l, c, l', rfl, hl', hn', .inr ⟨_, _, by rw [hy], by simp only [lits, List.length_map, List.length_take, List.length_drop]; omega⟩⟩
end
theorem open_bytes {H : Type} {enc : TypeId × Value → H} {W : World} {base b0 : Nat} {held : Bool} {r : Reach} {v : Value} {d : DataW H} {p : List MemPlace} (hv : Value.okWide Try.prog W r b0 23 v) (h : DataW.Trod enc Try.prog W base (fun _ => true) held 23 v d p) :
    ∃ (a : Option Addr) (len cap : Nat) (l : List Nat), v = .slice a len cap ∧ BR W a len cap l ∧ len ≤ 9223372036854775807 ∧ Read cap d := by
  obtain ⟨a, len, cap, rfl⟩ := okWide_slice Try.underlying23 hv
  obtain ⟨fuel, hf⟩ := h
  exact trod_u8s hf
/-- The form's own reach bounds a row that is read. -/
theorem read_reach {H : Type} {ts : List TypeId} {ds : List (DataW H)} (h : (DataW.weightsEach Try.prog ts ds).all (· ≤ reachBytes) = true) {j : Nat} {d : DataW H} {cap len : Nat} (ht : ts[j]? = some 23) (hd : ds[j]? = some d) (hr : Read cap d) (hl : len ≤ cap) : len ≤ 140737488351232 := by
  rcases hr with e | ⟨es, ss, rfl, e⟩
  · omega
  · have h1 := sized_slice h ht hd Try.underlying23
    have e1 : Try.prog.bytesOf 5 = 1 := by kernel_rfl
    rw [e1, e] at h1
    have h2 : reachBytes = 140737488351232 := by decide
    omega

set_option maxRecDepth 100000 in
theorem open_ar_u8_2 {H : Type} {enc : TypeId × Value → H} {W : World} {base b0 : Nat} {held : Bool} {r : Reach} {v : Value} {d : DataW H} {p : List MemPlace} (hv : Value.okWide Try.prog W r b0 41 v) (h : DataW.Trod enc Try.prog W base (fun _ => true) held 41 v d p) :
    ∃ a0 a1 : Int, v = .agg #[.int .u8 a0, .int .u8 a1] ∧ (Lit.int .u8 a0).wf = true ∧ (Lit.int .u8 a1).wf = true := by
  have hu : Try.prog.underlying 41 = some (.array 2 5) := Try.underlying41
  have e1 : Try.prog.cellsOf 5 = 1 := by kernel_rfl
  have e2 : Try.prog.cellsOf 41 = 2 := by kernel_rfl
  simp only [Value.okWide, hu] at hv
  obtain ⟨cs, rfl, hsz, _⟩ := hv
  obtain ⟨c0, c1, rfl⟩ : ∃ c0 c1, cs = #[c0, c1] := by
    obtain ⟨l⟩ := cs
    have h2 : l.length = 2 := hsz.trans e2
    match l, h2 with
    | [a0, a1], _ => exact ⟨a0, a1, rfl⟩
  obtain ⟨fuel, hf⟩ := h
  obtain ⟨xs, m, rfl, _, _, hxl, hel⟩ := DataW.trod_array hu hf
  obtain ⟨x0, x1, rfl⟩ : ∃ x0 x1, xs = [x0, x1] := by
    match xs, hxl with
    | [a0, a1], _ => exact ⟨a0, a1, rfl⟩
  have h0 := hel 0 (by omega)
  have h1 := hel 1 (by omega)
  rw [e1] at h0 h1
  obtain ⟨a0, k0, _, w0⟩ := DataW.trod_int Try.underlying5 h0
  obtain ⟨a1, k1, _, w1⟩ := DataW.trod_int Try.underlying5 h1
  injection k0 with k0 _
  injection k1 with k1 _
  subst k0 k1
  exact ⟨a0, a1, rfl, w0, w1⟩

set_option maxRecDepth 100000 in
theorem open_ar_u8_4 {H : Type} {enc : TypeId × Value → H} {W : World} {base b0 : Nat} {held : Bool} {r : Reach} {v : Value} {d : DataW H} {p : List MemPlace} (hv : Value.okWide Try.prog W r b0 43 v) (h : DataW.Trod enc Try.prog W base (fun _ => true) held 43 v d p) :
    ∃ a0 a1 a2 a3 : Int, v = .agg #[.int .u8 a0, .int .u8 a1, .int .u8 a2, .int .u8 a3] ∧ (Lit.int .u8 a0).wf = true ∧ (Lit.int .u8 a1).wf = true ∧ (Lit.int .u8 a2).wf = true ∧ (Lit.int .u8 a3).wf = true := by
  have hu : Try.prog.underlying 43 = some (.array 4 5) := Try.underlying43
  have e1 : Try.prog.cellsOf 5 = 1 := by kernel_rfl
  have e2 : Try.prog.cellsOf 43 = 4 := by kernel_rfl
  simp only [Value.okWide, hu] at hv
  obtain ⟨cs, rfl, hsz, _⟩ := hv
  obtain ⟨c0, c1, c2, c3, rfl⟩ : ∃ c0 c1 c2 c3, cs = #[c0, c1, c2, c3] := by
    obtain ⟨l⟩ := cs
    have h2 : l.length = 4 := hsz.trans e2
    match l, h2 with
    | [a0, a1, a2, a3], _ => exact ⟨a0, a1, a2, a3, rfl⟩
  obtain ⟨fuel, hf⟩ := h
  obtain ⟨xs, m, rfl, _, _, hxl, hel⟩ := DataW.trod_array hu hf
  obtain ⟨x0, x1, x2, x3, rfl⟩ : ∃ x0 x1 x2 x3, xs = [x0, x1, x2, x3] := by
    match xs, hxl with
    | [a0, a1, a2, a3], _ => exact ⟨a0, a1, a2, a3, rfl⟩
  have h0 := hel 0 (by omega)
  have h1 := hel 1 (by omega)
  have h2 := hel 2 (by omega)
  have h3 := hel 3 (by omega)
  rw [e1] at h0 h1 h2 h3
  obtain ⟨a0, k0, _, w0⟩ := DataW.trod_int Try.underlying5 h0
  obtain ⟨a1, k1, _, w1⟩ := DataW.trod_int Try.underlying5 h1
  obtain ⟨a2, k2, _, w2⟩ := DataW.trod_int Try.underlying5 h2
  obtain ⟨a3, k3, _, w3⟩ := DataW.trod_int Try.underlying5 h3
  injection k0 with k0 _
  injection k1 with k1 _
  injection k2 with k2 _
  injection k3 with k3 _
  subst k0 k1 k2 k3
  exact ⟨a0, a1, a2, a3, rfl, w0, w1, w2, w3⟩

set_option maxRecDepth 100000 in
theorem open_ar_u32_2 {H : Type} {enc : TypeId × Value → H} {W : World} {base b0 : Nat} {held : Bool} {r : Reach} {v : Value} {d : DataW H} {p : List MemPlace} (hv : Value.okWide Try.prog W r b0 38 v) (h : DataW.Trod enc Try.prog W base (fun _ => true) held 38 v d p) :
    ∃ a0 a1 : Int, v = .agg #[.int .u32 a0, .int .u32 a1] ∧ (Lit.int .u32 a0).wf = true ∧ (Lit.int .u32 a1).wf = true := by
  have hu : Try.prog.underlying 38 = some (.array 2 22) := Try.underlying38
  have e1 : Try.prog.cellsOf 22 = 1 := by kernel_rfl
  have e2 : Try.prog.cellsOf 38 = 2 := by kernel_rfl
  simp only [Value.okWide, hu] at hv
  obtain ⟨cs, rfl, hsz, _⟩ := hv
  obtain ⟨c0, c1, rfl⟩ : ∃ c0 c1, cs = #[c0, c1] := by
    obtain ⟨l⟩ := cs
    have h2 : l.length = 2 := hsz.trans e2
    match l, h2 with
    | [a0, a1], _ => exact ⟨a0, a1, rfl⟩
  obtain ⟨fuel, hf⟩ := h
  obtain ⟨xs, m, rfl, _, _, hxl, hel⟩ := DataW.trod_array hu hf
  obtain ⟨x0, x1, rfl⟩ : ∃ x0 x1, xs = [x0, x1] := by
    match xs, hxl with
    | [a0, a1], _ => exact ⟨a0, a1, rfl⟩
  have h0 := hel 0 (by omega)
  have h1 := hel 1 (by omega)
  rw [e1] at h0 h1
  obtain ⟨a0, k0, _, w0⟩ := DataW.trod_int Try.underlying22 h0
  obtain ⟨a1, k1, _, w1⟩ := DataW.trod_int Try.underlying22 h1
  injection k0 with k0 _
  injection k1 with k1 _
  subst k0 k1
  exact ⟨a0, a1, rfl, w0, w1⟩


end Go.Proofs.Ytkknopahiajeeaa

/-
  The checksum: a step is linear, keeps what is not nought, and takes its bytes as one number; numbers alone.
-/
namespace Go.Proofs.Ytkknopahiajeeaa
set_option linter.unusedVariables false
set_option linter.unusedSimpArgs false

/-- The exclusive-or of what is turned. -/
def PLY : Nat := 3988292384
def F32 : Nat := 4294967295
/-- A bit is taken off. -/
def fb (x : Nat) : Nat := x / 2 ^^^ (if x % 2 = 1 then PLY else 0)
def fbk : Nat → Nat → Nat
  | 0, x => x
  | k + 1, x => fbk k (fb x)
theorem xor_half (x y : Nat) : (x ^^^ y) / 2 = x / 2 ^^^ y / 2 := by
  apply Nat.eq_of_testBit_eq
  intro i
  rw [Nat.testBit_xor, Nat.testBit_div_two, Nat.testBit_div_two, Nat.testBit_div_two, Nat.testBit_xor]
theorem xor_odd (x y : Nat) : (x ^^^ y) % 2 = (x + y) % 2 := by
  have h : ∀ n : Nat, n % 2 = if n.testBit 0 then 1 else 0 := fun n => by
    rw [Nat.testBit_zero]
    by_cases h : n % 2 = 1
    · simp [h]
    · have : n % 2 = 0 := by omega
      simp [this]
  have e := h (x ^^^ y)
  rw [Nat.testBit_xor] at e
  have hx := h x
  have hy := h y
  rw [e]
  cases hx' : x.testBit 0 <;> cases hy' : y.testBit 0 <;> rw [hx'] at hx <;> rw [hy'] at hy <;> simp at hx hy ⊢ <;> omega
theorem fb_xor (x y : Nat) : fb (x ^^^ y) = fb x ^^^ fb y := by
  unfold fb
  rw [xor_half, xor_odd]
  rcases Nat.mod_two_eq_zero_or_one x with hx | hx <;> rcases Nat.mod_two_eq_zero_or_one y with hy | hy
  · rw [if_neg (by omega), if_neg (by omega), if_neg (by omega)]; simp
  · rw [if_pos (by omega), if_neg (by omega), if_pos hy, Nat.xor_zero, Nat.xor_assoc]
  · rw [if_pos (by omega), if_pos hx, if_neg (by omega), Nat.xor_zero, Nat.xor_assoc, Nat.xor_assoc, Nat.xor_comm PLY]
  · rw [if_neg (by omega), if_pos hx, if_pos hy, Nat.xor_zero, Nat.xor_assoc, ← Nat.xor_assoc PLY, Nat.xor_comm PLY (y / 2), Nat.xor_assoc (y / 2), Nat.xor_self, Nat.xor_zero]
theorem fbk_xor (k x y : Nat) : fbk k (x ^^^ y) = fbk k x ^^^ fbk k y := by
  induction k generalizing x y with
  | zero => rfl
  | succ k ih => show fbk k (fb (x ^^^ y)) = _; rw [fb_xor, ih]; rfl
theorem fbk_add (k m x : Nat) : fbk (k + m) x = fbk m (fbk k x) := by
  induction k generalizing x with
  | zero => rw [Nat.zero_add]; rfl
  | succ k ih => rw [Nat.succ_add]; exact ih (fb x)
theorem fb_even (y : Nat) : fb (2 * y) = y := by unfold fb; rw [if_neg (by omega), Nat.xor_zero]; omega
theorem fbk_shift (k y : Nat) : fbk k (2 ^ k * y) = y := by
  induction k generalizing y with
  | zero => show 1 * y = y; omega
  | succ k ih => show fbk k (fb (2 ^ (k + 1) * y)) = y; rw [show 2 ^ (k + 1) * y = 2 * (2 ^ k * y) by rw [Nat.pow_succ]; ac_rfl, fb_even]; exact ih y
theorem fbk_zero (k : Nat) : fbk k 0 = 0 := by have := fbk_shift k 0; rwa [Nat.mul_zero] at this
theorem fb_lt {x : Nat} (h : x < 4294967296) : fb x < 4294967296 := by
  unfold fb
  refine Nat.xor_lt_two_pow (n := 32) (by omega) ?_
  split
  · decide
  · decide
theorem fb_ne {x : Nat} (h : x < 4294967296) (h0 : x ≠ 0) : fb x ≠ 0 := by
  unfold fb
  intro e
  have e2 : x / 2 = (if x % 2 = 1 then PLY else 0) := by
    have := congrArg (fun t => t ^^^ (if x % 2 = 1 then PLY else 0)) e
    simpa [Nat.xor_assoc] using this
  by_cases ho : x % 2 = 1
  · rw [if_pos ho] at e2; unfold PLY at e2; omega
  · rw [if_neg ho] at e2; omega
theorem fbk_lt {x : Nat} (h : x < 4294967296) (k : Nat) : fbk k x < 4294967296 := by
  induction k generalizing x with
  | zero => exact h
  | succ k ih => exact ih (fb_lt h)
theorem fbk_ne {x : Nat} (h : x < 4294967296) (h0 : x ≠ 0) (k : Nat) : fbk k x ≠ 0 := by
  induction k generalizing x with
  | zero => exact h0
  | succ k ih => exact ih (fb_lt h) (fb_ne h h0)
theorem xor_eq_zero' {x y : Nat} (h : x ^^^ y = 0) : x = y := by
  have := congrArg (fun t => t ^^^ y) h
  simpa [Nat.xor_assoc] using this
theorem fbk_inj {x y : Nat} (hx : x < 4294967296) (hy : y < 4294967296) {k : Nat} (h : fbk k x = fbk k y) : x = y := by
  have hz : fbk k (x ^^^ y) = 0 := by rw [fbk_xor, h, Nat.xor_self]
  have hl : x ^^^ y < 4294967296 := Nat.xor_lt_two_pow (n := 32) hx hy
  by_cases h0 : x ^^^ y = 0
  · exact xor_eq_zero' h0
  · exact absurd hz (fbk_ne hl h0 k)
/-- A step with a byte; with many. -/
def stp (s c : Nat) : Nat := fbk 8 (s ^^^ c)
def onR (s : Nat) : List Nat → Nat
  | [] => s
  | c :: l => onR (stp s c) l
theorem onR_append (s : Nat) (l m : List Nat) : onR s (l ++ m) = onR (onR s l) m := by
  induction l generalizing s with
  | nil => rfl
  | cons c l ih => exact ih (stp s c)
theorem stp_lt {s c : Nat} (hs : s < 4294967296) (hc : c < 256) : stp s c < 4294967296 := fbk_lt (Nat.xor_lt_two_pow (n := 32) hs (by omega)) 8
theorem onR_lt {s : Nat} {l : List Nat} (hs : s < 4294967296) (hl : ∀ c ∈ l, c < 256) : onR s l < 4294967296 := by
  induction l generalizing s with
  | nil => exact hs
  | cons c l ih => exact ih (stp_lt hs (hl c (by simp))) (fun x hx => hl x (by simp [hx]))
theorem xor4 (a b c d : Nat) : a ^^^ b ^^^ (c ^^^ d) = a ^^^ c ^^^ (b ^^^ d) := by
  rw [Nat.xor_assoc, Nat.xor_assoc, ← Nat.xor_assoc b, Nat.xor_comm b c, Nat.xor_assoc c]
theorem stp_xor (s t c d : Nat) : stp (s ^^^ t) (c ^^^ d) = stp s c ^^^ stp t d := by unfold stp; rw [xor4, fbk_xor]
theorem onR_xor : ∀ {l m : List Nat} (s t : Nat), l.length = m.length → onR (s ^^^ t) (l.zipWith (· ^^^ ·) m) = onR s l ^^^ onR t m
  | [], [], s, t, _ => rfl
  | c :: l, d :: m, s, t, h => by
    show onR (stp (s ^^^ t) (c ^^^ d)) _ = _
    rw [stp_xor]
    exact onR_xor _ _ (by simpa using h)
  | [], _ :: _, _, _, h => by simp at h
  | _ :: _, [], _, _, h => by simp at h
/-- The bytes of a number, the lowest first. -/
def leB : Nat → Nat → List Nat
  | 0, _ => []
  | m + 1, N => N % 256 :: leB m (N / 256)
theorem leB_len (m N : Nat) : (leB m N).length = m := by induction m generalizing N with | zero => rfl | succ m ih => simp [leB, ih]
theorem leB_lt (m N : Nat) : ∀ c ∈ leB m N, c < 256 := by
  induction m generalizing N with
  | zero => intro c hc; cases hc
  | succ m ih =>
    intro c hc
    rcases List.mem_cons.1 hc with rfl | h
    · omega
    · exact ih _ c h
theorem xor_low (q r : Nat) (h : r < 256) : 256 * q ^^^ r = 256 * q + r := by
  have := Nat.two_pow_add_eq_or_of_lt (i := 8) (b := r) (by simpa using h) q
  rw [show (2 : Nat) ^ 8 = 256 from rfl] at this
  rw [this]
  apply Nat.eq_of_testBit_eq
  intro i
  rw [Nat.testBit_xor, Nat.testBit_or]
  rcases Nat.lt_or_ge i 8 with hi | hi
  · have : (256 * q).testBit i = false := by rw [show 256 * q = 2 ^ 8 * q from rfl, Nat.testBit_two_pow_mul]; simp; omega
    rw [this]; simp
  · have : r.testBit i = false := Nat.testBit_lt_two_pow (Nat.lt_of_lt_of_le h (by have := Nat.pow_le_pow_right (n := 2) (by omega) hi; simpa using this))
    rw [this]; simp
/-- The bytes are taken as one number. -/
theorem onR_leB (m s N : Nat) (h : N < 256 ^ m) : onR s (leB m N) = fbk (8 * m) (s ^^^ N) := by
  induction m generalizing s N with
  | zero =>
    have : N = 0 := by simp at h; exact h
    subst this
    show s = s ^^^ 0
    rw [Nat.xor_zero]
  | succ m ih =>
    show onR (stp s (N % 256)) (leB m (N / 256)) = _
    rw [ih _ _ (by rw [Nat.pow_succ] at h; omega)]
    have e : N = 256 * (N / 256) ^^^ N % 256 := by rw [xor_low _ _ (Nat.mod_lt _ (by omega))]; omega
    have e2 : fbk (8 * (m + 1)) (s ^^^ N) = fbk (8 * m) (fbk 8 (s ^^^ N)) := by rw [← fbk_add]; congr 1; omega
    rw [e2]
    congr 1
    have e3 : s ^^^ N = s ^^^ N % 256 ^^^ 2 ^ 8 * (N / 256) := by
      rw [Nat.xor_assoc, Nat.xor_comm (N % 256)]
      exact congrArg (fun t => s ^^^ t) e
    rw [e3, fbk_xor, fbk_shift]
    rfl
theorem onR_zeros (k s : Nat) : onR s (List.replicate k 0) = fbk (8 * k) s := by
  induction k generalizing s with
  | zero => rfl
  | succ k ih =>
    show onR (stp s 0) (List.replicate k 0) = _
    rw [ih]
    unfold stp
    rw [Nat.xor_zero, ← fbk_add]
    congr 1
    omega
/-- The checksum, gone on. -/
def crcOn (sum : Nat) (l : List Nat) : Nat := F32 - onR (F32 - sum) l
theorem xor_full {x : Nat} (h : x < 4294967296) : x ^^^ F32 = F32 - x := by
  apply Nat.eq_of_testBit_eq
  intro i
  have e : F32 - x = 2 ^ 32 - (x + 1) := by unfold F32; omega
  rw [Nat.testBit_xor, e, Nat.testBit_two_pow_sub_succ h]
  have f : F32.testBit i = decide (i < 32) := by
    rw [show F32 = 2 ^ 32 - 1 from rfl, Nat.testBit_two_pow_sub_one]
  rw [f]
  rcases Nat.lt_or_ge i 32 with hi | hi
  · simp [hi]
  · have : x.testBit i = false := Nat.testBit_lt_two_pow (Nat.lt_of_lt_of_le h (by have := Nat.pow_le_pow_right (n := 2) (by omega) hi; simpa using this))
    rw [this]; simp [Nat.not_lt.2 hi]
theorem full_xor {x : Nat} (h : x < 4294967296) : F32 - x = x ^^^ F32 := (xor_full h).symm
theorem crcOn_lt {sum : Nat} (l : List Nat) : crcOn sum l < 4294967296 := by unfold crcOn F32; omega
theorem xor_cancel (a b : Nat) : a ^^^ (a ^^^ b) = b := by rw [← Nat.xor_assoc, Nat.xor_self, Nat.zero_xor]
/-- Bytes with their checksum. -/
def putB (l : List Nat) : List Nat := l ++ leB 4 (crcOn 0 l)
theorem putB_len (l : List Nat) : (putB l).length = l.length + 4 := by unfold putB; rw [List.length_append, leB_len]
theorem putB_lt {l : List Nat} (h : ∀ c ∈ l, c < 256) : ∀ c ∈ putB l, c < 256 := by
  intro c hc
  rcases List.mem_append.1 hc with h1 | h1
  · exact h c h1
  · exact leB_lt _ _ c h1
theorem onR_put {l : List Nat} (h : ∀ c ∈ l, c < 256) : onR F32 (putB l) = fbk 32 F32 := by
  have hR : onR F32 l < 4294967296 := onR_lt (by decide) h
  unfold putB
  rw [onR_append, onR_leB 4 _ _ (crcOn_lt l)]
  congr 1
  show onR F32 l ^^^ (F32 - onR (F32 - 0) l) = F32
  rw [Nat.sub_zero, full_xor hR, xor_cancel]
/-- What a burst of at most 32 bits changes is not nought. -/
theorem burst_ne {u k : Nat} (h0 : u ≠ 0) (hu : u < 4294967296) (hk : k < 8) (a r : Nat) : onR 0 (List.replicate a 0 ++ leB 5 (2 ^ k * u) ++ List.replicate r 0) ≠ 0 := by
  rw [onR_append, onR_append, onR_zeros, onR_zeros, fbk_zero]
  have hn : 2 ^ k * u < 256 ^ 5 := by
    have h1 : 2 ^ k ≤ 2 ^ 7 := Nat.pow_le_pow_right (by omega) (by omega)
    have h2 : 2 ^ k * u ≤ 2 ^ 7 * u := Nat.mul_le_mul_right _ h1
    have h3 : (256 : Nat) ^ 5 = 1099511627776 := by decide
    have h4 : (2 : Nat) ^ 7 = 128 := by decide
    omega
  rw [onR_leB 5 _ _ hn, Nat.zero_xor]
  have e : fbk (8 * 5) (2 ^ k * u) = fbk (40 - k) u := by
    rw [show 8 * 5 = k + (40 - k) by omega, fbk_add, fbk_shift]
  rw [e]
  exact fbk_ne (fbk_lt hu _) (fbk_ne hu h0 _) _
theorem burst_out {l e : List Nat} (hl : ∀ c ∈ l, c < 256) (he : e.length = (putB l).length) (h0 : onR 0 e ≠ 0) : ∀ m, List.zipWith (· ^^^ ·) (putB l) e = putB m → (∀ c ∈ m, c < 256) → False := by
  intro m hm hb
  have h1 := onR_put hb
  rw [← hm] at h1
  have h2 := onR_xor (l := putB l) (m := e) F32 0 he.symm
  rw [Nat.xor_zero, h1, onR_put hl] at h2
  apply h0
  have := congrArg (fun t => fbk 32 F32 ^^^ t) h2
  simp only [Nat.xor_self, xor_cancel] at this
  exact this.symm
/-- What is cut, and the error. -/
def cutB (y : List Nat) : List Nat := if y.length < 4 then [] else if y = putB (y.take (y.length - 4)) then y.take (y.length - 4) else []
def cutE (y : List Nat) : Int := if y.length < 4 then 3 else if y = putB (y.take (y.length - 4)) then 0 else 8
theorem cut_put {y l : List Nat} (h : y = putB l) : cutB y = l ∧ cutE y = 0 := by
  have hl : y.length = l.length + 4 := by rw [h, putB_len]
  have h4 : ¬ y.length < 4 := by omega
  have ht : y.take (y.length - 4) = l := by rw [hl, h]; unfold putB; rw [show l.length + 4 - 4 = l.length by omega, List.take_left]
  unfold cutB cutE
  rw [ht, if_neg h4, if_pos h, if_neg h4, if_pos h]
  exact ⟨rfl, rfl⟩
theorem cut_not {y : List Nat} (h4 : 4 ≤ y.length) (h : ∀ l, y = putB l → False) : cutB y = [] ∧ cutE y = 8 := by
  have h5 : ¬ y.length < 4 := by omega
  unfold cutB cutE
  rw [if_neg h5, if_neg (fun e => h _ e), if_neg h5, if_neg (fun e => h _ e)]
  exact ⟨rfl, rfl⟩
theorem cut_short {y : List Nat} (h4 : y.length < 4) : cutB y = [] ∧ cutE y = 3 := by
  unfold cutB cutE
  rw [if_pos h4, if_pos h4]
  exact ⟨rfl, rfl⟩
/-- A checksum that is gone on with. -/
theorem crcOn_app (s : Nat) (l m : List Nat) (hs : F32 - s < 4294967296) (hl : ∀ c ∈ l, c < 256) : crcOn (crcOn s l) m = crcOn s (l ++ m) := by
  unfold crcOn
  have h := onR_lt hs hl
  rw [onR_append]
  congr 2
  unfold F32 at *
  omega
/-- A step is told by the table. -/
theorem stp_table {R c : Nat} (hc : c < 256) : stp R c = R / 256 ^^^ stp 0 ((R % 256) ^^^ c) := by
  unfold stp
  rw [Nat.zero_xor]
  have e : R ^^^ c = 2 ^ 8 * (R / 256) ^^^ (R % 256 ^^^ c) := by
    rw [← Nat.xor_assoc]
    have := xor_low (R / 256) (R % 256) (Nat.mod_lt _ (by omega))
    rw [show (2 : Nat) ^ 8 = 256 from rfl, this]
    congr 1
    omega
  rw [e, fbk_xor, fbk_shift]
theorem stp_two (c d : Nat) : stp 0 (c ^^^ d) = stp 0 c ^^^ stp 0 d := by have := stp_xor 0 0 c d; rwa [Nat.xor_self] at this
theorem stp_zero : stp 0 0 = 0 := by unfold stp; rw [Nat.xor_self]; exact fbk_zero 8
/-- Of two rows as long. -/
theorem crc_line {l m : List Nat} (h : l.length = m.length) (hl : ∀ c ∈ l, c < 256) (hm : ∀ c ∈ m, c < 256) : crcOn 0 (l.zipWith (· ^^^ ·) m) ^^^ crcOn 0 l ^^^ crcOn 0 m = crcOn 0 (List.replicate l.length 0) := by
  have hz : ∀ c ∈ List.zipWith (· ^^^ ·) l m, c < 256 := by
    intro c hc
    obtain ⟨i, hi, rfl⟩ := List.mem_iff_getElem.1 hc
    rw [List.getElem_zipWith]
    exact Nat.xor_lt_two_pow (n := 8) (hl _ (List.getElem_mem _)) (hm _ (List.getElem_mem _))
  have h0 : ∀ c ∈ List.replicate l.length 0, c < 256 := fun c hc => by rw [(List.mem_replicate.1 hc).2]; omega
  unfold crcOn
  rw [Nat.sub_zero, full_xor (onR_lt (by decide) hz), full_xor (onR_lt (by decide) hl), full_xor (onR_lt (by decide) hm), full_xor (onR_lt (by decide) h0)]
  have e1 := onR_xor F32 0 h
  rw [Nat.xor_zero] at e1
  have e2 : onR 0 m = onR F32 m ^^^ onR F32 (List.replicate m.length 0) := by
    have := onR_xor (l := m) (m := List.replicate m.length 0) F32 F32 (by simp)
    rw [Nat.xor_self] at this
    rw [← this]
    congr 1
    apply List.ext_getElem
    · simp
    · intro i h1 h2; rw [List.getElem_zipWith, List.getElem_replicate, Nat.xor_zero]
  rw [e1, e2, ← h]
  generalize onR F32 l = a
  generalize onR F32 m = b
  generalize onR F32 (List.replicate l.length 0) = z
  apply Nat.eq_of_testBit_eq
  intro i
  simp only [Nat.testBit_xor]
  cases a.testBit i <;> cases b.testBit i <;> cases z.testBit i <;> cases F32.testBit i <;> rfl
/-- A row of bytes whose five places from p on are changed one by one. -/
def KX (P : List Nat) (p N : Nat) : Nat → List Nat
  | 0 => P
  | i + 1 => (KX P p N i).set (p + i) ((KX P p N i)[p + i]?.getD 0 ^^^ (N / 256 ^ i % 256))
theorem KX_len (P : List Nat) (p N i : Nat) : (KX P p N i).length = P.length := by
  induction i with
  | zero => rfl
  | succ i ih => show (List.set _ _ _).length = _; rw [List.length_set, ih]
theorem KX_at (P : List Nat) (p N i j : Nat) (hj : j < P.length) : (KX P p N i)[j]?.getD 0 = if p ≤ j ∧ j < p + i then P[j]?.getD 0 ^^^ (N / 256 ^ (j - p) % 256) else P[j]?.getD 0 := by
  induction i with
  | zero => rw [if_neg (by omega)]; rfl
  | succ i ih =>
    show ((KX P p N i).set (p + i) _)[j]?.getD 0 = _
    by_cases e : p + i = j
    · subst e
      rw [List.getElem?_set_self (by rw [KX_len]; exact hj), if_pos (by omega), Option.getD_some, ih, if_neg (by omega), show p + i - p = i by omega]
    · rw [List.getElem?_set_ne e, ih]
      by_cases h : p ≤ j ∧ j < p + i
      · rw [if_pos h, if_pos (by omega)]
      · rw [if_neg h, if_neg (by omega)]
theorem KX_lt {P : List Nat} (h : ∀ c ∈ P, c < 256) (p N i : Nat) : ∀ c ∈ KX P p N i, c < 256 := by
  intro c hc
  obtain ⟨j, hj, rfl⟩ := List.mem_iff_getElem.1 hc
  have hj2 : j < P.length := by rw [KX_len] at hj; exact hj
  have e := KX_at P p N i j hj2
  rw [List.getElem?_eq_getElem hj, List.getElem?_eq_getElem hj2] at e
  simp only [Option.getD_some] at e
  rw [e]
  have h1 := h _ (List.getElem_mem hj2)
  split
  · exact Nat.xor_lt_two_pow (n := 8) h1 (Nat.mod_lt _ (by omega))
  · exact h1
theorem leB_get (m N j : Nat) (h : j < m) : (leB m N)[j]?.getD 0 = N / 256 ^ j % 256 := by
  induction m generalizing N j with
  | zero => omega
  | succ m ih =>
    rcases j with _ | j
    · show N % 256 = N / 256 ^ 0 % 256; simp
    · show (leB m (N / 256))[j]?.getD 0 = _
      rw [ih _ _ (by omega), Nat.div_div_eq_div_mul, Nat.pow_succ, Nat.mul_comm]
theorem KX_burst {P : List Nat} {p N r : Nat} (h : P.length = p + 5 + r) : KX P p N 5 = List.zipWith (· ^^^ ·) P (List.replicate p 0 ++ leB 5 N ++ List.replicate r 0) := by
  have hel : (List.replicate p 0 ++ leB 5 N ++ List.replicate r 0).length = P.length := by simp [leB_len]; omega
  refine List.ext_getElem (by rw [KX_len, List.length_zipWith, hel]; simp) fun j h1 h2 => ?_
  have hj : j < P.length := by rw [KX_len] at h1; exact h1
  have e := KX_at P p N 5 j hj
  rw [List.getElem?_eq_getElem h1, List.getElem?_eq_getElem hj] at e
  simp only [Option.getD_some] at e
  rw [e, List.getElem_zipWith]
  by_cases c : p ≤ j ∧ j < p + 5
  · rw [if_pos c]
    congr 1
    have g := leB_get 5 N (j - p) (by omega)
    rw [List.getElem?_eq_getElem (by rw [leB_len]; omega)] at g
    simp only [Option.getD_some] at g
    rw [← g, List.getElem_append_left (by simp [leB_len]; omega), List.getElem_append_right (by simp; omega)]
    congr 1
    simp
  · rw [if_neg c]
    have g : (List.replicate p 0 ++ leB 5 N ++ List.replicate r 0)[j]'(by rw [hel]; exact hj) = 0 := by
      rcases Nat.lt_or_ge j p with e1 | e1
      · rw [List.getElem_append_left (by simp [leB_len]; omega), List.getElem_append_left (by simp; omega)]; simp
      · rw [List.getElem_append_right (by simp [leB_len]; omega)]; simp
    rw [g, Nat.xor_zero]
/-- A burst is found. -/
theorem burst_cut {l : List Nat} (hl : ∀ c ∈ l, c < 256) {p r u k : Nat} (h : l.length + 4 = p + 5 + r) (h0 : u ≠ 0) (hu : u < 4294967296) (hk : k < 8) : cutB (KX (putB l) p (2 ^ k * u) 5) = [] ∧ cutE (KX (putB l) p (2 ^ k * u) 5) = 8 := by
  have hP : (putB l).length = p + 5 + r := by rw [putB_len]; exact h
  refine cut_not (by rw [KX_len, hP]; omega) fun m hm => ?_
  refine burst_out hl (e := List.replicate p 0 ++ leB 5 (2 ^ k * u) ++ List.replicate r 0) (by simp [leB_len]; omega) (burst_ne h0 hu hk p r) m (by rw [← KX_burst hP]; exact hm) ?_
  have hlt := KX_lt (putB_lt hl) p (2 ^ k * u) 5
  intro c hc
  exact hlt c (by rw [hm]; exact List.mem_append.2 (.inl hc))
/-- A row of noughts whose first places are set one by one. -/
def XL (l m : List Nat) : Nat → List Nat
  | 0 => List.replicate l.length 0
  | i + 1 => (XL l m i).set i (l[i]?.getD 0 ^^^ m[i]?.getD 0)
theorem XL_len (l m : List Nat) (i : Nat) : (XL l m i).length = l.length := by
  induction i with
  | zero => simp [XL]
  | succ i ih => show (List.set _ _ _).length = _; rw [List.length_set, ih]
theorem XL_at (l m : List Nat) (i j : Nat) (hj : j < l.length) : (XL l m i)[j]?.getD 0 = if j < i then l[j]?.getD 0 ^^^ m[j]?.getD 0 else 0 := by
  induction i with
  | zero => rw [if_neg (by omega)]; simp [XL, List.getElem?_replicate, hj]
  | succ i ih =>
    show ((XL l m i).set i _)[j]?.getD 0 = _
    by_cases e : i = j
    · subst e; rw [List.getElem?_set_self (by rw [XL_len]; exact hj), if_pos (by omega), Option.getD_some]
    · rw [List.getElem?_set_ne e, ih]
      by_cases h : j < i
      · rw [if_pos h, if_pos (by omega)]
      · rw [if_neg h, if_neg (by omega)]
theorem XL_zip {l m : List Nat} (h : l.length = m.length) : XL l m l.length = List.zipWith (· ^^^ ·) l m := by
  refine List.ext_getElem (by rw [XL_len, List.length_zipWith]; omega) fun j h1 h2 => ?_
  have hj : j < l.length := by rw [XL_len] at h1; exact h1
  have e := XL_at l m l.length j hj
  rw [if_pos hj, List.getElem?_eq_getElem h1, List.getElem?_eq_getElem hj, List.getElem?_eq_getElem (by omega)] at e
  simp only [Option.getD_some] at e
  rw [e, List.getElem_zipWith]
theorem zip_lt {l m : List Nat} (hl : ∀ c ∈ l, c < 256) (hm : ∀ c ∈ m, c < 256) : ∀ c ∈ List.zipWith (· ^^^ ·) l m, c < 256 := by
  intro c hc
  obtain ⟨i, hi, rfl⟩ := List.mem_iff_getElem.1 hc
  rw [List.getElem_zipWith]
  exact Nat.xor_lt_two_pow (n := 8) (hl _ (List.getElem_mem _)) (hm _ (List.getElem_mem _))
end Go.Proofs.Ytkknopahiajeeaa

/-
  The contracts of the twelfth reference: Step, On, Of, Same.
-/
namespace Go.Proofs.Ytkknopahiajeeaa
set_option maxRecDepth 100000
open Go.RowKit
set_option linter.unusedVariables false
set_option linter.unusedSimpArgs false

theorem fbk_succ (k x : Nat) : fbk (k + 1) x = fb (fbk k x) := by rw [fbk_add]; rfl
theorem onR_take (s : Nat) (l : List Nat) (i : Nat) (h : i < l.length) : onR s (l.take (i + 1)) = stp (onR s (l.take i)) (l[i]?.getD 0) := by
  rw [List.take_add_one, List.getElem?_eq_getElem h, onR_append]; rfl
theorem take_lt {l : List Nat} (h : ∀ c ∈ l, c < 256) (i : Nat) : ∀ c ∈ l.take i, c < 256 := fun c hc => h c (List.mem_of_mem_take hc)

set_option maxRecDepth 100000 in
set_option maxHeartbeats 8000000 in
theorem rStep_N (w : World) {s c : Nat} (hs : s < 4294967296) (hc : c < 256) :
    Calls Try.prog 12 #[.int .u32 (s : Int), .int .u8 (c : Int)] w (GotV w (.int .u32 ((stp s c : Nat) : Int))) := by
  have hx0 : bits .xor .u32 (s : Int) (c : Int) = ((s ^^^ c : Nat) : Int) := u32_xor_nat s c hs (by omega)
  have hx : s ^^^ c < 4294967296 := Nat.xor_lt_two_pow (n := 32) hs (by omega)
  have hc3 : IntKind.u32.wrap (c : Int) = (c : Int) := by rw [IntKind.wrap_u32]; omega
  unfold stp
  generalize s ^^^ c = x at *
  have HX := Lib.hid hx
  clear hs hx hc
  have cc := Below.refl w.heap.size w
  go_enter Try.func12, Try.ntmps12
  go_wp2_with fail
  go_loopw [5, 6] (fun nv iv wr => ∃ i : Nat, i ≤ 8 ∧ iv = .int .i64 (i : Int) ∧ nv = .int .u32 ((fbk i x : Nat) : Int) ∧ Below w.heap.size w wr) (fun _ iv _ => 8 - (intOf iv).toNat)
  case atStart => exact ⟨0, by omega, rfl, rfl, Below.refl _ _⟩
  case round =>
    obtain ⟨i, hi, rfl, rfl, hbl⟩ := hrel
    by_cases hlt : i < 8
    · have hS := fbk_succ i x
      have hy := fbk_lt HX.out i
      generalize fbk i x = y at *
      have k1 : IntKind.u32.wrap ((y : Int) / 2) = ((y / 2 : Nat) : Int) := by rw [IntKind.wrap_u32]; omega
      have k2 : IntKind.u32.wrap ((y : Int) % 2) = ((y % 2 : Nat) : Int) := by rw [IntKind.wrap_u32]; omega
      have k5 : bits .xor .u32 ((y : Int) / 2) 3988292384 = ((y / 2 ^^^ 3988292384 : Nat) : Int) := u32_xor_nat (y / 2) 3988292384 (by omega) (by omega)
      by_cases ho : y % 2 = 1
      · have HS : Hid (bits .xor .u32 ((y : Int) / 2) 3988292384 = ((fbk (i + 1) x : Nat) : Int)) := Lib.hid (by rw [hS]; unfold fb PLY; rw [if_pos ho]; exact k5)
        have k6 : ((y % 2 : Nat) : Int) = 1 := by omega
        have k7 : (((y % 2 : Nat) : Int) == 1) = true := beq_iff_eq.2 k6
        clear hS hy k5 ho
        go_wp2_with fail
        go_roundw
        case rel => exact ⟨i + 1, by omega, by go_num, by rw [HS.out], hbl⟩
        case measure => simp [intOf] <;> omega
      · have HS : Hid ((y : Int) / 2 = ((fbk (i + 1) x : Nat) : Int)) := Lib.hid (by rw [hS]; unfold fb PLY; rw [if_neg ho, Nat.xor_zero]; rfl)
        have k6 : ((y % 2 : Nat) : Int) = 0 := by omega
        have k7 : (((y % 2 : Nat) : Int) == 1) = false := beq_eq_false_iff_ne.2 (by omega)
        clear hS hy k5 ho
        go_wp2_with fail
        go_roundw
        case rel => exact ⟨i + 1, by omega, by go_num, by rw [HS.out], hbl⟩
        case measure => simp [intOf] <;> omega
    · obtain rfl : i = 8 := by omega
      go_wp2_with fail
      go_ret
      exact ⟨rfl, hbl⟩

set_option maxRecDepth 100000 in
set_option maxHeartbeats 8000000 in
theorem rOn_N {w : World} {sum : Nat} (hs : sum < 4294967296) {A : Option Addr} {n c : Nat} {l : List Nat} (hA : BR w A n c l) (hn : n ≤ 9223372036854775807) :
    Calls Try.prog 14 #[.int .u32 (sum : Int), .slice A n c] w (GotV w (.int .u32 ((crcOn sum l : Nat) : Int))) := by
  obtain ⟨r0, hr0⟩ : ∃ r, F32 - sum = r := ⟨_, rfl⟩
  have hr1 : r0 < 4294967296 := by unfold F32 at hr0; omega
  have k0 : IntKind.u32.wrap (4294967295 - (sum : Int)) = (r0 : Int) := by rw [IntKind.wrap_u32]; unfold F32 at hr0; omega
  unfold crcOn
  rw [hr0]
  have HR := Lib.hid hr1
  have HNN := Lib.hid hn
  have HL := Lib.hid hA.1
  clear hr0 hr1 hs hn
  have cc := Below.refl w.heap.size w
  go_enter Try.func14, Try.ntmps14
  go_wp2_with fail
  go_loopw [5, 6] (fun nv iv wr => ∃ i : Nat, i ≤ n ∧ iv = .int .i64 (i : Int) ∧ nv = .int .u32 ((onR r0 (l.take i) : Nat) : Int) ∧ Below w.heap.size w wr) (fun _ iv _ => n - (intOf iv).toNat)
  case atStart => exact ⟨0, by omega, rfl, rfl, Below.refl _ _⟩
  case round =>
    obtain ⟨i, hi, rfl, rfl, hbl⟩ := hrel
    have hl := HL.out
    have hy := onR_lt (l := l.take i) HR.out (take_lt hA.2.2.1 i)
    by_cases hlt : i < n
    · obtain ⟨bb, off, rfl, hb, hcell⟩ := (hA.on hbl).2.2.2 (by omega)
      have h1 := hcell i hlt
      have hc6 := hA.at hlt
      have hS := onR_take r0 l i (by omega)
      obtain ⟨c0, hc0⟩ : ∃ c0, l[i]?.getD 0 = c0 := ⟨_, rfl⟩
      rw [hc0] at h1 hc6 hS
      obtain ⟨y, hy0⟩ : ∃ y, onR r0 (l.take i) = y := ⟨_, rfl⟩
      rw [hy0] at hy hS ⊢
      have CS := fun W => rStep_N W hy hc6
      obtain ⟨z, hz⟩ : ∃ z, stp y c0 = z := ⟨_, rfl⟩
      rw [hz] at CS hS
      have HS := Lib.hid hS
      have hn := HNN.out
      have k3 : IntKind.i64.wrap ((i : Int) + 1) = ((i + 1 : Nat) : Int) := by rw [IntWalk.i64_in _ (by omega)]; omega
      clear hcell hc0 hy hy0 hz hS hl hn
      go_wp2_with fail
      refine (CS _).mono ?_
      rintro e w9 ⟨rfl, b⟩
      replace hbl := hbl.trans (b.mono hbl.size)
      go_wp2_with fail
      go_roundw
      case rel => exact ⟨i + 1, by omega, by go_num, by rw [HS.out], hbl⟩
      case measure => simp [intOf] <;> omega
    · obtain rfl : i = n := by omega
      have hT : l.take i = l := List.take_of_length_le (by omega)
      rw [hT] at hy ⊢
      obtain ⟨y, hy0⟩ : ∃ y, onR r0 l = y := ⟨_, rfl⟩
      rw [hy0] at hy ⊢
      have k5 : IntKind.u32.wrap (4294967295 - (y : Int)) = ((F32 - y : Nat) : Int) := by rw [IntKind.wrap_u32]; unfold F32; omega
      have HY := Lib.hid hy0
      clear hy hy0 hT hl
      go_wp2_with fail
      go_ret
      exact ⟨by rw [HY.out]; rfl, hbl⟩

set_option maxRecDepth 100000 in
set_option maxHeartbeats 8000000 in
theorem rOf_N {w : World} {A : Option Addr} {n c : Nat} {l : List Nat} (hA : BR w A n c l) (hn : n ≤ 9223372036854775807) :
    Calls Try.prog 16 #[.slice A n c] w (GotV w (.int .u32 ((crcOn 0 l : Nat) : Int))) := by
  have CO := rOn_N (sum := 0) (by omega) hA hn
  generalize crcOn 0 l = y at *
  clear hn
  have cc := Below.refl w.heap.size w
  go_enter Try.func16, Try.ntmps16
  go_wp2_with fail
  refine (CO).mono ?_
  rintro e w1 ⟨rfl, b⟩
  replace cc := cc.trans (b.mono cc.size)
  clear b
  go_wp2_with fail
  go_ret
  exact ⟨rfl, cc⟩

set_option maxRecDepth 100000 in
set_option maxHeartbeats 8000000 in
theorem rsameB_len (w : World) {A B : Option Addr} {n c m d : Nat} (h : n ≠ m) :
    Calls Try.prog 17 #[.slice A n c, .slice B m d] w (GotV w (.bool false)) := by
  have e1 : ((n : Int) == (m : Int)) = false := beq_eq_false_iff_ne.2 (by omega)
  have e2 : ((n : Int) != (m : Int)) = true := by simp; omega
  have e3 : (n == m) = false := beq_eq_false_iff_ne.2 h
  have e4 : (n != m) = true := by simp; omega
  clear h
  have cc := Below.refl w.heap.size w
  go_enter Try.func17, Try.ntmps17
  go_wp2_with fail
  go_wp2_with fail
  go_ret
  exact ⟨rfl, cc⟩

set_option maxRecDepth 100000 in
set_option maxHeartbeats 8000000 in
theorem rsameB_eq {w : World} {A B : Option Addr} {n c d : Nat} {L K : List Nat} (hA : BR w A n c L) (hB : BR w B n d K) (hn : n ≤ 9223372036854775807) :
    Calls Try.prog 17 #[.slice A n c, .slice B n d] w (GotV w (.bool (decide (L = K)))) := by
  have hl : n = L.length := hA.1
  have hl2 : n = K.length := hB.1
  obtain ⟨r, hr⟩ : ∃ r, decide (L = K) = r := ⟨_, rfl⟩
  rw [hr]
  have cc := Below.refl w.heap.size w
  go_enter Try.func17, Try.ntmps17
  go_wp2_with fail
  go_wp2_with fail
  go_loopw [5] (fun iv wr => ∃ i : Nat, i ≤ n ∧ iv = .int .i64 (i : Int) ∧ (∀ j, j < i → L[j]?.getD 0 = K[j]?.getD 0) ∧ Below w.heap.size w wr) (fun iv _ => n - (intOf iv).toNat)
  case atStart => exact ⟨0, by omega, rfl, fun j h => absurd h (by omega), Below.refl _ _⟩
  case round =>
    obtain ⟨i, hi, rfl, hj, hbl⟩ := hrel
    by_cases hlt : i < n
    · obtain ⟨b1, o1, rfl, hb1, hc1⟩ := (hA.on hbl).2.2.2 (by omega)
      obtain ⟨b2, o2, rfl, hb2, hc2⟩ := (hB.on hbl).2.2.2 (by omega)
      have h1 := hc1 i hlt
      have h2 := hc2 i hlt
      have x6 := hA.at hlt
      have y6 := hB.at hlt
      have k3 : IntKind.i64.wrap ((i : Int) + 1) = ((i + 1 : Nat) : Int) := by rw [IntWalk.i64_in _ (by omega)]; omega
      clear hc1 hc2
      obtain ⟨x, hx⟩ : ∃ x, L[i]?.getD 0 = x := ⟨_, rfl⟩
      obtain ⟨y, hy⟩ : ∃ y, K[i]?.getD 0 = y := ⟨_, rfl⟩
      rw [hx] at h1 x6
      rw [hy] at h2 y6
      have x6i : (x : Int) < 256 := by omega
      have y6i : (y : Int) < 256 := by omega
      by_cases hxy : x = y
      · subst hxy
        have HJ : Hid (∀ j, j < i + 1 → L[j]?.getD 0 = K[j]?.getD 0) := Lib.hid (fun j h => by
          rcases Nat.lt_or_ge j i with e | e
          · exact hj j e
          · have e2 : j = i := by omega
            rw [e2, hx, hy])
        clear hj hx hy hl hl2 hr
        go_wp2_with fail
        go_region_held3 (fun w' => w'.cell? ⟨b1, o1 + i, none⟩ = some (.int .u8 (x : Int)) ∧ w'.cell? ⟨b2, o2 + i, none⟩ = some (.int .u8 (x : Int))) (exact ⟨h1, h2⟩) (fail)
        go_wp2_with fail
        go_roundw
        case rel => exact ⟨i + 1, by omega, rfl, HJ.out, below_drewN hbl 1⟩
        case measure => simp [intOf] <;> omega
      · have t1 : ((x : Int) == (y : Int)) = false := beq_eq_false_iff_ne.2 (by omega)
        have t2 : ((x : Int) != (y : Int)) = true := by simp; omega
        have hF : r = false := by rw [← hr]; exact decide_eq_false (fun h => hxy (by rw [← hx, ← hy, h]))
        subst hF
        clear hj hx hy hl hl2 hr hxy
        go_wp2_with fail
        go_region_held3 (fun w' => w'.cell? ⟨b1, o1 + i, none⟩ = some (.int .u8 (x : Int)) ∧ w'.cell? ⟨b2, o2 + i, none⟩ = some (.int .u8 (y : Int))) (exact ⟨h1, h2⟩) (fail)
        go_wp2_with fail
        go_ret
        exact ⟨rfl, below_drewN hbl 1⟩
    · obtain rfl : i = n := by omega
      have hT : r = true := by
        rw [← hr]; refine decide_eq_true (List.ext_getElem (by omega) fun j h1 h2 => ?_)
        have := hj j (by omega)
        rwa [List.getElem?_eq_getElem h1, List.getElem?_eq_getElem h2] at this
      subst hT
      clear hj hl hl2 hr
      go_wp2_with fail
      go_ret
      exact ⟨rfl, hbl⟩

theorem rsameB_any {w : World} {A B : Option Addr} {n c m d : Nat} {L K : List Nat} (hA : BR w A n c L) (hB : BR w B m d K) (hn : n ≤ 9223372036854775807) : Calls Try.prog 17 #[.slice A n c, .slice B m d] w (GotV w (.bool (decide (L = K)))) := by
  by_cases h : n = m
  · subst h; exact rsameB_eq hA hB hn
  · rw [decide_eq_false (fun e => h (by rw [hA.1, hB.1, e]))]; exact rsameB_len w h

end Go.Proofs.Ytkknopahiajeeaa

/-
  The contracts of the twelfth reference: Put, Cut.
-/
namespace Go.Proofs.Ytkknopahiajeeaa
set_option maxRecDepth 100000
open Go.RowKit
set_option linter.unusedVariables false
set_option linter.unusedSimpArgs false

/-- A new row of bytes is answered. -/
def GotNew (w : World) (l : List Nat) (e : Ending) (w' : World) : Prop := ∃ g n c, e = .returned (.slice (some ⟨g, 0, none⟩) n c) ∧ w'.ownsRow w.heap.size 5 1 (.slice (some ⟨g, 0, none⟩) n c) n (l.map encB) ∧ Below w.heap.size w w'
theorem GotNew.row {w w' : World} {l : List Nat} {e : Ending} (h : GotNew w l e w') (hl : ∀ x ∈ l, x < 256) : GotB w l e w' := by
  obtain ⟨g, n, c, h1, h2, h3⟩ := h
  exact ⟨_, _, _, h1, BR.of_own h2 hl, h3⟩
theorem leB4 (N : Nat) : leB 4 N = [N % 256, N / 256 % 256, N / 65536 % 256, N / 16777216 % 256] := by
  show [N % 256, N / 256 % 256, N / 256 / 256 % 256, N / 256 / 256 / 256 % 256] = _
  rw [Nat.div_div_eq_div_mul, Nat.div_div_eq_div_mul]
theorem four_new (w : World) (a b c d : Value) (T : TypeId) : ∀ j u, [a, b, c, d][j]? = some u → (w.alloc (.cells #[a, b, c, d] T)).cell? ((⟨w.heap.size, 0, none⟩ : Addr).add j) = some u := by
  intro j u h
  rw [addr_add, Nat.zero_add, World.cell?_alloc_new]
  simpa using h

set_option maxRecDepth 100000 in
set_option maxHeartbeats 8000000 in
theorem rPut_some {w : World} {A : Option Addr} {n c : Nat} {l : List Nat} (hA : BR w A n c l) (hn : n ≤ 2000000) (hm : 0 < n) :
    Calls Try.prog 19 #[.slice A n c] w (GotNew w (putB l)) := by
  obtain ⟨i0, hi, hz0, hz1, hz2⟩ := info_parts infoB
  have CO := fun W (h : BR W A n c l) => rOf_N (w := W) h (by omega)
  have hv := crcOn_lt (sum := 0) l
  have hq : putB l = l ++ [crcOn 0 l % 256, crcOn 0 l / 256 % 256, crcOn 0 l / 65536 % 256, crcOn 0 l / 16777216 % 256] := by unfold putB; rw [leB4]
  obtain ⟨v, ev⟩ : ∃ v, crcOn 0 l = v := ⟨_, rfl⟩
  rw [ev] at CO hv hq
  have HQ := Lib.hid hq
  clear ev hq
  obtain ⟨x0, h0⟩ : ∃ x, v % 256 = x := ⟨_, rfl⟩
  obtain ⟨x1, h1⟩ : ∃ x, v / 256 % 256 = x := ⟨_, rfl⟩
  obtain ⟨x2, h2⟩ : ∃ x, v / 65536 % 256 = x := ⟨_, rfl⟩
  obtain ⟨x3, h3⟩ : ∃ x, v / 16777216 = x := ⟨_, rfl⟩
  have k0 : IntKind.u8.wrap ((v : Int) % 256) = (x0 : Int) := by rw [IntKind.wrap_u8]; omega
  have k1 : IntKind.u8.wrap ((v : Int) / 256 % 256) = (x1 : Int) := by rw [IntKind.wrap_u8]; omega
  have k2 : IntKind.u8.wrap ((v : Int) / 65536 % 256) = (x2 : Int) := by rw [IntKind.wrap_u8]; omega
  have k3 : IntKind.u8.wrap ((v : Int) / 16777216) = (x3 : Int) := by rw [IntKind.wrap_u8]; omega
  have j0 : IntKind.u32.wrap ((v : Int) % 256) = (v : Int) % 256 := by rw [IntKind.wrap_u32]; omega
  have j1 : IntKind.u32.wrap ((v : Int) / 256) = (v : Int) / 256 := by rw [IntKind.wrap_u32]; omega
  have j2 : IntKind.u32.wrap ((v : Int) / 65536) = (v : Int) / 65536 := by rw [IntKind.wrap_u32]; omega
  have j3 : IntKind.u32.wrap ((v : Int) / 16777216) = (v : Int) / 16777216 := by rw [IntKind.wrap_u32]; omega
  have j4 : IntKind.u32.wrap ((v : Int) / 256 % 256) = (v : Int) / 256 % 256 := by rw [IntKind.wrap_u32]; omega
  have j5 : IntKind.u32.wrap ((v : Int) / 65536 % 256) = (v : Int) / 65536 % 256 := by rw [IntKind.wrap_u32]; omega
  have HQ2 : Hid (putB l = l ++ [x0, x1, x2, x3]) := Lib.hid (by rw [HQ.out, h0, h1, h2, show v / 16777216 % 256 = x3 by omega])
  clear hv h0 h1 h2 h3 HQ
  obtain ⟨t, ht⟩ : ∃ t, w.heap.size = t := ⟨_, rfl⟩
  have HT := Lib.hid ht
  have hown : ∀ W : World, t ≤ W.heap.size → (W.alloc (.cells #[] 5)).ownsRow t 5 1 (.slice (some ⟨W.heap.size, 0, none⟩) 0 0) 0 ([] : List Value) := fun W h => World.ownsRow_lit W #[] 0 h (by unfold maxLen; omega) rfl
  clear ht
  obtain ⟨bb, off, eA, hb0⟩ := hA.some hm
  subst eA
  have HL : Hid ((l.map encB).length = n * 1) := Lib.hid (by rw [List.length_map, ← hA.1]; omega)
  have cc := Below.refl w.heap.size w
  go_enter Try.func19, Try.ntmps19
  go_wp2_with fail
  refine (CO _ hA).mono ?_
  rintro e w1 ⟨rfl, b⟩
  replace hA := hA.on b
  replace cc := cc.trans (b.mono cc.size)
  clear b
  have tV : t ≤ w1.heap.size := by rw [← HT.out]; exact cc.size
  have HO := Lib.hid (hown w1 tV)
  have HNW := Lib.hid (br_news hA ((Below.refl _ w1).alloc (Nat.le_refl _) (.cells #[] 5)))
  go_upto_region 3 with (at_builtin; refine wpList_append_lies _ rfl _ _ 23 rfl t 5 i0 (.int .u8 0) 1 1 Try.underlying23 hi hz0 hz1 hz2 rfl (by decide) _ 0 [] rfl HO.out ⟨bb, off, none⟩ n c (l.map encB) rfl HL.out HNW.out (by simp [encB, Value.oneCell']) (by omega) (by unfold maxLen; omega) (by omega) (by simp; omega) _ rfl ?_; intro g1 cap1 w3 hown1 hgrow1 hat hlt1)
  have b0 : Below t w w1 := by have h := cc; rw [HT.out] at h; exact h
  have b1 : Below t w w3 := (b0.alloc tV _).grown hgrow1 (by simp; omega) (fun q e => by injection (show some w1.heap.size = some q from e) with e1; omega)
  rw [List.nil_append] at hown1
  rw [Nat.zero_add] at hown1
  have hts : t ≤ w3.heap.size := by have := hgrow1.size; simp at this; omega
  have hg := (hown1.lt g1 rfl).1
  clear hgrow1 hat hlt1 HO HNW b0 hA cc hown tV
  go_wp2_with (at_builtin; refine wpList_append_lies _ rfl _ _ 23 rfl t 5 i0 (.int .u8 0) 1 1 Try.underlying23 hi hz0 hz1 hz2 rfl (by decide) _ n (l.map encB) rfl (hown1.alloc _) ⟨w3.heap.size, 0, none⟩ 4 4 [.int .u8 (x0 : Int), .int .u8 (x1 : Int), .int .u8 (x2 : Int), .int .u8 (x3 : Int)] rfl (by simp) (four_new _ _ _ _ _ _) (by simp [Value.oneCell']) (by omega) (by unfold maxLen; omega) (by omega) (by simp; omega) _ rfl ?_; intro g2 cap2 w4 hown2 hgrow2 hat2 hlt2)
  go_wp2_with fail
  go_ret
  have b2 : Below t w w4 := (b1.alloc hts _).grown hgrow2 (by simp; omega) (fun q e => by injection (show some g1 = some q from e) with e1; omega)
  rw [← HT.out] at b2 hown2
  refine ⟨g2, n + 4, cap2, rfl, ?_, b2⟩
  rw [HQ2.out, List.map_append]
  exact hown2

set_option maxRecDepth 100000 in
set_option maxHeartbeats 8000000 in
theorem rPut_none {w : World} {A : Option Addr} {n c : Nat} {l : List Nat} (hA : BR w A n c l) (hn : n ≤ 2000000) (hm : n = 0) :
    Calls Try.prog 19 #[.slice A n c] w (GotNew w (putB l)) := by
  obtain ⟨i0, hi, hz0, hz1, hz2⟩ := info_parts infoB
  have CO := fun W (h : BR W A n c l) => rOf_N (w := W) h (by omega)
  have hv := crcOn_lt (sum := 0) l
  have hq : putB l = l ++ [crcOn 0 l % 256, crcOn 0 l / 256 % 256, crcOn 0 l / 65536 % 256, crcOn 0 l / 16777216 % 256] := by unfold putB; rw [leB4]
  obtain ⟨v, ev⟩ : ∃ v, crcOn 0 l = v := ⟨_, rfl⟩
  rw [ev] at CO hv hq
  have HQ := Lib.hid hq
  clear ev hq
  obtain ⟨x0, h0⟩ : ∃ x, v % 256 = x := ⟨_, rfl⟩
  obtain ⟨x1, h1⟩ : ∃ x, v / 256 % 256 = x := ⟨_, rfl⟩
  obtain ⟨x2, h2⟩ : ∃ x, v / 65536 % 256 = x := ⟨_, rfl⟩
  obtain ⟨x3, h3⟩ : ∃ x, v / 16777216 = x := ⟨_, rfl⟩
  have k0 : IntKind.u8.wrap ((v : Int) % 256) = (x0 : Int) := by rw [IntKind.wrap_u8]; omega
  have k1 : IntKind.u8.wrap ((v : Int) / 256 % 256) = (x1 : Int) := by rw [IntKind.wrap_u8]; omega
  have k2 : IntKind.u8.wrap ((v : Int) / 65536 % 256) = (x2 : Int) := by rw [IntKind.wrap_u8]; omega
  have k3 : IntKind.u8.wrap ((v : Int) / 16777216) = (x3 : Int) := by rw [IntKind.wrap_u8]; omega
  have j0 : IntKind.u32.wrap ((v : Int) % 256) = (v : Int) % 256 := by rw [IntKind.wrap_u32]; omega
  have j1 : IntKind.u32.wrap ((v : Int) / 256) = (v : Int) / 256 := by rw [IntKind.wrap_u32]; omega
  have j2 : IntKind.u32.wrap ((v : Int) / 65536) = (v : Int) / 65536 := by rw [IntKind.wrap_u32]; omega
  have j3 : IntKind.u32.wrap ((v : Int) / 16777216) = (v : Int) / 16777216 := by rw [IntKind.wrap_u32]; omega
  have j4 : IntKind.u32.wrap ((v : Int) / 256 % 256) = (v : Int) / 256 % 256 := by rw [IntKind.wrap_u32]; omega
  have j5 : IntKind.u32.wrap ((v : Int) / 65536 % 256) = (v : Int) / 65536 % 256 := by rw [IntKind.wrap_u32]; omega
  have HQ2 : Hid (putB l = l ++ [x0, x1, x2, x3]) := Lib.hid (by rw [HQ.out, h0, h1, h2, show v / 16777216 % 256 = x3 by omega])
  clear hv h0 h1 h2 h3 HQ
  obtain ⟨t, ht⟩ : ∃ t, w.heap.size = t := ⟨_, rfl⟩
  have HT := Lib.hid ht
  have hown : ∀ W : World, t ≤ W.heap.size → (W.alloc (.cells #[] 5)).ownsRow t 5 1 (.slice (some ⟨W.heap.size, 0, none⟩) 0 0) 0 ([] : List Value) := fun W h => World.ownsRow_lit W #[] 0 h (by unfold maxLen; omega) rfl
  clear ht
  have hl0 : l = [] := List.eq_nil_of_length_eq_zero (by rw [← hA.1]; exact hm)
  subst hm
  subst hl0
  rcases A with _ | pA
  all_goals
    have cc := Below.refl w.heap.size w
    go_enter Try.func19, Try.ntmps19
    go_wp2_with fail
    refine (CO _ hA).mono ?_
    rintro e w1 ⟨rfl, b⟩
    replace hA := hA.on b
    replace cc := cc.trans (b.mono cc.size)
    clear b
    have tV : t ≤ w1.heap.size := by rw [← HT.out]; exact cc.size
    have HO := Lib.hid (hown w1 tV)
    have b0 : Below t w w1 := by have h := cc; rw [HT.out] at h; exact h
    have b1 := b0.alloc tV (.cells #[] 5)
    have hts : t ≤ (w1.alloc (.cells #[] 5)).heap.size := by simp; omega
    clear hA cc hown b0
    go_wp2_with (at_builtin; refine wpList_append_lies _ rfl _ _ 23 rfl t 5 i0 (.int .u8 0) 1 1 Try.underlying23 hi hz0 hz1 hz2 rfl (by decide) _ 0 [] rfl (HO.out.alloc _) ⟨w1.heap.size + 1, 0, none⟩ 4 4 [.int .u8 (x0 : Int), .int .u8 (x1 : Int), .int .u8 (x2 : Int), .int .u8 (x3 : Int)] rfl (by simp) (by simpa using four_new (w1.alloc (.cells #[] 5)) _ _ _ _ 5) (by simp [Value.oneCell']) (by omega) (by unfold maxLen; omega) (by omega) (by simp; omega) _ rfl ?_; intro g2 cap2 w4 hown2 hgrow2 hat2 hlt2)
    go_wp2_with fail
    go_ret
    have b2 : Below t w w4 := (b1.alloc hts _).grown hgrow2 (by simp; omega) (fun q e => by injection (show some w1.heap.size = some q from e) with e1; omega)
    rw [← HT.out] at b2 hown2
    refine ⟨g2, _, cap2, rfl, ?_, b2⟩
    rw [HQ2.out, List.nil_append]
    exact hown2

theorem rPut_N {w : World} {A : Option Addr} {n c : Nat} {l : List Nat} (hA : BR w A n c l) (hn : n ≤ 2000000) : Calls Try.prog 19 #[.slice A n c] w (GotNew w (putB l)) := by
  rcases Nat.eq_zero_or_pos n with h | h
  · exact rPut_none hA hn h
  · exact rPut_some hA hn h

theorem BR.take {w : World} {A : Option Addr} {n c m : Nat} {l : List Nat} (h : BR w A n c l) (hm : m ≤ n) : BR w A m c (l.take m) := by
  refine ⟨?_, Nat.le_trans hm h.2.1, fun x hx => h.2.2.1 x (List.mem_of_mem_take hx), fun h0 => ?_⟩
  · rw [List.length_take, ← h.1]; omega
  · obtain ⟨b, off, e, hlt, hc⟩ := h.2.2.2 (by omega)
    refine ⟨b, off, e, hlt, fun j hj => ?_⟩
    rw [hc j (by omega), List.getElem?_take_of_lt hj]

set_option maxRecDepth 100000 in
set_option maxHeartbeats 8000000 in
theorem rCut_short {w : World} {A : Option Addr} {n c : Nat} (h : n < 4) :
    Calls Try.prog 11 #[.slice A n c] w (GotBr w [] 3) := by
  have t0 : decide ((n : Int) < 4) = true := decide_eq_true (by omega)
  have u0 : decide (n < 4) = true := decide_eq_true h
  clear h
  have cc := Below.refl w.heap.size w
  go_enter Try.func11, Try.ntmps11
  go_wp2_with fail
  go_wp2_with fail
  go_ret2
  exact ⟨_, _, _, rfl, BR.nil _ _ _, cc⟩

theorem cut_ne {y : List Nat} (h4 : 4 ≤ y.length) (h : y ≠ putB (y.take (y.length - 4))) : cutB y = [] ∧ cutE y = 8 := by
  have h5 : ¬ y.length < 4 := by omega
  unfold cutB cutE
  rw [if_neg h5, if_neg h, if_neg h5, if_neg h]
  exact ⟨rfl, rfl⟩

set_option maxRecDepth 100000 in
set_option maxHeartbeats 8000000 in
theorem rCut_main {w : World} {A : Option Addr} {n c : Nat} {l : List Nat} (hA : BR w A n c l) (hn : n ≤ 2000000) (h4 : 4 ≤ n) :
    Calls Try.prog 11 #[.slice A n c] w (GotBr w (cutB l) (cutE l)) := by
  have HC2 : Hid (l ≠ putB (l.take (n - 4)) → cutB l = [] ∧ cutE l = 8) := Lib.hid (fun h => by rw [hA.1] at h; exact cut_ne (by rw [← hA.1]; exact h4) h)
  have HC1 : Hid (l = putB (l.take (n - 4)) → cutB l = l.take (n - 4) ∧ cutE l = 0) := Lib.hid (fun h => cut_put h)
  have t0 : decide ((n : Int) < 4) = false := decide_eq_false (by omega)
  have u0 : decide (n < 4) = false := decide_eq_false (by omega)
  obtain ⟨p, hp⟩ : ∃ p, n - 4 = p := ⟨_, rfl⟩
  rw [hp] at HC1 HC2
  obtain ⟨R, hR⟩ : ∃ R, cutB l = R := ⟨_, rfl⟩
  obtain ⟨E, hE⟩ : ∃ E, cutE l = E := ⟨_, rfl⟩
  rw [hR, hE] at HC1 HC2 ⊢
  clear hR hE
  have k1 : IntKind.i64.wrap ((n : Int) - 4) = (p : Int) := by rw [IntWalk.i64_in _ (by omega)]; omega
  have pn : p ≤ n := by omega
  have pc : p ≤ c := Nat.le_trans pn hA.2.1
  have pci : (p : Int) ≤ (c : Int) := by omega
  have p0 : (0 : Int) ≤ (p : Int) := by omega
  have hT := hA.take pn
  obtain ⟨bb, off, eA, hb0⟩ := hA.some (by omega)
  subst eA
  have cc := Below.refl w.heap.size w
  go_enter Try.func11, Try.ntmps11
  go_wp2_with fail
  refine (rPut_N hT (by omega)).mono ?_
  rintro e w1 ⟨g, q, d, rfl, hO, b⟩
  replace hA := hA.on b
  replace hT := hT.on b
  replace cc := cc.trans (b.mono cc.size)
  clear b
  have OW := BR.of_own hO (putB_lt hT.2.2.1)
  have hKl := OW.1
  rw [putB_len, ← hT.1] at hKl
  obtain rfl : q = n := by omega
  have HAV := Lib.hid hA
  have HTV := Lib.hid hT
  have HOW := Lib.hid OW
  have CCV := Lib.hid cc
  have HKT : Hid (∀ j, j < p → (putB (l.take p))[j]?.getD 0 = l[j]?.getD 0) := Lib.hid (fun j hj => by unfold putB; rw [List.getElem?_append_left (by rw [← hT.1]; exact hj), List.getElem?_take_of_lt hj])
  obtain ⟨K, hK⟩ : ∃ K, putB (l.take p) = K := ⟨_, rfl⟩
  rw [hK] at HC1 HC2 HOW HKT
  have HHP := Lib.hid hp
  clear hA hT hO OW cc hKl hK hp h4
  go_wp2_with fail
  go_loopw [5] (fun iv wr => ∃ i : Nat, p ≤ i ∧ i ≤ q ∧ iv = .int .i64 (i : Int) ∧ (∀ j, p ≤ j → j < i → K[j]?.getD 0 = l[j]?.getD 0) ∧ Below w1.heap.size w1 wr) (fun iv _ => q - (intOf iv).toNat)
  case atStart => exact ⟨p, by omega, pn, rfl, fun j h1 h2 => absurd h1 (by omega), Below.refl _ _⟩
  case round =>
    obtain ⟨i, hpi, hi, rfl, hj, hbl⟩ := hrel
    have cc := CCV.out.trans (hbl.mono CCV.out.size)
    by_cases hlt : i < q
    · obtain ⟨b1, o1, e1, hb1, hc1⟩ := (HOW.out.on hbl).2.2.2 (by omega)
      injection e1 with e1
      injection e1 with e1 e2
      subst e1
      subst e2
      have h1 := hc1 i hlt
      have h2 := (HAV.out.on hbl).cell hlt
      have x6 := HOW.out.at hlt
      have y6 := HAV.out.at hlt
      have k3 : IntKind.i64.wrap ((i : Int) + 1) = ((i + 1 : Nat) : Int) := by rw [IntWalk.i64_in _ (by omega)]; omega
      clear hc1
      rw [Nat.zero_add] at h1
      obtain ⟨x, hx⟩ : ∃ x, K[i]?.getD 0 = x := ⟨_, rfl⟩
      obtain ⟨y, hy⟩ : ∃ y, l[i]?.getD 0 = y := ⟨_, rfl⟩
      rw [hx] at h1 x6
      rw [hy] at h2 y6
      have x6i : (x : Int) < 256 := by omega
      have y6i : (y : Int) < 256 := by omega
      by_cases hxy : x = y
      · subst hxy
        have HJ : Hid (∀ j, p ≤ j → j < i + 1 → K[j]?.getD 0 = l[j]?.getD 0) := Lib.hid (fun j h0 h => by
          rcases Nat.lt_or_ge j i with e | e
          · exact hj j h0 e
          · have e2 : j = i := by omega
            rw [e2, hx, hy])
        clear hj hx hy
        go_wp2_with fail
        go_region_held3 (fun w' => w'.cell? ⟨g, i, none⟩ = some (.int .u8 (x : Int)) ∧ w'.cell? ⟨bb, off + i, none⟩ = some (.int .u8 (x : Int))) (exact ⟨h1, h2⟩) (fail)
        go_wp2_with fail
        go_roundw
        case rel => exact ⟨i + 1, by omega, by omega, rfl, HJ.out, below_drewN hbl 1⟩
        case measure => simp [intOf] <;> omega
      · have t1 : ((x : Int) == (y : Int)) = false := beq_eq_false_iff_ne.2 (by omega)
        have t2 : ((x : Int) != (y : Int)) = true := by simp; omega
        obtain ⟨hR, hE⟩ := HC2.out (fun h => hxy (by rw [← hx, ← hy, ← h]))
        subst hR
        subst hE
        clear hj hx hy hxy
        go_wp2_with fail
        go_region_held3 (fun w' => w'.cell? ⟨g, i, none⟩ = some (.int .u8 (x : Int)) ∧ w'.cell? ⟨bb, off + i, none⟩ = some (.int .u8 (y : Int))) (exact ⟨h1, h2⟩) (fail)
        go_wp2_with fail
        go_ret2
        exact ⟨_, _, _, rfl, BR.nil _ _ _, below_drewN cc 1⟩
    · obtain rfl : i = q := by omega
      have hEq : l = K := by
        have l1 := HOW.out.1
        have l2 := HAV.out.1
        refine List.ext_getElem (by omega) fun j h1 h2 => ?_
        rcases Nat.lt_or_ge j p with e | e
        · have h3 := HKT.out j e
          rw [List.getElem?_eq_getElem h1, List.getElem?_eq_getElem h2] at h3
          exact h3.symm
        · have h3 := hj j e (by omega)
          rw [List.getElem?_eq_getElem h1, List.getElem?_eq_getElem h2] at h3
          exact h3.symm
      obtain ⟨hR, hE⟩ := HC1.out hEq
      subst hR
      subst hE
      have hAi := HAV.out.on hbl
      have hTi := HTV.out.on hbl
      clear hj hEq HC1 HC2
      obtain ⟨i0, hi0, hz0, hz1, hz2⟩ := info_parts infoB
      obtain ⟨t, ht⟩ : ∃ t, w.heap.size = t := ⟨_, rfl⟩
      have tV : t ≤ wr.heap.size := by rw [← ht]; exact cc.size
      have b0 : Below t w wr := by have h := cc; rw [ht] at h; exact h
      have HT := Lib.hid ht
      have hown : ((wr.alloc (.cells #[] 5)).ownsRow t 5 1 (.slice (some ⟨wr.heap.size, 0, none⟩) 0 0) 0 ([] : List Value)) := World.ownsRow_lit wr #[] 0 tV (by unfold maxLen; omega) rfl
      clear ht
      by_cases hp0 : p = 0
      · subst hp0
        have b1 := b0.alloc tV (.cells #[] 5)
        rw [← HT.out] at b1
        clear hown
        go_wp2_with fail
        go_ret2
        exact ⟨_, _, _, rfl, by rw [List.take_zero]; exact BR.nil _ _ _, b1⟩
      · have HNW := Lib.hid (br_news hTi ((Below.refl _ wr).alloc (Nat.le_refl _) (.cells #[] 5)))
        have HL : Hid (((l.take p).map encB).length = p * 1) := Lib.hid (by rw [List.length_map, ← hTi.1]; omega)
        have HO := Lib.hid hown
        have H8 := Lib.hid hTi.2.2.1
        clear hown hAi hTi
        go_wp2_with (at_builtin; refine wpList_append_lies _ rfl _ _ 23 rfl t 5 i0 (.int .u8 0) 1 1 Try.underlying23 hi0 hz0 hz1 hz2 rfl (by decide) _ 0 [] rfl HO.out ⟨bb, off, none⟩ p c ((l.take p).map encB) rfl HL.out HNW.out (fun u hu => by obtain ⟨x, _, rfl⟩ := List.mem_map.1 hu; rfl) (by omega) (by unfold maxLen; omega) (by omega) (by simp; omega) _ rfl ?_; intro g1 cap1 w3 hown1 hgrow1 hat hlt1)
        go_ret2
        have b1 : Below t w w3 := (b0.alloc tV _).grown hgrow1 (by simp; omega) (fun q e => by injection (show some wr.heap.size = some q from e) with e1; omega)
        rw [← HT.out] at b1
        rw [List.nil_append] at hown1
        rw [Nat.zero_add] at hown1
        exact ⟨_, _, _, rfl, BR.of_own hown1 H8.out, b1⟩

theorem rCut_N {w : World} {A : Option Addr} {n c : Nat} {l : List Nat} (hA : BR w A n c l) (hn : n ≤ 2000000) : Calls Try.prog 11 #[.slice A n c] w (GotBr w (cutB l) (cutE l)) := by
  by_cases h : n < 4
  · obtain ⟨e1, e2⟩ := cut_short (y := l) (by rw [← hA.1]; exact h)
    rw [e1, e2]; exact rCut_short h
  · exact rCut_main hA hn (by omega)

end Go.Proofs.Ytkknopahiajeeaa

/-
  The contracts of the landed crc: step, Table.
-/
namespace Go.Proofs.Ytkknopahiajeeaa
set_option maxRecDepth 100000
open Go.RowKit
set_option linter.unusedVariables false
set_option linter.unusedSimpArgs false

theorem u32_and1 (y : Nat) (h : y < 4294967296) : bits .and .u32 (y : Int) 1 = ((y % 2 : Nat) : Int) := by
  have e : bits .and .u32 (y : Int) 1 = IntKind.u32.wrap ((BitVec.ofInt 32 (y : Int) &&& BitVec.ofInt 32 1).toNat : Int) := rfl
  rw [e, BitVec.toNat_and, show (BitVec.ofInt 32 1).toNat = 1 from rfl, Nat.and_one_is_mod, BitVec.toNat_ofInt, IntKind.wrap_u32]
  omega

set_option maxRecDepth 100000 in
set_option maxHeartbeats 8000000 in
theorem cstep_N (w : World) {x : Nat} (hx : x < 4294967296) :
    Calls Try.prog 20 #[.int .u32 (x : Int)] w (GotV w (.int .u32 ((fbk 8 x : Nat) : Int))) := by
  have HX := Lib.hid hx
  clear hx
  have cc := Below.refl w.heap.size w
  go_enter Try.func20, Try.ntmps20
  go_wp2_with fail
  go_loopw [0, 4] (fun nv iv wr => ∃ i : Nat, i ≤ 8 ∧ iv = .int .i64 (i : Int) ∧ nv = .int .u32 ((fbk i x : Nat) : Int) ∧ Below w.heap.size w wr) (fun _ iv _ => 8 - (intOf iv).toNat)
  case atStart => exact ⟨0, by omega, rfl, rfl, Below.refl _ _⟩
  case round =>
    obtain ⟨i, hi, rfl, rfl, hbl⟩ := hrel
    by_cases hlt : i < 8
    · have hS := fbk_succ i x
      have hy := fbk_lt HX.out i
      generalize fbk i x = y at *
      have k1 : IntKind.u32.wrap ((y : Int) / 2) = ((y / 2 : Nat) : Int) := by rw [IntKind.wrap_u32]; omega
      have k2 : bits .and .u32 (y : Int) 1 = ((y % 2 : Nat) : Int) := u32_and1 y hy
      have k5 : bits .xor .u32 ((y : Int) / 2) 3988292384 = ((y / 2 ^^^ 3988292384 : Nat) : Int) := u32_xor_nat (y / 2) 3988292384 (by omega) (by omega)
      by_cases ho : y % 2 = 1
      · have HS : Hid (bits .xor .u32 ((y : Int) / 2) 3988292384 = ((fbk (i + 1) x : Nat) : Int)) := Lib.hid (by rw [hS]; unfold fb PLY; rw [if_pos ho]; exact k5)
        have k6 : ((y % 2 : Nat) : Int) = 1 := by omega
        have k7 : (((y % 2 : Nat) : Int) == 1) = true := beq_iff_eq.2 k6
        clear hS hy k5 ho
        go_wp2_with fail
        go_roundw
        case rel => exact ⟨i + 1, by omega, by go_num, by rw [HS.out], hbl⟩
        case measure => simp [intOf] <;> omega
      · have HS : Hid ((y : Int) / 2 = ((fbk (i + 1) x : Nat) : Int)) := Lib.hid (by rw [hS]; unfold fb PLY; rw [if_neg ho, Nat.xor_zero]; rfl)
        have k6 : ((y % 2 : Nat) : Int) = 0 := by omega
        have k7 : (((y % 2 : Nat) : Int) == 1) = false := beq_eq_false_iff_ne.2 (by omega)
        clear hS hy k5 ho
        go_wp2_with fail
        go_roundw
        case rel => exact ⟨i + 1, by omega, by go_num, by rw [HS.out], hbl⟩
        case measure => simp [intOf] <;> omega
    · obtain rfl : i = 8 := by omega
      go_wp2_with fail
      go_ret
      exact ⟨rfl, hbl⟩

/-- The table as a value. -/
def tabV : Array Value := ((List.range 256).map fun c => Value.int .u32 ((stp 0 c : Nat) : Int)).toArray

/-- The table ahead of all. -/
def zcT : Array Value := Array.replicate 256 (Value.int .u32 0)
theorem zcT_info : (Try.prog.info? 25).map (fun i => (i.zero, i.size)) = some (some (.agg zcT), 256) := by kernel_rfl
theorem zcT_run (w : World) : (zeroValue 25).run Try.prog w = .ok (.agg zcT) w := (zero_of_info zcT_info).1 w
/-- The table, filled from its head on. -/
def tabL (i : Nat) : List Value := ((List.range i).map fun c => Value.int .u32 ((stp 0 c : Nat) : Int)) ++ List.replicate (256 - i) (Value.int .u32 0)
theorem tabL_len {i : Nat} (h : i ≤ 256) : (tabL i).length = 256 := by unfold tabL; simp; omega
theorem tabL_set {i : Nat} (h : i < 256) : (tabL i).set i (Value.int .u32 ((stp 0 i : Nat) : Int)) = tabL (i + 1) := by
  unfold tabL
  rw [List.set_append_right _ _ (by simp), List.range_succ, List.map_append, List.append_assoc]
  congr 1
  have e : 256 - i = (256 - (i + 1)) + 1 := by omega
  rw [e, List.replicate_succ]
  simp
theorem tabL_end : tabL 256 = tabV.toList := by unfold tabL tabV; simp
theorem own_on12 {t n cap : Nat} {w w' : World} {e : TypeId} {g : Nat} {xs : List Value} (hO : w.ownsRow t e 1 (.slice (some ⟨g, 0, none⟩) n cap) n xs) (b : Below w.heap.size w w') : w'.ownsRow t e 1 (.slice (some ⟨g, 0, none⟩) n cap) n xs := by
  have hl := hO.lt g rfl
  obtain ⟨h1, h2⟩ := hO
  refine ⟨h1, ?_⟩
  rcases h2 with h2 | ⟨g', cap', cur, hv, hg, hh, r⟩
  · exact Or.inl h2
  · refine Or.inr ⟨g', cap', cur, hv, hg, ?_, r⟩
    have : g' = g := by injection hv with e; injection e with e2; injection e2 with e3; exact e3.symm
    subst this
    rw [b.block g' hl.2]; exact hh
theorem load_row12 {P : Program} {w : World} {g n : Nat} {c : Array Value} {t : TypeId} (h : w.heap[g]? = some (.cells c t (0, 0))) (hn : c.size = n) : (loadCellsFrom ⟨g, 0, none⟩ 0 n #[]).run P w = .ok c w := by
  subst hn
  have := run_loadCells_list (P := P) w ⟨g, 0, none⟩ c.toList (fun j v hv => by
    rw [addr_add, Nat.zero_add, cell_of_row _ _ j c t (0, 0) h]
    simpa using hv)
  simpa [loadCells] using this
theorem store_row12 {P : Program} {w : World} {g : Nat} {c c' : Array Value} {t : TypeId} (h : w.heap[g]? = some (.cells c t (0, 0))) (hi : (P.info? t).map (·.size) = some c'.size) (ho : c.size = c'.size) (h1 : c'.all (·.oneCell') = true) : (storeCells ⟨g, 0, none⟩ c'.toList 0).run P w = .ok () (w.setRow g c') := by
  have := run_storeVar_row (P := P) w g t t c c' h hi ho h1
  cases hq : P.info? t with
  | none => simp [hq] at hi
  | some i =>
    have hs : c'.size = i.size := by simp [hq] at hi; omega
    simpa [storeVar, sizeOf, typeInfo, hq, Value.cells, hs] using this

set_option maxRecDepth 100000 in
set_option maxHeartbeats 8000000 in
theorem gTable_N (w : World) : Calls Try.prog 9 #[] w (GotV w (.agg tabV)) := by
  have hzT := zcT_run
  have CS : ∀ (W : World) (i : Nat), i < 256 → Calls Try.prog 20 #[.int .u32 (i : Int)] W (GotV W (.int .u32 ((stp 0 i : Nat) : Int))) := fun W i hi => by
    have h := cstep_N W (x := i) (by omega)
    rw [show fbk 8 i = stp 0 i by unfold stp; rw [Nat.zero_xor]] at h
    exact h
  have HM : Hid (∀ i, i < 256 → (tabL i).set i (Value.int .u32 ((stp 0 i : Nat) : Int)) = tabL (i + 1)) := Lib.hid (fun i h => tabL_set h)
  have HLn : Hid (∀ i, i ≤ 256 → (tabL i).length = 256) := Lib.hid (fun i h => tabL_len h)
  have HO : Hid (((w.alloc (.cells zcT 25)).alloc (.cells zcT 25)).ownsRow (w.heap.size + 1) 25 1 (.slice (some ⟨w.heap.size + 1, 0, none⟩) 256 256) 256 (tabL 0)) := Lib.hid (by
    have h := World.ownsRow_lit (base := w.heap.size + 1) (e := 25) (size := 1) (w.alloc (.cells zcT 25)) zcT 256 (by simp) (by unfold maxLen; omega) (by unfold zcT; simp)
    rw [show (w.alloc (.cells zcT 25)).heap.size = w.heap.size + 1 by simp] at h
    rw [show tabL 0 = zcT.toList by unfold tabL zcT; simp]
    exact h)
  have HZ : Hid (((w.alloc (.cells zcT 25)).alloc (.cells zcT 25)).heap[w.heap.size]? = some (.cells zcT 25 (0, 0))) := Lib.hid (by
    show ((w.heap.push _).push _)[w.heap.size]? = _
    rw [Array.getElem?_push, if_neg (by simp), Array.getElem?_push, if_pos rfl])
  have HB : Hid (Below w.heap.size w ((w.alloc (.cells zcT 25)).alloc (.cells zcT 25))) := Lib.hid (((Below.refl _ w).alloc (by simp) _).alloc (by simp) _)
  go_enter Try.func9, Try.ntmps9
  go_wp2_with fail
  clear hzT
  go_loopw [3] (fun iv wr => ∃ i : Nat, i ≤ 256 ∧ iv = .int .i64 (i : Int) ∧ wr.heap[w.heap.size]? = some (.cells zcT 25 (0, 0)) ∧ wr.ownsRow (w.heap.size + 1) 25 1 (.slice (some ⟨w.heap.size + 1, 0, none⟩) 256 256) 256 (tabL i) ∧ Below w.heap.size w wr) (fun iv _ => 256 - (intOf iv).toNat)
  case atStart => exact ⟨0, by omega, rfl, HZ.out, HO.out, HB.out⟩
  case round =>
    clear HZ HO HB
    obtain ⟨i, hi, rfl, hZ, hO, hbl⟩ := hrel
    by_cases hlt : i < 256
    · have hM := HM.out i hlt
      have hL := HLn.out i (by omega)
      have CSi := fun W => CS W i hlt
      obtain ⟨v, ev⟩ : ∃ v, stp 0 i = v := ⟨_, rfl⟩
      rw [ev] at CSi hM
      have kc : IntKind.u32.wrap (i : Int) = (i : Int) := by rw [IntKind.wrap_u32]; omega
      have k3 : IntKind.i64.wrap ((i : Int) + 1) = ((i + 1 : Nat) : Int) := by rw [IntWalk.i64_in _ (by omega)]; omega
      have hgl := (hO.lt _ rfl).2
      have cx := hO.cellAt i (by omega)
      have fx := hO.frozenAt i
      obtain ⟨v0_, ev0⟩ : ∃ v, (tabL i)[i]? = some v := ⟨_, List.getElem?_eq_getElem (by omega)⟩
      rw [ev0] at cx
      have HE := Lib.hid hM
      have HO2 := Lib.hid hO
      have HZ2 := Lib.hid hZ
      clear hM hO hZ hL ev ev0 CS HM HLn
      go_wp2_with fail
      refine (CSi _).mono ?_
      rintro e w9 ⟨rfl, b⟩
      have c9 := (b.cell (p := ⟨w.heap.size + 1, i, none⟩) hgl).trans cx
      have f9 := (b.frozen (p := ⟨w.heap.size + 1, i, none⟩) hgl).trans fx
      have g9 := Nat.lt_of_lt_of_le hgl b.size
      obtain ⟨hO3, hg3⟩ := (own_on12 HO2.out b).stored i (.int .u32 (v : Int))
      rw [HE.out] at hO3
      have HO3 := Lib.hid hO3
      have HZ3 : Hid ((w9.setCell ⟨w.heap.size + 1, i, none⟩ (.int .u32 (v : Int))).heap[w.heap.size]? = some (.cells zcT 25 (0, 0))) := Lib.hid (by
        rw [heap_setCell_other _ _ _ _ (by simp), b.block _ (by omega)]; exact HZ2.out)
      have HBW : Hid (Below w.heap.size w (w9.setCell ⟨w.heap.size + 1, i, none⟩ (.int .u32 (v : Int)))) := Lib.hid ((hbl.trans (b.mono hbl.size)).setCell (p := ⟨w.heap.size + 1, i, none⟩) (by simp) _)
      clear hO3 hg3 b cx fx hgl HO2 HZ2 hbl
      go_wp2_with fail
      go_roundw
      case rel => exact ⟨i + 1, by omega, by go_num, HZ3.out, HO3.out, HBW.out⟩
      case measure => simp [intOf] <;> omega
    · obtain rfl : i = 256 := by omega
      rw [tabL_end] at hO
      have hOB : wr.heap[w.heap.size + 1]? = some (.cells tabV 25 (0, 0)) := by
        rcases hO.2 with ⟨h', _⟩ | ⟨g', cap', cur, h', hb, hg, hnc, hcm, hcs, htake⟩
        · simp at h'
        · injection h' with e1 e2 e3
          injection e1 with e1
          injection e1 with e1
          subst e1
          rw [hg]
          rw [List.take_of_length_le (by rw [Array.length_toList]; omega)] at htake
          rw [Array.toList_inj.1 htake]
      have hsz : tabV.size = 256 := by unfold tabV; simp
      have h1c : tabV.all (·.oneCell') = true := by
        rw [Array.all_eq_true]
        intro i hi
        have e : tabV[i]? = some (Value.int .u32 ((stp 0 i : Nat) : Int)) := by unfold tabV; rw [List.getElem?_toArray, List.getElem?_map, List.getElem?_range (by omega)]; rfl
        rw [Array.getElem?_eq_getElem hi] at e
        rw [Option.some.inj e]; rfl
      have hiT : (Try.prog.info? 25).map (·.size) = some tabV.size := by rw [hsz]; exact (zero_of_info zcT_info).2
      have hzs : zcT.size = tabV.size := by rw [hsz]; unfold zcT; simp
      have hl : (loadCellsFrom ⟨w.heap.size + 1, 0, none⟩ 0 256 #[]).run Try.prog wr = .ok tabV wr := load_row12 hOB hsz
      have hs : (storeCells ⟨w.heap.size, 0, none⟩ tabV.toList 0).run Try.prog wr = .ok () (wr.setRow w.heap.size tabV) := store_row12 hZ hiT hzs h1c
      have hl2 : (loadCellsFrom ⟨w.heap.size, 0, none⟩ 0 256 #[]).run Try.prog (wr.setRow w.heap.size tabV) = .ok tabV (wr.setRow w.heap.size tabV) := load_row12 (setRow_heap wr _ _ _ _ _ hZ) hsz
      have b2 : Below w.heap.size w (wr.setRow w.heap.size tabV) := below_setRow hbl (Nat.le_refl _) _
      clear hO hbl CS HM HLn
      generalize tabV = T at *
      go_wp2_with fail
      refine wp_load_row 25 _ rfl _ rfl _ _ _ _ hOB Try.underlying25 rfl hiT ?_
      go_wp2_with fail
      exact bodyPost_ret (v := .agg T) (results_cell_row rfl _ _ w.heap.size _ _ _ _ rfl (setRow_heap wr _ _ _ _ _ hZ) Try.underlying25 rfl hiT) rfl ⟨rfl, b2⟩

end Go.Proofs.Ytkknopahiajeeaa

/-
  The contracts of the landed crc: On, Of.
-/
namespace Go.Proofs.Ytkknopahiajeeaa
set_option maxRecDepth 100000
open Go.RowKit
set_option linter.unusedVariables false
set_option linter.unusedSimpArgs false

theorem tabC_size : tabV.size = 256 := by unfold tabV; simp
theorem tabC_at {i : Nat} (h : i < 256) : tabV[i]? = some (.int .u32 ((stp 0 i : Nat) : Int)) := by
  unfold tabV
  rw [List.getElem?_toArray, List.getElem?_map, List.getElem?_range (by omega)]; rfl
theorem tabC_one : tabV.all (·.oneCell') = true := by
  rw [Array.all_eq_true]
  intro i hi
  have e := tabC_at (i := i) (by rw [tabC_size] at hi; exact hi)
  rw [Array.getElem?_eq_getElem hi] at e
  rw [Option.some.inj e]; rfl
theorem tabC_store (W : World) : (storeCells ⟨W.heap.size, 0, none⟩ tabV.toList 0).run Try.prog (W.alloc (.cells zcT 25)) = .ok () (W.alloc (.cells tabV 25)) :=
  run_storeCells_new W _ _ _ (by rw [tabC_size]; exact (zero_of_info zcT_info).2) (by rw [tabC_size]; unfold zcT; simp) tabC_one

theorem u32_not (x : Nat) (h : x < 4294967296) : bits .xor .u32 IntKind.u32.max (x : Int) = ((F32 - x : Nat) : Int) := by
  have h1 := u32_xor_nat F32 x (by decide) h
  rw [Nat.xor_comm, xor_full h] at h1
  exact h1

set_option maxRecDepth 100000 in
set_option maxHeartbeats 8000000 in
theorem gOn_N {w : World} {sum : Nat} (hs : sum < 4294967296) {A : Option Addr} {n c : Nat} {l : List Nat} (hA : BR w A n c l) (hn : n ≤ 9223372036854775807) :
    Calls Try.prog 13 #[.int .u32 (sum : Int), .slice A n c] w (GotV w (.int .u32 ((crcOn sum l : Nat) : Int))) := by
  obtain ⟨r0, hr0⟩ : ∃ r, F32 - sum = r := ⟨_, rfl⟩
  have hr1 : r0 < 4294967296 := by unfold F32 at hr0; omega
  have k0 : bits .xor .u32 IntKind.u32.max (sum : Int) = (r0 : Int) := by rw [u32_not sum hs, hr0]
  have ku : IntKind.u32.signed = false := rfl
  unfold crcOn
  rw [hr0]
  have HR := Lib.hid hr1
  have HNN := Lib.hid hn
  have HL := Lib.hid hA.1
  have HTab : Hid (∀ i, i < 256 → tabV[i]? = some (.int .u32 ((stp 0 i : Nat) : Int))) := Lib.hid (fun i h => tabC_at h)
  have hst := tabC_store
  have CT := gTable_N
  have hTs := tabC_size
  generalize tabV = T at *
  have hzT := zcT_run
  clear hr0 hr1 hs hn
  have cc := Below.refl w.heap.size w
  go_enter Try.func13, Try.ntmps13
  go_wp2_with fail
  refine (CT _).mono ?_
  rintro e w1 ⟨rfl, b⟩
  replace hA := hA.on b
  replace cc := cc.trans (b.mono cc.size)
  clear b CT
  go_wp2_with fail
  have hbT : Below w1.heap.size w1 (w1.alloc (.cells T 25)) := (Below.refl _ w1).alloc (Nat.le_refl _) _
  replace hA := hA.on hbT
  replace cc := cc.trans (hbT.mono cc.size)
  have HCT : Hid (∀ i, i < 256 → (w1.alloc (.cells T 25)).cell? ⟨w1.heap.size, i, none⟩ = some (.int .u32 ((stp 0 i : Nat) : Int))) := Lib.hid (fun i h => by rw [World.cell?_alloc_new]; exact HTab.out i h)
  have HTL : Hid (w1.heap.size < (w1.alloc (.cells T 25)).heap.size) := Lib.hid (by simp)
  clear hbT hst hzT HTab
  obtain ⟨q, hq⟩ : ∃ q, w1.heap.size = q := ⟨_, rfl⟩
  rw [hq] at HCT HTL ⊢
  clear hq
  generalize w1.alloc (.cells T 25) = v1 at *
  clear hTs
  go_loopw [6, 14] (fun nv iv wr => ∃ i : Nat, i ≤ n ∧ iv = .int .i64 (i : Int) ∧ nv = .int .u32 ((onR r0 (l.take i) : Nat) : Int) ∧ Below v1.heap.size v1 wr) (fun _ iv _ => n - (intOf iv).toNat)
  case atStart => exact ⟨0, by omega, rfl, rfl, Below.refl _ _⟩
  case round =>
    obtain ⟨i, hi, rfl, rfl, hbl⟩ := hrel
    have hl := HL.out
    have hy := onR_lt (l := l.take i) HR.out (take_lt hA.2.2.1 i)
    by_cases hlt : i < n
    · obtain ⟨bb, off, rfl, hb, hcell⟩ := (hA.on hbl).2.2.2 (by omega)
      have h1 := hcell i hlt
      have hc6 := hA.at hlt
      have hS := onR_take r0 l i (by omega)
      obtain ⟨c0, hc0⟩ : ∃ c0, l[i]?.getD 0 = c0 := ⟨_, rfl⟩
      rw [hc0] at h1 hc6 hS
      obtain ⟨y, hy0⟩ : ∃ y, onR r0 (l.take i) = y := ⟨_, rfl⟩
      rw [hy0] at hy hS ⊢
      rw [stp_table hc6] at hS
      obtain ⟨x, hx⟩ : ∃ x, y % 256 ^^^ c0 = x := ⟨_, rfl⟩
      have hx6 : x < 256 := by rw [← hx]; exact Nat.xor_lt_two_pow (n := 8) (Nat.mod_lt _ (by omega)) hc6
      have h2 := (hbl.cell (p := ⟨q, x, none⟩) HTL.out).trans (HCT.out x hx6)
      have hv := stp_lt (s := 0) (c := x) (by omega) hx6
      rw [hx] at hS
      obtain ⟨v, hv0⟩ : ∃ v, stp 0 x = v := ⟨_, rfl⟩
      rw [hv0] at h2 hv hS
      have k1 : IntKind.u8.wrap (y : Int) = ((y % 256 : Nat) : Int) := by rw [IntKind.wrap_u8]; omega
      have k2 : bits .xor .u8 ((y : Int) % 256) (c0 : Int) = (x : Int) := by rw [← hx]; exact u8_xor_nat (y % 256) c0 (by omega) hc6
      have k5 : bits .xor .u32 (v : Int) ((y : Int) / 256) = ((onR r0 (l.take (i + 1)) : Nat) : Int) := by rw [hS, Nat.xor_comm]; exact u32_xor_nat v (y / 256) hv (by omega)
      obtain ⟨z, hz⟩ : ∃ z, onR r0 (l.take (i + 1)) = z := ⟨_, rfl⟩
      rw [hz] at k5
      have HZ := Lib.hid hz
      have hn := HNN.out
      have k3 : IntKind.i64.wrap ((i : Int) + 1) = ((i + 1 : Nat) : Int) := by rw [IntWalk.i64_in _ (by omega)]; omega
      have x6 : (x : Int) < 256 := by omega
      clear hcell hc0 hy hy0 hz hS hl hn hx hv0 hv HCT
      go_wp2_with fail
      go_roundw
      case rel => exact ⟨i + 1, by omega, by go_num, by rw [HZ.out], hbl⟩
      case measure => simp [intOf] <;> omega
    · obtain rfl : i = n := by omega
      have hT : l.take i = l := List.take_of_length_le (by omega)
      rw [hT] at hy ⊢
      obtain ⟨y, hy0⟩ : ∃ y, onR r0 l = y := ⟨_, rfl⟩
      rw [hy0] at hy ⊢
      have k5 := u32_not y hy
      have HY := Lib.hid hy0
      replace cc := cc.trans (hbl.mono cc.size)
      clear hy hy0 hT hl HCT
      go_wp2_with fail
      go_ret
      exact ⟨by rw [HY.out]; rfl, cc⟩

set_option maxRecDepth 100000 in
set_option maxHeartbeats 8000000 in
theorem gOf_N {w : World} {A : Option Addr} {n c : Nat} {l : List Nat} (hA : BR w A n c l) (hn : n ≤ 9223372036854775807) :
    Calls Try.prog 15 #[.slice A n c] w (GotV w (.int .u32 ((crcOn 0 l : Nat) : Int))) := by
  have CO := gOn_N (sum := 0) (by omega) hA hn
  generalize crcOn 0 l = y at *
  clear hn
  have cc := Below.refl w.heap.size w
  go_enter Try.func15, Try.ntmps15
  go_wp2_with fail
  refine (CO).mono ?_
  rintro e w1 ⟨rfl, b⟩
  replace cc := cc.trans (b.mono cc.size)
  clear b
  go_wp2_with fail
  go_ret
  exact ⟨rfl, cc⟩

end Go.Proofs.Ytkknopahiajeeaa

/-
  The contract of the landed crc's Put.
-/
namespace Go.Proofs.Ytkknopahiajeeaa
set_option maxRecDepth 100000
open Go.RowKit
set_option linter.unusedVariables false
set_option linter.unusedSimpArgs false

/-- A row of noughts. -/
def zr12 (q : Nat) : Obj := .cells (List.replicate q (Value.int .u8 0)).toArray 5
theorem zr12_run (q : Nat) (hq : q ≤ 140737488351236) (W : World) : (Instr.makeSlice 23 (.int .i64 (q : Int)) (.int .i64 (q : Int))).run Try.prog W = .ok (.slice (some ⟨W.heap.size, 0, none⟩) q q) (W.alloc (zr12 q)) := by
  obtain ⟨i0, hi, hz0, hz1, hz2⟩ := info_parts infoB
  have h := run_make (P := Try.prog) W 23 5 i0 (.int .u8 0) Try.underlying23 hi hz0 .i64 .i64 (q : Int) (q : Int) (by omega) (Int.le_refl _) (by rw [hz2]; omega) (by omega)
  rw [hz1, Int.toNat_natCast, Nat.mul_one] at h
  rw [show (Value.int .u8 0).cells = #[Value.int .u8 0] from rfl] at h
  rw [h]
  unfold zr12
  rw [← toList_madeCells_one]
theorem zr12_heap (q : Nat) (W : World) : (W.alloc (zr12 q)).heap[W.heap.size]? = some (.cells (List.replicate q (Value.int .u8 0)).toArray 5 (0, 0)) := heap_alloc_new W _
/-- The row while the checksum is laid behind. -/
def putP (l : List Nat) (v i : Nat) : List Nat := l ++ ((leB 4 v).take i ++ List.replicate (4 - i) 0)
theorem putP_len (l : List Nat) (v : Nat) {i : Nat} (h : i ≤ 4) : (putP l v i).length = l.length + 4 := by unfold putP; simp [leB_len]; omega
theorem putP_set (l : List Nat) (v : Nat) {i : Nat} (h : i < 4) : (putP l v i).set (l.length + i) (v / 256 ^ i % 256) = putP l v (i + 1) := by
  unfold putP
  rw [List.set_append_right _ _ (by omega), show l.length + i - l.length = i by omega]
  congr 1
  have e := leB_get 4 v i h
  match i, h with
  | 0, _ => rw [← e]; rfl
  | 1, _ => rw [← e]; rfl
  | 2, _ => rw [← e]; rfl
  | 3, _ => rw [← e]; rfl
theorem putP_end (l : List Nat) : putP l (crcOn 0 l) 4 = putB l := by
  unfold putP putB
  rw [List.take_of_length_le (by rw [leB_len]; omega)]
  simp
theorem putP_zero (l : List Nat) (v : Nat) {n m : Nat} (hn : n = l.length) (hm : n + 4 = m) : splice (List.replicate m (Value.int .u8 0)) 0 (l.map encB) = (putP l v 0).map encB := by
  unfold splice putP
  rw [List.take_zero, List.nil_append, List.take_zero, List.nil_append, List.map_append, List.map_replicate, List.length_map, List.drop_replicate]
  congr 2
  omega
/-- The row behind the copy. -/
theorem own_block12 {w : World} {g m : Nat} {cs : List Value} (h : w.heap[g]? = some (.cells cs.toArray 5 (0, 0))) (hm : m ≤ maxLen) (hl : cs.length = m) {t : Nat} (ht : t ≤ g) : w.ownsRow t 5 1 (.slice (some ⟨g, 0, none⟩) m m) m cs := by
  refine ⟨by omega, .inr ⟨g, m, cs.toArray, rfl, ht, h, Nat.le_refl _, hm, by simp; omega, ?_⟩⟩
  rw [List.take_of_length_le (by simp; omega)]

set_option maxRecDepth 100000 in
set_option maxHeartbeats 8000000 in
theorem gPut_N {w : World} {A : Option Addr} {n c : Nat} {l : List Nat} (hA : BR w A n c l) (hn : n ≤ 140737488351232) :
    Calls Try.prog 18 #[.slice A n c] w (GotNew w (putB l)) := by
  obtain ⟨m, hm⟩ : ∃ m, n + 4 = m := ⟨_, rfl⟩
  have k1 : IntKind.i64.wrap ((n : Int) + 4) = (m : Int) := by rw [IntWalk.i64_in _ (by omega)]; omega
  have hmk := zr12_run m (by omega)
  have CO := fun {W : World} (h : BR W A n c l) => gOf_N h (by omega)
  have hv := crcOn_lt (sum := 0) l
  have hE := putP_end l
  obtain ⟨v, ev⟩ : ∃ v, crcOn 0 l = v := ⟨_, rfl⟩
  rw [ev] at CO hv hE
  have hS : (Try.prog.info? 5).map (·.size) = some 1 := by
    obtain ⟨i0, hi, hz0, hz1, hz2⟩ := info_parts infoB
    rw [hi]; exact congrArg some hz1
  have hll := hA.1
  obtain ⟨cs, hcs⟩ : ∃ cs, l.map encB = cs := ⟨_, rfl⟩
  have hcl : cs.length = Nat.min n m := by rw [← hcs, List.length_map, ← hll]; exact (Nat.min_eq_left (by omega)).symm
  have hfit : 0 + cs.length ≤ (List.replicate m (Value.int .u8 0)).length := by rw [List.length_replicate, hcl, Nat.zero_add]; exact Nat.min_le_right _ _
  have h1c : ∀ u ∈ cs, u.oneCell' = true := by rw [← hcs]; intro u hu; obtain ⟨x, _, rfl⟩ := List.mem_map.1 hu; rfl
  have hsrc : ∀ {W : World}, BR W A n c l → 0 < cs.length → ∃ ad, A = some ad ∧ ∀ j u, cs[j]? = some u → W.cell? (ad.add j) = some u := by
    intro W h hp
    rw [hcl] at hp
    obtain ⟨bb, off, e, _⟩ := h.some (Nat.lt_of_lt_of_le hp (Nat.min_le_left _ _))
    subst e
    refine ⟨_, rfl, ?_⟩
    rw [← hcs]
    exact br_news h (Below.refl _ W)
  have hP0 := putP_zero l v hll hm
  rw [hcs] at hP0
  obtain ⟨zs, hzs⟩ : ∃ zs, List.replicate m (Value.int .u8 0) = zs := ⟨_, rfl⟩
  have hZB : ∀ W : World, (W.alloc (zr12 m)).heap[W.heap.size]? = some (.cells zs.toArray 5 (0, 0)) := fun W => by rw [← hzs]; exact zr12_heap m W
  rw [hzs] at hP0 hfit
  have HG0 := Lib.hid (hZB w)
  have hB0 : Below w.heap.size w (w.alloc (zr12 m)) := (Below.refl _ w).alloc (Nat.le_refl _) _
  have HP := Lib.hid (hsrc (hA.on hB0))
  have HB0 := Lib.hid hB0
  have HCL := Lib.hid hcl
  have HF := Lib.hid hfit
  have H1 := Lib.hid h1c
  have HLL := Lib.hid hll
  have HMM := Lib.hid hm
  have HAV := Lib.hid hA
  have HP0 := Lib.hid hP0
  have HV := Lib.hid hv
  have HEE := Lib.hid hE
  clear hcl hfit h1c hsrc hcs hZB hzs hB0 hll hm hA hP0 hv hE ev
  go_enter Try.func18, Try.ntmps18
  go_wp2_with (with_reducible refine wpList_copy_splice rfl (.tmp 10) (.tmp 11) 23 23 rfl 5 Try.underlying23 hS _ _ _ _ _ _ rfl rfl w.heap.size 0 zs 5 HG0.out cs HCL.out (fun h => ⟨rfl, HP.out h⟩) HF.out H1.out w.heap.size w HB0.out (Nat.le_refl _) ?_; intro w2 HG2 hB2)
  have hO2 : w2.ownsRow w.heap.size 5 1 (.slice (some ⟨w.heap.size, 0, none⟩) m m) m ((putP l v 0).map encB) := own_block12 (by have h := HG2.out; rw [HP0.out] at h; exact h) (by unfold maxLen; have := HMM.out; omega) (by rw [List.length_map, putP_len l v (by omega), ← HLL.out, HMM.out]) (Nat.le_refl _)
  refine (CO (HAV.out.on hB2)).mono ?_
  rintro e w3 ⟨rfl, b⟩
  have HO3 := Lib.hid (own_on12 hO2 b)
  have HB3 := Lib.hid (hB2.trans (b.mono hB2.size))
  have HN := Lib.hid hn
  clear b hO2 hB2 HG2 HP0 HG0 HP HB0 HCL HF H1 HAV CO hmk hn hS k1
  go_wp2_with fail
  go_loopw [15] (fun iv wr => ∃ i : Nat, i ≤ 4 ∧ iv = .int .i64 (i : Int) ∧ wr.ownsRow w.heap.size 5 1 (.slice (some ⟨w.heap.size, 0, none⟩) m m) m ((putP l v i).map encB) ∧ Below w.heap.size w wr) (fun iv _ => 4 - (intOf iv).toNat)
  case atStart => exact ⟨0, by omega, rfl, HO3.out, HB3.out⟩
  case round =>
    clear HO3 HB3
    obtain ⟨i, hi, rfl, hO, hbl⟩ := hrel
    by_cases hlt : i < 4
    · have hM := putP_set l v hlt
      have hPl := putP_len l v hi
      rw [← HLL.out] at hM hPl
      have hm := HMM.out
      have hn := HN.out
      obtain ⟨a, ha⟩ : ∃ a, n + i = a := ⟨_, rfl⟩
      obtain ⟨s, hs⟩ : ∃ s, 8 * i = s := ⟨_, rfl⟩
      rw [ha] at hM
      have k4 : IntKind.i64.wrap ((n : Int) + (i : Int)) = (a : Int) := by rw [IntWalk.i64_in _ (by omega)]; omega
      have k5 : IntKind.i64.wrap (8 * (i : Int)) = (s : Int) := by rw [IntWalk.i64_in _ (by omega)]; omega
      have k3 : IntKind.i64.wrap ((i : Int) + 1) = ((i + 1 : Nat) : Int) := by rw [IntWalk.i64_in _ (by omega)]; omega
      have am : a < m := by omega
      have ami : (a : Int) < (m : Int) := by omega
      have hgl := (hO.lt _ rfl).2
      have cx := hO.cellAt a (by omega)
      have fx := hO.frozenAt a
      obtain ⟨v0_, ev0⟩ : ∃ u, ((putP l v i).map encB)[a]? = some u := ⟨_, List.getElem?_eq_getElem (by rw [List.length_map]; omega)⟩
      rw [ev0] at cx
      have HBy : Hid ((v : Int) / 2 ^ s % 256 = ((v / 256 ^ i % 256 : Nat) : Int)) := Lib.hid (by rw [← hs, Int.pow_mul]; simp)
      have HM := Lib.hid hM
      have HO2 := Lib.hid hO
      clear hM hPl hO hm hn ha ev0
      go_wp2_with fail
      go_roundw
      case rel =>
        rw [HBy.out]
        obtain ⟨hO3, hg3⟩ := HO2.out.stored a (encB (v / 256 ^ i % 256))
        rw [← List.map_set, HM.out] at hO3
        exact ⟨i + 1, by omega, by go_num, hO3, hbl.setCell (p := ⟨w.heap.size, a, none⟩) (Nat.le_refl _) _⟩
      case measure => simp [intOf] <;> omega
    · obtain rfl : i = 4 := by omega
      rw [HEE.out] at hO
      go_wp2_with fail
      go_ret
      exact ⟨_, _, _, rfl, hO, hbl⟩

end Go.Proofs.Ytkknopahiajeeaa

/-
  The contract of the landed crc's Cut.
-/
namespace Go.Proofs.Ytkknopahiajeeaa
set_option maxRecDepth 100000
open Go.RowKit
set_option linter.unusedVariables false
set_option linter.unusedSimpArgs false

theorem u32_or8 {a c s : Nat} (hs : s ≤ 24) (ha : a < 2 ^ s) (hc : c < 256) : bits .or .u32 (a : Int) (IntKind.u32.wrap ((c : Int) * 2 ^ s)) = ((a + c * 2 ^ s : Nat) : Int) := by
  have h1 : 2 ^ s ≤ 2 ^ 24 := Nat.pow_le_pow_right (by omega) hs
  have h2 : c * 2 ^ s ≤ 255 * 2 ^ 24 := Nat.mul_le_mul (by omega) h1
  have h3 : (2 : Nat) ^ 24 = 16777216 := by decide
  have e1 : IntKind.u32.wrap ((c : Int) * 2 ^ s) = ((c * 2 ^ s : Nat) : Int) := by
    rw [IntKind.wrap_u32, show (c : Int) * 2 ^ s = ((c * 2 ^ s : Nat) : Int) by simp]
    omega
  rw [e1]
  have key : (BitVec.ofInt 32 (a : Int) ||| BitVec.ofInt 32 ((c * 2 ^ s : Nat) : Int)).toNat = a + c * 2 ^ s := by
    have h1 : (a : Int) % ((2 ^ 32 : Nat) : Int) = (a : Int) := Int.emod_eq_of_lt (by omega) (by omega)
    have h2 : ((c * 2 ^ s : Nat) : Int) % ((2 ^ 32 : Nat) : Int) = ((c * 2 ^ s : Nat) : Int) := Int.emod_eq_of_lt (by omega) (by omega)
    rw [BitVec.toNat_or, BitVec.toNat_ofInt, BitVec.toNat_ofInt, h1, h2, Int.toNat_natCast, Int.toNat_natCast, Nat.or_comm, Nat.mul_comm c, ← Nat.two_pow_add_eq_or_of_lt ha]
    omega
  show IntKind.u32.wrap ((BitVec.ofInt 32 (a : Int) ||| BitVec.ofInt 32 ((c * 2 ^ s : Nat) : Int)).toNat : Nat) = _
  rw [key, IntKind.wrap_u32]
  omega
/-- The number that the bytes from place p on say, the lowest first. -/
def sumK (l : List Nat) (p : Nat) : Nat → Nat
  | 0 => 0
  | i + 1 => sumK l p i + l[p + i]?.getD 0 * 2 ^ (8 * i)
theorem sumK_lt {l : List Nat} (h : ∀ c ∈ l, c < 256) (p : Nat) : ∀ i, p + i ≤ l.length → sumK l p i < 2 ^ (8 * i)
  | 0, _ => by simp [sumK]
  | i + 1, hi => by
    have h1 := sumK_lt h p i (by omega)
    have h2 : l[p + i]?.getD 0 < 256 := h _ (mem_at (by omega))
    show sumK l p i + l[p + i]?.getD 0 * 2 ^ (8 * i) < _
    rw [show 8 * (i + 1) = 8 * i + 8 by omega, Nat.pow_add]
    have h3 : l[p + i]?.getD 0 * 2 ^ (8 * i) ≤ 255 * 2 ^ (8 * i) := Nat.mul_le_mul_right _ (by omega)
    have h4 : (2 : Nat) ^ 8 = 256 := by decide
    omega
theorem sumK_le {l : List Nat} (h : ∀ c ∈ l, c < 256) {p : Nat} (hp : l.length = p + 4) : leB 4 (sumK l p 4) = l.drop p := by
  have a0 : l[p + 0]?.getD 0 < 256 := h _ (mem_at (by omega))
  have a1 : l[p + 1]?.getD 0 < 256 := h _ (mem_at (by omega))
  have a2 : l[p + 2]?.getD 0 < 256 := h _ (mem_at (by omega))
  have a3 : l[p + 3]?.getD 0 < 256 := h _ (mem_at (by omega))
  have e : sumK l p 4 = l[p + 0]?.getD 0 + l[p + 1]?.getD 0 * 256 + l[p + 2]?.getD 0 * 65536 + l[p + 3]?.getD 0 * 16777216 := by
    have e0 : sumK l p 4 = 0 + l[p + 0]?.getD 0 * 2 ^ (8 * 0) + l[p + 1]?.getD 0 * 2 ^ (8 * 1) + l[p + 2]?.getD 0 * 2 ^ (8 * 2) + l[p + 3]?.getD 0 * 2 ^ (8 * 3) := rfl
    rw [e0, show (2 : Nat) ^ (8 * 0) = 1 by decide, show (2 : Nat) ^ (8 * 1) = 256 by decide, show (2 : Nat) ^ (8 * 2) = 65536 by decide, show (2 : Nat) ^ (8 * 3) = 16777216 by decide, Nat.zero_add, Nat.mul_one]
  have d : l.drop p = [l[p + 0]?.getD 0, l[p + 1]?.getD 0, l[p + 2]?.getD 0, l[p + 3]?.getD 0] := by
    refine List.ext_getElem? fun j => ?_
    rw [List.getElem?_drop]
    match j with
    | 0 => rw [List.getElem?_eq_getElem (by omega)]; rfl
    | 1 => rw [List.getElem?_eq_getElem (by omega)]; rfl
    | 2 => rw [List.getElem?_eq_getElem (by omega)]; rfl
    | 3 => rw [List.getElem?_eq_getElem (by omega)]; rfl
    | j + 4 => rw [List.getElem?_eq_none (by omega)]; rfl
  rw [leB4, d, e]
  generalize l[p + 0]?.getD 0 = x0 at *
  generalize l[p + 1]?.getD 0 = x1 at *
  generalize l[p + 2]?.getD 0 = x2 at *
  generalize l[p + 3]?.getD 0 = x3 at *
  clear d e h
  rw [show (x0 + x1 * 256 + x2 * 65536 + x3 * 16777216) % 256 = x0 by omega, show (x0 + x1 * 256 + x2 * 65536 + x3 * 16777216) / 256 % 256 = x1 by omega, show (x0 + x1 * 256 + x2 * 65536 + x3 * 16777216) / 65536 % 256 = x2 by omega, show (x0 + x1 * 256 + x2 * 65536 + x3 * 16777216) / 16777216 % 256 = x3 by omega]
theorem leB4_inj {a b : Nat} (ha : a < 4294967296) (hb : b < 4294967296) (h : leB 4 a = leB 4 b) : a = b := by
  rw [leB4, leB4] at h
  injection h with h0 h
  injection h with h1 h
  injection h with h2 h
  injection h with h3 h
  omega
/-- The checksum stands behind just if the number says so. -/
theorem sum_iff {l : List Nat} (h : ∀ c ∈ l, c < 256) {p : Nat} (hp : l.length = p + 4) : crcOn 0 (l.take p) = sumK l p 4 ↔ l = putB (l.take p) := by
  have e := sumK_le h hp
  have hs : sumK l p 4 < 4294967296 := sumK_lt h p 4 (by omega)
  constructor
  · intro g
    unfold putB
    rw [g, e, List.take_append_drop]
  · intro g
    refine leB4_inj (crcOn_lt _) hs ?_
    rw [e]
    have g2 : l.take p ++ l.drop p = l.take p ++ leB 4 (crcOn 0 (l.take p)) := by rw [List.take_append_drop]; exact g
    exact (List.append_cancel_left g2).symm
theorem cut_no {y : List Nat} {p : Nat} (hp : y.length = p + 4) (h : ¬ y = putB (y.take p)) : cutB y = [] ∧ cutE y = 8 := by
  have e : y.length - 4 = p := by omega
  unfold cutB cutE
  rw [e, if_neg (by omega), if_neg h, if_neg (by omega), if_neg h]
  exact ⟨rfl, rfl⟩
theorem cut_yes {y : List Nat} {p : Nat} (hp : y.length = p + 4) (h : y = putB (y.take p)) : cutB y = y.take p ∧ cutE y = 0 := cut_put h

set_option maxRecDepth 100000 in
set_option maxHeartbeats 8000000 in
theorem gCut_short {w : World} {A : Option Addr} {n c : Nat} (h : n < 4) :
    Calls Try.prog 10 #[.slice A n c] w (GotBr w [] 3) := by
  have t0 : decide ((n : Int) < 4) = true := decide_eq_true (by omega)
  have u0 : decide (n < 4) = true := decide_eq_true h
  clear h
  have cc := Below.refl w.heap.size w
  go_enter Try.func10, Try.ntmps10
  go_wp2_with fail
  go_ret2
  exact ⟨_, _, _, rfl, BR.nil _ _ _, cc⟩

set_option maxRecDepth 100000 in
set_option maxHeartbeats 8000000 in
theorem gCut_main {w : World} {bb off n c p : Nat} {l : List Nat} (hA : BR w (some ⟨bb, off, none⟩) n c l) (hn : n ≤ 2000000) (hp : n = p + 4) :
    Calls Try.prog 10 #[.slice (some ⟨bb, off, none⟩) n c] w (GotBr w (cutB l) (cutE l)) := by
  have hll := hA.1
  have hlp : l.length = p + 4 := by omega
  have HI := Lib.hid (sum_iff hA.2.2.1 hlp)
  have HY := Lib.hid (fun h => cut_yes hlp h)
  have HNo := Lib.hid (fun h => cut_no hlp h)
  have HK := Lib.hid (fun i (h : p + i ≤ l.length) => sumK_lt hA.2.2.1 p i h)
  obtain ⟨R, hR⟩ : ∃ R, cutB l = R := ⟨_, rfl⟩
  obtain ⟨E, hE⟩ : ∃ E, cutE l = E := ⟨_, rfl⟩
  rw [hR, hE] at HY HNo ⊢
  clear hR hE
  have t0 : decide ((n : Int) < 4) = false := decide_eq_false (by omega)
  have u0 : decide (n < 4) = false := decide_eq_false (by omega)
  have k1 : IntKind.i64.wrap ((n : Int) - 4) = (p : Int) := by rw [IntWalk.i64_in _ (by omega)]; omega
  have pn : p ≤ n := by omega
  have hnc := hA.2.1
  have pc : p ≤ c := by omega
  have pci : (p : Int) ≤ (c : Int) := by omega
  have pni : (p : Int) ≤ (n : Int) := by omega
  have p0 : (0 : Int) ≤ (p : Int) := by omega
  have cne : ¬ c = p := by omega
  have np4 : n - p = 4 := by omega
  have hT := hA.take pn
  have CO := fun {W : World} (h : BR W (some ⟨bb, off, none⟩) p c (l.take p)) => gOf_N h (by omega)
  have cc := Below.refl w.heap.size w
  have HP := Lib.hid hp
  have HN := Lib.hid hn
  have HNC := Lib.hid hnc
  have HLP := Lib.hid hlp
  clear hll hlp hp hn hnc
  go_enter Try.func10, Try.ntmps10
  go_wp2_with fail
  go_region_held3 (fun w' => True) (trivial) (fail)
  go_wp2_with fail
  clear t0 u0 k1 pni cne np4
  go_loopw [6, 25] (fun sv iv wr => ∃ i : Nat, i ≤ 4 ∧ iv = .int .i64 (i : Int) ∧ sv = .int .u32 ((sumK l p i : Nat) : Int) ∧ Below w.heap.size w wr) (fun _ iv _ => 4 - (intOf iv).toNat)
  case atStart => exact ⟨0, by omega, rfl, rfl, below_drewN (Below.refl _ w) 1⟩
  case round =>
    obtain ⟨i, hi, rfl, rfl, hbl⟩ := hrel
    by_cases hlt : i < 4
    · have hc6 := hA.at (j := p + i) (by have := HP.out; omega)
      have h1 := (hA.on hbl).cell (j := p + i) (by have := HP.out; omega)
      rw [← Nat.add_assoc] at h1
      have hsu : sumK l p (i + 1) = sumK l p i + l[p + i]?.getD 0 * 2 ^ (8 * i) := rfl
      have hsl := HK.out i (by have := HLP.out; omega)
      obtain ⟨x, hx⟩ : ∃ x, l[p + i]?.getD 0 = x := ⟨_, rfl⟩
      rw [hx] at h1 hc6 hsu
      obtain ⟨y, hy⟩ : ∃ y, sumK l p i = y := ⟨_, rfl⟩
      rw [hy] at hsu hsl ⊢
      obtain ⟨s, hs⟩ : ∃ s, 8 * i = s := ⟨_, rfl⟩
      rw [hs] at hsu hsl
      have k4 : IntKind.u32.wrap (x : Int) = (x : Int) := by rw [IntKind.wrap_u32]; omega
      have k5 : IntKind.i64.wrap (8 * (i : Int)) = (s : Int) := by rw [IntWalk.i64_in _ (by omega)]; omega
      have k6 : bits .or .u32 (y : Int) ((x : Int) * 2 ^ min s 32 % 4294967296) = ((sumK l p (i + 1) : Nat) : Int) := by
        have h := u32_or8 (s := s) (by omega) hsl hc6
        rw [IntKind.wrap_u32] at h
        rw [hsu, Nat.min_eq_left (by omega)]
        exact h
      obtain ⟨z, hz⟩ : ∃ z, sumK l p (i + 1) = z := ⟨_, rfl⟩
      rw [hz] at k6
      have HZ := Lib.hid hz
      have k3 : IntKind.i64.wrap ((i : Int) + 1) = ((i + 1 : Nat) : Int) := by rw [IntWalk.i64_in _ (by omega)]; omega
      clear hsu hsl hx hy hz hs
      go_wp2_with fail
      go_roundw
      case rel => exact ⟨i + 1, by omega, by go_num, by rw [HZ.out], hbl⟩
      case measure => simp [intOf] <;> omega
    · obtain rfl : i = 4 := by omega
      have hAi := hA.on hbl
      have hTi := hT.on hbl
      by_cases hq : l = putB (l.take p)
      · obtain ⟨hR, hE⟩ := HY.out hq
        subst hR
        subst hE
        have hv := HI.out.2 hq
        rw [hv] at CO
        clear hq hv HI HY HNo HK
        generalize sumK l p 4 = v at *
        go_wp2_with fail
        refine (CO hTi).mono ?_
        rintro e w3 ⟨rfl, b⟩
        have hT3 := hTi.on b
        have cc := hbl.trans (b.mono hbl.size)
        clear b hTi hAi hA
        have e1 : ((v : Int) != (v : Int)) = false := by simp
        have e2 : ((v : Int) == (v : Int)) = true := by simp
        have hmk := zr12_run p (by have := HP.out; have := HN.out; omega)
        have hS : (Try.prog.info? 5).map (·.size) = some 1 := by
          obtain ⟨i0, hi, hz0, hz1, hz2⟩ := info_parts infoB
          rw [hi]; exact congrArg some hz1
        obtain ⟨L, hL⟩ : ∃ L, l.take p = L := ⟨_, rfl⟩
        rw [hL] at hT3
        have HLq := Lib.hid hL
        clear hL CO hT
        obtain ⟨cs, hcs⟩ : ∃ cs, L.map encB = cs := ⟨_, rfl⟩
        have hcl : cs.length = p := by rw [← hcs, List.length_map, ← hT3.1]
        have h1c : ∀ u ∈ cs, u.oneCell' = true := by rw [← hcs]; intro u hu; obtain ⟨x, _, rfl⟩ := List.mem_map.1 hu; rfl
        have hB0 : Below w3.heap.size w3 (w3.alloc (zr12 p)) := (Below.refl _ w3).alloc (Nat.le_refl _) _
        have hsrc : ∀ j u, cs[j]? = some u → (w3.alloc (zr12 p)).cell? ((⟨bb, off, none⟩ : Addr).add j) = some u := by rw [← hcs]; exact br_news hT3 hB0
        obtain ⟨zs, hzs⟩ : ∃ zs, List.replicate p (Value.int .u8 0) = zs := ⟨_, rfl⟩
        have hZB := zr12_heap p w3
        rw [hzs] at hZB
        have hzl : zs.length = p := by rw [← hzs, List.length_replicate]
        have hsp : splice zs 0 cs = L.map encB := by unfold splice; rw [List.drop_of_length_le (by omega), hcs]; simp
        have H8 := Lib.hid hT3.2.2.1
        have HSP := Lib.hid hsp
        have HG0 := Lib.hid hZB
        have HB0 := Lib.hid (cc.alloc cc.size (zr12 p))
        have HCL : Hid (cs.length = Nat.min p p) := Lib.hid (by rw [hcl]; exact (Nat.min_self p).symm)
        have HF : Hid (0 + cs.length ≤ zs.length) := Lib.hid (by omega)
        have H1 := Lib.hid h1c
        have HPs := Lib.hid hsrc
        have HWS := Lib.hid cc.size
        have HLn : Hid (L.length = p) := Lib.hid (hT3.1).symm
        clear hcl h1c hB0 hsrc hzs hZB hzl hsp hcs hT3 cc
        go_wp2_with (with_reducible refine wpList_copy_splice rfl (.tmp 45) (.tmp 46) 23 23 rfl 5 Try.underlying23 hS _ _ _ _ _ _ rfl rfl w3.heap.size 0 zs 5 HG0.out cs HCL.out (fun h => ⟨rfl, _, rfl, HPs.out⟩) HF.out H1.out w.heap.size w HB0.out HWS.out ?_; intro w4 HG4 hB4)
        go_ret2
        have hO4 : w4.ownsRow w.heap.size 5 1 (.slice (some ⟨w3.heap.size, 0, none⟩) p p) p (L.map encB) := own_block12 (by have h := HG4.out; rw [HSP.out] at h; exact h) (by unfold maxLen; have := HN.out; have := HP.out; omega) (by rw [List.length_map, HLn.out]) HWS.out
        exact ⟨_, _, _, rfl, by rw [HLq.out]; exact BR.of_own hO4 H8.out, hB4⟩
      · obtain ⟨hR, hE⟩ := HNo.out hq
        subst hR
        subst hE
        have hv : ¬ crcOn 0 (l.take p) = sumK l p 4 := fun h => hq (HI.out.1 h)
        clear HI HY HNo HK
        generalize sumK l p 4 = v at *
        generalize crcOn 0 (l.take p) = u at *
        have e1 : ((u : Int) != (v : Int)) = true := by simp; omega
        have e2 : ((u : Int) == (v : Int)) = false := beq_eq_false_iff_ne.2 (by omega)
        clear hv hq
        go_wp2_with fail
        refine (CO hTi).mono ?_
        rintro e w3 ⟨rfl, b⟩
        have cc := hbl.trans (b.mono hbl.size)
        clear b
        go_wp2_with fail
        go_ret2
        exact ⟨_, _, _, rfl, BR.nil _ _ _, cc⟩

theorem gCut_N {w : World} {A : Option Addr} {n c : Nat} {l : List Nat} (hA : BR w A n c l) (hn : n ≤ 2000000) : Calls Try.prog 10 #[.slice A n c] w (GotBr w (cutB l) (cutE l)) := by
  by_cases h : n < 4
  · obtain ⟨e1, e2⟩ := cut_short (y := l) (by rw [← hA.1]; exact h)
    rw [e1, e2]; exact gCut_short h
  · obtain ⟨bb, off, rfl, _⟩ := hA.some (by omega)
    exact gCut_main (p := n - 4) hA hn (by omega)

end Go.Proofs.Ytkknopahiajeeaa

/-
  The contracts of the landed crc.
-/
namespace Go.Proofs.Ytkknopahiajeeaa
end Go.Proofs.Ytkknopahiajeeaa
