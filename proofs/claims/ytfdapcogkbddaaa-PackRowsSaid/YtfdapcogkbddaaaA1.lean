/-
  Several texts in one: B1, RB, FrB, M12, C12a, C12b, M13, Math, Words, Limb, Sq, C13a, C13c.
-/
import Derived.WalkKit
import Derived.WalkSpells
import Derived.WalkLawsBesides
import Derived.Lib.Hide
import Derived.Lib.SliceRun
import Derived.Deep.RegionHeld3
import Derived.Deep.AppendLies
import Derived.Deep.QuietTactic
import Derived.Deep.DeepCutAuto
import Derived.Deep.CutBlock
import Derived.Deep.Draws
import Derived.Laws.OwnMore
import Derived.Below
import Derived.OpenShut
import Derived.Test.YtfdapcogkbddaaaRows
import Derived.ProofKit
import Derived.ShutString
import Derived.ChangeOld
import Derived.Lib.SmallJoins
import Derived.SizedLaws

/-
  Rows of integers: what a slice value reads as, what keeps it, what is answered; a row of the call's own.
-/
namespace Go.Proofs.Ytfdapcogkbddaaa
set_option maxRecDepth 100000
open Go.RowKit
set_option linter.unusedVariables false

/-- An integer as a value. -/
def encI (z : Int) : Value := .int .i64 z
/-- What 64 bits hold. -/
def Fits (z : Int) : Prop := -9223372036854775808 ≤ z ∧ z ≤ 9223372036854775807
theorem Fits.wrap {z : Int} (h : Fits z) : IntKind.i64.wrap z = z := IntWalk.i64_in z h
theorem infoI : (Try.prog.info? 2).map (fun i => (i.zero, i.size, i.bytes)) = some (some (.int .i64 0), 1, 8) := by kernel_rfl

/-- The slice value '.slice A n c' holds the integers l. -/
def IR (w : World) (A : Option Addr) (n c : Nat) (l : List Int) : Prop :=
  n = l.length ∧ n ≤ c ∧ (0 < n → ∃ b off, A = some ⟨b, off, none⟩ ∧ b < w.heap.size ∧ ∀ j, j < n → w.cell? ⟨b, off + j, none⟩ = some (.int .i64 (l[j]?.getD 0)))
theorem IR.on {w w' : World} {A : Option Addr} {n c : Nat} {l : List Int} (h : IR w A n c l) (hb : Below w.heap.size w w') : IR w' A n c l :=
  ⟨h.1, h.2.1, fun hn => by
    obtain ⟨b, off, e, hlt, hc⟩ := h.2.2 hn
    exact ⟨b, off, e, Nat.lt_of_lt_of_le hlt hb.size, fun j hj => (hb.cell (p := ⟨b, off + j, none⟩) hlt).trans (hc j hj)⟩⟩
theorem IR.nil (w : World) (A : Option Addr) (c : Nat) : IR w A 0 c [] := ⟨rfl, Nat.zero_le _, fun h => absurd h (by omega)⟩
theorem IR.of_own {w : World} {base : Nat} {e : TypeId} {A : Option Addr} {n c : Nat} {l : List Int} (h : w.ownsRow base e 1 (.slice A n c) n (l.map encI)) : IR w A n c l := by
  have hl : n = l.length := by have := h.1; simp at this; omega
  refine ⟨hl, ?_, fun hn => ?_⟩
  · rcases h.2 with ⟨e1, h0⟩ | ⟨g, cap, cur, e1, _, _, hnc, _⟩
    · omega
    · injection e1 with _ _ e2; omega
  · have hlt := h.lt
    rcases h.2 with ⟨e1, h0⟩ | ⟨g, cap, cur, e1, _, _, hnc, _⟩
    · omega
    · injection e1 with e2 _ e3
      subst e2; subst e3
      refine ⟨g, 0, rfl, (hlt g rfl).2, fun j hj => ?_⟩
      have := h.cellAt j (by omega)
      rw [Nat.zero_add, this, List.getElem?_map, List.getElem?_eq_getElem (by omega)]
      simp [encI]

/-- A known value. -/
def GotV (w : World) (v : Value) (e : Ending) (w' : World) : Prop := e = .returned v ∧ Below w.heap.size w w'
/-- A row of integers. -/
def GotI (w : World) (l : List Int) (e : Ending) (w' : World) : Prop := ∃ A n c, e = .returned (.slice A n c) ∧ IR w' A n c l ∧ Below w.heap.size w w'
/-- A row of integers, and a code. -/
def GotIp (w : World) (l : List Int) (r : Int) (e : Ending) (w' : World) : Prop := ∃ A n c, e = .returned (.tuple #[.slice A n c, .int .i64 r]) ∧ IR w' A n c l ∧ Below w.heap.size w w'
end Go.Proofs.Ytfdapcogkbddaaa

/-
  Rows of bytes: what a slice value reads as, what keeps it; a row of the call's own.
-/
namespace Go.Proofs.Ytfdapcogkbddaaa
set_option maxRecDepth 100000
open Go.RowKit
set_option linter.unusedVariables false

theorem mem_at {α : Type} {L : List α} {d : α} {j : Nat} (h : j < L.length) : L[j]?.getD d ∈ L := by rw [List.getElem?_eq_getElem h]; exact List.getElem_mem h
theorem at_mem {α : Type} {L : List α} (d : α) {x : α} (h : x ∈ L) : ∃ j, j < L.length ∧ L[j]?.getD d = x := by
  obtain ⟨j, hj, e⟩ := List.mem_iff_getElem.1 h
  exact ⟨j, hj, by rw [List.getElem?_eq_getElem hj]; exact e⟩
theorem map_at {α β : Type} {L : List α} {f : α → β} {d : α} {e : β} {j : Nat} (h : j < L.length) : (L.map f)[j]?.getD e = f (L[j]?.getD d) := by
  rw [List.getElem?_map, List.getElem?_eq_getElem h]; rfl
/-- A byte as a value. -/
def encB (x : Nat) : Value := .int .u8 (x : Int)
/-- The slice value '.slice A n c' holds the bytes l. -/
def BR (w : World) (A : Option Addr) (n c : Nat) (l : List Nat) : Prop :=
  n = l.length ∧ n ≤ c ∧ (∀ x ∈ l, x < 256) ∧ (0 < n → ∃ b off, A = some ⟨b, off, none⟩ ∧ b < w.heap.size ∧ ∀ j, j < n → w.cell? ⟨b, off + j, none⟩ = some (.int .u8 ((l[j]?.getD 0 : Nat) : Int)))
theorem BR.on {w w' : World} {A : Option Addr} {n c : Nat} {l : List Nat} (h : BR w A n c l) (hb : Below w.heap.size w w') : BR w' A n c l :=
  ⟨h.1, h.2.1, h.2.2.1, fun hn => by
    obtain ⟨b, off, e, hlt, hc⟩ := h.2.2.2 hn
    exact ⟨b, off, e, Nat.lt_of_lt_of_le hlt hb.size, fun j hj => (hb.cell (p := ⟨b, off + j, none⟩) hlt).trans (hc j hj)⟩⟩
theorem BR.nil (w : World) (A : Option Addr) (c : Nat) : BR w A 0 c [] := ⟨rfl, Nat.zero_le _, fun _ h => by simp at h, fun h => absurd h (by omega)⟩
theorem BR.cell {w : World} {b off n c j : Nat} {l : List Nat} (h : BR w (some ⟨b, off, none⟩) n c l) (hj : j < n) : w.cell? ⟨b, off + j, none⟩ = some (.int .u8 ((l[j]?.getD 0 : Nat) : Int)) := by
  obtain ⟨b', off', e, hlt, hc⟩ := h.2.2.2 (by omega)
  injection e with e
  injection e with e1 e2
  subst e1
  subst e2
  exact hc j hj
theorem BR.some {w : World} {A : Option Addr} {n c : Nat} {l : List Nat} (h : BR w A n c l) (hn : 0 < n) : ∃ b off, A = some ⟨b, off, none⟩ ∧ b < w.heap.size := by
  obtain ⟨b, off, e, hlt, hc⟩ := h.2.2.2 hn
  exact ⟨b, off, e, hlt⟩
theorem BR.at {w : World} {A : Option Addr} {n c : Nat} {l : List Nat} (h : BR w A n c l) {j : Nat} (hj : j < n) : l[j]?.getD 0 < 256 := h.2.2.1 _ (mem_at (by rw [← h.1]; exact hj))
theorem infoB : (Try.prog.info? 5).map (fun i => (i.zero, i.size, i.bytes)) = some (some (.int .u8 0), 1, 1) := by kernel_rfl
theorem BR.of_own {w : World} {base : Nat} {e : TypeId} {A : Option Addr} {n c : Nat} {l : List Nat} (h : w.ownsRow base e 1 (.slice A n c) n (l.map encB)) (hl8 : ∀ x ∈ l, x < 256) : BR w A n c l := by
  have hl : n = l.length := by have := h.1; simp at this; omega
  refine ⟨hl, ?_, hl8, fun hn => ?_⟩
  · rcases h.2 with ⟨e1, h0⟩ | ⟨g, cap, cur, e1, _, _, hnc, _⟩
    · omega
    · injection e1 with _ _ e2; omega
  · have hlt := h.lt
    rcases h.2 with ⟨e1, h0⟩ | ⟨g, cap, cur, e1, _, _, hnc, _⟩
    · omega
    · injection e1 with e2 _ e3
      subst e2; subst e3
      refine ⟨g, 0, rfl, (hlt g rfl).2, fun j hj => ?_⟩
      have := h.cellAt j (by omega)
      rw [Nat.zero_add, this, List.getElem?_map, List.getElem?_eq_getElem (by omega)]
      simp [encB]
/-- A row of bytes is answered; with a code. -/
def GotB (w : World) (l : List Nat) (e : Ending) (w' : World) : Prop := ∃ A n c, e = .returned (.slice A n c) ∧ BR w' A n c l ∧ Below w.heap.size w w'
def GotBr (w : World) (l : List Nat) (r : Int) (e : Ending) (w' : World) : Prop := ∃ A n c, e = .returned (.tuple #[.slice A n c, .int .i64 r]) ∧ BR w' A n c l ∧ Below w.heap.size w w'
theorem addr_add (b o j : Nat) : (⟨b, o, none⟩ : Addr).add j = ⟨b, o + j, none⟩ := by unfold Addr.add; split; (rename_i h0; subst h0; rfl); rfl
/-- The cells of a row, as an append wants them. -/
theorem br_news {w W : World} {b off n c : Nat} {l : List Nat} (h : BR w (some ⟨b, off, none⟩) n c l) (hb : Below w.heap.size w W) : ∀ j u, (l.map encB)[j]? = some u → W.cell? ((⟨b, off, none⟩ : Addr).add j) = some u := by
  intro j u e
  rw [List.getElem?_map] at e
  rcases hj : l[j]? with _ | z
  · rw [hj] at e; cases e
  · rw [hj] at e; injection e with e
    have hlt : j < l.length := (List.getElem?_eq_some_iff.1 hj).1
    have h1 := (h.on hb).cell (j := j) (by rw [h.1]; exact hlt)
    rw [hj] at h1
    rw [← e, addr_add]
    exact h1
/-- Nothing is appended. -/
theorem run_append_zero {P : Program} (w : World) (t ty e : TypeId) (i : TypeInfo) (ht : P.underlying t = some (.slice e)) (hi : P.info? e = some i) (A B : Option Addr) (n c d : Nat) (hn : n ≤ c) :
    (Builtin.append_ #[t, t] ty #[.slice A n c, .slice B 0 d]).run P w = .ok (.slice A n c) w := by
  simp only [Builtin.append_]
  rcases A with _ | a <;> rcases B with _ | b <;> simp [run_underlying ht, sizeOf, typeInfo, hi, Builtin.firstCells, Builtin.lenOf, hn, storeCells, Result.andThen, go_sem]
theorem wpList_append_zero {P : Program} (w : World) {ops : Array Oper} {rest : List Oper} {o : Oper} {a : Act} {Q : Exit → Act → World → Prop} (hgd : o.guard = none) (s x : Operand) (t : TypeId)
    (ho : o.op = .call { callee := .builtin .append, args := #[s, x], argTypes := #[t, t] }) (e : TypeId) (i : TypeInfo) (ht : P.underlying t = some (.slice e)) (hi : P.info? e = some i)
    (A B : Option Addr) (n c d : Nat) (hs : a.eval s = .slice A n c) (hx : a.eval x = .slice B 0 d) (hn : n ≤ c)
    (h : wpList P ops Q rest (a.put o.dst (.slice A n c)) w) : wpList P ops Q (o :: rest) a w :=
  wpList_plain hgd fun K hK => by
    have hr := run_append_zero (P := P) w t o.type e i ht hi A B n c d hn
    unfold Oper.wp execOp
    simp only [ho, resolve, invoke, builtin, Sem.run_bind, Sem.run_pure, Result.andThen_ok, List.map_toArray, List.map_cons, List.map_nil, hs, hx, hr]
    exact hK _ _ h
end Go.Proofs.Ytfdapcogkbddaaa

/-
  Rows of bytes that came in; small arrays of integers.
-/
namespace Go.Proofs.Ytfdapcogkbddaaa
set_option maxRecDepth 100000
open Go.ChangeShapes Go.WideShapes Go.ChangeAt Go.RowKit Go.Joins

theorem cell_blockB {w : World} {b o : Nat} {v : Value} (h : w.cell? ⟨b, o, none⟩ = some v) : b < w.heap.size := by
  rcases Nat.lt_or_ge b w.heap.size with h1 | h1
  · exact h1
  · simp [World.cell?, Array.getElem?_eq_none h1] at h
theorem br_row {w : World} {a : Option Addr} {len cap : Nat} {zs : List Int}
    (h : (a = none ∧ len = 0 ∧ cap = 0 ∧ zs = []) ∨ ∃ x, a = some x ∧ len ≤ cap ∧ cap ≤ maxLen ∧ zs.length = cap ∧ (∀ i, i < zs.length → w.cell? (x.add i) = some (.int .u8 (zs.getD i 0))) ∧ ∀ n ∈ zs, (Lit.int .u8 n).wf = true) :
    ∃ l, BR w a len cap l ∧ len ≤ 9223372036854775807 := by
  rcases h with ⟨rfl, rfl, rfl, rfl⟩ | ⟨x, rfl, hl, hm, hz, hc, hw⟩
  · exact ⟨[], BR.nil _ _ _, by omega⟩
  · refine ⟨(zs.take len).map Int.toNat, ⟨by simp; omega, hl, ?_, fun h0 => ?_⟩, by unfold maxLen at hm; omega⟩
    · intro y hy
      obtain ⟨z, hz1, rfl⟩ := List.mem_map.1 hy
      have := bounds_u8 (hw z (List.mem_of_mem_take hz1))
      omega
    · obtain ⟨b, off, rfl, hcell⟩ := ints_at hc (by omega)
      refine ⟨b, off, rfl, cell_blockB (hcell 0 (by omega)), fun j hj => ?_⟩
      rw [hcell j (by omega)]
      have hb := bounds_u8 (hw (zs[j]'(by omega)) (List.getElem_mem _))
      have hj2 : j < zs.length := by omega
      rw [List.getElem?_map, List.getElem?_take_of_lt hj, List.getElem?_eq_getElem hj2]
      simp only [List.getD_eq_getElem?_getD, List.getElem?_eq_getElem hj2, Option.getD_some, Option.map_some]
      rw [Int.toNat_of_nonneg hb.1]
/-- How a row of that capacity is read. -/
def Read {H : Type} (cap : Nat) (d : DataW H) : Prop := cap = 0 ∨ ∃ es ss, d = .slice es ss ∧ es.length + ss.length = cap
section
variable {H : Type} {enc : TypeId × Value → H} {W : World} {base : Nat} {held : Bool} {v : Value} {y : DataW H × List MemPlace} {n : Nat}
theorem trod_u8s (h : DataW.trod enc Try.prog W base (fun _ => true) held n 22 [v] = some y) :
    ∃ (a : Option Addr) (len cap : Nat) (l : List Nat), v = .slice a len cap ∧ BR W a len cap l ∧ len ≤ 9223372036854775807 ∧ Read cap y.1 := by
  rcases open_ints Try.underlying22 Try.underlying5 (by kernel_rfl) h with ⟨hcs, _⟩ | ⟨x, l, c, zs, hcs, _, hl, hm, hz, hy, hcell, hwz⟩
  · injection hcs with hcs _
    subst hcs
    obtain ⟨l, hl, hn⟩ := br_row (w := W) (a := none) (len := 0) (cap := 0) (zs := []) (.inl ⟨rfl, rfl, rfl, rfl⟩)
    exact ⟨none, 0, 0, l, rfl, hl, hn, .inl rfl⟩
  · injection hcs with hcs _
    subst hcs
    have hz2 : zs.length = c := by simpa using hz
    obtain ⟨l', hl', hn'⟩ := br_row (w := W) (a := some x) (len := l) (cap := c) (zs := zs) (.inr ⟨x, rfl, hl, hm, hz2, hcell, hwz⟩)
    exact ⟨some x, l, c, l', rfl, hl', hn', .inr ⟨_, _, by rw [hy], by simp only [lits, List.length_map, List.length_take, List.length_drop]; omega⟩⟩
end
theorem open_bytes {H : Type} {enc : TypeId × Value → H} {W : World} {base b0 : Nat} {held : Bool} {r : Reach} {v : Value} {d : DataW H} {p : List MemPlace} (hv : Value.okWide Try.prog W r b0 22 v) (h : DataW.Trod enc Try.prog W base (fun _ => true) held 22 v d p) :
    ∃ (a : Option Addr) (len cap : Nat) (l : List Nat), v = .slice a len cap ∧ BR W a len cap l ∧ len ≤ 9223372036854775807 ∧ Read cap d := by
  obtain ⟨a, len, cap, rfl⟩ := okWide_slice Try.underlying22 hv
  obtain ⟨fuel, hf⟩ := h
  exact trod_u8s hf
/-- The form's own reach bounds a row that is read. -/
theorem read_reach {H : Type} {ts : List TypeId} {ds : List (DataW H)} (h : (DataW.weightsEach Try.prog ts ds).all (· ≤ reachBytes) = true) {j : Nat} {d : DataW H} {cap len : Nat} (ht : ts[j]? = some 22) (hd : ds[j]? = some d) (hr : Read cap d) (hl : len ≤ cap) : len ≤ 140737488351232 := by
  rcases hr with e | ⟨es, ss, rfl, e⟩
  · omega
  · have h1 := sized_slice h ht hd Try.underlying22
    have e1 : Try.prog.bytesOf 5 = 1 := by kernel_rfl
    rw [e1, e] at h1
    have h2 : reachBytes = 140737488351232 := by decide
    omega




set_option maxRecDepth 100000 in
theorem open_bytesx2 {H : Type} {enc : TypeId × Value → H} {W : World} {base b0 : Nat} {held : Bool} {r : Reach} {v : Value} {d : DataW H} {p : List MemPlace} (hv : Value.okWide Try.prog W r b0 38 v) (h : DataW.Trod enc Try.prog W base (fun _ => true) held 38 v d p) :
    ∃ (a : Option Addr) (n c : Nat) (l : List Nat) (b : Option Addr) (m d : Nat) (r : List Nat), v = .agg #[.slice a n c, .slice b m d] ∧ BR W a n c l ∧ BR W b m d r := by
  have hu : Try.prog.underlying 38 = some (.array 2 22) := Try.underlying38
  have e1 : Try.prog.cellsOf 22 = 1 := by kernel_rfl
  have e2 : Try.prog.cellsOf 38 = 2 := by kernel_rfl
  simp only [Value.okWide, hu] at hv
  obtain ⟨cs, rfl, hsz, _⟩ := hv
  obtain ⟨c0, c1, rfl⟩ : ∃ c0 c1, cs = #[c0, c1] := by
    obtain ⟨l⟩ := cs
    have h2 : l.length = 2 := hsz.trans e2
    match l, h2 with
    | [a0, a1], _ => exact ⟨a0, a1, rfl⟩
  obtain ⟨fuel, hf⟩ := h
  obtain ⟨xs, m, rfl, _, _, hxl, hel⟩ := DataW.trod_array hu hf
  obtain ⟨x0, x1, rfl⟩ : ∃ x0 x1, xs = [x0, x1] := by
    match xs, hxl with
    | [a0, a1], _ => exact ⟨a0, a1, rfl⟩
  have h0 := hel 0 (by omega)
  have h1 := hel 1 (by omega)
  rw [e1] at h0 h1
  obtain ⟨a, n, c, l, k0, hl, _, _⟩ := trod_u8s (v := c0) h0
  obtain ⟨b, m', d, r, k1, hr, _, _⟩ := trod_u8s (v := c1) h1
  subst k0 k1
  exact ⟨a, n, c, l, b, m', d, r, rfl, hl, hr⟩

end Go.Proofs.Ytfdapcogkbddaaa

/-
  The checksum: a step is linear, keeps what is not nought, and takes its bytes as one number; numbers alone.
-/
namespace Go.Proofs.Ytfdapcogkbddaaa
set_option linter.unusedVariables false
set_option linter.unusedSimpArgs false

/-- The exclusive-or of what is turned. -/
def PLY : Nat := 3988292384
def F32 : Nat := 4294967295
/-- A bit is taken off. -/
def fb (x : Nat) : Nat := x / 2 ^^^ (if x % 2 = 1 then PLY else 0)
def fbk : Nat → Nat → Nat
  | 0, x => x
  | k + 1, x => fbk k (fb x)
theorem xor_half (x y : Nat) : (x ^^^ y) / 2 = x / 2 ^^^ y / 2 := by
  apply Nat.eq_of_testBit_eq
  intro i
  rw [Nat.testBit_xor, Nat.testBit_div_two, Nat.testBit_div_two, Nat.testBit_div_two, Nat.testBit_xor]
theorem xor_odd (x y : Nat) : (x ^^^ y) % 2 = (x + y) % 2 := by
  have h : ∀ n : Nat, n % 2 = if n.testBit 0 then 1 else 0 := fun n => by
    rw [Nat.testBit_zero]
    by_cases h : n % 2 = 1
    · simp [h]
    · have : n % 2 = 0 := by omega
      simp [this]
  have e := h (x ^^^ y)
  rw [Nat.testBit_xor] at e
  have hx := h x
  have hy := h y
  rw [e]
  cases hx' : x.testBit 0 <;> cases hy' : y.testBit 0 <;> rw [hx'] at hx <;> rw [hy'] at hy <;> simp at hx hy ⊢ <;> omega
theorem fb_xor (x y : Nat) : fb (x ^^^ y) = fb x ^^^ fb y := by
  unfold fb
  rw [xor_half, xor_odd]
  rcases Nat.mod_two_eq_zero_or_one x with hx | hx <;> rcases Nat.mod_two_eq_zero_or_one y with hy | hy
  · rw [if_neg (by omega), if_neg (by omega), if_neg (by omega)]; simp
  · rw [if_pos (by omega), if_neg (by omega), if_pos hy, Nat.xor_zero, Nat.xor_assoc]
  · rw [if_pos (by omega), if_pos hx, if_neg (by omega), Nat.xor_zero, Nat.xor_assoc, Nat.xor_assoc, Nat.xor_comm PLY]
  · rw [if_neg (by omega), if_pos hx, if_pos hy, Nat.xor_zero, Nat.xor_assoc, ← Nat.xor_assoc PLY, Nat.xor_comm PLY (y / 2), Nat.xor_assoc (y / 2), Nat.xor_self, Nat.xor_zero]
theorem fbk_xor (k x y : Nat) : fbk k (x ^^^ y) = fbk k x ^^^ fbk k y := by
  induction k generalizing x y with
  | zero => rfl
  | succ k ih => show fbk k (fb (x ^^^ y)) = _; rw [fb_xor, ih]; rfl
theorem fbk_add (k m x : Nat) : fbk (k + m) x = fbk m (fbk k x) := by
  induction k generalizing x with
  | zero => rw [Nat.zero_add]; rfl
  | succ k ih => rw [Nat.succ_add]; exact ih (fb x)
theorem fb_even (y : Nat) : fb (2 * y) = y := by unfold fb; rw [if_neg (by omega), Nat.xor_zero]; omega
theorem fbk_shift (k y : Nat) : fbk k (2 ^ k * y) = y := by
  induction k generalizing y with
  | zero => show 1 * y = y; omega
  | succ k ih => show fbk k (fb (2 ^ (k + 1) * y)) = y; rw [show 2 ^ (k + 1) * y = 2 * (2 ^ k * y) by rw [Nat.pow_succ]; ac_rfl, fb_even]; exact ih y
theorem fbk_zero (k : Nat) : fbk k 0 = 0 := by have := fbk_shift k 0; rwa [Nat.mul_zero] at this
theorem fb_lt {x : Nat} (h : x < 4294967296) : fb x < 4294967296 := by
  unfold fb
  refine Nat.xor_lt_two_pow (n := 32) (by omega) ?_
  split
  · decide
  · decide
theorem fb_ne {x : Nat} (h : x < 4294967296) (h0 : x ≠ 0) : fb x ≠ 0 := by
  unfold fb
  intro e
  have e2 : x / 2 = (if x % 2 = 1 then PLY else 0) := by
    have := congrArg (fun t => t ^^^ (if x % 2 = 1 then PLY else 0)) e
    simpa [Nat.xor_assoc] using this
  by_cases ho : x % 2 = 1
  · rw [if_pos ho] at e2; unfold PLY at e2; omega
  · rw [if_neg ho] at e2; omega
theorem fbk_lt {x : Nat} (h : x < 4294967296) (k : Nat) : fbk k x < 4294967296 := by
  induction k generalizing x with
  | zero => exact h
  | succ k ih => exact ih (fb_lt h)
theorem fbk_ne {x : Nat} (h : x < 4294967296) (h0 : x ≠ 0) (k : Nat) : fbk k x ≠ 0 := by
  induction k generalizing x with
  | zero => exact h0
  | succ k ih => exact ih (fb_lt h) (fb_ne h h0)
theorem xor_eq_zero' {x y : Nat} (h : x ^^^ y = 0) : x = y := by
  have := congrArg (fun t => t ^^^ y) h
  simpa [Nat.xor_assoc] using this
theorem fbk_inj {x y : Nat} (hx : x < 4294967296) (hy : y < 4294967296) {k : Nat} (h : fbk k x = fbk k y) : x = y := by
  have hz : fbk k (x ^^^ y) = 0 := by rw [fbk_xor, h, Nat.xor_self]
  have hl : x ^^^ y < 4294967296 := Nat.xor_lt_two_pow (n := 32) hx hy
  by_cases h0 : x ^^^ y = 0
  · exact xor_eq_zero' h0
  · exact absurd hz (fbk_ne hl h0 k)
/-- A step with a byte; with many. -/
def stp (s c : Nat) : Nat := fbk 8 (s ^^^ c)
def onR (s : Nat) : List Nat → Nat
  | [] => s
  | c :: l => onR (stp s c) l
theorem onR_append (s : Nat) (l m : List Nat) : onR s (l ++ m) = onR (onR s l) m := by
  induction l generalizing s with
  | nil => rfl
  | cons c l ih => exact ih (stp s c)
theorem stp_lt {s c : Nat} (hs : s < 4294967296) (hc : c < 256) : stp s c < 4294967296 := fbk_lt (Nat.xor_lt_two_pow (n := 32) hs (by omega)) 8
theorem onR_lt {s : Nat} {l : List Nat} (hs : s < 4294967296) (hl : ∀ c ∈ l, c < 256) : onR s l < 4294967296 := by
  induction l generalizing s with
  | nil => exact hs
  | cons c l ih => exact ih (stp_lt hs (hl c (by simp))) (fun x hx => hl x (by simp [hx]))
theorem xor4 (a b c d : Nat) : a ^^^ b ^^^ (c ^^^ d) = a ^^^ c ^^^ (b ^^^ d) := by
  rw [Nat.xor_assoc, Nat.xor_assoc, ← Nat.xor_assoc b, Nat.xor_comm b c, Nat.xor_assoc c]
theorem stp_xor (s t c d : Nat) : stp (s ^^^ t) (c ^^^ d) = stp s c ^^^ stp t d := by unfold stp; rw [xor4, fbk_xor]
theorem onR_xor : ∀ {l m : List Nat} (s t : Nat), l.length = m.length → onR (s ^^^ t) (l.zipWith (· ^^^ ·) m) = onR s l ^^^ onR t m
  | [], [], s, t, _ => rfl
  | c :: l, d :: m, s, t, h => by
    show onR (stp (s ^^^ t) (c ^^^ d)) _ = _
    rw [stp_xor]
    exact onR_xor _ _ (by simpa using h)
  | [], _ :: _, _, _, h => by simp at h
  | _ :: _, [], _, _, h => by simp at h
/-- The bytes of a number, the lowest first. -/
def leB : Nat → Nat → List Nat
  | 0, _ => []
  | m + 1, N => N % 256 :: leB m (N / 256)
theorem leB_len (m N : Nat) : (leB m N).length = m := by induction m generalizing N with | zero => rfl | succ m ih => simp [leB, ih]
theorem leB_lt (m N : Nat) : ∀ c ∈ leB m N, c < 256 := by
  induction m generalizing N with
  | zero => intro c hc; cases hc
  | succ m ih =>
    intro c hc
    rcases List.mem_cons.1 hc with rfl | h
    · omega
    · exact ih _ c h
theorem xor_low (q r : Nat) (h : r < 256) : 256 * q ^^^ r = 256 * q + r := by
  have := Nat.two_pow_add_eq_or_of_lt (i := 8) (b := r) (by simpa using h) q
  rw [show (2 : Nat) ^ 8 = 256 from rfl] at this
  rw [this]
  apply Nat.eq_of_testBit_eq
  intro i
  rw [Nat.testBit_xor, Nat.testBit_or]
  rcases Nat.lt_or_ge i 8 with hi | hi
  · have : (256 * q).testBit i = false := by rw [show 256 * q = 2 ^ 8 * q from rfl, Nat.testBit_two_pow_mul]; simp; omega
    rw [this]; simp
  · have : r.testBit i = false := Nat.testBit_lt_two_pow (Nat.lt_of_lt_of_le h (by have := Nat.pow_le_pow_right (n := 2) (by omega) hi; simpa using this))
    rw [this]; simp
/-- The bytes are taken as one number. -/
theorem onR_leB (m s N : Nat) (h : N < 256 ^ m) : onR s (leB m N) = fbk (8 * m) (s ^^^ N) := by
  induction m generalizing s N with
  | zero =>
    have : N = 0 := by simp at h; exact h
    subst this
    show s = s ^^^ 0
    rw [Nat.xor_zero]
  | succ m ih =>
    show onR (stp s (N % 256)) (leB m (N / 256)) = _
    rw [ih _ _ (by rw [Nat.pow_succ] at h; omega)]
    have e : N = 256 * (N / 256) ^^^ N % 256 := by rw [xor_low _ _ (Nat.mod_lt _ (by omega))]; omega
    have e2 : fbk (8 * (m + 1)) (s ^^^ N) = fbk (8 * m) (fbk 8 (s ^^^ N)) := by rw [← fbk_add]; congr 1; omega
    rw [e2]
    congr 1
    have e3 : s ^^^ N = s ^^^ N % 256 ^^^ 2 ^ 8 * (N / 256) := by
      rw [Nat.xor_assoc, Nat.xor_comm (N % 256)]
      exact congrArg (fun t => s ^^^ t) e
    rw [e3, fbk_xor, fbk_shift]
    rfl
theorem onR_zeros (k s : Nat) : onR s (List.replicate k 0) = fbk (8 * k) s := by
  induction k generalizing s with
  | zero => rfl
  | succ k ih =>
    show onR (stp s 0) (List.replicate k 0) = _
    rw [ih]
    unfold stp
    rw [Nat.xor_zero, ← fbk_add]
    congr 1
    omega
/-- The checksum, gone on. -/
def crcOn (sum : Nat) (l : List Nat) : Nat := F32 - onR (F32 - sum) l
theorem xor_full {x : Nat} (h : x < 4294967296) : x ^^^ F32 = F32 - x := by
  apply Nat.eq_of_testBit_eq
  intro i
  have e : F32 - x = 2 ^ 32 - (x + 1) := by unfold F32; omega
  rw [Nat.testBit_xor, e, Nat.testBit_two_pow_sub_succ h]
  have f : F32.testBit i = decide (i < 32) := by
    rw [show F32 = 2 ^ 32 - 1 from rfl, Nat.testBit_two_pow_sub_one]
  rw [f]
  rcases Nat.lt_or_ge i 32 with hi | hi
  · simp [hi]
  · have : x.testBit i = false := Nat.testBit_lt_two_pow (Nat.lt_of_lt_of_le h (by have := Nat.pow_le_pow_right (n := 2) (by omega) hi; simpa using this))
    rw [this]; simp [Nat.not_lt.2 hi]
theorem full_xor {x : Nat} (h : x < 4294967296) : F32 - x = x ^^^ F32 := (xor_full h).symm
theorem crcOn_lt {sum : Nat} (l : List Nat) : crcOn sum l < 4294967296 := by unfold crcOn F32; omega
theorem xor_cancel (a b : Nat) : a ^^^ (a ^^^ b) = b := by rw [← Nat.xor_assoc, Nat.xor_self, Nat.zero_xor]
/-- Bytes with their checksum. -/
def putB (l : List Nat) : List Nat := l ++ leB 4 (crcOn 0 l)
theorem putB_len (l : List Nat) : (putB l).length = l.length + 4 := by unfold putB; rw [List.length_append, leB_len]
theorem putB_lt {l : List Nat} (h : ∀ c ∈ l, c < 256) : ∀ c ∈ putB l, c < 256 := by
  intro c hc
  rcases List.mem_append.1 hc with h1 | h1
  · exact h c h1
  · exact leB_lt _ _ c h1
theorem onR_put {l : List Nat} (h : ∀ c ∈ l, c < 256) : onR F32 (putB l) = fbk 32 F32 := by
  have hR : onR F32 l < 4294967296 := onR_lt (by decide) h
  unfold putB
  rw [onR_append, onR_leB 4 _ _ (crcOn_lt l)]
  congr 1
  show onR F32 l ^^^ (F32 - onR (F32 - 0) l) = F32
  rw [Nat.sub_zero, full_xor hR, xor_cancel]
/-- What a burst of at most 32 bits changes is not nought. -/
theorem burst_ne {u k : Nat} (h0 : u ≠ 0) (hu : u < 4294967296) (hk : k < 8) (a r : Nat) : onR 0 (List.replicate a 0 ++ leB 5 (2 ^ k * u) ++ List.replicate r 0) ≠ 0 := by
  rw [onR_append, onR_append, onR_zeros, onR_zeros, fbk_zero]
  have hn : 2 ^ k * u < 256 ^ 5 := by
    have h1 : 2 ^ k ≤ 2 ^ 7 := Nat.pow_le_pow_right (by omega) (by omega)
    have h2 : 2 ^ k * u ≤ 2 ^ 7 * u := Nat.mul_le_mul_right _ h1
    have h3 : (256 : Nat) ^ 5 = 1099511627776 := by decide
    have h4 : (2 : Nat) ^ 7 = 128 := by decide
    omega
  rw [onR_leB 5 _ _ hn, Nat.zero_xor]
  have e : fbk (8 * 5) (2 ^ k * u) = fbk (40 - k) u := by
    rw [show 8 * 5 = k + (40 - k) by omega, fbk_add, fbk_shift]
  rw [e]
  exact fbk_ne (fbk_lt hu _) (fbk_ne hu h0 _) _
theorem burst_out {l e : List Nat} (hl : ∀ c ∈ l, c < 256) (he : e.length = (putB l).length) (h0 : onR 0 e ≠ 0) : ∀ m, List.zipWith (· ^^^ ·) (putB l) e = putB m → (∀ c ∈ m, c < 256) → False := by
  intro m hm hb
  have h1 := onR_put hb
  rw [← hm] at h1
  have h2 := onR_xor (l := putB l) (m := e) F32 0 he.symm
  rw [Nat.xor_zero, h1, onR_put hl] at h2
  apply h0
  have := congrArg (fun t => fbk 32 F32 ^^^ t) h2
  simp only [Nat.xor_self, xor_cancel] at this
  exact this.symm
/-- What is cut, and the error. -/
def cutB (y : List Nat) : List Nat := if y.length < 4 then [] else if y = putB (y.take (y.length - 4)) then y.take (y.length - 4) else []
def cutE (y : List Nat) : Int := if y.length < 4 then 3 else if y = putB (y.take (y.length - 4)) then 0 else 8
theorem cut_put {y l : List Nat} (h : y = putB l) : cutB y = l ∧ cutE y = 0 := by
  have hl : y.length = l.length + 4 := by rw [h, putB_len]
  have h4 : ¬ y.length < 4 := by omega
  have ht : y.take (y.length - 4) = l := by rw [hl, h]; unfold putB; rw [show l.length + 4 - 4 = l.length by omega, List.take_left]
  unfold cutB cutE
  rw [ht, if_neg h4, if_pos h, if_neg h4, if_pos h]
  exact ⟨rfl, rfl⟩
theorem cut_not {y : List Nat} (h4 : 4 ≤ y.length) (h : ∀ l, y = putB l → False) : cutB y = [] ∧ cutE y = 8 := by
  have h5 : ¬ y.length < 4 := by omega
  unfold cutB cutE
  rw [if_neg h5, if_neg (fun e => h _ e), if_neg h5, if_neg (fun e => h _ e)]
  exact ⟨rfl, rfl⟩
theorem cut_short {y : List Nat} (h4 : y.length < 4) : cutB y = [] ∧ cutE y = 3 := by
  unfold cutB cutE
  rw [if_pos h4, if_pos h4]
  exact ⟨rfl, rfl⟩
/-- A checksum that is gone on with. -/
theorem crcOn_app (s : Nat) (l m : List Nat) (hs : F32 - s < 4294967296) (hl : ∀ c ∈ l, c < 256) : crcOn (crcOn s l) m = crcOn s (l ++ m) := by
  unfold crcOn
  have h := onR_lt hs hl
  rw [onR_append]
  congr 2
  unfold F32 at *
  omega
/-- A step is told by the table. -/
theorem stp_table {R c : Nat} (hc : c < 256) : stp R c = R / 256 ^^^ stp 0 ((R % 256) ^^^ c) := by
  unfold stp
  rw [Nat.zero_xor]
  have e : R ^^^ c = 2 ^ 8 * (R / 256) ^^^ (R % 256 ^^^ c) := by
    rw [← Nat.xor_assoc]
    have := xor_low (R / 256) (R % 256) (Nat.mod_lt _ (by omega))
    rw [show (2 : Nat) ^ 8 = 256 from rfl, this]
    congr 1
    omega
  rw [e, fbk_xor, fbk_shift]
theorem stp_two (c d : Nat) : stp 0 (c ^^^ d) = stp 0 c ^^^ stp 0 d := by have := stp_xor 0 0 c d; rwa [Nat.xor_self] at this
theorem stp_zero : stp 0 0 = 0 := by unfold stp; rw [Nat.xor_self]; exact fbk_zero 8
/-- Of two rows as long. -/
theorem crc_line {l m : List Nat} (h : l.length = m.length) (hl : ∀ c ∈ l, c < 256) (hm : ∀ c ∈ m, c < 256) : crcOn 0 (l.zipWith (· ^^^ ·) m) ^^^ crcOn 0 l ^^^ crcOn 0 m = crcOn 0 (List.replicate l.length 0) := by
  have hz : ∀ c ∈ List.zipWith (· ^^^ ·) l m, c < 256 := by
    intro c hc
    obtain ⟨i, hi, rfl⟩ := List.mem_iff_getElem.1 hc
    rw [List.getElem_zipWith]
    exact Nat.xor_lt_two_pow (n := 8) (hl _ (List.getElem_mem _)) (hm _ (List.getElem_mem _))
  have h0 : ∀ c ∈ List.replicate l.length 0, c < 256 := fun c hc => by rw [(List.mem_replicate.1 hc).2]; omega
  unfold crcOn
  rw [Nat.sub_zero, full_xor (onR_lt (by decide) hz), full_xor (onR_lt (by decide) hl), full_xor (onR_lt (by decide) hm), full_xor (onR_lt (by decide) h0)]
  have e1 := onR_xor F32 0 h
  rw [Nat.xor_zero] at e1
  have e2 : onR 0 m = onR F32 m ^^^ onR F32 (List.replicate m.length 0) := by
    have := onR_xor (l := m) (m := List.replicate m.length 0) F32 F32 (by simp)
    rw [Nat.xor_self] at this
    rw [← this]
    congr 1
    apply List.ext_getElem
    · simp
    · intro i h1 h2; rw [List.getElem_zipWith, List.getElem_replicate, Nat.xor_zero]
  rw [e1, e2, ← h]
  generalize onR F32 l = a
  generalize onR F32 m = b
  generalize onR F32 (List.replicate l.length 0) = z
  apply Nat.eq_of_testBit_eq
  intro i
  simp only [Nat.testBit_xor]
  cases a.testBit i <;> cases b.testBit i <;> cases z.testBit i <;> cases F32.testBit i <;> rfl
/-- A row of bytes whose five places from p on are changed one by one. -/
def KX (P : List Nat) (p N : Nat) : Nat → List Nat
  | 0 => P
  | i + 1 => (KX P p N i).set (p + i) ((KX P p N i)[p + i]?.getD 0 ^^^ (N / 256 ^ i % 256))
theorem KX_len (P : List Nat) (p N i : Nat) : (KX P p N i).length = P.length := by
  induction i with
  | zero => rfl
  | succ i ih => show (List.set _ _ _).length = _; rw [List.length_set, ih]
theorem KX_at (P : List Nat) (p N i j : Nat) (hj : j < P.length) : (KX P p N i)[j]?.getD 0 = if p ≤ j ∧ j < p + i then P[j]?.getD 0 ^^^ (N / 256 ^ (j - p) % 256) else P[j]?.getD 0 := by
  induction i with
  | zero => rw [if_neg (by omega)]; rfl
  | succ i ih =>
    show ((KX P p N i).set (p + i) _)[j]?.getD 0 = _
    by_cases e : p + i = j
    · subst e
      rw [List.getElem?_set_self (by rw [KX_len]; exact hj), if_pos (by omega), Option.getD_some, ih, if_neg (by omega), show p + i - p = i by omega]
    · rw [List.getElem?_set_ne e, ih]
      by_cases h : p ≤ j ∧ j < p + i
      · rw [if_pos h, if_pos (by omega)]
      · rw [if_neg h, if_neg (by omega)]
theorem KX_lt {P : List Nat} (h : ∀ c ∈ P, c < 256) (p N i : Nat) : ∀ c ∈ KX P p N i, c < 256 := by
  intro c hc
  obtain ⟨j, hj, rfl⟩ := List.mem_iff_getElem.1 hc
  have hj2 : j < P.length := by rw [KX_len] at hj; exact hj
  have e := KX_at P p N i j hj2
  rw [List.getElem?_eq_getElem hj, List.getElem?_eq_getElem hj2] at e
  simp only [Option.getD_some] at e
  rw [e]
  have h1 := h _ (List.getElem_mem hj2)
  split
  · exact Nat.xor_lt_two_pow (n := 8) h1 (Nat.mod_lt _ (by omega))
  · exact h1
theorem leB_get (m N j : Nat) (h : j < m) : (leB m N)[j]?.getD 0 = N / 256 ^ j % 256 := by
  induction m generalizing N j with
  | zero => omega
  | succ m ih =>
    rcases j with _ | j
    · show N % 256 = N / 256 ^ 0 % 256; simp
    · show (leB m (N / 256))[j]?.getD 0 = _
      rw [ih _ _ (by omega), Nat.div_div_eq_div_mul, Nat.pow_succ, Nat.mul_comm]
theorem KX_burst {P : List Nat} {p N r : Nat} (h : P.length = p + 5 + r) : KX P p N 5 = List.zipWith (· ^^^ ·) P (List.replicate p 0 ++ leB 5 N ++ List.replicate r 0) := by
  have hel : (List.replicate p 0 ++ leB 5 N ++ List.replicate r 0).length = P.length := by simp [leB_len]; omega
  refine List.ext_getElem (by rw [KX_len, List.length_zipWith, hel]; simp) fun j h1 h2 => ?_
  have hj : j < P.length := by rw [KX_len] at h1; exact h1
  have e := KX_at P p N 5 j hj
  rw [List.getElem?_eq_getElem h1, List.getElem?_eq_getElem hj] at e
  simp only [Option.getD_some] at e
  rw [e, List.getElem_zipWith]
  by_cases c : p ≤ j ∧ j < p + 5
  · rw [if_pos c]
    congr 1
    have g := leB_get 5 N (j - p) (by omega)
    rw [List.getElem?_eq_getElem (by rw [leB_len]; omega)] at g
    simp only [Option.getD_some] at g
    rw [← g, List.getElem_append_left (by simp [leB_len]; omega), List.getElem_append_right (by simp; omega)]
    congr 1
    simp
  · rw [if_neg c]
    have g : (List.replicate p 0 ++ leB 5 N ++ List.replicate r 0)[j]'(by rw [hel]; exact hj) = 0 := by
      rcases Nat.lt_or_ge j p with e1 | e1
      · rw [List.getElem_append_left (by simp [leB_len]; omega), List.getElem_append_left (by simp; omega)]; simp
      · rw [List.getElem_append_right (by simp [leB_len]; omega)]; simp
    rw [g, Nat.xor_zero]
/-- A burst is found. -/
theorem burst_cut {l : List Nat} (hl : ∀ c ∈ l, c < 256) {p r u k : Nat} (h : l.length + 4 = p + 5 + r) (h0 : u ≠ 0) (hu : u < 4294967296) (hk : k < 8) : cutB (KX (putB l) p (2 ^ k * u) 5) = [] ∧ cutE (KX (putB l) p (2 ^ k * u) 5) = 8 := by
  have hP : (putB l).length = p + 5 + r := by rw [putB_len]; exact h
  refine cut_not (by rw [KX_len, hP]; omega) fun m hm => ?_
  refine burst_out hl (e := List.replicate p 0 ++ leB 5 (2 ^ k * u) ++ List.replicate r 0) (by simp [leB_len]; omega) (burst_ne h0 hu hk p r) m (by rw [← KX_burst hP]; exact hm) ?_
  have hlt := KX_lt (putB_lt hl) p (2 ^ k * u) 5
  intro c hc
  exact hlt c (by rw [hm]; exact List.mem_append.2 (.inl hc))
/-- A row of noughts whose first places are set one by one. -/
def XL (l m : List Nat) : Nat → List Nat
  | 0 => List.replicate l.length 0
  | i + 1 => (XL l m i).set i (l[i]?.getD 0 ^^^ m[i]?.getD 0)
theorem XL_len (l m : List Nat) (i : Nat) : (XL l m i).length = l.length := by
  induction i with
  | zero => simp [XL]
  | succ i ih => show (List.set _ _ _).length = _; rw [List.length_set, ih]
theorem XL_at (l m : List Nat) (i j : Nat) (hj : j < l.length) : (XL l m i)[j]?.getD 0 = if j < i then l[j]?.getD 0 ^^^ m[j]?.getD 0 else 0 := by
  induction i with
  | zero => rw [if_neg (by omega)]; simp [XL, List.getElem?_replicate, hj]
  | succ i ih =>
    show ((XL l m i).set i _)[j]?.getD 0 = _
    by_cases e : i = j
    · subst e; rw [List.getElem?_set_self (by rw [XL_len]; exact hj), if_pos (by omega), Option.getD_some]
    · rw [List.getElem?_set_ne e, ih]
      by_cases h : j < i
      · rw [if_pos h, if_pos (by omega)]
      · rw [if_neg h, if_neg (by omega)]
theorem XL_zip {l m : List Nat} (h : l.length = m.length) : XL l m l.length = List.zipWith (· ^^^ ·) l m := by
  refine List.ext_getElem (by rw [XL_len, List.length_zipWith]; omega) fun j h1 h2 => ?_
  have hj : j < l.length := by rw [XL_len] at h1; exact h1
  have e := XL_at l m l.length j hj
  rw [if_pos hj, List.getElem?_eq_getElem h1, List.getElem?_eq_getElem hj, List.getElem?_eq_getElem (by omega)] at e
  simp only [Option.getD_some] at e
  rw [e, List.getElem_zipWith]
theorem zip_lt {l m : List Nat} (hl : ∀ c ∈ l, c < 256) (hm : ∀ c ∈ m, c < 256) : ∀ c ∈ List.zipWith (· ^^^ ·) l m, c < 256 := by
  intro c hc
  obtain ⟨i, hi, rfl⟩ := List.mem_iff_getElem.1 hc
  rw [List.getElem_zipWith]
  exact Nat.xor_lt_two_pow (n := 8) (hl _ (List.getElem_mem _)) (hm _ (List.getElem_mem _))
end Go.Proofs.Ytfdapcogkbddaaa

/-
  The contracts of the twelfth reference: Step, On, Of, Same.
-/
namespace Go.Proofs.Ytfdapcogkbddaaa
set_option maxRecDepth 100000
open Go.RowKit
set_option linter.unusedVariables false
set_option linter.unusedSimpArgs false

theorem fbk_succ (k x : Nat) : fbk (k + 1) x = fb (fbk k x) := by rw [fbk_add]; rfl
theorem onR_take (s : Nat) (l : List Nat) (i : Nat) (h : i < l.length) : onR s (l.take (i + 1)) = stp (onR s (l.take i)) (l[i]?.getD 0) := by
  rw [List.take_add_one, List.getElem?_eq_getElem h, onR_append]; rfl
theorem take_lt {l : List Nat} (h : ∀ c ∈ l, c < 256) (i : Nat) : ∀ c ∈ l.take i, c < 256 := fun c hc => h c (List.mem_of_mem_take hc)




set_option maxRecDepth 100000 in
set_option maxHeartbeats 8000000 in
theorem rsameB_len (w : World) {A B : Option Addr} {n c m d : Nat} (h : n ≠ m) :
    Calls Try.prog 14 #[.slice A n c, .slice B m d] w (GotV w (.bool false)) := by
  have e1 : ((n : Int) == (m : Int)) = false := beq_eq_false_iff_ne.2 (by omega)
  have e2 : ((n : Int) != (m : Int)) = true := by simp; omega
  have e3 : (n == m) = false := beq_eq_false_iff_ne.2 h
  have e4 : (n != m) = true := by simp; omega
  clear h
  have cc := Below.refl w.heap.size w
  go_enter Try.func14, Try.ntmps14
  go_wp2_with fail
  go_wp2_with fail
  go_ret
  exact ⟨rfl, cc⟩

set_option maxRecDepth 100000 in
set_option maxHeartbeats 8000000 in
theorem rsameB_eq {w : World} {A B : Option Addr} {n c d : Nat} {L K : List Nat} (hA : BR w A n c L) (hB : BR w B n d K) (hn : n ≤ 9223372036854775807) :
    Calls Try.prog 14 #[.slice A n c, .slice B n d] w (GotV w (.bool (decide (L = K)))) := by
  have hl : n = L.length := hA.1
  have hl2 : n = K.length := hB.1
  obtain ⟨r, hr⟩ : ∃ r, decide (L = K) = r := ⟨_, rfl⟩
  rw [hr]
  have cc := Below.refl w.heap.size w
  go_enter Try.func14, Try.ntmps14
  go_wp2_with fail
  go_wp2_with fail
  go_loopw [5] (fun iv wr => ∃ i : Nat, i ≤ n ∧ iv = .int .i64 (i : Int) ∧ (∀ j, j < i → L[j]?.getD 0 = K[j]?.getD 0) ∧ Below w.heap.size w wr) (fun iv _ => n - (intOf iv).toNat)
  case atStart => exact ⟨0, by omega, rfl, fun j h => absurd h (by omega), Below.refl _ _⟩
  case round =>
    obtain ⟨i, hi, rfl, hj, hbl⟩ := hrel
    by_cases hlt : i < n
    · obtain ⟨b1, o1, rfl, hb1, hc1⟩ := (hA.on hbl).2.2.2 (by omega)
      obtain ⟨b2, o2, rfl, hb2, hc2⟩ := (hB.on hbl).2.2.2 (by omega)
      have h1 := hc1 i hlt
      have h2 := hc2 i hlt
      have x6 := hA.at hlt
      have y6 := hB.at hlt
      have k3 : IntKind.i64.wrap ((i : Int) + 1) = ((i + 1 : Nat) : Int) := by rw [IntWalk.i64_in _ (by omega)]; omega
      clear hc1 hc2
      obtain ⟨x, hx⟩ : ∃ x, L[i]?.getD 0 = x := ⟨_, rfl⟩
      obtain ⟨y, hy⟩ : ∃ y, K[i]?.getD 0 = y := ⟨_, rfl⟩
      rw [hx] at h1 x6
      rw [hy] at h2 y6
      have x6i : (x : Int) < 256 := by omega
      have y6i : (y : Int) < 256 := by omega
      by_cases hxy : x = y
      · subst hxy
        have HJ : Hid (∀ j, j < i + 1 → L[j]?.getD 0 = K[j]?.getD 0) := Lib.hid (fun j h => by
          rcases Nat.lt_or_ge j i with e | e
          · exact hj j e
          · have e2 : j = i := by omega
            rw [e2, hx, hy])
        clear hj hx hy hl hl2 hr
        go_wp2_with fail
        go_region_held3 (fun w' => w'.cell? ⟨b1, o1 + i, none⟩ = some (.int .u8 (x : Int)) ∧ w'.cell? ⟨b2, o2 + i, none⟩ = some (.int .u8 (x : Int))) (exact ⟨h1, h2⟩) (fail)
        go_wp2_with fail
        go_roundw
        case rel => exact ⟨i + 1, by omega, rfl, HJ.out, below_drewN hbl 1⟩
        case measure => simp [intOf] <;> omega
      · have t1 : ((x : Int) == (y : Int)) = false := beq_eq_false_iff_ne.2 (by omega)
        have t2 : ((x : Int) != (y : Int)) = true := by simp; omega
        have hF : r = false := by rw [← hr]; exact decide_eq_false (fun h => hxy (by rw [← hx, ← hy, h]))
        subst hF
        clear hj hx hy hl hl2 hr hxy
        go_wp2_with fail
        go_region_held3 (fun w' => w'.cell? ⟨b1, o1 + i, none⟩ = some (.int .u8 (x : Int)) ∧ w'.cell? ⟨b2, o2 + i, none⟩ = some (.int .u8 (y : Int))) (exact ⟨h1, h2⟩) (fail)
        go_wp2_with fail
        go_ret
        exact ⟨rfl, below_drewN hbl 1⟩
    · obtain rfl : i = n := by omega
      have hT : r = true := by
        rw [← hr]; refine decide_eq_true (List.ext_getElem (by omega) fun j h1 h2 => ?_)
        have := hj j (by omega)
        rwa [List.getElem?_eq_getElem h1, List.getElem?_eq_getElem h2] at this
      subst hT
      clear hj hl hl2 hr
      go_wp2_with fail
      go_ret
      exact ⟨rfl, hbl⟩

theorem rsameB_any {w : World} {A B : Option Addr} {n c m d : Nat} {L K : List Nat} (hA : BR w A n c L) (hB : BR w B m d K) (hn : n ≤ 9223372036854775807) : Calls Try.prog 14 #[.slice A n c, .slice B m d] w (GotV w (.bool (decide (L = K)))) := by
  by_cases h : n = m
  · subst h; exact rsameB_eq hA hB hn
  · rw [decide_eq_false (fun e => h (by rw [hA.1, hB.1, e]))]; exact rsameB_len w h

end Go.Proofs.Ytfdapcogkbddaaa

/-
  The contracts of the twelfth reference: Put, Cut.
-/
namespace Go.Proofs.Ytfdapcogkbddaaa
open Go.RowKit
set_option linter.unusedVariables false
set_option linter.unusedSimpArgs false

/-- A new row of bytes is answered. -/
def GotNew (w : World) (l : List Nat) (e : Ending) (w' : World) : Prop := ∃ g n c, e = .returned (.slice (some ⟨g, 0, none⟩) n c) ∧ w'.ownsRow w.heap.size 5 1 (.slice (some ⟨g, 0, none⟩) n c) n (l.map encB) ∧ Below w.heap.size w w'
theorem GotNew.row {w w' : World} {l : List Nat} {e : Ending} (h : GotNew w l e w') (hl : ∀ x ∈ l, x < 256) : GotB w l e w' := by
  obtain ⟨g, n, c, h1, h2, h3⟩ := h
  exact ⟨_, _, _, h1, BR.of_own h2 hl, h3⟩
theorem leB4 (N : Nat) : leB 4 N = [N % 256, N / 256 % 256, N / 65536 % 256, N / 16777216 % 256] := by
  show [N % 256, N / 256 % 256, N / 256 / 256 % 256, N / 256 / 256 / 256 % 256] = _
  rw [Nat.div_div_eq_div_mul, Nat.div_div_eq_div_mul]
theorem four_new (w : World) (a b c d : Value) (T : TypeId) : ∀ j u, [a, b, c, d][j]? = some u → (w.alloc (.cells #[a, b, c, d] T)).cell? ((⟨w.heap.size, 0, none⟩ : Addr).add j) = some u := by
  intro j u h
  rw [addr_add, Nat.zero_add, World.cell?_alloc_new]
  simpa using h




theorem BR.take {w : World} {A : Option Addr} {n c m : Nat} {l : List Nat} (h : BR w A n c l) (hm : m ≤ n) : BR w A m c (l.take m) := by
  refine ⟨?_, Nat.le_trans hm h.2.1, fun x hx => h.2.2.1 x (List.mem_of_mem_take hx), fun h0 => ?_⟩
  · rw [List.length_take, ← h.1]; omega
  · obtain ⟨b, off, e, hlt, hc⟩ := h.2.2.2 (by omega)
    refine ⟨b, off, e, hlt, fun j hj => ?_⟩
    rw [hc j (by omega), List.getElem?_take_of_lt hj]


theorem cut_ne {y : List Nat} (h4 : 4 ≤ y.length) (h : y ≠ putB (y.take (y.length - 4))) : cutB y = [] ∧ cutE y = 8 := by
  have h5 : ¬ y.length < 4 := by omega
  unfold cutB cutE
  rw [if_neg h5, if_neg h, if_neg h5, if_neg h]
  exact ⟨rfl, rfl⟩



end Go.Proofs.Ytfdapcogkbddaaa

/-
  Bytes of a number: seven bits by seven; what bytes begin with; each is the other one's way back.
-/
namespace Go.Proofs.Ytfdapcogkbddaaa

/-- A number's bytes, at most k + 1. -/
def vbk : Nat → Nat → List Nat
  | 0, n => [n]
  | k + 1, n => if n < 128 then [n] else (n % 128 + 128) :: vbk k (n / 128)
def vb (n : Nat) : List Nat := vbk 9 n
/-- The number that bytes begin with, of which at most k + 1 are read; is the first one the number's first? -/
def tkk : Nat → Bool → List Nat → Option (Nat × List Nat)
  | _, _, [] => none
  | 0, f, c :: r => if 1 < c ∨ (f = false ∧ c = 0) then none else some (c, r)
  | k + 1, f, c :: r => if f = false ∧ c = 0 then none else if c < 128 then some (c, r) else (tkk k false r).map fun p => (c % 128 + 128 * p.1, p.2)
def tkN (l : List Nat) : Nat := ((tkk 9 true l).map Prod.fst).getD 0
def tkR (l : List Nat) : List Nat := ((tkk 9 true l).map Prod.snd).getD []
def tkE (l : List Nat) : Int := if (tkk 9 true l).isSome then 0 else 3

theorem vbk_tk : ∀ (k : Nat) (f : Bool) (n : Nat) (r : List Nat), n < 2 * 128 ^ k → (f = false → n ≠ 0) → tkk k f (vbk k n ++ r) = some (n, r)
  | 0, f, n, r, h, h0 => by
    rw [Nat.pow_zero] at h
    show (if 1 < n ∨ (f = false ∧ n = 0) then none else some (n, r)) = some (n, r)
    rw [if_neg]
    rintro (e | ⟨e, e2⟩)
    · omega
    · exact h0 e e2
  | k + 1, f, n, r, h, h0 => by
    rw [Nat.pow_succ] at h
    unfold vbk
    by_cases hn : n < 128
    · rw [if_pos hn]
      show (if f = false ∧ n = 0 then none else if n < 128 then some (n, r) else _) = some (n, r)
      rw [if_neg (fun e => h0 e.1 e.2), if_pos hn]
    · rw [if_neg hn]
      have ih := vbk_tk k false (n / 128) r (by omega) (fun _ => by omega)
      show (if f = false ∧ n % 128 + 128 = 0 then none else if n % 128 + 128 < 128 then _ else (tkk k false (vbk k (n / 128) ++ r)).map _) = some (n, r)
      rw [if_neg (by omega), if_neg (by omega), ih]
      show some ((n % 128 + 128) % 128 + 128 * (n / 128), r) = some (n, r)
      rw [show (n % 128 + 128) % 128 + 128 * (n / 128) = n by omega]
theorem tk_vbk : ∀ (k : Nat) (f : Bool) (l : List Nat) (n : Nat) (r : List Nat), (∀ c ∈ l, c < 256) → tkk k f l = some (n, r) → l = vbk k n ++ r ∧ n < 2 * 128 ^ k ∧ (f = false → n ≠ 0)
  | k, f, [], n, r, _, h => by cases k <;> cases h
  | 0, f, c :: s, n, r, hl, h => by
    change (if 1 < c ∨ (f = false ∧ c = 0) then none else some (c, s)) = some (n, r) at h
    split at h
    · cases h
    · rename_i hc
      injection h with h
      injection h with e1 e2
      subst e1 e2
      exact ⟨rfl, by rw [Nat.pow_zero]; omega, fun e e2 => hc (.inr ⟨e, e2⟩)⟩
  | k + 1, f, c :: s, n, r, hl, h => by
    change (if f = false ∧ c = 0 then none else if c < 128 then some (c, s) else (tkk k false s).map fun p => (c % 128 + 128 * p.1, p.2)) = some (n, r) at h
    rw [Nat.pow_succ]
    have hp : 0 < 128 ^ k := Nat.pow_pos (by omega)
    split at h
    · cases h
    · rename_i hc
      split at h
      · rename_i h1
        injection h with h
        injection h with e1 e2
        subst e1 e2
        unfold vbk
        rw [if_pos h1]
        exact ⟨rfl, by omega, fun e e2 => hc ⟨e, e2⟩⟩
      · rename_i h1
        rcases ht : tkk k false s with _ | ⟨m, t⟩
        · rw [ht] at h; cases h
        · rw [ht] at h
          obtain ⟨e3, e4, e5⟩ := tk_vbk k false s m t (fun x hx => hl x (List.mem_cons_of_mem _ hx)) ht
          injection h with h
          injection h with e1 e2
          have h2 := hl c (List.mem_cons_self ..)
          have h5 := e5 rfl
          simp only at e1 e2
          subst e2
          unfold vbk
          rw [if_neg (by omega), show n / 128 = m by omega, show n % 128 + 128 = c by omega, e3]
          exact ⟨rfl, by omega, fun _ => by omega⟩
theorem tk_more : ∀ (k : Nat) (f : Bool) (l m : List Nat), tkk k f l = none → k < l.length → tkk k f (l ++ m) = none
  | k, f, [], m, _, h => by simp at h
  | 0, f, c :: s, m, h, _ => by
    change (if 1 < c ∨ (f = false ∧ c = 0) then none else some (c, s)) = none at h
    show (if 1 < c ∨ (f = false ∧ c = 0) then none else some (c, s ++ m)) = none
    split at h
    · rename_i hc; rw [if_pos hc]
    · cases h
  | k + 1, f, c :: s, m, h, hk => by
    change (if f = false ∧ c = 0 then none else if c < 128 then some (c, s) else (tkk k false s).map fun p => (c % 128 + 128 * p.1, p.2)) = none at h
    show (if f = false ∧ c = 0 then none else if c < 128 then some (c, s ++ m) else (tkk k false (s ++ m)).map fun p => (c % 128 + 128 * p.1, p.2)) = none
    split at h
    · rename_i hc; rw [if_pos hc]
    · rename_i hc
      split at h
      · cases h
      · rename_i h1
        rw [if_neg hc, if_neg h1]
        have ht : tkk k false s = none := by
          rcases ht : tkk k false s with _ | p
          · rfl
          · rw [ht] at h; cases h
        rw [tk_more k false s m ht (by simp at hk; omega)]; rfl
theorem vbk_len : ∀ (k n : Nat), 1 ≤ (vbk k n).length ∧ (vbk k n).length ≤ k + 1
  | 0, n => by simp [vbk]
  | k + 1, n => by
    have ih := vbk_len k (n / 128)
    unfold vbk
    split
    · simp
    · simp only [List.length_cons]; omega
theorem vbk_mono : ∀ (k a b : Nat), a ≤ b → (vbk k a).length ≤ (vbk k b).length
  | 0, a, b, _ => by simp [vbk]
  | k + 1, a, b, h => by
    have ih := vbk_mono k (a / 128) (b / 128) (Nat.div_le_div_right h)
    have hb := (vbk_len k (b / 128)).1
    unfold vbk
    split
    · split
      · simp
      · simp only [List.length_cons, List.length_nil]; omega
    · rw [if_neg (by omega)]
      simp only [List.length_cons]; omega
theorem vbk_lt : ∀ (k n : Nat), n < 2 * 128 ^ k → ∀ c ∈ vbk k n, c < 256
  | 0, n, h, c, hc => by rw [Nat.pow_zero] at h; simp [vbk] at hc; omega
  | k + 1, n, h, c, hc => by
    rw [Nat.pow_succ] at h
    unfold vbk at hc
    split at hc
    · simp at hc; omega
    · rcases List.mem_cons.1 hc with e | e
      · omega
      · exact vbk_lt k (n / 128) (by omega) c e
theorem b64_9 : 2 * 128 ^ 9 = 18446744073709551616 := by decide
theorem vb_tk {n : Nat} (r : List Nat) (h : n < 2 * 128 ^ 9) : tkk 9 true (vb n ++ r) = some (n, r) := vbk_tk 9 true n r h (fun e => by cases e)
theorem vb_take {n : Nat} (r : List Nat) (h : n < 2 * 128 ^ 9) : tkN (vb n ++ r) = n ∧ tkR (vb n ++ r) = r ∧ tkE (vb n ++ r) = 0 := by
  unfold tkN tkR tkE
  rw [vb_tk r h]
  exact ⟨rfl, rfl, rfl⟩
theorem vb_inj {a b : Nat} (ha : a < 2 * 128 ^ 9) (hb : b < 2 * 128 ^ 9) : vb a = vb b ↔ a = b := by
  refine ⟨fun h => ?_, fun h => by rw [h]⟩
  have h1 := vb_tk [] ha
  rw [h, vb_tk [] hb] at h1
  injection h1 with h1
  injection h1 with h1
  exact h1.symm
theorem vb_lt {n : Nat} (h : n < 2 * 128 ^ 9) : ∀ c ∈ vb n, c < 256 := vbk_lt 9 n h
theorem vb_len (n : Nat) : 1 ≤ (vb n).length ∧ (vb n).length ≤ 10 := vbk_len 9 n
theorem vb_mono {a b : Nat} (h : a ≤ b) : (vb a).length ≤ (vb b).length := vbk_mono 9 a b h
/-- What is taken, or nothing. -/
theorem tk_ways {l : List Nat} (hl : ∀ c ∈ l, c < 256) : (tkN l = 0 ∧ tkR l = [] ∧ tkE l = 3 ∧ tkk 9 true l = none) ∨ (l = vb (tkN l) ++ tkR l ∧ tkN l < 2 * 128 ^ 9 ∧ tkE l = 0) := by
  unfold tkN tkR tkE
  rcases h : tkk 9 true l with _ | ⟨n, r⟩
  · exact .inl ⟨rfl, rfl, rfl, rfl⟩
  · obtain ⟨h1, h2, _⟩ := tk_vbk 9 true l n r hl h
    exact .inr ⟨h1, h2, rfl⟩
theorem tk_none_more {l : List Nat} (m : List Nat) (h : tkk 9 true l = none) (hk : 10 ≤ l.length) : tkE (l ++ m) = 3 := by
  unfold tkE
  rw [tk_more 9 true l m h (by omega)]; rfl
theorem tkR_lt {l : List Nat} (hl : ∀ c ∈ l, c < 256) : ∀ c ∈ tkR l, c < 256 := by
  rcases tk_ways hl with ⟨_, h, _⟩ | ⟨h, _⟩
  · rw [h]; intro c hc; simp at hc
  · intro c hc; exact hl c (by rw [h]; exact List.mem_append_right _ hc)
theorem tkR_len {l : List Nat} (hl : ∀ c ∈ l, c < 256) : (tkR l).length ≤ l.length := by
  rcases tk_ways hl with ⟨_, h, _⟩ | ⟨h, _⟩
  · rw [h]; simp
  · have := congrArg List.length h; rw [List.length_append] at this; omega
theorem tkN_lt {l : List Nat} (hl : ∀ c ∈ l, c < 256) : tkN l < 18446744073709551616 := by
  rw [← b64_9]
  rcases tk_ways hl with ⟨h, _⟩ | ⟨_, h, _⟩
  · rw [h]; decide
  · exact h
/-- An integer's number, and back. -/
def zig (z : Int) : Nat := if 0 ≤ z then 2 * z.toNat else 2 * (-(z + 1)).toNat + 1
def unz (n : Nat) : Int := if n % 2 = 0 then ((n / 2 : Nat) : Int) else -((n / 2 : Nat) : Int) - 1
theorem unz_zig (z : Int) : unz (zig z) = z := by unfold zig unz; split <;> split <;> omega
theorem zig_unz (n : Nat) : zig (unz n) = n := by unfold zig unz; split <;> split <;> omega
theorem zig_lt {z : Int} (h : -9223372036854775808 ≤ z ∧ z ≤ 9223372036854775807) : zig z < 2 * 128 ^ 9 := by rw [b64_9]; unfold zig; split <;> omega
theorem unz_bd {n : Nat} (h : n < 18446744073709551616) : -9223372036854775808 ≤ unz n ∧ unz n ≤ 9223372036854775807 := by unfold unz; split <;> omega
/-- The row that bytes begin with: itself, the rest, the error. -/
def rwL (most : Int) (l : List Nat) : List Nat := if tkE l = 0 ∧ (tkN l : Int) ≤ most ∧ tkN l ≤ (tkR l).length then (tkR l).take (tkN l) else []
def rwR (most : Int) (l : List Nat) : List Nat := if tkE l = 0 ∧ (tkN l : Int) ≤ most ∧ tkN l ≤ (tkR l).length then (tkR l).drop (tkN l) else []
def rwE (most : Int) (l : List Nat) : Int := if tkE l = 0 then (if (tkN l : Int) ≤ most then (if tkN l ≤ (tkR l).length then 0 else 3) else 6) else 3
theorem rw_put {r s : List Nat} {most : Int} (h : r.length < 2 * 128 ^ 9) (hm : (r.length : Int) ≤ most) : rwL most (vb r.length ++ (r ++ s)) = r ∧ rwR most (vb r.length ++ (r ++ s)) = s ∧ rwE most (vb r.length ++ (r ++ s)) = 0 := by
  obtain ⟨h1, h2, h3⟩ := vb_take (r ++ s) h
  have h4 : r.length ≤ (r ++ s).length := by rw [List.length_append]; omega
  unfold rwL rwR rwE
  rw [h1, h2, h3, if_pos ⟨rfl, hm, h4⟩, if_pos ⟨rfl, hm, h4⟩, if_pos rfl, if_pos hm, if_pos h4, List.take_left, List.drop_left]
  exact ⟨rfl, rfl, rfl⟩
/-- A row that is taken, or nothing. -/
theorem rw_ways {l : List Nat} (hl : ∀ c ∈ l, c < 256) (most : Int) : (rwL most l = [] ∧ rwR most l = [] ∧ (rwE most l = 3 ∨ rwE most l = 6)) ∨ (l = vb (rwL most l).length ++ (rwL most l ++ rwR most l) ∧ ((rwL most l).length : Int) ≤ most ∧ rwE most l = 0) := by
  unfold rwL rwR rwE
  rcases tk_ways hl with ⟨_, _, h, _⟩ | ⟨h1, _, h3⟩
  · rw [h]; left; simp
  · by_cases h4 : (tkN l : Int) ≤ most
    · by_cases h5 : tkN l ≤ (tkR l).length
      · right
        rw [if_pos ⟨h3, h4, h5⟩, if_pos ⟨h3, h4, h5⟩, if_pos h3, if_pos h4, if_pos h5]
        have h6 : ((tkR l).take (tkN l)).length = tkN l := by rw [List.length_take]; omega
        rw [h6, List.take_append_drop]
        exact ⟨h1, h4, rfl⟩
      · left
        rw [if_neg (fun e => h5 e.2.2), if_neg (fun e => h5 e.2.2), if_pos h3, if_pos h4, if_neg h5]
        exact ⟨rfl, rfl, .inl rfl⟩
    · left
      rw [if_neg (fun e => h4 e.2.1), if_neg (fun e => h4 e.2.1), if_pos h3, if_neg h4]
      exact ⟨rfl, rfl, .inr rfl⟩
theorem rwL_lt {l : List Nat} (hl : ∀ c ∈ l, c < 256) (most : Int) : ∀ c ∈ rwL most l, c < 256 := by
  unfold rwL
  split
  · intro c hc; exact tkR_lt hl c (List.mem_of_mem_take hc)
  · intro c hc; simp at hc
theorem rwR_lt {l : List Nat} (hl : ∀ c ∈ l, c < 256) (most : Int) : ∀ c ∈ rwR most l, c < 256 := by
  unfold rwR
  split
  · intro c hc; exact tkR_lt hl c (List.mem_of_mem_drop hc)
  · intro c hc; simp at hc
/-- What of a number's bytes is read on: the number so far, its next power. -/
theorem tk_step {k : Nat} {f : Bool} {c : Nat} {r : List Nat} (h0 : ¬ (f = false ∧ c = 0)) (h1 : 128 ≤ c) : tkk (k + 1) f (c :: r) = (tkk k false r).map fun p => (c % 128 + 128 * p.1, p.2) := by
  show (if f = false ∧ c = 0 then none else if c < 128 then _ else _) = _
  rw [if_neg h0, if_neg (by omega)]
theorem tk_last {k : Nat} {f : Bool} {c : Nat} {r : List Nat} (h0 : ¬ (f = false ∧ c = 0)) (h1 : c < 128) (h9 : k = 0 → c ≤ 1) : tkk k f (c :: r) = some (c, r) := by
  cases k with
  | zero =>
    show (if 1 < c ∨ (f = false ∧ c = 0) then none else some (c, r)) = _
    rw [if_neg]
    rintro (e | e)
    · have := h9 rfl; omega
    · exact h0 e
  | succ k =>
    show (if f = false ∧ c = 0 then none else if c < 128 then some (c, r) else _) = _
    rw [if_neg h0, if_pos h1]
theorem tk_wrong {k : Nat} {f : Bool} {c : Nat} {r : List Nat} (h : (k = 0 ∧ 1 < c) ∨ (f = false ∧ c = 0)) : tkk k f (c :: r) = none := by
  cases k with
  | zero =>
    show (if 1 < c ∨ (f = false ∧ c = 0) then none else some (c, r)) = _
    rw [if_pos]
    rcases h with h | h
    · exact .inl h.2
    · exact .inr h
  | succ k =>
    rcases h with h | h
    · omega
    · show (if f = false ∧ c = 0 then none else _) = _
      rw [if_pos h]
end Go.Proofs.Ytfdapcogkbddaaa

/-
  Plain arithmetic for the proofs about package nat: the digits of a natural number to the base 2 to the power of 64. Nothing of the program is used here.
-/
namespace Go.Proofs.Ytfdapcogkbddaaa

/-- 2 to the power of 64, behind a name. -/
def B64 : Nat := 18446744073709551616
theorem B64_pos : 0 < B64 := by unfold B64; omega
theorem B64_gt : 1 < B64 := by unfold B64; omega

/-- The number of a list of digits, the lowest first. -/
def val : List Nat → Nat
  | [] => 0
  | x :: xs => x + B64 * val xs

/-- The digits of a number, the lowest first, without noughts at the end. -/
def limbs (n : Nat) : List Nat := if n = 0 then [] else n % B64 :: limbs (n / B64)
termination_by n
decreasing_by exact Nat.div_lt_self (by omega) B64_gt

/-- All digits are digits. -/
def Dig (l : List Nat) : Prop := ∀ x ∈ l, x < B64
/-- The last digit is not nought. -/
def canon (l : List Nat) : Bool := l.getLastD 1 != 0

theorem limbs_zero : limbs 0 = [] := by rw [limbs]; simp
theorem limbs_pos {n : Nat} (h : n ≠ 0) : limbs n = n % B64 :: limbs (n / B64) := by rw [limbs]; simp [h]
theorem val_nil : val [] = 0 := rfl
theorem val_cons (x : Nat) (xs : List Nat) : val (x :: xs) = x + B64 * val xs := rfl

theorem val_limbs (n : Nat) : val (limbs n) = n := by
  induction n using Nat.strongRecOn with
  | _ n ih =>
    by_cases h : n = 0
    · subst h; rw [limbs_zero]; rfl
    · rw [limbs_pos h, val_cons, ih _ (Nat.div_lt_self (by omega) B64_gt)]
      exact Nat.mod_add_div n B64

theorem limbs_dig (n : Nat) : Dig (limbs n) := by
  induction n using Nat.strongRecOn with
  | _ n ih =>
    by_cases h : n = 0
    · subst h; rw [limbs_zero]; intro x hx; cases hx
    · rw [limbs_pos h]
      intro x hx
      rcases List.mem_cons.1 hx with rfl | hx
      · exact Nat.mod_lt _ B64_pos
      · exact ih _ (Nat.div_lt_self (by omega) B64_gt) x hx

theorem Dig.tail {x : Nat} {xs : List Nat} (h : Dig (x :: xs)) : Dig xs := fun y hy => h y (List.mem_cons_of_mem _ hy)
theorem Dig.head {x : Nat} {xs : List Nat} (h : Dig (x :: xs)) : x < B64 := h x List.mem_cons_self
theorem Dig.nil : Dig [] := fun _ h => by cases h
theorem Dig.cons {x : Nat} {xs : List Nat} (hx : x < B64) (h : Dig xs) : Dig (x :: xs) := fun y hy => by
  rcases List.mem_cons.1 hy with rfl | hy
  · exact hx
  · exact h y hy
theorem Dig.snoc {x : Nat} {xs : List Nat} (h : Dig xs) (hx : x < B64) : Dig (xs ++ [x]) := fun y hy => by
  rcases List.mem_append.1 hy with hy | hy
  · exact h y hy
  · simp at hy; subst hy; exact hx
theorem Dig.get {l : List Nat} (h : Dig l) (j : Nat) : l[j]?.getD 0 < B64 := by
  by_cases hj : j < l.length
  · simp [hj]; exact h _ (List.getElem_mem hj)
  · rw [List.getElem?_eq_none (by omega)]; exact B64_pos
theorem Dig.take {l : List Nat} (h : Dig l) (k : Nat) : Dig (l.take k) := fun x hx => h x (List.mem_of_mem_take hx)

theorem canon_cons {x : Nat} {xs : List Nat} (h : xs ≠ []) : canon (x :: xs) = canon xs := by
  unfold canon
  cases xs with
  | nil => exact absurd rfl h
  | cons y ys => simp [List.getLastD]

theorem val_eq_zero {l : List Nat} (hc : canon l = true) (h : val l = 0) : l = [] := by
  induction l with
  | nil => rfl
  | cons x xs ih =>
    rw [val_cons] at h
    have hx : x = 0 := by omega
    have hv : val xs = 0 := by
      have h1 : B64 * val xs = 0 := by omega
      rcases Nat.mul_eq_zero.1 h1 with h2 | h2
      · have := B64_pos; omega
      · exact h2
    by_cases he : xs = []
    · subst he; subst hx; simp [canon] at hc
    · rw [canon_cons he] at hc
      exact absurd (ih hc hv) he

theorem limbs_val {l : List Nat} (hd : Dig l) (hc : canon l = true) : limbs (val l) = l := by
  induction l with
  | nil => exact limbs_zero
  | cons x xs ih =>
    have hne : val (x :: xs) ≠ 0 := fun h => by have := val_eq_zero hc h; cases this
    have hx := hd.head
    rw [limbs_pos hne, val_cons]
    have h1 : (x + B64 * val xs) % B64 = x := by rw [Nat.add_mul_mod_self_left]; exact Nat.mod_eq_of_lt hx
    have h2 : (x + B64 * val xs) / B64 = val xs := by
      rw [Nat.add_mul_div_left _ _ B64_pos, Nat.div_eq_of_lt hx]; omega
    rw [h1, h2]
    by_cases he : xs = []
    · subst he; rw [val_nil, limbs_zero]
    · rw [canon_cons he] at hc
      rw [ih hd.tail hc]

theorem limbs_canon (n : Nat) : canon (limbs n) = true := by
  induction n using Nat.strongRecOn with
  | _ n ih =>
    by_cases h : n = 0
    · subst h; rw [limbs_zero]; rfl
    · rw [limbs_pos h]
      by_cases he : limbs (n / B64) = []
      · have hz : n / B64 = 0 := by
          have := val_limbs (n / B64); rw [he] at this; exact this.symm
        have hlt : n < B64 := by
          rcases Nat.lt_or_ge n B64 with h1 | h1
          · exact h1
          · have := Nat.div_pos h1 B64_pos; omega
        rw [he, Nat.mod_eq_of_lt hlt]
        simp [canon, h]
      · rw [canon_cons he]
        exact ih _ (Nat.div_lt_self (by omega) B64_gt)

theorem limbs_inj {a b : Nat} (h : limbs a = limbs b) : a = b := by
  rw [← val_limbs a, h, val_limbs]

theorem val_lt {l : List Nat} (hd : Dig l) : val l < B64 ^ l.length := by
  induction l with
  | nil => simp [val_nil]
  | cons x xs ih =>
    rw [val_cons, List.length_cons, Nat.pow_succ, Nat.mul_comm (B64 ^ xs.length)]
    have h1 := ih hd.tail
    have h2 := hd.head
    calc x + B64 * val xs < B64 + B64 * val xs := by omega
      _ = B64 * (val xs + 1) := by rw [Nat.mul_add, Nat.mul_one]; omega
      _ ≤ B64 * B64 ^ xs.length := Nat.mul_le_mul_left _ h1

theorem val_snoc (l : List Nat) (x : Nat) : val (l ++ [x]) = val l + B64 ^ l.length * x := by
  induction l with
  | nil => simp [val_cons, val_nil]
  | cons y ys ih =>
    rw [List.cons_append, val_cons, ih, val_cons, List.length_cons, Nat.pow_succ, Nat.mul_add]
    rw [← Nat.mul_assoc, Nat.mul_comm B64 (B64 ^ ys.length)]
    omega

theorem val_take_succ (l : List Nat) (k : Nat) : val (l.take (k + 1)) = val (l.take k) + B64 ^ k * l[k]?.getD 0 := by
  by_cases hk : k < l.length
  · rw [List.take_succ_eq_append_getElem hk, val_snoc, List.length_take, Nat.min_eq_left (by omega)]
    simp [hk]
  · rw [List.take_of_length_le (by omega), List.take_of_length_le (by omega), List.getElem?_eq_none (by omega)]
    simp

theorem limbs_length_le {n k : Nat} (h : n < B64 ^ k) : (limbs n).length ≤ k := by
  induction k generalizing n with
  | zero => simp at h; subst h; rw [limbs_zero]; simp
  | succ k ih =>
    by_cases hn : n = 0
    · subst hn; rw [limbs_zero]; simp
    · rw [limbs_pos hn, List.length_cons]
      have : n / B64 < B64 ^ k := by
        rw [Nat.div_lt_iff_lt_mul B64_pos, ← Nat.pow_succ]; exact h
      have := ih this
      omega

theorem lt_of_limbs_length {n k : Nat} (h : (limbs n).length ≤ k) : n < B64 ^ k := by
  have h1 := val_lt (limbs_dig n)
  rw [val_limbs] at h1
  exact Nat.lt_of_lt_of_le h1 (Nat.pow_le_pow_right B64_pos h)

theorem limbs_lt_iff {n k : Nat} : (limbs n).length ≤ k ↔ n < B64 ^ k := ⟨lt_of_limbs_length, limbs_length_le⟩

theorem limbs_length_add {a b k : Nat} (ha : (limbs a).length ≤ k) (hb : (limbs b).length ≤ k) : (limbs (a + b)).length ≤ k + 1 := by
  rw [limbs_lt_iff] at *
  rw [Nat.pow_succ]
  have := B64_gt
  calc a + b < B64 ^ k + B64 ^ k := by omega
    _ = B64 ^ k * 2 := by omega
    _ ≤ B64 ^ k * B64 := Nat.mul_le_mul_left _ (by omega)

theorem limbs_length_mul {a b k m : Nat} (ha : (limbs a).length ≤ k) (hb : (limbs b).length ≤ m) : (limbs (a * b)).length ≤ k + m := by
  rw [limbs_lt_iff] at *
  rw [Nat.pow_add]
  exact Nat.mul_lt_mul_of_lt_of_le ha (Nat.le_of_lt hb) (Nat.pow_pos B64_pos)

theorem limbs_ne_nil {n : Nat} (h : n ≠ 0) : 0 < (limbs n).length := by rw [limbs_pos h]; simp
theorem limbs_ge {n : Nat} (h : 0 < (limbs n).length) : B64 ^ ((limbs n).length - 1) ≤ n := by
  rcases Nat.lt_or_ge n (B64 ^ ((limbs n).length - 1)) with h1 | h1
  · have := limbs_length_le h1; omega
  · exact h1
/-- Digits whose number is great enough for their length are the number's own. -/
theorem eq_limbs {l : List Nat} (hd : Dig l) (h : 0 < l.length → B64 ^ (l.length - 1) ≤ val l) : l = limbs (val l) := by
  refine (limbs_val hd ?_).symm
  rcases Nat.eq_zero_or_pos l.length with h0 | h0
  · rw [List.eq_nil_of_length_eq_zero h0]; rfl
  · have hl : l ≠ [] := fun e => by rw [e] at h0; simp at h0
    have e := List.dropLast_concat_getLast hl
    have h1 := h h0
    have hlen : l.dropLast.length = l.length - 1 := List.length_dropLast
    have hv : val l.dropLast < B64 ^ (l.length - 1) := by
      rw [← hlen]; exact val_lt fun x hx => hd x (List.dropLast_subset _ hx)
    have hne : l.getLast hl ≠ 0 := fun hz => by
      have h2 : val l = val l.dropLast := by
        have h3 := val_snoc l.dropLast (l.getLast hl)
        rw [e, hz, Nat.mul_zero, Nat.add_zero] at h3
        exact h3
      omega
    unfold canon
    rw [List.getLastD_eq_getLast?, List.getLast?_eq_some_getLast hl]
    simpa using hne

/-- The lower and the upper half of a sum with a carry. -/
def sumLo (x y c : Nat) : Nat := (x + y + c) % B64
def sumHi (x y c : Nat) : Nat := (x + y + c) / B64
theorem sum_split (x y c : Nat) : sumLo x y c + B64 * sumHi x y c = x + y + c := Nat.mod_add_div _ _
theorem sumLo_lt (x y c : Nat) : sumLo x y c < B64 := Nat.mod_lt _ B64_pos
theorem sumHi_le {x y c : Nat} (hx : x < B64) (hy : y < B64) (hc : c ≤ 1) : sumHi x y c ≤ 1 := by
  unfold sumHi
  have : (x + y + c) / B64 < 2 := (Nat.div_lt_iff_lt_mul B64_pos).2 (by omega)
  omega
/-- The lower half of a difference with a borrow, and the borrow. -/
def subLo (x y b : Nat) : Nat := (x + B64 - y - b) % B64
def subHi (x y b : Nat) : Nat := if x < y + b then 1 else 0
theorem subLo_lt (x y b : Nat) : subLo x y b < B64 := Nat.mod_lt _ B64_pos
theorem subHi_le (x y b : Nat) : subHi x y b ≤ 1 := by unfold subHi; split <;> omega
theorem sub_split {x y b : Nat} (hx : x < B64) (hy : y < B64) (hb : b ≤ 1) : subLo x y b + y + b = x + B64 * subHi x y b := by
  unfold subLo subHi
  split
  · have h1 : x + B64 - y - b < B64 := by omega
    rw [Nat.mod_eq_of_lt h1]; omega
  · have h1 : x + B64 - y - b = (x - y - b) + B64 := by omega
    rw [h1, Nat.add_mod_right, Nat.mod_eq_of_lt (by omega)]; omega

theorem limbs_length_mono {a b : Nat} (h : a ≤ b) : (limbs a).length ≤ (limbs b).length :=
  limbs_length_le (Nat.lt_of_le_of_lt h (lt_of_limbs_length (Nat.le_refl _)))

end Go.Proofs.Ytfdapcogkbddaaa

/-
  Words for memory: a slice value that reads as a list of digits; a slice value that stands for a natural number. Lemmas on what keeps them.
-/
namespace Go.Proofs.Ytfdapcogkbddaaa
open Go.RowKit

/-- The slice value '.slice A n c' holds the digits l, in a block below B. -/
def Lim (B : Nat) (w : World) (A : Option Addr) (n c : Nat) (l : List Nat) : Prop :=
  n = l.length ∧ n ≤ c ∧ Dig l ∧ (0 < n → ∃ b off, A = some ⟨b, off, none⟩ ∧ b < B ∧ ∀ j, j < n → w.cell? ⟨b, off + j, none⟩ = some (.int .u64 ((l[j]?.getD 0 : Nat) : Int)))

/-- A value that holds the digits l. -/
def IsL (w : World) (v : Value) (l : List Nat) : Prop := ∃ A n c, v = .slice A n c ∧ Lim w.heap.size w A n c l
/-- A value that stands for the number x. -/
def IsN (w : World) (v : Value) (x : Nat) : Prop := IsL w v (limbs x)

section
variable {w w' : World} {B B' : Nat} {A : Option Addr} {n c : Nat} {l : List Nat} {v : Value}
theorem Lim.below (h : Lim B w A n c l) (hb : Below B w w') : Lim B w' A n c l :=
  ⟨h.1, h.2.1, h.2.2.1, fun hn => by
    obtain ⟨b, off, e, hlt, hc⟩ := h.2.2.2 hn
    exact ⟨b, off, e, hlt, fun j hj => (hb.cell (p := ⟨b, off + j, none⟩) hlt).trans (hc j hj)⟩⟩
theorem Lim.more (h : Lim B w A n c l) (hB : B ≤ B') : Lim B' w A n c l :=
  ⟨h.1, h.2.1, h.2.2.1, fun hn => by
    obtain ⟨b, off, e, hlt, hc⟩ := h.2.2.2 hn
    exact ⟨b, off, e, Nat.lt_of_lt_of_le hlt hB, hc⟩⟩
theorem Lim.drew (h : Lim B w A n c l) : Lim B w.drew A n c l := h
theorem IsL.below (h : IsL w v l) (hb : Below w.heap.size w w') : IsL w' v l := by
  obtain ⟨A, n, c, e, hl⟩ := h
  exact ⟨A, n, c, e, (hl.below hb).more hb.size⟩
theorem IsN.below {x : Nat} (h : IsN w v x) (hb : Below w.heap.size w w') : IsN w' v x := IsL.below h hb
theorem Lim.nil (B : Nat) (w : World) (A : Option Addr) (c : Nat) : Lim B w A 0 c [] := ⟨rfl, Nat.zero_le _, Dig.nil, fun h => absurd h (by omega)⟩
theorem IsN.zero (w : World) : IsN w (.slice none 0 0) 0 := ⟨none, 0, 0, rfl, by rw [limbs_zero]; exact Lim.nil _ _ _ _⟩
end

end Go.Proofs.Ytfdapcogkbddaaa

/-
  The contract of nat.limb.
-/
namespace Go.Proofs.Ytfdapcogkbddaaa
open Go.RowKit
end Go.Proofs.Ytfdapcogkbddaaa

/-
  Facts carried over what a call does: short names, so that texts stay short.
-/
namespace Go.Proofs.Ytfdapcogkbddaaa
open Go.RowKit
theorem cK {n : Nat} {w w' : World} (b : Below n w w') {p : Addr} {v : Option Value} (h : w.cell? p = v) (l : p.block < n) : w'.cell? p = v := (b.cell l).trans h
theorem fK {n : Nat} {w w' : World} (b : Below n w w') {p : Addr} {v : Bool} (h : w.frozen? p = v) (l : p.block < n) : w'.frozen? p = v := (b.frozen l).trans h
theorem lK {n : Nat} {w w' : World} (b : Below n w w') {a : Nat} (l : a < w.heap.size) : a < w'.heap.size := Nat.lt_of_lt_of_le l b.size
theorem bK {w w1 w2 : World} (c : Below w.heap.size w w1) (b : Below w1.heap.size w1 w2) : Below w.heap.size w w2 := c.trans (b.mono c.size)
theorem cR {n : Nat} {w w' : World} (b : Below n w w') {g i : Nat} (l : g < n) : w.cell? ⟨g, i, none⟩ = w'.cell? ⟨g, i, none⟩ := (b.cell (p := ⟨g, i, none⟩) l).symm
theorem fR {n : Nat} {w w' : World} (b : Below n w w') {g i : Nat} (l : g < n) : w.frozen? ⟨g, i, none⟩ = w'.frozen? ⟨g, i, none⟩ := (b.frozen (p := ⟨g, i, none⟩) l).symm
/-- A new box's cells, and that they may be written. -/
def Cs2 (w : World) (g : Nat) (a b : Value) : Prop := w.cell? ⟨g, 0, none⟩ = some a ∧ w.cell? ⟨g, 1, none⟩ = some b
def Cs3 (w : World) (g : Nat) (a b c : Value) : Prop := w.cell? ⟨g, 0, none⟩ = some a ∧ w.cell? ⟨g, 1, none⟩ = some b ∧ w.cell? ⟨g, 2, none⟩ = some c
def Cs6 (w : World) (g : Nat) (a b c d e f : Value) : Prop := w.cell? ⟨g, 0, none⟩ = some a ∧ w.cell? ⟨g, 1, none⟩ = some b ∧ w.cell? ⟨g, 2, none⟩ = some c ∧ w.cell? ⟨g, 3, none⟩ = some d ∧ w.cell? ⟨g, 4, none⟩ = some e ∧ w.cell? ⟨g, 5, none⟩ = some f
def Fz2 (w : World) (g : Nat) : Prop := w.frozen? ⟨g, 0, none⟩ = false ∧ w.frozen? ⟨g, 1, none⟩ = false
def Fz3 (w : World) (g : Nat) : Prop := w.frozen? ⟨g, 0, none⟩ = false ∧ w.frozen? ⟨g, 1, none⟩ = false ∧ w.frozen? ⟨g, 2, none⟩ = false
def Fz6 (w : World) (g : Nat) : Prop := w.frozen? ⟨g, 0, none⟩ = false ∧ w.frozen? ⟨g, 1, none⟩ = false ∧ w.frozen? ⟨g, 2, none⟩ = false ∧ w.frozen? ⟨g, 3, none⟩ = false ∧ w.frozen? ⟨g, 4, none⟩ = false ∧ w.frozen? ⟨g, 5, none⟩ = false
theorem pT {α : Type} : (∀ (l : List α) (i : Nat) (h : i < l.toArray.size), l.toArray[i]'h = l[i]'(by simpa using h)) ∧ (∀ (a : α) (l : List α) (h : 0 < (a :: l).length), (a :: l)[0]'h = a) ∧ (∀ (a : α) (l : List α) (i : Nat) (h : i + 1 < (a :: l).length), (a :: l)[i + 1]'h = l[i]'(by simpa using h)) ∧ (∀ (l : List α) (i : Nat) (v : α), l.toArray.setIfInBounds i v = (l.set i v).toArray) ∧ (∀ (a : α) (l : List α) (v : α), (a :: l).set 0 v = v :: l) ∧ (∀ (a : α) (l : List α) (i : Nat) (v : α), (a :: l).set (i + 1) v = a :: l.set i v) :=
  ⟨fun _ _ _ => by simp, fun _ _ _ => rfl, fun _ _ _ _ => rfl, fun _ _ _ => by simp, fun _ _ _ => rfl, fun _ _ _ _ => rfl⟩
theorem cl_lt {w : World} {p : Addr} {v : Value} (h : w.cell? p = some v) : p.block < w.heap.size := by
  rcases Nat.lt_or_ge p.block w.heap.size with h1 | h1
  · exact h1
  · simp [World.cell?, Array.getElem?_eq_none h1] at h
theorem zb2 {n g : Nat} {w w' : World} (q : Below n w w') (l : g < n) (c : Cs2 w g (.bool false) (.slice none 0 0)) (f : Fz2 w g) : w'.cell? ⟨g, 0, none⟩ = some (.bool false) ∧ w'.frozen? ⟨g, 0, none⟩ = false ∧ w'.cell? ⟨g, 1, none⟩ = some (.slice none 0 0) ∧ w'.frozen? ⟨g, 1, none⟩ = false ∧ g < w'.heap.size := ⟨cK q c.1 l, fK q f.1 l, cK q c.2 l, fK q f.2 l, Nat.lt_of_lt_of_le (cl_lt c.1) q.size⟩
theorem zb3 {n g : Nat} {w w' : World} (q : Below n w w') (l : g < n) (c : Cs3 w g (.bool false) (.slice none 0 0) (.slice none 0 0)) (f : Fz3 w g) : w'.cell? ⟨g, 0, none⟩ = some (.bool false) ∧ w'.frozen? ⟨g, 0, none⟩ = false ∧ w'.cell? ⟨g, 1, none⟩ = some (.slice none 0 0) ∧ w'.frozen? ⟨g, 1, none⟩ = false ∧ w'.cell? ⟨g, 2, none⟩ = some (.slice none 0 0) ∧ w'.frozen? ⟨g, 2, none⟩ = false ∧ g < w'.heap.size := ⟨cK q c.1 l, fK q f.1 l, cK q c.2.1 l, fK q f.2.1 l, cK q c.2.2 l, fK q f.2.2 l, Nat.lt_of_lt_of_le (cl_lt c.1) q.size⟩
theorem zb6 {n g : Nat} {w w' : World} (q : Below n w w') (l : g < n) (c : Cs6 w g (.bool false) (.slice none 0 0) (.slice none 0 0) (.bool false) (.slice none 0 0) (.slice none 0 0)) (f : Fz6 w g) : w'.cell? ⟨g, 0, none⟩ = some (.bool false) ∧ w'.frozen? ⟨g, 0, none⟩ = false ∧ w'.cell? ⟨g, 1, none⟩ = some (.slice none 0 0) ∧ w'.frozen? ⟨g, 1, none⟩ = false ∧ w'.cell? ⟨g, 2, none⟩ = some (.slice none 0 0) ∧ w'.frozen? ⟨g, 2, none⟩ = false ∧ w'.cell? ⟨g, 3, none⟩ = some (.bool false) ∧ w'.frozen? ⟨g, 3, none⟩ = false ∧ w'.cell? ⟨g, 4, none⟩ = some (.slice none 0 0) ∧ w'.frozen? ⟨g, 4, none⟩ = false ∧ w'.cell? ⟨g, 5, none⟩ = some (.slice none 0 0) ∧ w'.frozen? ⟨g, 5, none⟩ = false ∧ g < w'.heap.size := ⟨cK q c.1 l, fK q f.1 l, cK q c.2.1 l, fK q f.2.1 l, cK q c.2.2.1 l, fK q f.2.2.1 l, cK q c.2.2.2.1 l, fK q f.2.2.2.1 l, cK q c.2.2.2.2.1 l, fK q f.2.2.2.2.1 l, cK q c.2.2.2.2.2 l, fK q f.2.2.2.2.2 l, Nat.lt_of_lt_of_le (cl_lt c.1) q.size⟩
theorem uK {V y z x : World} (qq : Below V.heap.size V y) (up : Below y.heap.size y z) (q : Below z.heap.size z x) : Below V.heap.size V x := (qq.trans (up.mono qq.size)).trans (q.mono (Nat.le_trans qq.size up.size))
end Go.Proofs.Ytfdapcogkbddaaa

/-
  The contracts of the thirteenth reference: Take, TakeInt.
-/
namespace Go.Proofs.Ytfdapcogkbddaaa
set_option maxRecDepth 100000
open Go.RowKit
set_option linter.unusedVariables false
set_option linter.unusedSimpArgs false

/-- A value, a row of bytes and a code are answered; two rows and a code. -/
def GotTk (w : World) (v : Value) (R : List Nat) (E : Int) (e : Ending) (w' : World) : Prop := ∃ A m c, e = .returned (.tuple #[v, .slice A m c, .int .i64 E]) ∧ BR w' A m c R ∧ Below w.heap.size w w'
def GotTr (w : World) (L R : List Nat) (E : Int) (e : Ending) (w' : World) : Prop := ∃ A m c B p d, e = .returned (.tuple #[.slice A m c, .slice B p d, .int .i64 E]) ∧ BR w' A m c L ∧ BR w' B p d R ∧ Below w.heap.size w w'
theorem tk_of_none {l : List Nat} (h : tkk 9 true l = none) : tkN l = 0 ∧ tkR l = [] ∧ tkE l = 3 := by
  unfold tkN tkR tkE; rw [h]; exact ⟨rfl, rfl, rfl⟩
theorem tk_of_some {l r : List Nat} {a : Nat} (h : tkk 9 true l = some (a, r)) : tkN l = a ∧ tkR l = r ∧ tkE l = 0 := by
  unfold tkN tkR tkE; rw [h]; exact ⟨rfl, rfl, rfl⟩
theorem br_drop {w : World} {b off n c m : Nat} {l : List Nat} (h : BR w (some ⟨b, off, none⟩) n c l) (hm : m ≤ n) : BR w (some ⟨b, off + m, none⟩) (n - m) (c - m) (l.drop m) := by
  refine ⟨?_, ?_, fun x hx => h.2.2.1 x (List.mem_of_mem_drop hx), fun h0 => ?_⟩
  · rw [List.length_drop, ← h.1]
  · have := h.2.1; omega
  · obtain ⟨b', off', e, hlt, hc⟩ := h.2.2.2 (by omega)
    injection e with e
    injection e with e1 e2
    subst e1 e2
    refine ⟨b, off + m, rfl, hlt, fun j hj => ?_⟩
    have := hc (m + j) (by omega)
    rw [← Nat.add_assoc] at this
    rw [this, List.getElem?_drop]
theorem drop_cons {l : List Nat} {i : Nat} (h : i < l.length) : l.drop i = (l[i]?.getD 0) :: l.drop (i + 1) := by
  rw [List.getElem?_eq_getElem h]; exact List.drop_eq_getElem_cons h
theorem br_end {w : World} {B : Option Addr} {n i d : Nat} {l : List Nat} (hn : n = l.length) (hi : n ≤ i) : BR w B (n - i) d (l.drop i) := by
  rw [show n - i = 0 by omega, List.drop_eq_nil_of_le (by omega)]
  exact BR.nil _ _ _
theorem gtk_end {w w' : World} {v : Value} {B : Option Addr} {n i d : Nat} {l : List Nat} (hn : n = l.length) (hi : n ≤ i) (hb : Below w.heap.size w w') : GotTk w v (l.drop i) 0 (.returned (.tuple #[v, .slice B (n - i) d, .int .i64 0])) w' := ⟨_, _, _, rfl, br_end hn hi, hb⟩
theorem map_step {k N P c0 : Nat} {r : List Nat} : ((tkk k false r).map fun p => (c0 % 128 + 128 * p.1, p.2)).map (fun p : Nat × List Nat => (N + P * p.1, p.2)) = (tkk k false r).map fun p => (N + c0 % 128 * P + P * 128 * p.1, p.2) := by
  rw [Option.map_map]
  congr 1
  funext p
  show (N + P * (c0 % 128 + 128 * p.1), p.2) = _
  rw [Nat.mul_add, Nat.mul_comm P (c0 % 128), Nat.mul_assoc, Nat.add_assoc]

set_option maxRecDepth 100000 in
set_option maxHeartbeats 8000000 in
theorem rTake_N {w : World} {A : Option Addr} {n c : Nat} {l : List Nat} (hA : BR w A n c l) (hn : n ≤ 9223372036854775807) :
    Calls Try.prog 11 #[.slice A n c] w (GotTk w (.int .u64 ((tkN l : Nat) : Int)) (tkR l) (tkE l)) := by
  have HW1 : Hid (tkk 9 true l = none → tkN l = 0 ∧ tkR l = [] ∧ tkE l = 3) := Lib.hid tk_of_none
  have HW2 : Hid (∀ a r, tkk 9 true l = some (a, r) → tkN l = a ∧ tkR l = r ∧ tkE l = 0) := Lib.hid (fun a r h => tk_of_some h)
  obtain ⟨a, ea⟩ : ∃ a, tkN l = a := ⟨_, rfl⟩
  obtain ⟨R, eR⟩ : ∃ R, tkR l = R := ⟨_, rfl⟩
  obtain ⟨E, eE⟩ : ∃ E, tkE l = E := ⟨_, rfl⟩
  rw [ea, eR, eE] at HW1 HW2 ⊢
  clear ea eR eE
  have HNN := Lib.hid hn
  have HLN := Lib.hid hA.1
  have HNC := Lib.hid hA.2.1
  clear hn
  have cc := Below.refl w.heap.size w
  go_enter Try.func11, Try.ntmps11
  go_wp2_with fail
  go_loopw [5, 6, 7] (fun nv ov iv wr => ∃ i N P : Nat, i ≤ 9 ∧ i ≤ n ∧ nv = .int .u64 (N : Int) ∧ ov = .int .u64 (P : Int) ∧ iv = .int .i64 (i : Int) ∧ Hid (P = 128 ^ i) ∧ N < P ∧ Hid (tkk 9 true l = (tkk (9 - i) (decide (i = 0)) (l.drop i)).map fun p => (N + P * p.1, p.2)) ∧ Below w.heap.size w wr) (fun _ _ iv _ => n - (intOf iv).toNat)
  case atStart => exact ⟨0, 0, 1, by omega, by omega, rfl, rfl, rfl, Lib.hid rfl, by omega, Lib.hid (by rw [List.drop_zero]; show _ = (tkk 9 true l).map _; rcases tkk 9 true l with _ | ⟨x, y⟩; rfl; show some (x, y) = some (0 + 1 * x, y); rw [Nat.zero_add, Nat.one_mul]), Below.refl _ _⟩
  case round =>
    clear cc
    obtain ⟨i, N, P, hi9, hin, rfl, rfl, rfl, HP, hNP, HT, hbl⟩ := hrel
    have g1 : decide ((i : Int) < 10) = true := decide_eq_true (by omega)
    by_cases hlt : i < n
    · skip
      obtain ⟨bb, off, rfl, hb⟩ := hA.some (by omega)
      have hAr := hA.on hbl
      have h1 := hAr.cell hlt
      have hc6 := hA.at hlt
      have hdr : l.drop i = (l[i]?.getD 0) :: l.drop (i + 1) := drop_cons (by rw [← HLN.out]; exact hlt)
      obtain ⟨c0, ec⟩ : ∃ x, l[i]?.getD 0 = x := ⟨_, rfl⟩
      rw [ec] at h1 hc6 hdr
      rw [hdr] at HT
      obtain ⟨i1, hi1⟩ : ∃ x, i + 1 = x := ⟨_, rfl⟩
      rw [hi1] at HT
      have HDR := br_drop (m := i1) hAr (by omega)
      have HI1 := Lib.hid hi1
      have g2 : decide ((i : Int) < (n : Int)) = true := decide_eq_true (by omega)
      have k0 : IntKind.u64.wrap (c0 : Int) = (c0 : Int) := by rw [IntKind.wrap_u64]; omega
      have k3 : IntKind.i64.wrap ((i : Int) + 1) = (i1 : Int) := by rw [IntWalk.i64_in _ (by have := HNN.out; omega)]; omega
      have j0 : (i1 : Int) ≤ (n : Int) := by omega
      have j00 : (0 : Int) ≤ (i1 : Int) := by omega
      have j1 : i1 ≤ n := by omega
      have jc : (n : Int) ≤ (c : Int) := by have := HNC.out; omega
      have jl : (i : Int) < (n : Int) := by omega
      clear hdr ec hb hi1
      by_cases q0 : i = 9
      · by_cases q1 : 1 < c0
        · have t1 : ((i : Int) == 9) = true := beq_iff_eq.2 (by omega)
          have t2 : decide (1 < (c0 : Int)) = true := decide_eq_true (by omega)
          have HX : Hid (a = 0 ∧ R = [] ∧ E = 3) := Lib.hid (HW1.out (by rw [HT.out, tk_wrong (by left; omega)]; rfl))
          obtain ⟨rfl, rfl, rfl⟩ := HX.out
          clear HX HT HP HW1 HW2 HDR q0 q1
          go_wp2_with fail
          go_ret3
          exact ⟨_, _, _, rfl, BR.nil _ _ _, hbl⟩
        · by_cases q2 : c0 = 0
          · have t1 : ((i : Int) == 9) = true := beq_iff_eq.2 (by omega)
            have t2 : decide (1 < (c0 : Int)) = false := decide_eq_false (by omega)
            have t3 : decide (0 < (i : Int)) = true := decide_eq_true (by omega)
            have t3b : decide (0 < i) = true := decide_eq_true (by omega)
            have HX : Hid (a = 0 ∧ R = [] ∧ E = 3) := Lib.hid (HW1.out (by rw [HT.out, tk_wrong (by right; exact ⟨decide_eq_false (by omega), by omega⟩)]; rfl))
            obtain ⟨rfl, rfl, rfl⟩ := HX.out
            clear HX HT HP HW1 HW2 HDR q0 q1
            subst q2
            replace h1 : wr.cell? ⟨bb, off + i, none⟩ = some (.int .u8 0) := h1
            clear k0 hc6
            clear t2
            go_wp2_with fail
            go_ret3
            exact ⟨_, _, _, rfl, BR.nil _ _ _, hbl⟩
          · have t1 : ((i : Int) == 9) = true := beq_iff_eq.2 (by omega)
            have t2 : decide (1 < (c0 : Int)) = false := decide_eq_false (by omega)
            have t3 : decide (0 < (i : Int)) = true := decide_eq_true (by omega)
            have t3b : decide (0 < i) = true := decide_eq_true (by omega)
            have t4 : ((c0 : Int) == 0) = false := beq_eq_false_iff_ne.2 (by omega)
            have t4b : (c0 == 0) = false := beq_eq_false_iff_ne.2 (by omega)
            have hPle : P ≤ 9223372036854775808 := by rw [HP.out]; exact Nat.le_trans (Nat.pow_le_pow_right (by omega) hi9) (by decide)
            obtain ⟨X, eX⟩ : ∃ X, c0 % 128 * P = X := ⟨_, rfl⟩
            have hX : X ≤ 9223372036854775808 := by rw [← eX, show c0 % 128 = 1 by omega, Nat.one_mul]; exact hPle
            have k5 : IntKind.u64.wrap ((c0 : Int) % 128) = (c0 : Int) % 128 := by rw [IntKind.wrap_u64]; omega
            have e6 : (c0 : Int) % 128 * (P : Int) = (X : Int) := by rw [← eX, Int.natCast_mul]; rfl
            have k6 : IntKind.u64.wrap ((c0 : Int) % 128 * (P : Int)) = (X : Int) := by rw [e6, IntKind.wrap_u64]; omega
            obtain ⟨S, eS⟩ : ∃ S, N + X = S := ⟨_, rfl⟩
            have k7 : IntKind.u64.wrap ((N : Int) + (X : Int)) = (S : Int) := by rw [IntKind.wrap_u64]; omega
            clear e6
            have t5 : decide ((c0 : Int) < 128) = true := decide_eq_true (by omega)
            have HX : Hid (a = S ∧ R = l.drop i1 ∧ E = 0) := Lib.hid (HW2.out S _ (by rw [HT.out, tk_last (by intro e; have := of_decide_eq_false e.1; omega) (by omega) (by omega)]; show some (N + P * c0, _) = _; rw [← eS, ← eX, Nat.mod_eq_of_lt (by omega), Nat.mul_comm]))
            obtain ⟨rfl, rfl, rfl⟩ := HX.out
            clear HX HT HP HW1 HW2 eX eS hX hPle hNP q0 q1 q2
            have HRR := Lib.hid HDR
            clear HDR
            go_wp2_with fail
            go_region_held3 (fun w' => True) (trivial) (fail)
            all_goals (try go_wp2_with fail)
            all_goals go_ret3
            all_goals first | exact ⟨_, _, _, rfl, (HRR.out.on (below_drewN (Below.refl _ _) 1)), below_drewN hbl 1⟩ | exact gtk_end (i := i1) HLN.out (by have := HNC.out; omega) (below_drewN hbl 1)
      · by_cases q1 : 0 < i
        · by_cases q2 : c0 = 0
          · have t1 : ((i : Int) == 9) = false := beq_eq_false_iff_ne.2 (by omega)
            have t3 : decide (0 < (i : Int)) = true := decide_eq_true (by omega)
            have t3b : decide (0 < i) = true := decide_eq_true (by omega)
            have HX : Hid (a = 0 ∧ R = [] ∧ E = 3) := Lib.hid (HW1.out (by rw [HT.out, tk_wrong (by right; exact ⟨decide_eq_false (by omega), by omega⟩)]; rfl))
            obtain ⟨rfl, rfl, rfl⟩ := HX.out
            clear HX HT HP HW1 HW2 HDR q0 q1
            subst q2
            replace h1 : wr.cell? ⟨bb, off + i, none⟩ = some (.int .u8 0) := h1
            clear k0 hc6
            go_wp2_with fail
            go_ret3
            exact ⟨_, _, _, rfl, BR.nil _ _ _, hbl⟩
          · by_cases q3 : c0 < 128
            · have t1 : ((i : Int) == 9) = false := beq_eq_false_iff_ne.2 (by omega)
              have t3 : decide (0 < (i : Int)) = true := decide_eq_true (by omega)
              have t3b : decide (0 < i) = true := decide_eq_true (by omega)
              have t4 : ((c0 : Int) == 0) = false := beq_eq_false_iff_ne.2 (by omega)
              have t4b : (c0 == 0) = false := beq_eq_false_iff_ne.2 (by omega)
              have hPle : P ≤ 9223372036854775808 := by rw [HP.out]; exact Nat.le_trans (Nat.pow_le_pow_right (by omega) hi9) (by decide)
              have hPl8 : P ≤ 72057594037927936 := by rw [HP.out]; exact Nat.le_trans (Nat.pow_le_pow_right (by omega) (show i ≤ 8 by omega)) (by decide)
              obtain ⟨X, eX⟩ : ∃ X, c0 % 128 * P = X := ⟨_, rfl⟩
              have hX : X ≤ 127 * P := by rw [← eX]; exact Nat.mul_le_mul_right P (by omega)
              have k5 : IntKind.u64.wrap ((c0 : Int) % 128) = (c0 : Int) % 128 := by rw [IntKind.wrap_u64]; omega
              have e6 : (c0 : Int) % 128 * (P : Int) = (X : Int) := by rw [← eX, Int.natCast_mul]; rfl
              have k6 : IntKind.u64.wrap ((c0 : Int) % 128 * (P : Int)) = (X : Int) := by rw [e6, IntKind.wrap_u64]; omega
              obtain ⟨S, eS⟩ : ∃ S, N + X = S := ⟨_, rfl⟩
              have k7 : IntKind.u64.wrap ((N : Int) + (X : Int)) = (S : Int) := by rw [IntKind.wrap_u64]; omega
              clear e6
              have t5 : decide ((c0 : Int) < 128) = true := decide_eq_true (by omega)
              have HX : Hid (a = S ∧ R = l.drop i1 ∧ E = 0) := Lib.hid (HW2.out S _ (by rw [HT.out, tk_last (by intro e; have := of_decide_eq_false e.1; omega) (by omega) (by omega)]; show some (N + P * c0, _) = _; rw [← eS, ← eX, Nat.mod_eq_of_lt (by omega), Nat.mul_comm]))
              obtain ⟨rfl, rfl, rfl⟩ := HX.out
              clear HX HT HP HW1 HW2 eX eS hX hPle hNP q0 q1 q2 q3 hPl8
              have HRR := Lib.hid HDR
              clear HDR
              go_wp2_with fail
              go_region_held3 (fun w' => True) (trivial) (fail)
              all_goals (try go_wp2_with fail)
              all_goals go_ret3
              all_goals first | exact ⟨_, _, _, rfl, (HRR.out.on (below_drewN (Below.refl _ _) 1)), below_drewN hbl 1⟩ | exact gtk_end (i := i1) HLN.out (by have := HNC.out; omega) (below_drewN hbl 1)
            · have t1 : ((i : Int) == 9) = false := beq_eq_false_iff_ne.2 (by omega)
              have t3 : decide (0 < (i : Int)) = true := decide_eq_true (by omega)
              have t3b : decide (0 < i) = true := decide_eq_true (by omega)
              have t4 : ((c0 : Int) == 0) = false := beq_eq_false_iff_ne.2 (by omega)
              have t4b : (c0 == 0) = false := beq_eq_false_iff_ne.2 (by omega)
              have hPle : P ≤ 9223372036854775808 := by rw [HP.out]; exact Nat.le_trans (Nat.pow_le_pow_right (by omega) hi9) (by decide)
              have hPl8 : P ≤ 72057594037927936 := by rw [HP.out]; exact Nat.le_trans (Nat.pow_le_pow_right (by omega) (show i ≤ 8 by omega)) (by decide)
              obtain ⟨X, eX⟩ : ∃ X, c0 % 128 * P = X := ⟨_, rfl⟩
              have hX : X ≤ 127 * P := by rw [← eX]; exact Nat.mul_le_mul_right P (by omega)
              have k5 : IntKind.u64.wrap ((c0 : Int) % 128) = (c0 : Int) % 128 := by rw [IntKind.wrap_u64]; omega
              have e6 : (c0 : Int) % 128 * (P : Int) = (X : Int) := by rw [← eX, Int.natCast_mul]; rfl
              have k6 : IntKind.u64.wrap ((c0 : Int) % 128 * (P : Int)) = (X : Int) := by rw [e6, IntKind.wrap_u64]; omega
              obtain ⟨S, eS⟩ : ∃ S, N + X = S := ⟨_, rfl⟩
              have k7 : IntKind.u64.wrap ((N : Int) + (X : Int)) = (S : Int) := by rw [IntKind.wrap_u64]; omega
              clear e6
              have t5 : decide ((c0 : Int) < 128) = false := decide_eq_false (by omega)
              obtain ⟨P2, eP⟩ : ∃ x, P * 128 = x := ⟨_, rfl⟩
              have k8 : IntKind.u64.wrap ((P : Int) * 128) = (P2 : Int) := by rw [IntKind.wrap_u64]; omega
              have HP2 : Hid (P2 = 128 ^ i1) := Lib.hid (by rw [← eP, HP.out, ← HI1.out]; rfl)
              have hi9b : i1 ≤ 9 := by have := HI1.out; omega
              have hS2 : S < P2 := by omega
              have HT2 : Hid (tkk 9 true l = (tkk (9 - i1) (decide (i1 = 0)) (l.drop i1)).map fun p => (S + P2 * p.1, p.2)) := Lib.hid (by
                have hk : 9 - i = (9 - i1) + 1 := by have := HI1.out; omega
                have hf : decide (i1 = 0) = false := decide_eq_false (by have := HI1.out; omega)
                rw [HT.out, hk, tk_step (by intro e; have := of_decide_eq_false e.1; omega) (by omega), map_step, eX, eS, eP, hf])
              clear HT HP HW1 HW2 eX eS eP hX hPle hPl8 hNP HDR q0 q1 q2 q3
              go_wp2_with fail
              go_roundw
              case rel => exact ⟨i1, S, P2, hi9b, j1, rfl, rfl, rfl, HP2, hS2, HT2, hbl⟩
              case measure => have := HI1.out; simp [intOf]; omega
        · by_cases q2 : c0 < 128
          · have t1 : ((i : Int) == 9) = false := beq_eq_false_iff_ne.2 (by omega)
            have t3 : decide (0 < (i : Int)) = false := decide_eq_false (by omega)
            have t3b : decide (0 < i) = false := decide_eq_false (by omega)
            have hPle : P ≤ 9223372036854775808 := by rw [HP.out]; exact Nat.le_trans (Nat.pow_le_pow_right (by omega) hi9) (by decide)
            have hPl8 : P ≤ 72057594037927936 := by rw [HP.out]; exact Nat.le_trans (Nat.pow_le_pow_right (by omega) (show i ≤ 8 by omega)) (by decide)
            obtain ⟨X, eX⟩ : ∃ X, c0 % 128 * P = X := ⟨_, rfl⟩
            have hX : X ≤ 127 * P := by rw [← eX]; exact Nat.mul_le_mul_right P (by omega)
            have k5 : IntKind.u64.wrap ((c0 : Int) % 128) = (c0 : Int) % 128 := by rw [IntKind.wrap_u64]; omega
            have e6 : (c0 : Int) % 128 * (P : Int) = (X : Int) := by rw [← eX, Int.natCast_mul]; rfl
            have k6 : IntKind.u64.wrap ((c0 : Int) % 128 * (P : Int)) = (X : Int) := by rw [e6, IntKind.wrap_u64]; omega
            obtain ⟨S, eS⟩ : ∃ S, N + X = S := ⟨_, rfl⟩
            have k7 : IntKind.u64.wrap ((N : Int) + (X : Int)) = (S : Int) := by rw [IntKind.wrap_u64]; omega
            clear e6
            have t5 : decide ((c0 : Int) < 128) = true := decide_eq_true (by omega)
            have HX : Hid (a = S ∧ R = l.drop i1 ∧ E = 0) := Lib.hid (HW2.out S _ (by rw [HT.out, tk_last (by intro e; have := of_decide_eq_false e.1; omega) (by omega) (by omega)]; show some (N + P * c0, _) = _; rw [← eS, ← eX, Nat.mod_eq_of_lt (by omega), Nat.mul_comm]))
            obtain ⟨rfl, rfl, rfl⟩ := HX.out
            clear HX HT HP HW1 HW2 eX eS hX hPle hNP q0 q1 q2 hPl8
            have HRR := Lib.hid HDR
            clear HDR
            go_wp2_with fail
            go_region_held3 (fun w' => True) (trivial) (fail)
            all_goals (try go_wp2_with fail)
            all_goals go_ret3
            all_goals first | exact ⟨_, _, _, rfl, (HRR.out.on (below_drewN (Below.refl _ _) 1)), below_drewN hbl 1⟩ | exact gtk_end (i := i1) HLN.out (by have := HNC.out; omega) (below_drewN hbl 1)
          · have t1 : ((i : Int) == 9) = false := beq_eq_false_iff_ne.2 (by omega)
            have t3 : decide (0 < (i : Int)) = false := decide_eq_false (by omega)
            have t3b : decide (0 < i) = false := decide_eq_false (by omega)
            have hPle : P ≤ 9223372036854775808 := by rw [HP.out]; exact Nat.le_trans (Nat.pow_le_pow_right (by omega) hi9) (by decide)
            have hPl8 : P ≤ 72057594037927936 := by rw [HP.out]; exact Nat.le_trans (Nat.pow_le_pow_right (by omega) (show i ≤ 8 by omega)) (by decide)
            obtain ⟨X, eX⟩ : ∃ X, c0 % 128 * P = X := ⟨_, rfl⟩
            have hX : X ≤ 127 * P := by rw [← eX]; exact Nat.mul_le_mul_right P (by omega)
            have k5 : IntKind.u64.wrap ((c0 : Int) % 128) = (c0 : Int) % 128 := by rw [IntKind.wrap_u64]; omega
            have e6 : (c0 : Int) % 128 * (P : Int) = (X : Int) := by rw [← eX, Int.natCast_mul]; rfl
            have k6 : IntKind.u64.wrap ((c0 : Int) % 128 * (P : Int)) = (X : Int) := by rw [e6, IntKind.wrap_u64]; omega
            obtain ⟨S, eS⟩ : ∃ S, N + X = S := ⟨_, rfl⟩
            have k7 : IntKind.u64.wrap ((N : Int) + (X : Int)) = (S : Int) := by rw [IntKind.wrap_u64]; omega
            clear e6
            have t5 : decide ((c0 : Int) < 128) = false := decide_eq_false (by omega)
            obtain ⟨P2, eP⟩ : ∃ x, P * 128 = x := ⟨_, rfl⟩
            have k8 : IntKind.u64.wrap ((P : Int) * 128) = (P2 : Int) := by rw [IntKind.wrap_u64]; omega
            have HP2 : Hid (P2 = 128 ^ i1) := Lib.hid (by rw [← eP, HP.out, ← HI1.out]; rfl)
            have hi9b : i1 ≤ 9 := by have := HI1.out; omega
            have hS2 : S < P2 := by omega
            have HT2 : Hid (tkk 9 true l = (tkk (9 - i1) (decide (i1 = 0)) (l.drop i1)).map fun p => (S + P2 * p.1, p.2)) := Lib.hid (by
              have hk : 9 - i = (9 - i1) + 1 := by have := HI1.out; omega
              have hf : decide (i1 = 0) = false := decide_eq_false (by have := HI1.out; omega)
              rw [HT.out, hk, tk_step (by intro e; have := of_decide_eq_false e.1; omega) (by omega), map_step, eX, eS, eP, hf])
            clear HT HP HW1 HW2 eX eS eP hX hPle hPl8 hNP HDR q0 q1 q2
            go_wp2_with fail
            go_roundw
            case rel => exact ⟨i1, S, P2, hi9b, j1, rfl, rfl, rfl, HP2, hS2, HT2, hbl⟩
            case measure => have := HI1.out; simp [intOf]; omega
    · obtain rfl : i = n := by omega
      have hdr : l.drop i = [] := List.drop_eq_nil_of_le (by rw [← HLN.out]; exact Nat.le_refl _)
      rw [hdr] at HT
      have HX : Hid (a = 0 ∧ R = [] ∧ E = 3) := Lib.hid (HW1.out (by rw [HT.out]; unfold tkk; rfl))
      obtain ⟨rfl, rfl, rfl⟩ := HX.out
      clear HX HT HP HW1 HW2 hdr
      go_wp2_with fail
      go_ret3
      exact ⟨_, _, _, rfl, BR.nil _ _ _, hbl⟩

set_option maxRecDepth 100000 in
set_option maxHeartbeats 8000000 in
theorem rTakeInt_no {w : World} {A : Option Addr} {n c : Nat} {l : List Nat} (hA : BR w A n c l) (hn : n ≤ 9223372036854775807) (h : tkE l ≠ 0) :
    Calls Try.prog 13 #[.slice A n c] w (GotTk w (.int .i64 0) [] 3) := by
  have CT := rTake_N hA hn
  have ha := tkN_lt hA.2.2.1
  obtain ⟨e1, e2, e3, _⟩ : tkN l = 0 ∧ tkR l = [] ∧ tkE l = 3 ∧ tkk 9 true l = none := by rcases tk_ways hA.2.2.1 with h1 | h1; exact h1; exact absurd h1.2.2 h
  rw [e1, e2, e3] at CT
  clear h e1 e2 e3 ha hn
  have cc := Below.refl w.heap.size w
  go_enter Try.func13, Try.ntmps13
  go_wp2_with fail
  refine (CT).mono ?_
  rintro e w1 ⟨Ar, nr, cr, rfl, hr, b⟩
  replace cc := bK cc b
  clear b
  go_wp2_with fail
  go_ret3
  exact ⟨_, _, _, rfl, BR.nil _ _ _, cc⟩

set_option maxRecDepth 100000 in
set_option maxHeartbeats 8000000 in
theorem rTakeInt_even {w : World} {A : Option Addr} {n c : Nat} {l : List Nat} (hA : BR w A n c l) (hn : n ≤ 9223372036854775807) (h : tkE l = 0) (h2 : tkN l % 2 = 0) :
    Calls Try.prog 13 #[.slice A n c] w (GotTk w (.int .i64 (unz (tkN l))) (tkR l) 0) := by
  have CT := rTake_N hA hn
  have ha := tkN_lt hA.2.2.1
  rw [h] at CT
  have hu : unz (tkN l) = ((tkN l / 2 : Nat) : Int) := by unfold unz; rw [if_pos h2]
  rw [hu]
  generalize tkN l = a at *
  have k1 : IntKind.u64.wrap ((a : Int) % 2) = 0 := by rw [IntKind.wrap_u64]; omega
  have k1b : (a : Int) % 2 = 0 := by omega
  obtain ⟨m, hm⟩ : ∃ m, a / 2 = m := ⟨_, rfl⟩
  have k2 : (a : Int) / 2 = (m : Int) := by omega
  have k3 : IntKind.u64.wrap (m : Int) = (m : Int) := by rw [IntKind.wrap_u64]; omega
  have k4 : IntKind.i64.wrap (m : Int) = (m : Int) := IntWalk.i64_in _ (by omega)
  rw [hm]
  clear h h2 hu ha hn hm
  have cc := Below.refl w.heap.size w
  go_enter Try.func13, Try.ntmps13
  go_wp2_with fail
  refine (CT).mono ?_
  rintro e w1 ⟨Ar, nr, cr, rfl, hr, b⟩
  replace cc := bK cc b
  clear b
  go_wp2_with fail
  go_ret3
  exact ⟨_, _, _, rfl, hr, cc⟩

set_option maxRecDepth 100000 in
set_option maxHeartbeats 8000000 in
theorem rTakeInt_odd {w : World} {A : Option Addr} {n c : Nat} {l : List Nat} (hA : BR w A n c l) (hn : n ≤ 9223372036854775807) (h : tkE l = 0) (h2 : ¬ tkN l % 2 = 0) :
    Calls Try.prog 13 #[.slice A n c] w (GotTk w (.int .i64 (unz (tkN l))) (tkR l) 0) := by
  have CT := rTake_N hA hn
  have ha := tkN_lt hA.2.2.1
  rw [h] at CT
  have hu : unz (tkN l) = -((tkN l / 2 : Nat) : Int) - 1 := by unfold unz; rw [if_neg h2]
  rw [hu]
  generalize tkN l = a at *
  have k1 : IntKind.u64.wrap ((a : Int) % 2) = 1 := by rw [IntKind.wrap_u64]; omega
  have k1b : (a : Int) % 2 = 1 := by omega
  obtain ⟨m, hm⟩ : ∃ m, a / 2 = m := ⟨_, rfl⟩
  have k2 : (a : Int) / 2 = (m : Int) := by omega
  have k3 : IntKind.u64.wrap (m : Int) = (m : Int) := by rw [IntKind.wrap_u64]; omega
  have k4 : IntKind.i64.wrap (m : Int) = (m : Int) := IntWalk.i64_in _ (by omega)
  have k5 : IntKind.i64.wrap (-(m : Int)) = -(m : Int) := IntWalk.i64_in _ (by omega)
  have k6 : IntKind.i64.wrap (-(m : Int) - 1) = -(m : Int) - 1 := IntWalk.i64_in _ (by omega)
  rw [hm]
  clear h h2 hu ha hn hm
  have cc := Below.refl w.heap.size w
  go_enter Try.func13, Try.ntmps13
  go_wp2_with fail
  refine (CT).mono ?_
  rintro e w1 ⟨Ar, nr, cr, rfl, hr, b⟩
  replace cc := bK cc b
  clear b
  go_wp2_with fail
  go_ret3
  exact ⟨_, _, _, rfl, hr, cc⟩

theorem rTakeInt_N {w : World} {A : Option Addr} {n c : Nat} {l : List Nat} (hA : BR w A n c l) (hn : n ≤ 9223372036854775807) : Calls Try.prog 13 #[.slice A n c] w (GotTk w (.int .i64 (unz (tkN l))) (tkR l) (tkE l)) := by
  rcases tk_ways hA.2.2.1 with ⟨e1, e2, e3, _⟩ | ⟨_, _, e3⟩
  · have h := rTakeInt_no hA hn (by rw [e3]; decide)
    rw [e1, e2, e3]; exact h
  · rw [e3]
    by_cases h2 : tkN l % 2 = 0
    · exact rTakeInt_even hA hn e3 h2
    · exact rTakeInt_odd hA hn e3 h2

end Go.Proofs.Ytfdapcogkbddaaa

/-
  The contracts of the thirteenth reference: TakeRow.
-/
namespace Go.Proofs.Ytfdapcogkbddaaa
set_option maxRecDepth 100000
open Go.RowKit
set_option linter.unusedVariables false
set_option linter.unusedSimpArgs false

set_option maxRecDepth 100000 in
set_option maxHeartbeats 8000000 in
theorem rTakeRow_no {w : World} {A : Option Addr} {n c : Nat} {l : List Nat} (hA : BR w A n c l) (hn : n ≤ 9223372036854775807) {most : Int} (hmo : -9223372036854775808 ≤ most ∧ most ≤ 9223372036854775807) (q0 : tkE l ≠ 0) :
    Calls Try.prog 20 #[.slice A n c, .int .i64 most] w (GotTr w [] [] 3) := by
  have CT := rTake_N hA hn
  have ha := tkN_lt hA.2.2.1
  obtain ⟨e1, e2, e3, _⟩ : tkN l = 0 ∧ tkR l = [] ∧ tkE l = 3 ∧ tkk 9 true l = none := by rcases tk_ways hA.2.2.1 with h1 | h1; exact h1; exact absurd h1.2.2 q0
  rw [e1, e2, e3] at CT
  clear q0 e1 e2 e3 ha hn hmo
  have cc := Below.refl w.heap.size w
  go_enter Try.func20, Try.ntmps20
  go_wp2_with fail
  refine (CT).mono ?_
  rintro e w1 ⟨Ar, nr, cr, rfl, hr, b⟩
  replace cc := bK cc b
  clear b
  go_wp2_with fail
  go_ret3
  exact ⟨_, _, _, _, _, _, rfl, BR.nil _ _ _, BR.nil _ _ _, cc⟩

set_option maxRecDepth 100000 in
set_option maxHeartbeats 8000000 in
theorem rTakeRow_neg {w : World} {A : Option Addr} {n c : Nat} {l : List Nat} (hA : BR w A n c l) (hn : n ≤ 9223372036854775807) {most : Int} (hmo : -9223372036854775808 ≤ most ∧ most ≤ 9223372036854775807) (q0 : tkE l = 0) (q1 : most < 0) :
    Calls Try.prog 20 #[.slice A n c, .int .i64 most] w (GotTr w [] [] 6) := by
  have CT := rTake_N hA hn
  have ha := tkN_lt hA.2.2.1
  have hrl := tkR_len hA.2.2.1
  rw [← hA.1] at hrl
  rw [q0] at CT
  generalize tkN l = a at *
  generalize tkR l = R at *
  have t0 : decide (most < 0) = true := decide_eq_true (by omega)
  clear q0 q1 ha hn hmo hrl
  have cc := Below.refl w.heap.size w
  go_enter Try.func20, Try.ntmps20
  go_wp2_with fail
  refine (CT).mono ?_
  rintro e w1 ⟨Ar, nr, cr, rfl, hr, b⟩
  replace cc := bK cc b
  clear b
  go_wp2_with fail
  go_ret3
  exact ⟨_, _, _, _, _, _, rfl, BR.nil _ _ _, BR.nil _ _ _, cc⟩

set_option maxRecDepth 100000 in
set_option maxHeartbeats 8000000 in
theorem rTakeRow_big {w : World} {A : Option Addr} {n c : Nat} {l : List Nat} (hA : BR w A n c l) (hn : n ≤ 9223372036854775807) {most : Int} (hmo : -9223372036854775808 ≤ most ∧ most ≤ 9223372036854775807) (q0 : tkE l = 0) (q1 : ¬ most < 0) (q2 : most < tkN l) :
    Calls Try.prog 20 #[.slice A n c, .int .i64 most] w (GotTr w [] [] 6) := by
  have CT := rTake_N hA hn
  have ha := tkN_lt hA.2.2.1
  have hrl := tkR_len hA.2.2.1
  rw [← hA.1] at hrl
  rw [q0] at CT
  generalize tkN l = a at *
  generalize tkR l = R at *
  have t0 : decide (most < 0) = false := decide_eq_false (by omega)
  have k1 : IntKind.u64.wrap most = most := by rw [IntKind.wrap_u64]; omega
  have t1 : decide (most < (a : Int)) = true := decide_eq_true (by omega)
  clear q0 q1 q2 ha hn hmo hrl
  have cc := Below.refl w.heap.size w
  go_enter Try.func20, Try.ntmps20
  go_wp2_with fail
  refine (CT).mono ?_
  rintro e w1 ⟨Ar, nr, cr, rfl, hr, b⟩
  replace cc := bK cc b
  clear b
  go_wp2_with fail
  go_ret3
  exact ⟨_, _, _, _, _, _, rfl, BR.nil _ _ _, BR.nil _ _ _, cc⟩

set_option maxRecDepth 100000 in
set_option maxHeartbeats 8000000 in
theorem rTakeRow_end {w : World} {A : Option Addr} {n c : Nat} {l : List Nat} (hA : BR w A n c l) (hn : n ≤ 9223372036854775807) {most : Int} (hmo : -9223372036854775808 ≤ most ∧ most ≤ 9223372036854775807) (q0 : tkE l = 0) (q1 : ¬ most < 0) (q2 : ¬ most < tkN l) (q3 : (tkR l).length < tkN l) :
    Calls Try.prog 20 #[.slice A n c, .int .i64 most] w (GotTr w [] [] 3) := by
  have CT := rTake_N hA hn
  have ha := tkN_lt hA.2.2.1
  have hrl := tkR_len hA.2.2.1
  rw [← hA.1] at hrl
  rw [q0] at CT
  generalize tkN l = a at *
  generalize tkR l = R at *
  have t0 : decide (most < 0) = false := decide_eq_false (by omega)
  have k1 : IntKind.u64.wrap most = most := by rw [IntKind.wrap_u64]; omega
  have t1 : decide (most < (a : Int)) = false := decide_eq_false (by omega)
  obtain ⟨m, em⟩ : ∃ m, R.length = m := ⟨_, rfl⟩
  have k2 : IntKind.u64.wrap (m : Int) = (m : Int) := by rw [IntKind.wrap_u64]; omega
  have t2 : decide ((m : Int) < (a : Int)) = true := decide_eq_true (by omega)
  have t2b : decide (m < a) = true := decide_eq_true (by omega)
  have HM := Lib.hid em
  clear em
  clear q0 q1 q2 q3 ha hn hmo hrl
  have cc := Below.refl w.heap.size w
  go_enter Try.func20, Try.ntmps20
  go_wp2_with fail
  refine (CT).mono ?_
  rintro e w1 ⟨Ar, nr, cr, rfl, hr, b⟩
  replace cc := bK cc b
  clear b
  obtain rfl : nr = m := by rw [hr.1]; exact HM.out
  go_wp2_with fail
  go_ret3
  exact ⟨_, _, _, _, _, _, rfl, BR.nil _ _ _, BR.nil _ _ _, cc⟩

theorem gtr_end {w w' : World} {A B : Option Addr} {n i c d m : Nat} {l L : List Nat} (hA : BR w' A m c L) (hn : n = l.length) (hi : n ≤ i) (hb : Below w.heap.size w w') : GotTr w L (l.drop i) 0 (.returned (.tuple #[.slice A m c, .slice B (n - i) d, .int .i64 0])) w' := ⟨_, _, _, _, _, _, rfl, hA, br_end hn hi, hb⟩

set_option maxRecDepth 100000 in
set_option maxHeartbeats 8000000 in
theorem rTakeRow_yes {w : World} {A : Option Addr} {n c : Nat} {l : List Nat} (hA : BR w A n c l) (hn : n ≤ 9223372036854775807) {most : Int} (hmo : -9223372036854775808 ≤ most ∧ most ≤ 9223372036854775807) (q0 : tkE l = 0) (q1 : ¬ most < 0) (q2 : ¬ most < tkN l) (q3 : ¬ (tkR l).length < tkN l) :
    Calls Try.prog 20 #[.slice A n c, .int .i64 most] w (GotTr w ((tkR l).take (tkN l)) ((tkR l).drop (tkN l)) 0) := by
  have CT := rTake_N hA hn
  have ha := tkN_lt hA.2.2.1
  have hrl := tkR_len hA.2.2.1
  rw [← hA.1] at hrl
  rw [q0] at CT
  generalize tkN l = a at *
  generalize tkR l = R at *
  have t0 : decide (most < 0) = false := decide_eq_false (by omega)
  have k1 : IntKind.u64.wrap most = most := by rw [IntKind.wrap_u64]; omega
  have t1 : decide (most < (a : Int)) = false := decide_eq_false (by omega)
  obtain ⟨m, em⟩ : ∃ m, R.length = m := ⟨_, rfl⟩
  have k2 : IntKind.u64.wrap (m : Int) = (m : Int) := by rw [IntKind.wrap_u64]; omega
  have t2 : decide ((m : Int) < (a : Int)) = false := decide_eq_false (by omega)
  have t2b : decide (m < a) = false := decide_eq_false (by omega)
  have HM := Lib.hid em
  have ham : a ≤ m := by omega
  have j0 : (0 : Int) ≤ (a : Int) := by omega
  have j1 : (a : Int) ≤ (m : Int) := by omega
  clear em q0 q1 q2 q3 ha hn hmo hrl
  have cc := Below.refl w.heap.size w
  go_enter Try.func20, Try.ntmps20
  go_wp2_with fail
  refine (CT).mono ?_
  rintro e w1 ⟨Ar, nr, cr, rfl, hr, b⟩
  replace cc := bK cc b
  clear b
  obtain rfl : nr = m := by rw [hr.1]; exact HM.out
  have hnc := hr.2.1
  have j2 : (nr : Int) ≤ (cr : Int) := by omega
  have j3 : (a : Int) ≤ (cr : Int) := by omega
  have hT := Lib.hid (hr.take ham)
  have HRL := Lib.hid hr.1
  rcases Nat.eq_zero_or_pos nr with h0 | h0
  · obtain rfl : a = 0 := by omega
    have hR0 : R = [] := List.eq_nil_of_length_eq_zero (by rw [HM.out]; exact h0)
    subst hR0
    subst h0
    clear hr hT
    rcases Ar with _ | pA
    · go_wp2_with fail
      go_region_held3 (fun w' => True) (trivial) (fail)
      all_goals (try go_wp2_with fail)
      all_goals go_ret3
      all_goals exact ⟨_, _, _, _, _, _, rfl, BR.nil _ _ _, BR.nil _ _ _, below_drewN cc 1⟩
    · go_wp2_with fail
      go_region_held3 (fun w' => True) (trivial) (fail)
      all_goals (try go_wp2_with fail)
      all_goals go_ret3
      all_goals exact ⟨_, _, _, _, _, _, rfl, BR.nil _ _ _, BR.nil _ _ _, below_drewN cc 1⟩
  · obtain ⟨bb, off, rfl, hb⟩ := hr.some h0
    have HD := Lib.hid (br_drop hr ham)
    clear hr hb
    go_wp2_with fail
    go_region_held3 (fun w' => True) (trivial) (fail)
    all_goals (try go_wp2_with fail)
    all_goals go_ret3
    all_goals first | exact ⟨_, _, _, _, _, _, rfl, hT.out.on (below_drewN (Below.refl _ _) 1), HD.out.on (below_drewN (Below.refl _ _) 1), below_drewN cc 1⟩ | (subst h; exact gtr_end (hT.out.on (below_drewN (Below.refl _ _) 1)) HRL.out (by omega) (below_drewN cc 1))

theorem rTakeRow_N {w : World} {A : Option Addr} {n c : Nat} {l : List Nat} (hA : BR w A n c l) (hn : n ≤ 9223372036854775807) {most : Int} (hmo : -9223372036854775808 ≤ most ∧ most ≤ 9223372036854775807) : Calls Try.prog 20 #[.slice A n c, .int .i64 most] w (GotTr w (rwL most l) (rwR most l) (rwE most l)) := by
  unfold rwL rwR rwE
  by_cases q0 : tkE l = 0
  · by_cases q1 : most < 0
    · rw [if_neg (by intro h; have := h.2.1; omega), if_neg (by intro h; have := h.2.1; omega), if_pos q0, if_neg (by omega)]
      exact rTakeRow_neg hA hn hmo q0 q1
    by_cases q2 : most < tkN l
    · rw [if_neg (by intro h; have := h.2.1; omega), if_neg (by intro h; have := h.2.1; omega), if_pos q0, if_neg (by omega)]
      exact rTakeRow_big hA hn hmo q0 q1 q2
    by_cases q3 : (tkR l).length < tkN l
    · rw [if_neg (by intro h; have := h.2.2; omega), if_neg (by intro h; have := h.2.2; omega), if_pos q0, if_pos (by omega), if_neg (by omega)]
      exact rTakeRow_end hA hn hmo q0 q1 q2 q3
    · rw [if_pos ⟨q0, by omega, by omega⟩, if_pos ⟨q0, by omega, by omega⟩, if_pos q0, if_pos (by omega), if_pos (by omega)]
      exact rTakeRow_yes hA hn hmo q0 q1 q2 q3
  · rw [if_neg (fun h => q0 h.1), if_neg (fun h => q0 h.1), if_neg q0]
    exact rTakeRow_no hA hn hmo q0

end Go.Proofs.Ytfdapcogkbddaaa
