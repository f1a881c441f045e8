/-
  Several texts in one: J11f, C12, D11.
-/
import Derived.Test.YtlmcpgahjfepjaaA8
import Derived.Test.YtlmcpgahjfepjaaA7
import Derived.Test.YtlmcpgahjfepjaaA5

/-
  The contracts of the landed block: pack, of either manner.
-/
namespace Go.Proofs.Ytlmcpgahjfepjaa
set_option maxRecDepth 100000
open Go.RowKit
set_option linter.unusedVariables false
set_option linter.unusedSimpArgs false

/-- A block is answered; its rows are new. -/
def GotBk (w : World) (k s : Int) (C : List Nat) (W : List Int) (e : Ending) (w' : World) : Prop :=
  ∃ A n c B m d, e = .returned (.agg #[.int .i64 k, .int .i64 s, .slice A n c, .slice B m d]) ∧ BR w' A n c C ∧ IR w' B m d W ∧ Below w.heap.size w w' ∧ (∀ p, A = some p → w.heap.size ≤ p.block) ∧ ∀ p, B = some p → w.heap.size ≤ p.block
/-- All four cells of a block's box are written. -/
@[reducible] def putK (W : World) (g : Nat) (a b c d : Value) : World := (((W.setCell ⟨g, 0, none⟩ a).setCell ⟨g, 1, none⟩ b).setCell ⟨g, 2, none⟩ c).setCell ⟨g, 3, none⟩ d
theorem cell_putK {w : World} {s b o : Nat} {u1 u2 u3 u4 : Value} (h : b ≠ s) : (putK w s u1 u2 u3 u4).cell? ⟨b, o, none⟩ = w.cell? ⟨b, o, none⟩ := by
  unfold putK
  iterate 4 rw [World.cell?_setCell_other (h := addr_ne' (Ne.symm h))]
theorem below_putK {C g : Nat} {V W : World} (h : Below C V W) (hg : C ≤ g) (a b c d : Value) : Below C V (putK W g a b c d) := (((h.setCell (p := ⟨g, 0, none⟩) hg a).setCell (p := ⟨g, 1, none⟩) hg b).setCell (p := ⟨g, 2, none⟩) hg c).setCell (p := ⟨g, 3, none⟩) hg d
theorem br_putK {W : World} {A : Option Addr} {n c g : Nat} {C : List Nat} (h : BR W A n c C) (hn : ∀ p, A = some p → p.block ≠ g) (u1 u2 u3 u4 : Value) : BR (putK W g u1 u2 u3 u4) A n c C :=
  ⟨h.1, h.2.1, h.2.2.1, fun hp => by
    obtain ⟨b, off, e, hlt, hc⟩ := h.2.2.2 hp
    have hne : b ≠ g := hn _ e
    exact ⟨b, off, e, by simp [putK]; exact hlt, fun j hj => (cell_putK hne).trans (hc j hj)⟩⟩
theorem ir_putK {W : World} {A : Option Addr} {n c g : Nat} {L : List Int} (h : IR W A n c L) (hn : ∀ p, A = some p → p.block ≠ g) (u1 u2 u3 u4 : Value) : IR (putK W g u1 u2 u3 u4) A n c L :=
  ⟨h.1, h.2.1, fun hp => by
    obtain ⟨b, off, e, hlt, hc⟩ := h.2.2 hp
    have hne : b ≠ g := hn _ e
    exact ⟨b, off, e, by simp [putK]; exact hlt, fun j hj => (cell_putK hne).trans (hc j hj)⟩⟩
/-- The box of a block, and its row of noughts, laid anew in any order. -/
def PkBox (V U : World) (g r : Nat) (k s : Int) (n : Nat) : Prop :=
  (U.cell? ⟨g, 0, none⟩ = some (.int .i64 k) ∧ U.cell? ⟨g, 1, none⟩ = some (.int .i64 s) ∧ U.cell? ⟨g, 2, none⟩ = some (.slice (some ⟨r, 0, none⟩) n n) ∧ U.cell? ⟨g, 3, none⟩ = some (.slice none 0 0)) ∧
    U.ownsRow V.heap.size 5 1 (.slice (some ⟨r, 0, none⟩) n n) n ((List.replicate n 0).map encB) ∧ Below V.heap.size V U ∧ g ≠ r ∧ g < U.heap.size ∧ V.heap.size ≤ g
abbrev kbx (k s : Int) (r n : Nat) : Obj := .cells #[.int .i64 k, .int .i64 s, .slice (some ⟨r, 0, none⟩) n n, .slice none 0 0] 26
theorem pkbox_a {V : World} {k s : Int} {n : Nat} (hn : n ≤ 1000000) : PkBox V ((V.alloc (zb n)).alloc (kbx k s V.heap.size n)).drew (V.heap.size + 1) V.heap.size k s n :=
  ⟨⟨by simp [go_sem], by simp [go_sem], by simp [go_sem], by simp [go_sem]⟩, (own_on (zb_own n hn V V.heap.size (Nat.le_refl _)) (one_up _ _)).drew, below_drewN (((Below.refl _ V).alloc (Nat.le_refl _) _).alloc (by simp) _) 1, by omega, by simp [go_sem], by omega⟩
theorem pkbox_b {V : World} {k s : Int} {n : Nat} (hn : n ≤ 1000000) : PkBox V ((V.alloc (kbx k s (V.heap.size + 1) n)).alloc (zb n)).drew V.heap.size (V.heap.size + 1) k s n :=
  ⟨⟨by simp [go_sem], by simp [go_sem], by simp [go_sem], by simp [go_sem]⟩, by
    have h := zb_own n hn (V.alloc (kbx k s (V.heap.size + 1) n)) V.heap.size (by simp)
    have e : (V.alloc (kbx k s (V.heap.size + 1) n)).heap.size = V.heap.size + 1 := by simp
    rw [e] at h
    exact h.drew, below_drewN (((Below.refl _ V).alloc (Nat.le_refl _) _).alloc (by simp) _) 1, by omega, by simp [go_sem] <;> omega, by omega⟩
def mx1 (x : Int) : Int := max x 1
theorem mx1_run {P : Program} (w : World) (ts : Array TypeId) (t : TypeId) (x : Int) : (Builtin.max_ ts t #[.int .i64 x, .int .i64 1]).run P w = .ok (.int .i64 (mx1 x)) w := by
  rw [run_max_int2]
  congr 2
  unfold mx1
  split <;> omega
attribute [local go_sem ↓] mx1_run

set_option maxRecDepth 100000 in
set_option maxHeartbeats 8000000 in
theorem bkwpack_N {w : World} {A : Option Addr} {n c : Nat} {L : List Int} (hA : IR w A n c L) (hn : n ≤ 4096) :
    Calls Try.prog 68 #[.agg #[], .slice A n c] w (GotBk w 4 0 [] L) := by
  have cc := Below.refl w.heap.size w
  go_enter Try.func68, Try.ntmps68
  go_wp2_with fail
  have f0 : ((w.alloc (.cells #[] 68)).alloc (.cells #[.int .i64 0, .int .i64 0, .slice none 0 0, .slice none 0 0] 26)).frozen? ⟨w.heap.size + 1, 0, none⟩ = false := by simp [go_sem]
  have f1 : ((w.alloc (.cells #[] 68)).alloc (.cells #[.int .i64 0, .int .i64 0, .slice none 0 0, .slice none 0 0] 26)).frozen? ⟨w.heap.size + 1, 1, none⟩ = false := by simp [go_sem]
  have f2 : ((w.alloc (.cells #[] 68)).alloc (.cells #[.int .i64 0, .int .i64 0, .slice none 0 0, .slice none 0 0] 26)).frozen? ⟨w.heap.size + 1, 2, none⟩ = false := by simp [go_sem]
  have f3 : ((w.alloc (.cells #[] 68)).alloc (.cells #[.int .i64 0, .int .i64 0, .slice none 0 0, .slice none 0 0] 26)).frozen? ⟨w.heap.size + 1, 3, none⟩ = false := by simp [go_sem]
  have bA : Below w.heap.size w ((w.alloc (.cells #[] 68)).alloc (.cells #[.int .i64 0, .int .i64 0, .slice none 0 0, .slice none 0 0] 26)) := (((Below.refl _ w).alloc (by simp) _).alloc (by simp) _)
  replace hA := hA.on bA
  replace cc := cc.trans (bA.mono cc.size)
  clear bA
  have kal : w.heap.size < ((w.alloc (.cells #[] 68)).alloc (.cells #[.int .i64 0, .int .i64 0, .slice none 0 0, .slice none 0 0] 26)).heap.size := by simp <;> omega
  have g0 : ((w.alloc (.cells #[] 68)).alloc (.cells #[.int .i64 0, .int .i64 0, .slice none 0 0, .slice none 0 0] 26)).cell? ⟨w.heap.size + 1, 0, none⟩ = some (.int .i64 0) := by simp [go_sem]
  have g1 : ((w.alloc (.cells #[] 68)).alloc (.cells #[.int .i64 0, .int .i64 0, .slice none 0 0, .slice none 0 0] 26)).cell? ⟨w.heap.size + 1, 1, none⟩ = some (.int .i64 0) := by simp [go_sem]
  have g2 : ((w.alloc (.cells #[] 68)).alloc (.cells #[.int .i64 0, .int .i64 0, .slice none 0 0, .slice none 0 0] 26)).cell? ⟨w.heap.size + 1, 2, none⟩ = some (.slice none 0 0) := by simp [go_sem]
  have g3 : ((w.alloc (.cells #[] 68)).alloc (.cells #[.int .i64 0, .int .i64 0, .slice none 0 0, .slice none 0 0] 26)).cell? ⟨w.heap.size + 1, 3, none⟩ = some (.slice none 0 0) := by simp [go_sem]
  have gl : w.heap.size + 1 < ((w.alloc (.cells #[] 68)).alloc (.cells #[.int .i64 0, .int .i64 0, .slice none 0 0, .slice none 0 0] 26)).heap.size := by simp <;> omega
  generalize (w.alloc (.cells #[] 68)).alloc (.cells #[.int .i64 0, .int .i64 0, .slice none 0 0, .slice none 0 0] 26) = v1 at *
  have hgs : w.heap.size + 1 < v1.heap.size := gl
  go_wp2_with fail
  refine (bkclone_N hA hn).mono ?_
  rintro e w2 ⟨Al, nl, cl, rfl, hl, b, hnew⟩
  replace f0 := (b.frozen (p := ⟨w.heap.size + 1, 0, none⟩) gl).trans f0
  replace f1 := (b.frozen (p := ⟨w.heap.size + 1, 1, none⟩) gl).trans f1
  replace f2 := (b.frozen (p := ⟨w.heap.size + 1, 2, none⟩) gl).trans f2
  replace f3 := (b.frozen (p := ⟨w.heap.size + 1, 3, none⟩) gl).trans f3
  replace hA := hA.on b
  replace kal := Nat.lt_of_lt_of_le kal b.size
  replace g0 := (b.cell (p := ⟨w.heap.size + 1, 0, none⟩) gl).trans g0
  replace g1 := (b.cell (p := ⟨w.heap.size + 1, 1, none⟩) gl).trans g1
  replace g2 := (b.cell (p := ⟨w.heap.size + 1, 2, none⟩) gl).trans g2
  replace g3 := (b.cell (p := ⟨w.heap.size + 1, 3, none⟩) gl).trans g3
  replace gl := Nat.lt_of_lt_of_le gl b.size
  replace cc := cc.trans (b.mono cc.size)
  clear b
  have hne : ∀ p, Al = some p → p.block ≠ w.heap.size + 1 := fun p e => by have := hnew p e; omega
  have hnw : ∀ p, Al = some p → w.heap.size ≤ p.block := fun p e => by have := hnew p e; omega
  have HR := Lib.hid (ir_putK hl hne (.int .i64 4) (.int .i64 0) (.slice none 0 0) (.slice Al nl cl))
  have HB := Lib.hid (below_putK cc (show w.heap.size ≤ w.heap.size + 1 by omega) (.int .i64 4) (.int .i64 0) (.slice none 0 0) (.slice Al nl cl))
  clear hl hnew hne cc
  go_wp2_with fail
  refine bodyPost_ret (v := .agg #[.int .i64 4, .int .i64 0, .slice none 0 0, .slice Al nl cl]) (by simp [results, Try.results68, go_sem, g0, g1, g2, g3]) rfl ⟨_, _, _, _, _, _, rfl, BR.nil _ _ _, HR.out, HB.out, ⟨fun p e => (by cases e), hnw⟩⟩

set_option maxRecDepth 100000 in
set_option maxHeartbeats 8000000 in
theorem bkcpack_N {w : World} {k : Int} {A : Option Addr} {n c : Nat} {L : List Int} (hk : Kind9 k) (hA : IR w A n c L) (hn : n ≤ 4096) (hL : ∀ j : Nat, I64 (L[j]?.getD 0) ∧ L[j]?.getD 0 ≠ -9223372036854775808) (hO : ∀ x ∈ L, -gr L ≤ x ∧ x ≤ gr L ∧ (0 ≤ x ∨ sig9 k = true)) :
    Calls Try.prog 73 #[.int .i64 k, .slice A n c] w (GotBk w k (gr L) (L.map (pk k (gr L))) []) := by
  have HG := fun {V : World} (h : IR V A n c L) => bkgreat_N h (by omega) hL
  have hmk := zb_run n (by omega)
  have hg0 := gr_pos L
  have hgi : I64 (gr L) := grk_i64 hL _
  have CN : Hid (∀ (V : World) (i : Nat), i < L.length → Calls Try.prog 79 #[.int .i64 k, .int .i64 (L[i]?.getD 0), .int .i64 (mx1 (gr L))] V (GotV V (.int .u8 ((pk k (gr L) (L[i]?.getD 0) : Nat) : Int)))) := Lib.hid (fun V i hi => by
    have ho := hO _ (mem_at (d := 0) hi)
    exact bknear_N V (hL i).1 (by unfold I64 mx1 at *; omega) (pk_shr hk ho.1 ho.2.1 ho.2.2))
  have HM : Hid (∀ i, i < L.length → (part (pk k (gr L)) 0 L i).set i (pk k (gr L) (L[i]?.getD 0)) = part (pk k (gr L)) 0 L (i + 1)) := Lib.hid (fun i h => part_set _ 0 0 h)
  have HP6 : Hid (∀ x, pk k (gr L) x ≤ 255) := Lib.hid (fun x => pk_le _ _ _)
  have HLL := Lib.hid hA.1
  clear hO hL hk hg0 hgi
  generalize pk k (gr L) = F at *
  generalize gr L = S at *
  have cc := Below.refl w.heap.size w
  go_enter Try.func73, Try.ntmps73
  go_wp2_with fail
  have f0 : (w.alloc (.cells #[.int .i64 0, .int .i64 0, .slice none 0 0, .slice none 0 0] 26)).frozen? ⟨w.heap.size, 0, none⟩ = false := by simp [go_sem]
  have f1 : (w.alloc (.cells #[.int .i64 0, .int .i64 0, .slice none 0 0, .slice none 0 0] 26)).frozen? ⟨w.heap.size, 1, none⟩ = false := by simp [go_sem]
  have f2 : (w.alloc (.cells #[.int .i64 0, .int .i64 0, .slice none 0 0, .slice none 0 0] 26)).frozen? ⟨w.heap.size, 2, none⟩ = false := by simp [go_sem]
  have f3 : (w.alloc (.cells #[.int .i64 0, .int .i64 0, .slice none 0 0, .slice none 0 0] 26)).frozen? ⟨w.heap.size, 3, none⟩ = false := by simp [go_sem]
  have bA : Below w.heap.size w (w.alloc (.cells #[.int .i64 0, .int .i64 0, .slice none 0 0, .slice none 0 0] 26)) := ((Below.refl _ w).alloc (by simp) _)
  replace hA := hA.on bA
  replace cc := cc.trans (bA.mono cc.size)
  clear bA
  have g0 : (w.alloc (.cells #[.int .i64 0, .int .i64 0, .slice none 0 0, .slice none 0 0] 26)).cell? ⟨w.heap.size, 0, none⟩ = some (.int .i64 0) := by simp [go_sem]
  have g1 : (w.alloc (.cells #[.int .i64 0, .int .i64 0, .slice none 0 0, .slice none 0 0] 26)).cell? ⟨w.heap.size, 1, none⟩ = some (.int .i64 0) := by simp [go_sem]
  have g2 : (w.alloc (.cells #[.int .i64 0, .int .i64 0, .slice none 0 0, .slice none 0 0] 26)).cell? ⟨w.heap.size, 2, none⟩ = some (.slice none 0 0) := by simp [go_sem]
  have g3 : (w.alloc (.cells #[.int .i64 0, .int .i64 0, .slice none 0 0, .slice none 0 0] 26)).cell? ⟨w.heap.size, 3, none⟩ = some (.slice none 0 0) := by simp [go_sem]
  have gl : w.heap.size < (w.alloc (.cells #[.int .i64 0, .int .i64 0, .slice none 0 0, .slice none 0 0] 26)).heap.size := by simp <;> omega
  generalize w.alloc (.cells #[.int .i64 0, .int .i64 0, .slice none 0 0, .slice none 0 0] 26) = v1 at *
  go_upto_region 1 with fail
  go_cut [5] (fun u wx => ∃ gk r : Nat, u = .pointer (some ⟨gk, 0, none⟩) ∧ PkBox v1 wx gk r k S n)
  case first =>
    have B0 : Below v1.heap.size v1 v1.drew := below_drewN (Below.refl _ v1) 1
    have B1 : ∀ o, Below v1.heap.size v1 (v1.alloc o).drew := fun o => below_drewN (one_up _ _) 1
    have B2 : ∀ o u, Below v1.heap.size v1 ((v1.alloc o).alloc u).drew := fun o u => below_drewN (((Below.refl _ v1).alloc (Nat.le_refl _) _).alloc (by simp) _) 1
    clear g0 g1 g2 g3 f0 f1 f2 f3
    go_region_held3 (fun _ => True) (trivial)
      ((go_at_call 78; (with_reducible refine (HG (hA.on (by first | exact B0 | exact B1 _ | exact B2 _ _))).mono ?_); rintro e wz ⟨rfl, rfl⟩))
    all_goals (go_wp2_with fail; go_meet)
    all_goals first | exact ⟨_, _, rfl, pkbox_a (by omega)⟩ | exact ⟨_, _, rfl, pkbox_b (by omega)⟩
  case rest =>
    obtain ⟨gk, r, rfl, ⟨p0, p1, p2, p3⟩, hO, b, hgr, hkl, hkg⟩ := hcut
    have e0 : (List.replicate n 0).map encB = (part F 0 L 0).map encB := by rw [part_zero, ← HLL.out]
    rw [e0] at hO
    have HO := Lib.hid hO
    have HB := Lib.hid b
    have HKG := Lib.hid hkg
    have HAV := Lib.hid hA
    have CCV := Lib.hid cc
    have HGL := Lib.hid gl
    have G0 := Lib.hid g0
    have G1 := Lib.hid g1
    have G2 := Lib.hid g2
    have G3 := Lib.hid g3
    have F0 := Lib.hid f0
    have F1 := Lib.hid f1
    have F2 := Lib.hid f2
    have F3 := Lib.hid f3
    have P0 := Lib.hid p0
    have P1 := Lib.hid p1
    have P2 := Lib.hid p2
    have P3 := Lib.hid p3
    clear e0 hO b hkg hA cc gl hkl g0 f0 p0 g1 f1 p1 g2 f2 p2 g3 f3 p3
    go_wp2_with fail
    go_loopw [17] (fun iv wr => ∃ i : Nat, i ≤ n ∧ iv = .int .i64 (i : Int) ∧ (wr.cell? ⟨gk, 0, none⟩ = some (.int .i64 k) ∧ wr.cell? ⟨gk, 1, none⟩ = some (.int .i64 S) ∧ wr.cell? ⟨gk, 2, none⟩ = some (.slice (some ⟨r, 0, none⟩) n n) ∧ wr.cell? ⟨gk, 3, none⟩ = some (.slice none 0 0)) ∧ wr.ownsRow v1.heap.size 5 1 (.slice (some ⟨r, 0, none⟩) n n) n ((part F 0 L i).map encB) ∧ Below v1.heap.size v1 wr) (fun iv _ => n - (intOf iv).toNat)
    case atStart => exact ⟨0, by omega, rfl, ⟨P0.out, P1.out, P2.out, P3.out⟩, HO.out, HB.out⟩
    case round =>
      obtain ⟨i, hi, rfl, ⟨p0, p1, p2, p3⟩, hO, hbl⟩ := hrel
      by_cases hlt : i < n
      · have hA := HAV.out.on hbl
        obtain ⟨b2, o2, rfl, hb2_, hc2⟩ := HAV.out.2.2 (by omega)
        have e1 := hA.cell hlt
        obtain ⟨x, hx⟩ : ∃ x, L[i]?.getD 0 = x := ⟨_, rfl⟩
        rw [hx] at e1
        have hM := HM.out i (by rw [← HLL.out]; exact hlt)
        have CNx := fun V => CN.out V i (by rw [← HLL.out]; exact hlt)
        rw [hx] at hM CNx
        have hL : (part F 0 L i).length = n := by rw [part_len F 0 L (by rw [← HLL.out]; exact hi), HLL.out]
        have h6 := HP6.out x
        obtain ⟨z, hz⟩ : ∃ z, F x = z := ⟨_, rfl⟩
        rw [hz] at CNx hM h6
        have hrl := (hO.lt r rfl).2
        have hkl := cell_lt p0
        simp only at hkl
        have cx := hO.cellAt i (by omega)
        have fx := hO.frozenAt i
        obtain ⟨v0_, ev0⟩ : ∃ v, ((part F 0 L i).map encB)[i]? = some v := ⟨_, List.getElem?_eq_getElem (by rw [List.length_map]; omega)⟩
        rw [ev0] at cx
        have HE := Lib.hid hM
        have HO2 := Lib.hid hO
        have k3 : IntKind.i64.wrap ((i : Int) + 1) = ((i + 1 : Nat) : Int) := by rw [IntWalk.i64_in _ (by omega)]; omega
        clear hM hO hA hc2 hx hz hL ev0 hb2_
        go_wp2_with fail
        have qq : Below wr.heap.size wr wr.drew := below_drewN (Below.refl _ wr) 1
        have st : ∀ (W : World) (p : Addr) (u : Value), p.block ≠ r → (W.setCell ⟨r, i, none⟩ u).cell? p = W.cell? p := fun W p u h => World.cell?_setCell_other _ _ _ _ (fun e => h (by rw [← e]))
        go_region_held3 (fun w' => w'.cell? ⟨gk, 1, none⟩ = some (.int .i64 S) ∧ w'.cell? ⟨gk, 2, none⟩ = some (.slice (some ⟨r, 0, none⟩) n n))
          (first | with_reducible exact ⟨(qq.cell (p := ⟨gk, 1, none⟩) hkl).trans p1, (qq.cell (p := ⟨gk, 2, none⟩) hkl).trans p2⟩ | with_reducible exact ⟨(st _ _ _ hgr).trans ((qq.cell (p := ⟨gk, 1, none⟩) hkl).trans p1), (st _ _ _ hgr).trans ((qq.cell (p := ⟨gk, 2, none⟩) hkl).trans p2)⟩ | go_keep)
          ((go_at_call 79; (with_reducible refine (CNx _).mono ?_); rintro e wz ⟨rfl, q⟩; replace qq := qq.trans (q.mono qq.size); have cz := (qq.cell (p := ⟨r, i, none⟩) hrl).trans cx; have fz := (qq.frozen (p := ⟨r, i, none⟩) hrl).trans fx; clear q))
        obtain ⟨hO3, hg3⟩ := (own_on HO2.out qq).stored i (.int .u8 (z : Int))
        have HO3 : Hid ((wz.setCell ⟨r, i, none⟩ (.int .u8 (z : Int))).ownsRow v1.heap.size 5 1 (.slice (some ⟨r, 0, none⟩) n n) n ((part F 0 L (i + 1)).map encB)) := Lib.hid (by rw [← HE.out, List.map_set]; exact hO3)
        have HBW : Hid (Below v1.heap.size v1 (wz.setCell ⟨r, i, none⟩ (.int .u8 (z : Int)))) := Lib.hid ((hbl.trans (qq.mono hbl.size)).setCell (p := ⟨r, i, none⟩) (HO2.out.lt r rfl).1 _)
        have Q0 := Lib.hid ((st wz ⟨gk, 0, none⟩ (.int .u8 (z : Int)) hgr).trans ((qq.cell (p := ⟨gk, 0, none⟩) hkl).trans p0))
        have Q1 := Lib.hid ((st wz ⟨gk, 1, none⟩ (.int .u8 (z : Int)) hgr).trans ((qq.cell (p := ⟨gk, 1, none⟩) hkl).trans p1))
        have Q2 := Lib.hid ((st wz ⟨gk, 2, none⟩ (.int .u8 (z : Int)) hgr).trans ((qq.cell (p := ⟨gk, 2, none⟩) hkl).trans p2))
        have Q3 := Lib.hid ((st wz ⟨gk, 3, none⟩ (.int .u8 (z : Int)) hgr).trans ((qq.cell (p := ⟨gk, 3, none⟩) hkl).trans p3))
        clear hO3 hg3 p0 p1 p2 p3
        go_wp2_with fail
        go_roundw
        case rel => exact ⟨i + 1, by omega, by go_num, ⟨Q0.out, Q1.out, Q2.out, Q3.out⟩, HO3.out, HBW.out⟩
        case measure => simp [intOf] <;> omega
      · obtain rfl : i = n := by omega
        have hE : part F 0 L i = L.map F := by rw [HLL.out]; exact part_end F 0 L
        rw [hE] at hO
        have hlo := hO.lt r rfl
        have hR : BR wr (some ⟨r, 0, none⟩) i i (L.map F) := BR.of_own hO (fun x hx => by obtain ⟨y, _, rfl⟩ := List.mem_map.1 hx; have := HP6.out y; omega)
        have hgl := HGL.out
        have cc := CCV.out.trans (hbl.mono CCV.out.size)
        have g0 := (hbl.cell (p := ⟨w.heap.size, 0, none⟩) hgl).trans G0.out
        have g1 := (hbl.cell (p := ⟨w.heap.size, 1, none⟩) hgl).trans G1.out
        have g2 := (hbl.cell (p := ⟨w.heap.size, 2, none⟩) hgl).trans G2.out
        have g3 := (hbl.cell (p := ⟨w.heap.size, 3, none⟩) hgl).trans G3.out
        have f0 := (hbl.frozen (p := ⟨w.heap.size, 0, none⟩) hgl).trans F0.out
        have f1 := (hbl.frozen (p := ⟨w.heap.size, 1, none⟩) hgl).trans F1.out
        have f2 := (hbl.frozen (p := ⟨w.heap.size, 2, none⟩) hgl).trans F2.out
        have f3 := (hbl.frozen (p := ⟨w.heap.size, 3, none⟩) hgl).trans F3.out
        have hrn : ∀ p, some (⟨r, 0, none⟩ : Addr) = some p → p.block ≠ w.heap.size := fun p e => by injection e with e; subst e; show r ≠ _; omega
        have hrw : ∀ p, some (⟨r, 0, none⟩ : Addr) = some p → w.heap.size ≤ p.block := fun p e => by injection e with e; subst e; show _ ≤ r; omega
        have HR := Lib.hid (br_putK hR hrn (.int .i64 k) (.int .i64 S) (.slice (some ⟨r, 0, none⟩) i i) (.slice none 0 0))
        have HBF := Lib.hid (below_putK cc (Nat.le_refl _) (.int .i64 k) (.int .i64 S) (.slice (some ⟨r, 0, none⟩) i i) (.slice none 0 0))
        clear hO hR hrn hlo hbl cc
        go_wp2_with fail
        refine bodyPost_ret (v := .agg #[.int .i64 k, .int .i64 S, .slice (some ⟨r, 0, none⟩) i i, .slice none 0 0]) (by simp [results, Try.results73, go_sem, g0, g1, g2, g3]) rfl ⟨_, _, _, _, _, _, rfl, HR.out, IR.nil _ _ _, HBF.out, ⟨hrw, fun p e => (by cases e)⟩⟩

end Go.Proofs.Ytlmcpgahjfepjaa

/-
  The contracts of the eleventh reference: Right.
-/
namespace Go.Proofs.Ytlmcpgahjfepjaa
set_option maxRecDepth 100000
open Go.RowKit
set_option linter.unusedVariables false
set_option linter.unusedSimpArgs false

set_option maxRecDepth 100000 in
set_option maxHeartbeats 8000000 in
theorem rRight_lo {w : World} {k s : Int} {A B : Option Addr} {n c m d : Nat} {q : Int} (hq : IntKind.i64.wrap ((n : Int) + (m : Int)) = q) (p0 : k < 0) :
    Calls Try.prog 22 #[.agg #[.int .i64 k, .int .i64 s, .slice A n c, .slice B m d]] w (GotV w (.bool false)) := by
  have t0 : decide (k < 0) = true := decide_eq_true (by omega)
  clear p0
  have cc := Below.refl w.heap.size w
  go_enter Try.func22, Try.ntmps22
  go_wp2_with fail
  have bA : Below w.heap.size w (w.alloc (.cells #[.int .i64 k, .int .i64 s, .slice A n c, .slice B m d] 26)) := ((Below.refl _ w).alloc (by simp) _)
  replace cc := cc.trans (bA.mono cc.size)
  clear bA
  have ka0 : (w.alloc (.cells #[.int .i64 k, .int .i64 s, .slice A n c, .slice B m d] 26)).cell? ⟨w.heap.size, 0, none⟩ = some (.int .i64 k) := by simp [go_sem]
  have ka1 : (w.alloc (.cells #[.int .i64 k, .int .i64 s, .slice A n c, .slice B m d] 26)).cell? ⟨w.heap.size, 1, none⟩ = some (.int .i64 s) := by simp [go_sem]
  have ka2 : (w.alloc (.cells #[.int .i64 k, .int .i64 s, .slice A n c, .slice B m d] 26)).cell? ⟨w.heap.size, 2, none⟩ = some (.slice A n c) := by simp [go_sem]
  have ka3 : (w.alloc (.cells #[.int .i64 k, .int .i64 s, .slice A n c, .slice B m d] 26)).cell? ⟨w.heap.size, 3, none⟩ = some (.slice B m d) := by simp [go_sem]
  have kal : w.heap.size < (w.alloc (.cells #[.int .i64 k, .int .i64 s, .slice A n c, .slice B m d] 26)).heap.size := by simp <;> omega
  generalize w.alloc (.cells #[.int .i64 k, .int .i64 s, .slice A n c, .slice B m d] 26) = v1 at *
  go_wp2_with fail
  go_ret
  exact ⟨rfl, cc⟩

set_option maxRecDepth 100000 in
set_option maxHeartbeats 8000000 in
theorem rRight_hi {w : World} {k s : Int} {A B : Option Addr} {n c m d : Nat} {q : Int} (hq : IntKind.i64.wrap ((n : Int) + (m : Int)) = q) (p0 : 0 ≤ k) (p1 : 4 < k) :
    Calls Try.prog 22 #[.agg #[.int .i64 k, .int .i64 s, .slice A n c, .slice B m d]] w (GotV w (.bool false)) := by
  have t0 : decide (k < 0) = false := decide_eq_false (by omega)
  have t1 : decide (4 < k) = true := decide_eq_true (by omega)
  clear p0 p1
  have cc := Below.refl w.heap.size w
  go_enter Try.func22, Try.ntmps22
  go_wp2_with fail
  have bA : Below w.heap.size w (w.alloc (.cells #[.int .i64 k, .int .i64 s, .slice A n c, .slice B m d] 26)) := ((Below.refl _ w).alloc (by simp) _)
  replace cc := cc.trans (bA.mono cc.size)
  clear bA
  have ka0 : (w.alloc (.cells #[.int .i64 k, .int .i64 s, .slice A n c, .slice B m d] 26)).cell? ⟨w.heap.size, 0, none⟩ = some (.int .i64 k) := by simp [go_sem]
  have ka1 : (w.alloc (.cells #[.int .i64 k, .int .i64 s, .slice A n c, .slice B m d] 26)).cell? ⟨w.heap.size, 1, none⟩ = some (.int .i64 s) := by simp [go_sem]
  have ka2 : (w.alloc (.cells #[.int .i64 k, .int .i64 s, .slice A n c, .slice B m d] 26)).cell? ⟨w.heap.size, 2, none⟩ = some (.slice A n c) := by simp [go_sem]
  have ka3 : (w.alloc (.cells #[.int .i64 k, .int .i64 s, .slice A n c, .slice B m d] 26)).cell? ⟨w.heap.size, 3, none⟩ = some (.slice B m d) := by simp [go_sem]
  have kal : w.heap.size < (w.alloc (.cells #[.int .i64 k, .int .i64 s, .slice A n c, .slice B m d] 26)).heap.size := by simp <;> omega
  generalize w.alloc (.cells #[.int .i64 k, .int .i64 s, .slice A n c, .slice B m d] 26) = v1 at *
  go_wp2_with fail
  go_ret
  exact ⟨rfl, cc⟩

set_option maxRecDepth 100000 in
set_option maxHeartbeats 8000000 in
theorem rRight_big {w : World} {k s : Int} {A B : Option Addr} {n c m d : Nat} {q : Int} (hq : IntKind.i64.wrap ((n : Int) + (m : Int)) = q) (p0 : 0 ≤ k) (p1 : k ≤ 4) (p2 : 4096 < q) :
    Calls Try.prog 22 #[.agg #[.int .i64 k, .int .i64 s, .slice A n c, .slice B m d]] w (GotV w (.bool false)) := by
  have t0 : decide (k < 0) = false := decide_eq_false (by omega)
  have t1 : decide (4 < k) = false := decide_eq_false (by omega)
  have t2 : decide (4096 < q) = true := decide_eq_true (by omega)
  clear p0 p1 p2
  have cc := Below.refl w.heap.size w
  go_enter Try.func22, Try.ntmps22
  go_wp2_with fail
  have bA : Below w.heap.size w (w.alloc (.cells #[.int .i64 k, .int .i64 s, .slice A n c, .slice B m d] 26)) := ((Below.refl _ w).alloc (by simp) _)
  replace cc := cc.trans (bA.mono cc.size)
  clear bA
  have ka0 : (w.alloc (.cells #[.int .i64 k, .int .i64 s, .slice A n c, .slice B m d] 26)).cell? ⟨w.heap.size, 0, none⟩ = some (.int .i64 k) := by simp [go_sem]
  have ka1 : (w.alloc (.cells #[.int .i64 k, .int .i64 s, .slice A n c, .slice B m d] 26)).cell? ⟨w.heap.size, 1, none⟩ = some (.int .i64 s) := by simp [go_sem]
  have ka2 : (w.alloc (.cells #[.int .i64 k, .int .i64 s, .slice A n c, .slice B m d] 26)).cell? ⟨w.heap.size, 2, none⟩ = some (.slice A n c) := by simp [go_sem]
  have ka3 : (w.alloc (.cells #[.int .i64 k, .int .i64 s, .slice A n c, .slice B m d] 26)).cell? ⟨w.heap.size, 3, none⟩ = some (.slice B m d) := by simp [go_sem]
  have kal : w.heap.size < (w.alloc (.cells #[.int .i64 k, .int .i64 s, .slice A n c, .slice B m d] 26)).heap.size := by simp <;> omega
  generalize w.alloc (.cells #[.int .i64 k, .int .i64 s, .slice A n c, .slice B m d] 26) = v1 at *
  go_wp2_with fail
  go_ret
  exact ⟨rfl, cc⟩

set_option maxRecDepth 100000 in
set_option maxHeartbeats 8000000 in
theorem rRight_c0 {w : World} {k s : Int} {A B : Option Addr} {n c m d : Nat} {q : Int} (hq : IntKind.i64.wrap ((n : Int) + (m : Int)) = q) (p0 : 0 ≤ k) (p1 : k ≤ 3) (p2 : q ≤ 4096) (hm : m ≠ 0) :
    Calls Try.prog 22 #[.agg #[.int .i64 k, .int .i64 s, .slice A n c, .slice B m d]] w (GotV w (.bool false)) := by
  have t0 : decide (k < 0) = false := decide_eq_false (by omega)
  have t1 : decide (4 < k) = false := decide_eq_false (by omega)
  have t2 : decide (4096 < q) = false := decide_eq_false (by omega)
  have t3 : (k == 4) = false := beq_eq_false_iff_ne.2 (by omega)
  have t4 : (k != 4) = true := by simp; omega
  have t5 : ((m : Int) == 0) = false := beq_eq_false_iff_ne.2 (by omega)
  have t6 : (m == 0) = false := beq_eq_false_iff_ne.2 hm
  clear p0 p1 p2 hm
  have cc := Below.refl w.heap.size w
  go_enter Try.func22, Try.ntmps22
  go_wp2_with fail
  have bA : Below w.heap.size w (w.alloc (.cells #[.int .i64 k, .int .i64 s, .slice A n c, .slice B m d] 26)) := ((Below.refl _ w).alloc (by simp) _)
  replace cc := cc.trans (bA.mono cc.size)
  clear bA
  have ka0 : (w.alloc (.cells #[.int .i64 k, .int .i64 s, .slice A n c, .slice B m d] 26)).cell? ⟨w.heap.size, 0, none⟩ = some (.int .i64 k) := by simp [go_sem]
  have ka1 : (w.alloc (.cells #[.int .i64 k, .int .i64 s, .slice A n c, .slice B m d] 26)).cell? ⟨w.heap.size, 1, none⟩ = some (.int .i64 s) := by simp [go_sem]
  have ka2 : (w.alloc (.cells #[.int .i64 k, .int .i64 s, .slice A n c, .slice B m d] 26)).cell? ⟨w.heap.size, 2, none⟩ = some (.slice A n c) := by simp [go_sem]
  have ka3 : (w.alloc (.cells #[.int .i64 k, .int .i64 s, .slice A n c, .slice B m d] 26)).cell? ⟨w.heap.size, 3, none⟩ = some (.slice B m d) := by simp [go_sem]
  have kal : w.heap.size < (w.alloc (.cells #[.int .i64 k, .int .i64 s, .slice A n c, .slice B m d] 26)).heap.size := by simp <;> omega
  generalize w.alloc (.cells #[.int .i64 k, .int .i64 s, .slice A n c, .slice B m d] 26) = v1 at *
  go_wp2_with fail
  go_ret
  exact ⟨rfl, cc⟩

set_option maxRecDepth 100000 in
set_option maxHeartbeats 8000000 in
theorem rRight_c1 {w : World} {k s : Int} {A B : Option Addr} {n c m d : Nat} {q : Int} (hq : IntKind.i64.wrap ((n : Int) + (m : Int)) = q) (p0 : 0 ≤ k) (p1 : k ≤ 3) (p2 : q ≤ 4096) (hm : m = 0) {C : List Nat} (hC : BR w A n c C) (hn : n ≤ 9223372036854775807) :
    Calls Try.prog 22 #[.agg #[.int .i64 k, .int .i64 s, .slice A n c, .slice B m d]] w (GotV w (.bool (decide (OkC k s C)))) := by
  subst hm
  have hk : Kind9 k := by unfold Kind9; omega
  have CC : ∀ {W : World}, BR W A n c C → Calls Try.prog 36 #[.agg #[.int .i64 k, .int .i64 s, .slice A n c, .slice B 0 d]] W (GotV W (.bool (decide (OkC k s C)))) := fun h => rcodes_N hk h hn
  obtain ⟨r, hr⟩ : ∃ r, decide (OkC k s C) = r := ⟨_, rfl⟩
  rw [hr] at CC ⊢
  clear hr hk
  have t0 : decide (k < 0) = false := decide_eq_false (by omega)
  have t1 : decide (4 < k) = false := decide_eq_false (by omega)
  have t2 : decide (4096 < q) = false := decide_eq_false (by omega)
  have t3 : (k == 4) = false := beq_eq_false_iff_ne.2 (by omega)
  have t4 : (k != 4) = true := by simp; omega
  have hqn : (n : Int) = q := by rw [← hq, IntWalk.i64_in _ (by omega)]; omega
  have t6 : decide (4096 < (n : Int)) = false := decide_eq_false (by omega)
  have t7 : decide (4096 < n) = false := decide_eq_false (by omega)
  clear p0 p1 p2 hqn
  have cc := Below.refl w.heap.size w
  go_enter Try.func22, Try.ntmps22
  go_wp2_with fail
  have bA : Below w.heap.size w (w.alloc (.cells #[.int .i64 k, .int .i64 s, .slice A n c, .slice B 0 d] 26)) := ((Below.refl _ w).alloc (by simp) _)
  replace hC := hC.on bA
  replace cc := cc.trans (bA.mono cc.size)
  clear bA
  have ka0 : (w.alloc (.cells #[.int .i64 k, .int .i64 s, .slice A n c, .slice B 0 d] 26)).cell? ⟨w.heap.size, 0, none⟩ = some (.int .i64 k) := by simp [go_sem]
  have ka1 : (w.alloc (.cells #[.int .i64 k, .int .i64 s, .slice A n c, .slice B 0 d] 26)).cell? ⟨w.heap.size, 1, none⟩ = some (.int .i64 s) := by simp [go_sem]
  have ka2 : (w.alloc (.cells #[.int .i64 k, .int .i64 s, .slice A n c, .slice B 0 d] 26)).cell? ⟨w.heap.size, 2, none⟩ = some (.slice A n c) := by simp [go_sem]
  have ka3 : (w.alloc (.cells #[.int .i64 k, .int .i64 s, .slice A n c, .slice B 0 d] 26)).cell? ⟨w.heap.size, 3, none⟩ = some (.slice B 0 d) := by simp [go_sem]
  have kal : w.heap.size < (w.alloc (.cells #[.int .i64 k, .int .i64 s, .slice A n c, .slice B 0 d] 26)).heap.size := by simp <;> omega
  generalize w.alloc (.cells #[.int .i64 k, .int .i64 s, .slice A n c, .slice B 0 d] 26) = v1 at *
  go_wp2_with fail
  refine (CC hC).mono ?_
  rintro e w2 ⟨rfl, b⟩
  replace hC := hC.on b
  replace ka0 := (b.cell (p := ⟨w.heap.size, 0, none⟩) kal).trans ka0
  replace ka1 := (b.cell (p := ⟨w.heap.size, 1, none⟩) kal).trans ka1
  replace ka2 := (b.cell (p := ⟨w.heap.size, 2, none⟩) kal).trans ka2
  replace ka3 := (b.cell (p := ⟨w.heap.size, 3, none⟩) kal).trans ka3
  replace kal := Nat.lt_of_lt_of_le kal b.size
  replace cc := cc.trans (b.mono cc.size)
  clear b
  go_wp2_with fail
  go_ret
  exact ⟨rfl, cc⟩

set_option maxRecDepth 100000 in
set_option maxHeartbeats 8000000 in
theorem rRight_w {w : World} {k s : Int} {A B : Option Addr} {n c m d : Nat} {q : Int} (hq : IntKind.i64.wrap ((n : Int) + (m : Int)) = q) (p0 : k = 4) (p2 : q ≤ 4096) {W : List Int} (hW : IR w B m d W) (hm : m ≤ 9223372036854775807) {R : Bool} (hR : ((∀ j, j < W.length → W[j]?.getD 0 ≠ -9223372036854775808) → R = ((s == 0) && (n == 0))) ∧ ((∃ j, j < W.length ∧ W[j]?.getD 0 = -9223372036854775808) → R = false)) :
    Calls Try.prog 22 #[.agg #[.int .i64 k, .int .i64 s, .slice A n c, .slice B m d]] w (GotV w (.bool R)) := by
  subst p0
  have t2 : decide (4096 < q) = false := decide_eq_false (by omega)
  have HR := Lib.hid hR
  clear hR p2
  have cc := Below.refl w.heap.size w
  go_enter Try.func22, Try.ntmps22
  go_wp2_with fail
  have bA : Below w.heap.size w (w.alloc (.cells #[.int .i64 4, .int .i64 s, .slice A n c, .slice B m d] 26)) := ((Below.refl _ w).alloc (by simp) _)
  replace cc := cc.trans (bA.mono cc.size)
  clear bA
  have ka0 : (w.alloc (.cells #[.int .i64 4, .int .i64 s, .slice A n c, .slice B m d] 26)).cell? ⟨w.heap.size, 0, none⟩ = some (.int .i64 4) := by simp [go_sem]
  have ka1 : (w.alloc (.cells #[.int .i64 4, .int .i64 s, .slice A n c, .slice B m d] 26)).cell? ⟨w.heap.size, 1, none⟩ = some (.int .i64 s) := by simp [go_sem]
  have ka2 : (w.alloc (.cells #[.int .i64 4, .int .i64 s, .slice A n c, .slice B m d] 26)).cell? ⟨w.heap.size, 2, none⟩ = some (.slice A n c) := by simp [go_sem]
  have ka3 : (w.alloc (.cells #[.int .i64 4, .int .i64 s, .slice A n c, .slice B m d] 26)).cell? ⟨w.heap.size, 3, none⟩ = some (.slice B m d) := by simp [go_sem]
  have kal : w.heap.size < (w.alloc (.cells #[.int .i64 4, .int .i64 s, .slice A n c, .slice B m d] 26)).heap.size := by simp <;> omega
  generalize w.alloc (.cells #[.int .i64 4, .int .i64 s, .slice A n c, .slice B m d] 26) = v1 at *
  have KA1 := Lib.hid ka1
  have KA2 := Lib.hid ka2
  have KA3 := Lib.hid ka3
  have KAL := Lib.hid kal
  have CCV := Lib.hid cc
  have HWV : Hid (IR v1 B m d W) := Lib.hid (hW.on cc)
  clear ka0 ka1 ka2 ka3 kal cc hW
  go_wp2_with fail
  go_loopw [3] (fun iv wr => ∃ i : Nat, i ≤ m ∧ iv = .int .i64 (i : Int) ∧ (∀ j, j < i → W[j]?.getD 0 ≠ -9223372036854775808) ∧ Below v1.heap.size v1 wr) (fun iv _ => m - (intOf iv).toNat)
  case atStart => exact ⟨0, by omega, rfl, fun j h => absurd h (by omega), Below.refl _ _⟩
  case round =>
    obtain ⟨i, hi, rfl, hj, hbl⟩ := hrel
    have ka1 := (hbl.cell (p := ⟨w.heap.size, 1, none⟩) KAL.out).trans KA1.out
    have ka2 := (hbl.cell (p := ⟨w.heap.size, 2, none⟩) KAL.out).trans KA2.out
    have ka3 := (hbl.cell (p := ⟨w.heap.size, 3, none⟩) KAL.out).trans KA3.out
    have cc := CCV.out.trans (hbl.mono CCV.out.size)
    have hl := HWV.out.1
    by_cases hlt : i < m
    · obtain ⟨bb, off, rfl, hb, hcell⟩ := (HWV.out.on hbl).2.2 (by omega)
      have h1 := hcell i hlt
      have k3 : IntKind.i64.wrap ((i : Int) + 1) = ((i + 1 : Nat) : Int) := by rw [IntWalk.i64_in _ (by omega)]; omega
      obtain ⟨x, hx⟩ : ∃ x, W[i]?.getD 0 = x := ⟨_, rfl⟩
      rw [hx] at h1
      by_cases hxy : x = -9223372036854775808
      · have hF : R = false := HR.out.2 ⟨i, by omega, by rw [hx, hxy]⟩
        subst hF
        subst hxy
        clear hcell hj hl hx
        go_wp2_with fail
        go_ret
        exact ⟨rfl, cc⟩
      · have t4 : (x == -9223372036854775808) = false := beq_eq_false_iff_ne.2 hxy
        have HJ : Hid (∀ j, j < i + 1 → W[j]?.getD 0 ≠ -9223372036854775808) := Lib.hid (fun j h => by
          rcases Nat.lt_or_ge j i with e | e
          · exact hj j e
          · have e2 : j = i := by omega
            rw [e2, hx]; exact hxy)
        clear hcell hj hl hx hxy
        go_wp2_with fail
        go_roundw
        case rel => exact ⟨i + 1, by omega, rfl, HJ.out, hbl⟩
        case measure => simp [intOf] <;> omega
    · obtain rfl : i = m := by omega
      have hE := HR.out.1 (fun j h => hj j (by omega))
      clear hj hl
      by_cases z : s = 0
      · subst z
        by_cases y : n = 0
        · subst y
          have hE2 : R = true := by rw [hE]; simp
          subst hE2
          clear hE
          go_wp2_with fail
          go_ret
          exact ⟨rfl, cc⟩
        · have hE2 : R = false := by rw [hE]; simp; omega
          subst hE2
          have y1 : ((n : Int) == 0) = false := beq_eq_false_iff_ne.2 (by omega)
          have y2 : (n == 0) = false := beq_eq_false_iff_ne.2 y
          clear hE y
          go_wp2_with fail
          go_ret
          exact ⟨rfl, cc⟩
      · have z1 : (s == 0) = false := beq_eq_false_iff_ne.2 z
        have hE2 : R = false := by rw [hE, z1]; rfl
        subst hE2
        clear hE z
        go_wp2_with fail
        go_ret
        exact ⟨rfl, cc⟩

theorem rRight_N {w : World} {k s : Int} {A B : Option Addr} {n c m d : Nat} {C : List Nat} {W : List Int} (hC : BR w A n c C) (hW : IR w B m d W) (hn : n ≤ 9223372036854775807) (hm : m ≤ 9223372036854775807) : Calls Try.prog 22 #[.agg #[.int .i64 k, .int .i64 s, .slice A n c, .slice B m d]] w (GotV w (.bool (decide (OkB k s C W)))) := by
  obtain ⟨q, hq⟩ : ∃ q, IntKind.i64.wrap ((n : Int) + (m : Int)) = q := ⟨_, rfl⟩
  have hC1 := hC.1
  have hW1 := hW.1
  have hsum : (n + m : Int) ≤ 9223372036854775807 → q = n + m := fun h => by rw [← hq]; exact IntWalk.i64_in _ (by omega)
  have hk9 : OkB k s C W → (0 ≤ k ∧ k ≤ 4) ∧ n + m ≤ 4096 ∧ (k ≠ 4 → m = 0) ∧ (k = 4 → n = 0) := by
    rintro (⟨h1, h2, h3, h4⟩ | ⟨h1, h2, h3, h4, h5⟩)
    · refine ⟨kind_or.2 (.inl h1), by omega, fun _ => by rw [hW1, h3]; rfl, fun h => by unfold Kind9 at h1; omega⟩
    · exact ⟨kind_or.2 (.inr h1), by omega, fun h => absurd h1 h, fun _ => by rw [hC1, h5]; rfl⟩
  by_cases a0 : k < 0
  · rw [decide_eq_false (fun h => by have := (hk9 h).1; omega)]; exact rRight_lo hq a0
  by_cases a1 : 4 < k
  · rw [decide_eq_false (fun h => by have := (hk9 h).1; omega)]; exact rRight_hi hq (by omega) a1
  by_cases a2 : 4096 < q
  · rw [decide_eq_false (fun h => by have h1 := (hk9 h).2.1; have := hsum (by omega); omega)]; exact rRight_big hq (by omega) (by omega) a2
  by_cases a3 : k = 4
  · refine rRight_w hq a3 (by omega) hW hm ⟨fun hall => ?_, fun hex => ?_⟩
    · by_cases z : s = 0
      · by_cases y : n = 0
        · have : OkB k s C W := .inr ⟨a3, by have := hsum (by omega); omega, fun x hx => by obtain ⟨j, hj, rfl⟩ := at_mem 0 hx; exact hall j hj, z, List.eq_nil_of_length_eq_zero (by omega)⟩
          rw [decide_eq_true this, z, y]; rfl
        · rw [decide_eq_false (fun h => y ((hk9 h).2.2.2 a3)), beq_eq_false_iff_ne.2 y, Bool.and_false]
      · rw [decide_eq_false (fun h => by rcases h with ⟨h1, _⟩ | ⟨_, _, _, h4, _⟩; unfold Kind9 at h1; omega; exact z h4), beq_eq_false_iff_ne.2 z, Bool.false_and]
    · obtain ⟨j, hj, he⟩ := hex
      refine decide_eq_false (fun h => ?_)
      rcases h with ⟨h1, _⟩ | ⟨_, _, h3, _⟩
      · unfold Kind9 at h1; omega
      · exact h3 _ (mem_at hj) he
  by_cases a4 : m = 0
  · have hk : Kind9 k := by unfold Kind9; omega
    have e : decide (OkB k s C W) = decide (OkC k s C) := by
      rw [Bool.eq_iff_iff, decide_eq_true_eq, decide_eq_true_eq]
      constructor
      · rintro (⟨_, _, _, h4⟩ | ⟨h1, _⟩)
        · exact h4
        · exact absurd h1 a3
      · intro h; exact .inl ⟨hk, by have := hsum (by omega); omega, List.eq_nil_of_length_eq_zero (by omega), h⟩
    rw [e]
    exact rRight_c1 hq (by omega) (by omega) (by omega) a4 hC hn
  · rw [decide_eq_false (fun h => a4 ((hk9 h).2.2.1 a3))]; exact rRight_c0 hq (by omega) (by omega) (by omega) a4

end Go.Proofs.Ytlmcpgahjfepjaa

/-
  The contracts of the eleventh reference: Same.
-/
namespace Go.Proofs.Ytlmcpgahjfepjaa
set_option maxRecDepth 100000
open Go.RowKit
set_option linter.unusedVariables false
set_option linter.unusedSimpArgs false

set_option maxRecDepth 100000 in
set_option maxHeartbeats 8000000 in
theorem rSame_k {w : World} {ka sa : Int} {Aa Ba : Option Addr} {na ca ma da : Nat} {kb sb : Int} {Ab Bb : Option Addr} {nb cb mb db : Nat} (h : ka ≠ kb) :
    Calls Try.prog 9 #[.agg #[.int .i64 ka, .int .i64 sa, .slice Aa na ca, .slice Ba ma da], .agg #[.int .i64 kb, .int .i64 sb, .slice Ab nb cb, .slice Bb mb db]] w (GotV w (.bool false)) := by
  have t1 : (ka == kb) = false := beq_eq_false_iff_ne.2 h
  have t2 : (ka != kb) = true := by simp; exact h
  clear h
  have cc := Below.refl w.heap.size w
  go_enter Try.func9, Try.ntmps9
  go_wp2_with fail
  have bA : Below w.heap.size w ((w.alloc (.cells #[.int .i64 ka, .int .i64 sa, .slice Aa na ca, .slice Ba ma da] 26)).alloc (.cells #[.int .i64 kb, .int .i64 sb, .slice Ab nb cb, .slice Bb mb db] 26)) := (((Below.refl _ w).alloc (by simp) _).alloc (by simp) _)
  replace cc := cc.trans (bA.mono cc.size)
  clear bA
  have xa0 : ((w.alloc (.cells #[.int .i64 ka, .int .i64 sa, .slice Aa na ca, .slice Ba ma da] 26)).alloc (.cells #[.int .i64 kb, .int .i64 sb, .slice Ab nb cb, .slice Bb mb db] 26)).cell? ⟨w.heap.size, 0, none⟩ = some (.int .i64 ka) := by simp [go_sem]
  have xa1 : ((w.alloc (.cells #[.int .i64 ka, .int .i64 sa, .slice Aa na ca, .slice Ba ma da] 26)).alloc (.cells #[.int .i64 kb, .int .i64 sb, .slice Ab nb cb, .slice Bb mb db] 26)).cell? ⟨w.heap.size, 1, none⟩ = some (.int .i64 sa) := by simp [go_sem]
  have xa2 : ((w.alloc (.cells #[.int .i64 ka, .int .i64 sa, .slice Aa na ca, .slice Ba ma da] 26)).alloc (.cells #[.int .i64 kb, .int .i64 sb, .slice Ab nb cb, .slice Bb mb db] 26)).cell? ⟨w.heap.size, 2, none⟩ = some (.slice Aa na ca) := by simp [go_sem]
  have xa3 : ((w.alloc (.cells #[.int .i64 ka, .int .i64 sa, .slice Aa na ca, .slice Ba ma da] 26)).alloc (.cells #[.int .i64 kb, .int .i64 sb, .slice Ab nb cb, .slice Bb mb db] 26)).cell? ⟨w.heap.size, 3, none⟩ = some (.slice Ba ma da) := by simp [go_sem]
  have xal : w.heap.size < ((w.alloc (.cells #[.int .i64 ka, .int .i64 sa, .slice Aa na ca, .slice Ba ma da] 26)).alloc (.cells #[.int .i64 kb, .int .i64 sb, .slice Ab nb cb, .slice Bb mb db] 26)).heap.size := by simp <;> omega
  have xb0 : ((w.alloc (.cells #[.int .i64 ka, .int .i64 sa, .slice Aa na ca, .slice Ba ma da] 26)).alloc (.cells #[.int .i64 kb, .int .i64 sb, .slice Ab nb cb, .slice Bb mb db] 26)).cell? ⟨w.heap.size + 1, 0, none⟩ = some (.int .i64 kb) := by simp [go_sem]
  have xb1 : ((w.alloc (.cells #[.int .i64 ka, .int .i64 sa, .slice Aa na ca, .slice Ba ma da] 26)).alloc (.cells #[.int .i64 kb, .int .i64 sb, .slice Ab nb cb, .slice Bb mb db] 26)).cell? ⟨w.heap.size + 1, 1, none⟩ = some (.int .i64 sb) := by simp [go_sem]
  have xb2 : ((w.alloc (.cells #[.int .i64 ka, .int .i64 sa, .slice Aa na ca, .slice Ba ma da] 26)).alloc (.cells #[.int .i64 kb, .int .i64 sb, .slice Ab nb cb, .slice Bb mb db] 26)).cell? ⟨w.heap.size + 1, 2, none⟩ = some (.slice Ab nb cb) := by simp [go_sem]
  have xb3 : ((w.alloc (.cells #[.int .i64 ka, .int .i64 sa, .slice Aa na ca, .slice Ba ma da] 26)).alloc (.cells #[.int .i64 kb, .int .i64 sb, .slice Ab nb cb, .slice Bb mb db] 26)).cell? ⟨w.heap.size + 1, 3, none⟩ = some (.slice Bb mb db) := by simp [go_sem]
  have xbl : w.heap.size + 1 < ((w.alloc (.cells #[.int .i64 ka, .int .i64 sa, .slice Aa na ca, .slice Ba ma da] 26)).alloc (.cells #[.int .i64 kb, .int .i64 sb, .slice Ab nb cb, .slice Bb mb db] 26)).heap.size := by simp <;> omega
  generalize (w.alloc (.cells #[.int .i64 ka, .int .i64 sa, .slice Aa na ca, .slice Ba ma da] 26)).alloc (.cells #[.int .i64 kb, .int .i64 sb, .slice Ab nb cb, .slice Bb mb db] 26) = v1 at *
  go_wp2_with fail
  go_ret
  exact ⟨rfl, cc⟩

set_option maxRecDepth 100000 in
set_option maxHeartbeats 8000000 in
theorem rSame_s {w : World} {ka sa : Int} {Aa Ba : Option Addr} {na ca ma da : Nat} {kb sb : Int} {Ab Bb : Option Addr} {nb cb mb db : Nat} (hk : ka = kb) (h : sa ≠ sb) :
    Calls Try.prog 9 #[.agg #[.int .i64 ka, .int .i64 sa, .slice Aa na ca, .slice Ba ma da], .agg #[.int .i64 kb, .int .i64 sb, .slice Ab nb cb, .slice Bb mb db]] w (GotV w (.bool false)) := by
  subst hk
  have t1 : (sa == sb) = false := beq_eq_false_iff_ne.2 h
  have t2 : (sa != sb) = true := by simp; exact h
  clear h
  have cc := Below.refl w.heap.size w
  go_enter Try.func9, Try.ntmps9
  go_wp2_with fail
  have bA : Below w.heap.size w ((w.alloc (.cells #[.int .i64 ka, .int .i64 sa, .slice Aa na ca, .slice Ba ma da] 26)).alloc (.cells #[.int .i64 ka, .int .i64 sb, .slice Ab nb cb, .slice Bb mb db] 26)) := (((Below.refl _ w).alloc (by simp) _).alloc (by simp) _)
  replace cc := cc.trans (bA.mono cc.size)
  clear bA
  have xa0 : ((w.alloc (.cells #[.int .i64 ka, .int .i64 sa, .slice Aa na ca, .slice Ba ma da] 26)).alloc (.cells #[.int .i64 ka, .int .i64 sb, .slice Ab nb cb, .slice Bb mb db] 26)).cell? ⟨w.heap.size, 0, none⟩ = some (.int .i64 ka) := by simp [go_sem]
  have xa1 : ((w.alloc (.cells #[.int .i64 ka, .int .i64 sa, .slice Aa na ca, .slice Ba ma da] 26)).alloc (.cells #[.int .i64 ka, .int .i64 sb, .slice Ab nb cb, .slice Bb mb db] 26)).cell? ⟨w.heap.size, 1, none⟩ = some (.int .i64 sa) := by simp [go_sem]
  have xa2 : ((w.alloc (.cells #[.int .i64 ka, .int .i64 sa, .slice Aa na ca, .slice Ba ma da] 26)).alloc (.cells #[.int .i64 ka, .int .i64 sb, .slice Ab nb cb, .slice Bb mb db] 26)).cell? ⟨w.heap.size, 2, none⟩ = some (.slice Aa na ca) := by simp [go_sem]
  have xa3 : ((w.alloc (.cells #[.int .i64 ka, .int .i64 sa, .slice Aa na ca, .slice Ba ma da] 26)).alloc (.cells #[.int .i64 ka, .int .i64 sb, .slice Ab nb cb, .slice Bb mb db] 26)).cell? ⟨w.heap.size, 3, none⟩ = some (.slice Ba ma da) := by simp [go_sem]
  have xal : w.heap.size < ((w.alloc (.cells #[.int .i64 ka, .int .i64 sa, .slice Aa na ca, .slice Ba ma da] 26)).alloc (.cells #[.int .i64 ka, .int .i64 sb, .slice Ab nb cb, .slice Bb mb db] 26)).heap.size := by simp <;> omega
  have xb0 : ((w.alloc (.cells #[.int .i64 ka, .int .i64 sa, .slice Aa na ca, .slice Ba ma da] 26)).alloc (.cells #[.int .i64 ka, .int .i64 sb, .slice Ab nb cb, .slice Bb mb db] 26)).cell? ⟨w.heap.size + 1, 0, none⟩ = some (.int .i64 ka) := by simp [go_sem]
  have xb1 : ((w.alloc (.cells #[.int .i64 ka, .int .i64 sa, .slice Aa na ca, .slice Ba ma da] 26)).alloc (.cells #[.int .i64 ka, .int .i64 sb, .slice Ab nb cb, .slice Bb mb db] 26)).cell? ⟨w.heap.size + 1, 1, none⟩ = some (.int .i64 sb) := by simp [go_sem]
  have xb2 : ((w.alloc (.cells #[.int .i64 ka, .int .i64 sa, .slice Aa na ca, .slice Ba ma da] 26)).alloc (.cells #[.int .i64 ka, .int .i64 sb, .slice Ab nb cb, .slice Bb mb db] 26)).cell? ⟨w.heap.size + 1, 2, none⟩ = some (.slice Ab nb cb) := by simp [go_sem]
  have xb3 : ((w.alloc (.cells #[.int .i64 ka, .int .i64 sa, .slice Aa na ca, .slice Ba ma da] 26)).alloc (.cells #[.int .i64 ka, .int .i64 sb, .slice Ab nb cb, .slice Bb mb db] 26)).cell? ⟨w.heap.size + 1, 3, none⟩ = some (.slice Bb mb db) := by simp [go_sem]
  have xbl : w.heap.size + 1 < ((w.alloc (.cells #[.int .i64 ka, .int .i64 sa, .slice Aa na ca, .slice Ba ma da] 26)).alloc (.cells #[.int .i64 ka, .int .i64 sb, .slice Ab nb cb, .slice Bb mb db] 26)).heap.size := by simp <;> omega
  generalize (w.alloc (.cells #[.int .i64 ka, .int .i64 sa, .slice Aa na ca, .slice Ba ma da] 26)).alloc (.cells #[.int .i64 ka, .int .i64 sb, .slice Ab nb cb, .slice Bb mb db] 26) = v1 at *
  go_wp2_with fail
  go_ret
  exact ⟨rfl, cc⟩

set_option maxRecDepth 100000 in
set_option maxHeartbeats 8000000 in
theorem rSame_n {w : World} {ka sa : Int} {Aa Ba : Option Addr} {na ca ma da : Nat} {kb sb : Int} {Ab Bb : Option Addr} {nb cb mb db : Nat} (hk : ka = kb) (hs : sa = sb) (h : na ≠ nb) :
    Calls Try.prog 9 #[.agg #[.int .i64 ka, .int .i64 sa, .slice Aa na ca, .slice Ba ma da], .agg #[.int .i64 kb, .int .i64 sb, .slice Ab nb cb, .slice Bb mb db]] w (GotV w (.bool false)) := by
  subst hk
  subst hs
  have t1 : ((na : Int) == (nb : Int)) = false := beq_eq_false_iff_ne.2 (by omega)
  have t2 : ((na : Int) != (nb : Int)) = true := by simp; omega
  have t3 : (na == nb) = false := beq_eq_false_iff_ne.2 h
  have t4 : (na != nb) = true := by simp; exact h
  clear h
  have cc := Below.refl w.heap.size w
  go_enter Try.func9, Try.ntmps9
  go_wp2_with fail
  have bA : Below w.heap.size w ((w.alloc (.cells #[.int .i64 ka, .int .i64 sa, .slice Aa na ca, .slice Ba ma da] 26)).alloc (.cells #[.int .i64 ka, .int .i64 sa, .slice Ab nb cb, .slice Bb mb db] 26)) := (((Below.refl _ w).alloc (by simp) _).alloc (by simp) _)
  replace cc := cc.trans (bA.mono cc.size)
  clear bA
  have xa0 : ((w.alloc (.cells #[.int .i64 ka, .int .i64 sa, .slice Aa na ca, .slice Ba ma da] 26)).alloc (.cells #[.int .i64 ka, .int .i64 sa, .slice Ab nb cb, .slice Bb mb db] 26)).cell? ⟨w.heap.size, 0, none⟩ = some (.int .i64 ka) := by simp [go_sem]
  have xa1 : ((w.alloc (.cells #[.int .i64 ka, .int .i64 sa, .slice Aa na ca, .slice Ba ma da] 26)).alloc (.cells #[.int .i64 ka, .int .i64 sa, .slice Ab nb cb, .slice Bb mb db] 26)).cell? ⟨w.heap.size, 1, none⟩ = some (.int .i64 sa) := by simp [go_sem]
  have xa2 : ((w.alloc (.cells #[.int .i64 ka, .int .i64 sa, .slice Aa na ca, .slice Ba ma da] 26)).alloc (.cells #[.int .i64 ka, .int .i64 sa, .slice Ab nb cb, .slice Bb mb db] 26)).cell? ⟨w.heap.size, 2, none⟩ = some (.slice Aa na ca) := by simp [go_sem]
  have xa3 : ((w.alloc (.cells #[.int .i64 ka, .int .i64 sa, .slice Aa na ca, .slice Ba ma da] 26)).alloc (.cells #[.int .i64 ka, .int .i64 sa, .slice Ab nb cb, .slice Bb mb db] 26)).cell? ⟨w.heap.size, 3, none⟩ = some (.slice Ba ma da) := by simp [go_sem]
  have xal : w.heap.size < ((w.alloc (.cells #[.int .i64 ka, .int .i64 sa, .slice Aa na ca, .slice Ba ma da] 26)).alloc (.cells #[.int .i64 ka, .int .i64 sa, .slice Ab nb cb, .slice Bb mb db] 26)).heap.size := by simp <;> omega
  have xb0 : ((w.alloc (.cells #[.int .i64 ka, .int .i64 sa, .slice Aa na ca, .slice Ba ma da] 26)).alloc (.cells #[.int .i64 ka, .int .i64 sa, .slice Ab nb cb, .slice Bb mb db] 26)).cell? ⟨w.heap.size + 1, 0, none⟩ = some (.int .i64 ka) := by simp [go_sem]
  have xb1 : ((w.alloc (.cells #[.int .i64 ka, .int .i64 sa, .slice Aa na ca, .slice Ba ma da] 26)).alloc (.cells #[.int .i64 ka, .int .i64 sa, .slice Ab nb cb, .slice Bb mb db] 26)).cell? ⟨w.heap.size + 1, 1, none⟩ = some (.int .i64 sa) := by simp [go_sem]
  have xb2 : ((w.alloc (.cells #[.int .i64 ka, .int .i64 sa, .slice Aa na ca, .slice Ba ma da] 26)).alloc (.cells #[.int .i64 ka, .int .i64 sa, .slice Ab nb cb, .slice Bb mb db] 26)).cell? ⟨w.heap.size + 1, 2, none⟩ = some (.slice Ab nb cb) := by simp [go_sem]
  have xb3 : ((w.alloc (.cells #[.int .i64 ka, .int .i64 sa, .slice Aa na ca, .slice Ba ma da] 26)).alloc (.cells #[.int .i64 ka, .int .i64 sa, .slice Ab nb cb, .slice Bb mb db] 26)).cell? ⟨w.heap.size + 1, 3, none⟩ = some (.slice Bb mb db) := by simp [go_sem]
  have xbl : w.heap.size + 1 < ((w.alloc (.cells #[.int .i64 ka, .int .i64 sa, .slice Aa na ca, .slice Ba ma da] 26)).alloc (.cells #[.int .i64 ka, .int .i64 sa, .slice Ab nb cb, .slice Bb mb db] 26)).heap.size := by simp <;> omega
  generalize (w.alloc (.cells #[.int .i64 ka, .int .i64 sa, .slice Aa na ca, .slice Ba ma da] 26)).alloc (.cells #[.int .i64 ka, .int .i64 sa, .slice Ab nb cb, .slice Bb mb db] 26) = v1 at *
  go_wp2_with fail
  go_ret
  exact ⟨rfl, cc⟩

set_option maxRecDepth 100000 in
set_option maxHeartbeats 8000000 in
theorem rSame_eq {w : World} {ka sa : Int} {Aa Ba : Option Addr} {na ca ma da : Nat} {kb sb : Int} {Ab Bb : Option Addr} {nb cb mb db : Nat} (hk : ka = kb) (hs : sa = sb) (hn : na = nb) {Ca : List Nat} {Wa : List Int} (hCa : BR w Aa na ca Ca) (hWa : IR w Ba ma da Wa) (hna : na ≤ 9223372036854775807) (hma : ma ≤ 9223372036854775807) {Cb : List Nat} {Wb : List Int} (hCb : BR w Ab nb cb Cb) (hWb : IR w Bb mb db Wb) (hnb : nb ≤ 9223372036854775807) (hmb : mb ≤ 9223372036854775807) :
    Calls Try.prog 9 #[.agg #[.int .i64 ka, .int .i64 sa, .slice Aa na ca, .slice Ba ma da], .agg #[.int .i64 kb, .int .i64 sb, .slice Ab nb cb, .slice Bb mb db]] w (GotV w (.bool (decide (Ca = Cb ∧ Wa = Wb)))) := by
  subst hk
  subst hs
  subst hn
  obtain ⟨R, hR⟩ : ∃ R, decide (Ca = Cb ∧ Wa = Wb) = R := ⟨_, rfl⟩
  rw [hR]
  have HR := Lib.hid hR
  clear hR
  have cc := Below.refl w.heap.size w
  go_enter Try.func9, Try.ntmps9
  go_wp2_with fail
  have bA : Below w.heap.size w ((w.alloc (.cells #[.int .i64 ka, .int .i64 sa, .slice Aa na ca, .slice Ba ma da] 26)).alloc (.cells #[.int .i64 ka, .int .i64 sa, .slice Ab na cb, .slice Bb mb db] 26)) := (((Below.refl _ w).alloc (by simp) _).alloc (by simp) _)
  replace cc := cc.trans (bA.mono cc.size)
  clear bA
  have xa0 : ((w.alloc (.cells #[.int .i64 ka, .int .i64 sa, .slice Aa na ca, .slice Ba ma da] 26)).alloc (.cells #[.int .i64 ka, .int .i64 sa, .slice Ab na cb, .slice Bb mb db] 26)).cell? ⟨w.heap.size, 0, none⟩ = some (.int .i64 ka) := by simp [go_sem]
  have xa1 : ((w.alloc (.cells #[.int .i64 ka, .int .i64 sa, .slice Aa na ca, .slice Ba ma da] 26)).alloc (.cells #[.int .i64 ka, .int .i64 sa, .slice Ab na cb, .slice Bb mb db] 26)).cell? ⟨w.heap.size, 1, none⟩ = some (.int .i64 sa) := by simp [go_sem]
  have xa2 : ((w.alloc (.cells #[.int .i64 ka, .int .i64 sa, .slice Aa na ca, .slice Ba ma da] 26)).alloc (.cells #[.int .i64 ka, .int .i64 sa, .slice Ab na cb, .slice Bb mb db] 26)).cell? ⟨w.heap.size, 2, none⟩ = some (.slice Aa na ca) := by simp [go_sem]
  have xa3 : ((w.alloc (.cells #[.int .i64 ka, .int .i64 sa, .slice Aa na ca, .slice Ba ma da] 26)).alloc (.cells #[.int .i64 ka, .int .i64 sa, .slice Ab na cb, .slice Bb mb db] 26)).cell? ⟨w.heap.size, 3, none⟩ = some (.slice Ba ma da) := by simp [go_sem]
  have xal : w.heap.size < ((w.alloc (.cells #[.int .i64 ka, .int .i64 sa, .slice Aa na ca, .slice Ba ma da] 26)).alloc (.cells #[.int .i64 ka, .int .i64 sa, .slice Ab na cb, .slice Bb mb db] 26)).heap.size := by simp <;> omega
  have xb0 : ((w.alloc (.cells #[.int .i64 ka, .int .i64 sa, .slice Aa na ca, .slice Ba ma da] 26)).alloc (.cells #[.int .i64 ka, .int .i64 sa, .slice Ab na cb, .slice Bb mb db] 26)).cell? ⟨w.heap.size + 1, 0, none⟩ = some (.int .i64 ka) := by simp [go_sem]
  have xb1 : ((w.alloc (.cells #[.int .i64 ka, .int .i64 sa, .slice Aa na ca, .slice Ba ma da] 26)).alloc (.cells #[.int .i64 ka, .int .i64 sa, .slice Ab na cb, .slice Bb mb db] 26)).cell? ⟨w.heap.size + 1, 1, none⟩ = some (.int .i64 sa) := by simp [go_sem]
  have xb2 : ((w.alloc (.cells #[.int .i64 ka, .int .i64 sa, .slice Aa na ca, .slice Ba ma da] 26)).alloc (.cells #[.int .i64 ka, .int .i64 sa, .slice Ab na cb, .slice Bb mb db] 26)).cell? ⟨w.heap.size + 1, 2, none⟩ = some (.slice Ab na cb) := by simp [go_sem]
  have xb3 : ((w.alloc (.cells #[.int .i64 ka, .int .i64 sa, .slice Aa na ca, .slice Ba ma da] 26)).alloc (.cells #[.int .i64 ka, .int .i64 sa, .slice Ab na cb, .slice Bb mb db] 26)).cell? ⟨w.heap.size + 1, 3, none⟩ = some (.slice Bb mb db) := by simp [go_sem]
  have xbl : w.heap.size + 1 < ((w.alloc (.cells #[.int .i64 ka, .int .i64 sa, .slice Aa na ca, .slice Ba ma da] 26)).alloc (.cells #[.int .i64 ka, .int .i64 sa, .slice Ab na cb, .slice Bb mb db] 26)).heap.size := by simp <;> omega
  generalize (w.alloc (.cells #[.int .i64 ka, .int .i64 sa, .slice Aa na ca, .slice Ba ma da] 26)).alloc (.cells #[.int .i64 ka, .int .i64 sa, .slice Ab na cb, .slice Bb mb db] 26) = v1 at *
  have Xa2 := Lib.hid xa2
  have Xa3 := Lib.hid xa3
  have Xb2 := Lib.hid xb2
  have Xb3 := Lib.hid xb3
  have XAL := Lib.hid xal
  have XBL := Lib.hid xbl
  have CCV := Lib.hid cc
  have HCa := Lib.hid (hCa.on cc)
  have HCb := Lib.hid (hCb.on cc)
  have HWa := Lib.hid (hWa.on cc)
  have HWb := Lib.hid (hWb.on cc)
  clear xa0 xa1 xa2 xa3 xb0 xb1 xb2 xb3 xal xbl cc hCa hCb hWa hWb
  go_wp2_with fail
  go_loopw [5] (fun iv wr => ∃ i : Nat, i ≤ na ∧ iv = .int .i64 (i : Int) ∧ (∀ j, j < i → Ca[j]?.getD 0 = Cb[j]?.getD 0) ∧ Below v1.heap.size v1 wr) (fun iv _ => na - (intOf iv).toNat)
  case atStart => exact ⟨0, by omega, rfl, fun j h => absurd h (by omega), Below.refl _ _⟩
  case round =>
    obtain ⟨i, hi, rfl, hj, hbl⟩ := hrel
    have xa2 := (hbl.cell (p := ⟨w.heap.size, 2, none⟩) XAL.out).trans Xa2.out
    have xa3 := (hbl.cell (p := ⟨w.heap.size, 3, none⟩) XAL.out).trans Xa3.out
    have xb2 := (hbl.cell (p := ⟨w.heap.size + 1, 2, none⟩) XBL.out).trans Xb2.out
    have xb3 := (hbl.cell (p := ⟨w.heap.size + 1, 3, none⟩) XBL.out).trans Xb3.out
    have cc := CCV.out.trans (hbl.mono CCV.out.size)
    have l1 := HCa.out.1
    have l2 := HCb.out.1
    by_cases hlt : i < na
    · obtain ⟨b1, o1, rfl, hb1, hc1⟩ := (HCa.out.on hbl).2.2.2 (by omega)
      obtain ⟨b2, o2, rfl, hb2, hc2⟩ := (HCb.out.on hbl).2.2.2 (by omega)
      have h1 := hc1 i hlt
      have h2 := hc2 i hlt
      have k3 : IntKind.i64.wrap ((i : Int) + 1) = ((i + 1 : Nat) : Int) := by rw [IntWalk.i64_in _ (by omega)]; omega
      obtain ⟨x, hx⟩ : ∃ x, Ca[i]?.getD 0 = x := ⟨_, rfl⟩
      obtain ⟨y, hy⟩ : ∃ y, Cb[i]?.getD 0 = y := ⟨_, rfl⟩
      have x6 : (x : Int) < 256 := by have := HCa.out.at hlt; rw [hx] at this; omega
      have y6 : (y : Int) < 256 := by have := HCb.out.at hlt; rw [hy] at this; omega
      rw [hx] at h1
      rw [hy] at h2
      clear hc1 hc2
      by_cases hxy : x = y
      · subst hxy
        have HJ : Hid (∀ j, j < i + 1 → Ca[j]?.getD 0 = Cb[j]?.getD 0) := Lib.hid (fun j h => by
          rcases Nat.lt_or_ge j i with e | e
          · exact hj j e
          · have e2 : j = i := by omega
            rw [e2, hx, hy])
        clear hj hx hy l1 l2
        go_wp2_with fail
        go_region_held3 (fun w' => w'.cell? ⟨b1, o1 + i, none⟩ = some (.int .u8 (x : Int)) ∧ w'.cell? ⟨b2, o2 + i, none⟩ = some (.int .u8 (x : Int)) ∧ w'.cell? ⟨w.heap.size, 2, none⟩ = some (.slice (some ⟨b1, o1, none⟩) na ca) ∧ w'.cell? ⟨w.heap.size + 1, 2, none⟩ = some (.slice (some ⟨b2, o2, none⟩) na cb)) (exact ⟨h1, h2, xa2, xb2⟩) (fail)
        go_wp2_with fail
        go_roundw
        case rel => exact ⟨i + 1, by omega, rfl, HJ.out, below_drewN hbl 1⟩
        case measure => simp [intOf] <;> omega
      · have t1 : ((x : Int) == (y : Int)) = false := beq_eq_false_iff_ne.2 (by omega)
        have t2 : ((x : Int) != (y : Int)) = true := by simp; omega
        have t3 : (x == y) = false := beq_eq_false_iff_ne.2 hxy
        have t4 : (x != y) = true := by simp; exact hxy
        have hF : R = false := by rw [← HR.out]; exact decide_eq_false (fun h => hxy (by rw [← hx, ← hy, h.1]))
        subst hF
        clear hj hx hy l1 l2 hxy
        go_wp2_with fail
        go_region_held3 (fun w' => w'.cell? ⟨b1, o1 + i, none⟩ = some (.int .u8 (x : Int)) ∧ w'.cell? ⟨b2, o2 + i, none⟩ = some (.int .u8 (y : Int)) ∧ w'.cell? ⟨w.heap.size, 2, none⟩ = some (.slice (some ⟨b1, o1, none⟩) na ca) ∧ w'.cell? ⟨w.heap.size + 1, 2, none⟩ = some (.slice (some ⟨b2, o2, none⟩) na cb)) (exact ⟨h1, h2, xa2, xb2⟩) (fail)
        go_wp2_with fail
        go_ret
        exact ⟨rfl, below_drewN cc 1⟩
    · obtain rfl : i = na := by omega
      have hE : R = decide (Wa = Wb) := by
        have hC : Ca = Cb := List.ext_getElem (by omega) fun j h1 h2 => by
          have := hj j (by omega)
          rwa [List.getElem?_eq_getElem h1, List.getElem?_eq_getElem h2] at this
        rw [← HR.out]
        by_cases h : Wa = Wb <;> simp [hC, h]
      obtain ⟨r, hr⟩ : ∃ r, decide (Wa = Wb) = r := ⟨_, rfl⟩
      rw [hr] at hE
      subst hE
      clear hj l1 l2
      have CW : Calls Try.prog 11 #[.slice Ba ma da, .slice Bb mb db] wr (GotV wr (.bool R)) := by rw [← hr]; exact rsame9_any (HWa.out.on hbl) (HWb.out.on hbl) hma
      clear hr HR
      go_wp2_with fail
      refine CW.mono ?_
      rintro e w9 ⟨rfl, b⟩
      replace cc := cc.trans (b.mono cc.size)
      go_wp2_with fail
      go_ret
      exact ⟨rfl, cc⟩

theorem rSame_N {w : World} {ka sa : Int} {Aa Ba : Option Addr} {na ca ma da : Nat} {kb sb : Int} {Ab Bb : Option Addr} {nb cb mb db : Nat} {Ca : List Nat} {Wa : List Int} (hCa : BR w Aa na ca Ca) (hWa : IR w Ba ma da Wa) (hna : na ≤ 9223372036854775807) (hma : ma ≤ 9223372036854775807) {Cb : List Nat} {Wb : List Int} (hCb : BR w Ab nb cb Cb) (hWb : IR w Bb mb db Wb) (hnb : nb ≤ 9223372036854775807) (hmb : mb ≤ 9223372036854775807) : Calls Try.prog 9 #[.agg #[.int .i64 ka, .int .i64 sa, .slice Aa na ca, .slice Ba ma da], .agg #[.int .i64 kb, .int .i64 sb, .slice Ab nb cb, .slice Bb mb db]] w (GotV w (.bool (decide (ka = kb ∧ sa = sb ∧ Ca = Cb ∧ Wa = Wb)))) := by
  by_cases a0 : ka = kb
  · by_cases a1 : sa = sb
    · by_cases a2 : na = nb
      · have e : decide (ka = kb ∧ sa = sb ∧ Ca = Cb ∧ Wa = Wb) = decide (Ca = Cb ∧ Wa = Wb) := by simp [a0, a1]
        rw [e]; exact rSame_eq a0 a1 a2 hCa hWa hna hma hCb hWb hnb hmb
      · rw [decide_eq_false (fun h => a2 (by rw [hCa.1, hCb.1, h.2.2.1]))]; exact rSame_n a0 a1 a2
    · rw [decide_eq_false (fun h => a1 h.2.1)]; exact rSame_s a0 a1
  · rw [decide_eq_false (fun h => a0 h.1)]; exact rSame_k a0

end Go.Proofs.Ytlmcpgahjfepjaa
