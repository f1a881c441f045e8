/-
  The walk of BlockRight.
-/
import Derived.Test.YtlmcpgahjfepjaaWOrd11
namespace Go.Proofs.Ytlmcpgahjfepjaa
set_option maxRecDepth 100000
open Go.RowKit
set_option linter.unusedVariables false
set_option linter.unusedSimpArgs false






/-- What is packed and loaded. -/
def back11 (k : Int) (L : List Int) : List Int := (L.map (pk k (gr L))).map (ld k (gr L))
theorem back11_at {k : Int} {L : List Int} {j : Nat} (hj : j < L.length) : (back11 k L)[j]?.getD 0 = ld k (gr L) (pk k (gr L) (L[j]?.getD 0)) := by
  unfold back11
  rw [map_at (d := 0) (by rw [List.length_map]; exact hj), map_at (d := 0) hj]
theorem back11_len (k : Int) (L : List Int) : (back11 k L).length = L.length := by unfold back11; rw [List.length_map, List.length_map]
theorem back11_in {k : Int} {L : List Int} (h : Kind9 k) (j : Nat) : -gr L ≤ (back11 k L)[j]?.getD 0 ∧ (back11 k L)[j]?.getD 0 ≤ gr L := by
  have h0 := gr_pos L
  rcases Nat.lt_or_ge j L.length with hj | hj
  · rw [back11_at hj]
    have := ld_in h h0 (pk_le k (gr L) (L[j]?.getD 0))
    exact ⟨this.1, this.2.1⟩
  · rw [List.getElem?_eq_none (by rw [back11_len]; exact hj)]
    show -gr L ≤ 0 ∧ 0 ≤ gr L
    omega
theorem back11_gr {k : Int} {L : List Int} (h : Kind9 k) : gr (back11 k L) ≤ gr L := gr_le (gr_pos L) fun j _ => by have := back11_in (L := L) h j; omega
theorem back11_top {k : Int} {L : List Int} (h : Kind9 k) (ho : OkP k L) (hs : sig9 k = false) : gr L = gr (back11 k L) := by
  have h1 := back11_gr (L := L) h
  have h2 := gr_pos (back11 k L)
  rcases grk_some L L.length with e | ⟨j, hj, e⟩
  · have e : gr L = 0 := e
    omega
  · have e : L[j]?.getD 0 = gr L ∨ L[j]?.getD 0 = -gr L := e
    have hp := (okP_at ho h (mem_at (d := 0) hj)).2.2
    rw [hs] at hp
    rcases Int.lt_or_le 0 (gr L) with h0 | h0
    · have ex : L[j]?.getD 0 = gr L := by
        rcases hp with hp | hp
        · omega
        · cases hp
      have hb := back11_at (k := k) hj
      rw [ex, pk_top h h0, ld_top h] at hb
      have := (gr_ge (L := back11 k L) (j := j) (by rw [back11_len]; exact hj)).1
      omega
    · omega
theorem back11_fit {k : Int} {L : List Int} (h : Kind9 k) (hi : ∀ x ∈ L, I64 x) (ho : OkP k L) (j : Nat) : I64 ((back11 k L)[j]?.getD 0) ∧ (back11 k L)[j]?.getD 0 ≠ -9223372036854775808 := by
  have h1 := back11_in (L := L) h j
  have h2 := gr_i64 hi ho
  unfold I64 at *
  omega
theorem okP_4 {L : List Int} (h : ∀ x ∈ L, x ≠ -9223372036854775808) : OkP 4 L := ⟨by omega, fun x hx => ⟨h x hx, fun e => by omega⟩⟩
theorem i64_k4 : I64 4 := by unfold I64; omega
theorem wide_ok {L : List Int} (h : ∀ x ∈ L, x ≠ -9223372036854775808) (hl : L.length ≤ 4096) : OkB 4 0 [] L := .inr ⟨rfl, by simp; exact hl, h, rfl, rfl⟩
theorem packW {w : World} {A : Option Addr} {n c : Nat} {M : List Int} (hA : IR w A n c M) (hi : ∀ x ∈ M, I64 x) (hn : n ≤ 20) (h : ∀ x ∈ M, x ≠ -9223372036854775808) : Calls Try.prog 8 #[.int .i64 4, .slice A n c] w (GotBp w 4 0 [] M 0) := by
  obtain ⟨e1, e2, e3⟩ := pk_len4 4 M rfl
  have := bkPack_yes i64_k4 hA hi hn (okP_4 h)
  rwa [e1, e2, e3] at this
theorem loadW {w : World} {A B : Option Addr} {n c m d : Nat} {M : List Int} (hC : BR w A n c []) (hW : IR w B m d M) (h : ∀ x ∈ M, x ≠ -9223372036854775808) (hl : M.length ≤ 4096) : Calls Try.prog 10 #[.agg #[.int .i64 4, .int .i64 0, .slice A n c, .slice B m d]] w (GotI w M) := bkLoad_N hC hW (wide_ok h hl) (by decide)
theorem all_at {L : List Int} {P : Int → Prop} (h : ∀ j : Nat, j < L.length → P (L[j]?.getD 0)) : ∀ x ∈ L, P x := fun x hx => by obtain ⟨j, hj, rfl⟩ := at_mem 0 hx; exact h j hj
end Go.Proofs.Ytlmcpgahjfepjaa
