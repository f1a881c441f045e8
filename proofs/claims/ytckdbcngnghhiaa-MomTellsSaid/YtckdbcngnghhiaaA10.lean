/-
  Several texts in one: C17g, N17, G17, C17h, JMd.
-/
import Derived.Test.YtckdbcngnghhiaaA9
import Derived.Test.YtckdbcngnghhiaaA2
import Derived.Test.YtckdbcngnghhiaaA4
import Derived.Test.YtckdbcngnghhiaaA6

/-
  The seventeenth reference: Step, where there is none.
-/
namespace Go.Proofs.Ytckdbcngnghhiaa
set_option maxRecDepth 100000
set_option maxHeartbeats 8000000
open Go.RowKit
set_option linter.unusedVariables false
set_option linter.unusedSimpArgs false

/-- All four cells of a box of rows are written. -/
@[reducible] def put4 (W : World) (g : Nat) (a b c d : Value) : World := (((W.setCell ⟨g, 0, none⟩ a).setCell ⟨g, 1, none⟩ b).setCell ⟨g, 2, none⟩ c).setCell ⟨g, 3, none⟩ d
theorem below_put4 {C g : Nat} {V W : World} (h : Below C V W) (hg : C ≤ g) (a b c d : Value) : Below C V (put4 W g a b c d) := (((h.setCell (p := ⟨g, 0, none⟩) hg a).setCell (p := ⟨g, 1, none⟩) hg b).setCell (p := ⟨g, 2, none⟩) hg c).setCell (p := ⟨g, 3, none⟩) hg d

theorem nStep17_k {w : World} {lr mu wd f : Int} {ne : Bool} {Aw : Option Addr} {nw cw : Nat} {Am : Option Addr} {nm cm : Nat} {Av : Option Addr} {nv cv : Nat} {Ag : Option Addr} {ng cg : Nat} (hK : ¬ OkM17 lr mu wd f) :
    Calls Try.prog 11 #[.agg #[.int .i64 lr, .int .i64 mu, .int .i64 wd, .bool ne], .int .i64 f, .agg #[.slice Aw nw cw, .slice Am nm cm, .slice Av nv cv, .slice Ag ng cg]] w (GotV w (.tuple #[.agg #[.slice none 0 0, .slice none 0 0, .slice none 0 0, .slice none 0 0], .int .i64 1])) := by
  have CR : ∀ W : World, Calls Try.prog 13 #[.agg #[.int .i64 lr, .int .i64 mu, .int .i64 wd, .bool ne], .int .i64 f] W (GotV W (.bool false)) := fun W => by have h := nRight17_N (w := W) (lr := lr) (mu := mu) (wd := wd) (f := f) (ne := ne); rw [decide_eq_false hK] at h; exact h
  clear hK
  have cc := Below.refl w.heap.size w
  go_enter Try.func11, Try.ntmps11
  go_upto_region 1 with fail
  generalize hv_ : ((w.alloc (.cells #[.int .i64 lr, .int .i64 mu, .int .i64 wd, .bool ne] 23)).alloc (.cells #[.slice Aw nw cw, .slice Am nm cm, .slice Av nv cv, .slice Ag ng cg] 26)).alloc (.cells #[.slice none 0 0, .slice none 0 0, .slice none 0 0, .slice none 0 0] 26) = v1
  have f0 : v1.frozen? ⟨w.heap.size + 1 + 1, 0, none⟩ = false := by simp [← hv_, go_sem]
  have f1 : v1.frozen? ⟨w.heap.size + 1 + 1, 1, none⟩ = false := by simp [← hv_, go_sem]
  have f2 : v1.frozen? ⟨w.heap.size + 1 + 1, 2, none⟩ = false := by simp [← hv_, go_sem]
  have f3 : v1.frozen? ⟨w.heap.size + 1 + 1, 3, none⟩ = false := by simp [← hv_, go_sem]
  have bA : Below w.heap.size w v1 := by rw [← hv_]; exact ((((Below.refl _ w).alloc (by simp) _).alloc (by simp) _).alloc (by simp <;> omega) _)
  replace cc := bK cc bA
  clear bA
  have pa0 : v1.cell? ⟨w.heap.size, 0, none⟩ = some (.int .i64 lr) := by simp [← hv_, go_sem]
  have pa1 : v1.cell? ⟨w.heap.size, 1, none⟩ = some (.int .i64 mu) := by simp [← hv_, go_sem]
  have pa2 : v1.cell? ⟨w.heap.size, 2, none⟩ = some (.int .i64 wd) := by simp [← hv_, go_sem]
  have pa3 : v1.cell? ⟨w.heap.size, 3, none⟩ = some (.bool ne) := by simp [← hv_, go_sem]
  have pal : w.heap.size < v1.heap.size := by simp [← hv_] <;> omega
  have xa0 : v1.cell? ⟨w.heap.size + 1, 0, none⟩ = some (.slice Aw nw cw) := by simp [← hv_, go_sem]
  have xa1 : v1.cell? ⟨w.heap.size + 1, 1, none⟩ = some (.slice Am nm cm) := by simp [← hv_, go_sem]
  have xa2 : v1.cell? ⟨w.heap.size + 1, 2, none⟩ = some (.slice Av nv cv) := by simp [← hv_, go_sem]
  have xa3 : v1.cell? ⟨w.heap.size + 1, 3, none⟩ = some (.slice Ag ng cg) := by simp [← hv_, go_sem]
  have xal : w.heap.size + 1 < v1.heap.size := by simp [← hv_] <;> omega
  have g0 : v1.cell? ⟨w.heap.size + 1 + 1, 0, none⟩ = some (.slice none 0 0) := by simp [← hv_, go_sem]
  have g1 : v1.cell? ⟨w.heap.size + 1 + 1, 1, none⟩ = some (.slice none 0 0) := by simp [← hv_, go_sem]
  have g2 : v1.cell? ⟨w.heap.size + 1 + 1, 2, none⟩ = some (.slice none 0 0) := by simp [← hv_, go_sem]
  have g3 : v1.cell? ⟨w.heap.size + 1 + 1, 3, none⟩ = some (.slice none 0 0) := by simp [← hv_, go_sem]
  have gl : w.heap.size + 1 + 1 < v1.heap.size := by simp [← hv_] <;> omega
  clear hv_
  go_wp2_with fail
  refine (CR _).mono ?_
  rintro e w2 ⟨rfl, b⟩
  rewrite [fR b gl] at f0 f1 f2 f3
  rewrite [cR b pal] at pa0 pa1 pa2 pa3
  replace pal := lK b pal
  rewrite [cR b xal] at xa0 xa1 xa2 xa3
  replace xal := lK b xal
  rewrite [cR b gl] at g0 g1 g2 g3
  replace gl := lK b gl
  replace cc := bK cc b
  clear b
  have HBF := Lib.hid (below_put4 cc (show w.heap.size ≤ w.heap.size + 1 + 1 by omega) (.slice none 0 0) (.slice none 0 0) (.slice none 0 0) (.slice none 0 0))
  clear cc
  go_wp2_with fail
  refine bodyPost_ret (v := .tuple #[.agg #[.slice none 0 0, .slice none 0 0, .slice none 0 0, .slice none 0 0], .int .i64 1]) (by simp [results, Try.results11, go_sem, g0, g1, g2, g3]) rfl ⟨rfl, HBF.out⟩

theorem nStep17_m {w : World} {lr mu wd f : Int} {ne : Bool} {Aw : Option Addr} {nw cw : Nat} {Am : Option Addr} {nm cm : Nat} {Av : Option Addr} {nv cv : Nat} {Ag : Option Addr} {ng cg : Nat} (hK : OkM17 lr mu wd f) (q : nm ≠ nw) :
    Calls Try.prog 11 #[.agg #[.int .i64 lr, .int .i64 mu, .int .i64 wd, .bool ne], .int .i64 f, .agg #[.slice Aw nw cw, .slice Am nm cm, .slice Av nv cv, .slice Ag ng cg]] w (GotV w (.tuple #[.agg #[.slice none 0 0, .slice none 0 0, .slice none 0 0, .slice none 0 0], .int .i64 5])) := by
  have CR : ∀ W : World, Calls Try.prog 13 #[.agg #[.int .i64 lr, .int .i64 mu, .int .i64 wd, .bool ne], .int .i64 f] W (GotV W (.bool true)) := fun W => by have h := nRight17_N (w := W) (lr := lr) (mu := mu) (wd := wd) (f := f) (ne := ne); rw [decide_eq_true hK] at h; exact h
  clear hK
  have t0 : ((nm : Int) == (nw : Int)) = false := beq_eq_false_iff_ne.2 (by omega)
  have t1 : ((nm : Int) != (nw : Int)) = true := by simp; omega
  have t2 : (nm == nw) = false := beq_eq_false_iff_ne.2 q
  have t3 : (nm != nw) = true := by simp; omega
  clear q
  have cc := Below.refl w.heap.size w
  go_enter Try.func11, Try.ntmps11
  go_upto_region 1 with fail
  generalize hv_ : ((w.alloc (.cells #[.int .i64 lr, .int .i64 mu, .int .i64 wd, .bool ne] 23)).alloc (.cells #[.slice Aw nw cw, .slice Am nm cm, .slice Av nv cv, .slice Ag ng cg] 26)).alloc (.cells #[.slice none 0 0, .slice none 0 0, .slice none 0 0, .slice none 0 0] 26) = v1
  have f0 : v1.frozen? ⟨w.heap.size + 1 + 1, 0, none⟩ = false := by simp [← hv_, go_sem]
  have f1 : v1.frozen? ⟨w.heap.size + 1 + 1, 1, none⟩ = false := by simp [← hv_, go_sem]
  have f2 : v1.frozen? ⟨w.heap.size + 1 + 1, 2, none⟩ = false := by simp [← hv_, go_sem]
  have f3 : v1.frozen? ⟨w.heap.size + 1 + 1, 3, none⟩ = false := by simp [← hv_, go_sem]
  have bA : Below w.heap.size w v1 := by rw [← hv_]; exact ((((Below.refl _ w).alloc (by simp) _).alloc (by simp) _).alloc (by simp <;> omega) _)
  replace cc := bK cc bA
  clear bA
  have pa0 : v1.cell? ⟨w.heap.size, 0, none⟩ = some (.int .i64 lr) := by simp [← hv_, go_sem]
  have pa1 : v1.cell? ⟨w.heap.size, 1, none⟩ = some (.int .i64 mu) := by simp [← hv_, go_sem]
  have pa2 : v1.cell? ⟨w.heap.size, 2, none⟩ = some (.int .i64 wd) := by simp [← hv_, go_sem]
  have pa3 : v1.cell? ⟨w.heap.size, 3, none⟩ = some (.bool ne) := by simp [← hv_, go_sem]
  have pal : w.heap.size < v1.heap.size := by simp [← hv_] <;> omega
  have xa0 : v1.cell? ⟨w.heap.size + 1, 0, none⟩ = some (.slice Aw nw cw) := by simp [← hv_, go_sem]
  have xa1 : v1.cell? ⟨w.heap.size + 1, 1, none⟩ = some (.slice Am nm cm) := by simp [← hv_, go_sem]
  have xa2 : v1.cell? ⟨w.heap.size + 1, 2, none⟩ = some (.slice Av nv cv) := by simp [← hv_, go_sem]
  have xa3 : v1.cell? ⟨w.heap.size + 1, 3, none⟩ = some (.slice Ag ng cg) := by simp [← hv_, go_sem]
  have xal : w.heap.size + 1 < v1.heap.size := by simp [← hv_] <;> omega
  have g0 : v1.cell? ⟨w.heap.size + 1 + 1, 0, none⟩ = some (.slice none 0 0) := by simp [← hv_, go_sem]
  have g1 : v1.cell? ⟨w.heap.size + 1 + 1, 1, none⟩ = some (.slice none 0 0) := by simp [← hv_, go_sem]
  have g2 : v1.cell? ⟨w.heap.size + 1 + 1, 2, none⟩ = some (.slice none 0 0) := by simp [← hv_, go_sem]
  have g3 : v1.cell? ⟨w.heap.size + 1 + 1, 3, none⟩ = some (.slice none 0 0) := by simp [← hv_, go_sem]
  have gl : w.heap.size + 1 + 1 < v1.heap.size := by simp [← hv_] <;> omega
  clear hv_
  go_wp2_with fail
  refine (CR _).mono ?_
  rintro e w2 ⟨rfl, b⟩
  rewrite [fR b gl] at f0 f1 f2 f3
  rewrite [cR b pal] at pa0 pa1 pa2 pa3
  replace pal := lK b pal
  rewrite [cR b xal] at xa0 xa1 xa2 xa3
  replace xal := lK b xal
  rewrite [cR b gl] at g0 g1 g2 g3
  replace gl := lK b gl
  replace cc := bK cc b
  clear b
  have HBF := Lib.hid (below_put4 cc (show w.heap.size ≤ w.heap.size + 1 + 1 by omega) (.slice none 0 0) (.slice none 0 0) (.slice none 0 0) (.slice none 0 0))
  clear cc
  go_wp2_with fail
  refine bodyPost_ret (v := .tuple #[.agg #[.slice none 0 0, .slice none 0 0, .slice none 0 0, .slice none 0 0], .int .i64 5]) (by simp [results, Try.results11, go_sem, g0, g1, g2, g3]) rfl ⟨rfl, HBF.out⟩

theorem nStep17_g {w : World} {lr mu wd f : Int} {ne : Bool} {Aw : Option Addr} {nw cw : Nat} {Am : Option Addr} {nm cm : Nat} {Av : Option Addr} {nv cv : Nat} {Ag : Option Addr} {ng cg : Nat} (hK : OkM17 lr mu wd f) (q : nm = nw) (q2 : ng ≠ nw) :
    Calls Try.prog 11 #[.agg #[.int .i64 lr, .int .i64 mu, .int .i64 wd, .bool ne], .int .i64 f, .agg #[.slice Aw nw cw, .slice Am nm cm, .slice Av nv cv, .slice Ag ng cg]] w (GotV w (.tuple #[.agg #[.slice none 0 0, .slice none 0 0, .slice none 0 0, .slice none 0 0], .int .i64 5])) := by
  have CR : ∀ W : World, Calls Try.prog 13 #[.agg #[.int .i64 lr, .int .i64 mu, .int .i64 wd, .bool ne], .int .i64 f] W (GotV W (.bool true)) := fun W => by have h := nRight17_N (w := W) (lr := lr) (mu := mu) (wd := wd) (f := f) (ne := ne); rw [decide_eq_true hK] at h; exact h
  clear hK
  subst q
  have t0 : ((ng : Int) == (nm : Int)) = false := beq_eq_false_iff_ne.2 (by omega)
  have t1 : ((ng : Int) != (nm : Int)) = true := by simp; omega
  have t2 : (ng == nm) = false := beq_eq_false_iff_ne.2 q2
  have t3 : (ng != nm) = true := by simp; omega
  clear q2
  have cc := Below.refl w.heap.size w
  go_enter Try.func11, Try.ntmps11
  go_upto_region 1 with fail
  generalize hv_ : ((w.alloc (.cells #[.int .i64 lr, .int .i64 mu, .int .i64 wd, .bool ne] 23)).alloc (.cells #[.slice Aw nm cw, .slice Am nm cm, .slice Av nv cv, .slice Ag ng cg] 26)).alloc (.cells #[.slice none 0 0, .slice none 0 0, .slice none 0 0, .slice none 0 0] 26) = v1
  have f0 : v1.frozen? ⟨w.heap.size + 1 + 1, 0, none⟩ = false := by simp [← hv_, go_sem]
  have f1 : v1.frozen? ⟨w.heap.size + 1 + 1, 1, none⟩ = false := by simp [← hv_, go_sem]
  have f2 : v1.frozen? ⟨w.heap.size + 1 + 1, 2, none⟩ = false := by simp [← hv_, go_sem]
  have f3 : v1.frozen? ⟨w.heap.size + 1 + 1, 3, none⟩ = false := by simp [← hv_, go_sem]
  have bA : Below w.heap.size w v1 := by rw [← hv_]; exact ((((Below.refl _ w).alloc (by simp) _).alloc (by simp) _).alloc (by simp <;> omega) _)
  replace cc := bK cc bA
  clear bA
  have pa0 : v1.cell? ⟨w.heap.size, 0, none⟩ = some (.int .i64 lr) := by simp [← hv_, go_sem]
  have pa1 : v1.cell? ⟨w.heap.size, 1, none⟩ = some (.int .i64 mu) := by simp [← hv_, go_sem]
  have pa2 : v1.cell? ⟨w.heap.size, 2, none⟩ = some (.int .i64 wd) := by simp [← hv_, go_sem]
  have pa3 : v1.cell? ⟨w.heap.size, 3, none⟩ = some (.bool ne) := by simp [← hv_, go_sem]
  have pal : w.heap.size < v1.heap.size := by simp [← hv_] <;> omega
  have xa0 : v1.cell? ⟨w.heap.size + 1, 0, none⟩ = some (.slice Aw nm cw) := by simp [← hv_, go_sem]
  have xa1 : v1.cell? ⟨w.heap.size + 1, 1, none⟩ = some (.slice Am nm cm) := by simp [← hv_, go_sem]
  have xa2 : v1.cell? ⟨w.heap.size + 1, 2, none⟩ = some (.slice Av nv cv) := by simp [← hv_, go_sem]
  have xa3 : v1.cell? ⟨w.heap.size + 1, 3, none⟩ = some (.slice Ag ng cg) := by simp [← hv_, go_sem]
  have xal : w.heap.size + 1 < v1.heap.size := by simp [← hv_] <;> omega
  have g0 : v1.cell? ⟨w.heap.size + 1 + 1, 0, none⟩ = some (.slice none 0 0) := by simp [← hv_, go_sem]
  have g1 : v1.cell? ⟨w.heap.size + 1 + 1, 1, none⟩ = some (.slice none 0 0) := by simp [← hv_, go_sem]
  have g2 : v1.cell? ⟨w.heap.size + 1 + 1, 2, none⟩ = some (.slice none 0 0) := by simp [← hv_, go_sem]
  have g3 : v1.cell? ⟨w.heap.size + 1 + 1, 3, none⟩ = some (.slice none 0 0) := by simp [← hv_, go_sem]
  have gl : w.heap.size + 1 + 1 < v1.heap.size := by simp [← hv_] <;> omega
  clear hv_
  go_wp2_with fail
  refine (CR _).mono ?_
  rintro e w2 ⟨rfl, b⟩
  rewrite [fR b gl] at f0 f1 f2 f3
  rewrite [cR b pal] at pa0 pa1 pa2 pa3
  replace pal := lK b pal
  rewrite [cR b xal] at xa0 xa1 xa2 xa3
  replace xal := lK b xal
  rewrite [cR b gl] at g0 g1 g2 g3
  replace gl := lK b gl
  replace cc := bK cc b
  clear b
  have HBF := Lib.hid (below_put4 cc (show w.heap.size ≤ w.heap.size + 1 + 1 by omega) (.slice none 0 0) (.slice none 0 0) (.slice none 0 0) (.slice none 0 0))
  clear cc
  go_wp2_with fail
  refine bodyPost_ret (v := .tuple #[.agg #[.slice none 0 0, .slice none 0 0, .slice none 0 0, .slice none 0 0], .int .i64 5]) (by simp [results, Try.results11, go_sem, g0, g1, g2, g3]) rfl ⟨rfl, HBF.out⟩

end Go.Proofs.Ytckdbcngnghhiaa

/-
  Rows of steps, place by place.
-/
namespace Go.Proofs.Ytckdbcngnghhiaa
set_option linter.unusedVariables false
set_option linter.unusedSimpArgs false

/-- The step at a place: its velocity, its weight. -/
def sV (mu wd : Int) (f : Nat) (W V G : List Int) (j : Nat) : Nm := stV mu wd f (W[j]?.getD 0) (V[j]?.getD 0) (G[j]?.getD 0)
def sW (lr mu wd : Int) (nest : Bool) (f : Nat) (W V G : List Int) (j : Nat) : Nm := stW lr mu wd nest f (W[j]?.getD 0) (V[j]?.getD 0) (G[j]?.getD 0)
theorem range_cons {α : Type} (F : Nat → α) (n : Nat) : (List.range (n + 1)).map F = F 0 :: (List.range n).map (fun j => F (j + 1)) := by
  rw [List.range_succ_eq_map, List.map_cons, List.map_map]; rfl
theorem rowV_eq (mu wd : Int) (f : Nat) : ∀ {W V G : List Int}, V.length = W.length → G.length = W.length → rowV mu wd f W V G = (List.range W.length).map fun j => (sV mu wd f W V G j).1
  | [], V, G, _, _ => by unfold rowV; simp
  | w :: W, [], G, h, _ => by simp at h
  | w :: W, v :: V, [], _, h => by simp at h
  | w :: W, v :: V, g :: G, h1, h2 => by
    have ih := rowV_eq mu wd f (W := W) (V := V) (G := G) (by simpa using h1) (by simpa using h2)
    rw [List.length_cons, range_cons]
    show _ :: rowV mu wd f W V G = _
    rw [ih]; rfl
theorem rowW_eq (lr mu wd : Int) (nest : Bool) (f : Nat) : ∀ {W V G : List Int}, V.length = W.length → G.length = W.length → rowW lr mu wd nest f W V G = (List.range W.length).map fun j => (sW lr mu wd nest f W V G j).1
  | [], V, G, _, _ => by unfold rowW; simp
  | w :: W, [], G, h, _ => by simp at h
  | w :: W, v :: V, [], _, h => by simp at h
  | w :: W, v :: V, g :: G, h1, h2 => by
    have ih := rowW_eq lr mu wd nest f (W := W) (V := V) (G := G) (by simpa using h1) (by simpa using h2)
    rw [List.length_cons, range_cons]
    show _ :: rowW lr mu wd nest f W V G = _
    rw [ih]; rfl
theorem rowOK_iff (lr mu wd : Int) (nest : Bool) (f : Nat) : ∀ {W V G : List Int}, V.length = W.length → G.length = W.length → (rowOK lr mu wd nest f W V G = true ↔ ∀ j, j < W.length → (sW lr mu wd nest f W V G j).2 = true ∧ (sV mu wd f W V G j).2 = true)
  | [], V, G, _, _ => by unfold rowOK; simp
  | w :: W, [], G, h, _ => by simp at h
  | w :: W, v :: V, [], _, h => by simp at h
  | w :: W, v :: V, g :: G, h1, h2 => by
    have ih := rowOK_iff lr mu wd nest f (W := W) (V := V) (G := G) (by simpa using h1) (by simpa using h2)
    have e : rowOK lr mu wd nest f (w :: W) (v :: V) (g :: G) = ((stW lr mu wd nest f w v g).2 && (stV mu wd f w v g).2 && rowOK lr mu wd nest f W V G) := rfl
    rw [e, Bool.and_eq_true, Bool.and_eq_true, ih]
    constructor
    · rintro ⟨⟨a, b⟩, c⟩ j hj
      rcases j with _ | j
      · exact ⟨a, b⟩
      · exact c j (by simpa using hj)
    · intro h
      exact ⟨h 0 (by simp), fun j hj => h (j + 1) (by simpa using hj)⟩
/-- The first i of each. -/
def upV (mu wd : Int) (f : Nat) (W V G : List Int) (i : Nat) : List Int := (List.range i).map fun j => (sV mu wd f W V G j).1
def upW (lr mu wd : Int) (nest : Bool) (f : Nat) (W V G : List Int) (i : Nat) : List Int := (List.range i).map fun j => (sW lr mu wd nest f W V G j).1
theorem upV_succ (mu wd : Int) (f : Nat) (W V G : List Int) (i : Nat) : upV mu wd f W V G (i + 1) = upV mu wd f W V G i ++ [(sV mu wd f W V G i).1] := by unfold upV; rw [List.range_succ, List.map_append]; rfl
theorem upW_succ (lr mu wd : Int) (nest : Bool) (f : Nat) (W V G : List Int) (i : Nat) : upW lr mu wd nest f W V G (i + 1) = upW lr mu wd nest f W V G i ++ [(sW lr mu wd nest f W V G i).1] := by unfold upW; rw [List.range_succ, List.map_append]; rfl
end Go.Proofs.Ytckdbcngnghhiaa

/-
  Two rows of numbers of the call's own, in a box of rows, which grow.
-/
namespace Go.Proofs.Ytckdbcngnghhiaa
open Go.RowKit
set_option linter.unusedVariables false
set_option linter.unusedSimpArgs false

theorem own_any17 {t n : Nat} {w w' : World} {e : TypeId} {size : Nat} {v : Value} {xs : List Value} (hO : w.ownsRow t e size v n xs) (hk : ∀ g, v.ownBlock = some g → w'.heap[g]? = w.heap[g]?) : w'.ownsRow t e size v n xs := by
  obtain ⟨h1, h2⟩ := hO
  refine ⟨h1, ?_⟩
  rcases h2 with h2 | ⟨g', cap', cur, hv, hg, hh, r⟩
  · exact Or.inl h2
  · exact Or.inr ⟨g', cap', cur, hv, hg, by rw [hk g' (by rw [hv]; rfl)]; exact hh, r⟩
theorem ir_keep17 {w w' : World} {A : Option Addr} {n c : Nat} {l : List Int} (h : IR w A n c l) (hk : ∀ q, 0 < n → A = some q → w'.heap[q.block]? = w.heap[q.block]?) (hs : w.heap.size ≤ w'.heap.size) : IR w' A n c l :=
  ⟨h.1, h.2.1, fun hp => by
    obtain ⟨b, off, e, hlt, hc⟩ := h.2.2 hp
    have hb : w'.heap[b]? = w.heap[b]? := hk _ hp e
    exact ⟨b, off, e, Nat.lt_of_lt_of_le hlt hs, fun j hj => (World.cell?_of_block (w := w) (a := ⟨b, off + j, none⟩) hb).trans (hc j hj)⟩⟩
theorem cells4 {W : World} {g : Nat} {a b c d : Value} {T : TypeId} (h : W.heap[g]? = some (.cells #[a, b, c, d] T)) : W.cell? ⟨g, 0, none⟩ = some a ∧ W.cell? ⟨g, 1, none⟩ = some b ∧ W.cell? ⟨g, 2, none⟩ = some c ∧ W.cell? ⟨g, 3, none⟩ = some d :=
  ⟨cell_of_row W g 0 #[a, b, c, d] T _ h, cell_of_row W g 1 #[a, b, c, d] T _ h, cell_of_row W g 2 #[a, b, c, d] T _ h, cell_of_row W g 3 #[a, b, c, d] T _ h⟩
theorem cells2 {W : World} {g : Nat} {a b : Value} {T : TypeId} (h : W.heap[g]? = some (.cells #[a, b] T)) : W.cell? ⟨g, 0, none⟩ = some a ∧ W.cell? ⟨g, 1, none⟩ = some b :=
  ⟨cell_of_row W g 0 #[a, b] T _ h, cell_of_row W g 1 #[a, b] T _ h⟩
theorem fro_of {W : World} {g : Nat} {cs : Array Value} {T : TypeId} (k : Nat) (h : W.heap[g]? = some (.cells cs T)) : W.frozen? ⟨g, k, none⟩ = false := by simp [World.frozen?, h]
/-- A box of rows at go, the first two of which are the call's own, from t on. -/
def Own17 (t go : Nat) (w : World) (p : Option Addr) (n cp : Nat) (q : Option Addr) (m cq : Nat) (LW LM : List Int) : Prop :=
  w.heap[go]? = some (.cells #[.slice p n cp, .slice q m cq, .slice none 0 0, .slice none 0 0] 26) ∧ w.ownsRow t 2 1 (.slice p n cp) n (LW.map encI) ∧ w.ownsRow t 2 1 (.slice q m cq) m (LM.map encI) ∧ ∀ a, (Value.slice p n cp).ownBlock = some a → (Value.slice q m cq).ownBlock ≠ some a
theorem Own17.on {t go : Nat} {w w' : World} {p : Option Addr} {n cp : Nat} {q : Option Addr} {m cq : Nat} {LW LM : List Int} (h : Own17 t go w p n cp q m cq LW LM) (b : Below w.heap.size w w') : Own17 t go w' p n cp q m cq LW LM := by
  obtain ⟨z, hW, hM, hne⟩ := h
  exact ⟨(b.block go (Array.getElem?_eq_some_iff.1 z).1).trans z, own_any17 hW (fun g e => b.block g (hW.lt g e).2), own_any17 hM (fun g e => b.block g (hM.lt g e).2), hne⟩
theorem Own17.fro {t go : Nat} {w : World} {p : Option Addr} {n cp : Nat} {q : Option Addr} {m cq : Nat} {LW LM : List Int} (h : Own17 t go w p n cp q m cq LW LM) (k : Nat) : w.frozen? ⟨go, k, none⟩ = false := by simp [World.frozen?, h.1]
/-- The first row has grown by a number. -/
theorem Own17.pushW {t go n m g1 cap1 cp cq : Nat} {p q : Option Addr} {w w1 : World} {o : Obj} {LW LM : List Int} {y : Int} (h : Own17 t go w p n cp q m cq LW LM) (hgo : go < t) (ht : t ≤ w.heap.size)
    (hown1 : w1.ownsRow t 2 1 (.slice (some ⟨g1, 0, none⟩) (n + 1) cap1) (n + 1) (LW.map encI ++ [.int .i64 y])) (hgrow : (w.alloc o).grownBy w1 (Value.slice p n cp).ownBlock) (hat : (Value.slice p n cp).ownBlock = some g1 ∨ g1 = (w.alloc o).heap.size) :
    Own17 t go (w1.setCell ⟨go, 0, none⟩ (.slice (some ⟨g1, 0, none⟩) (n + 1) cap1)) (some ⟨g1, 0, none⟩) (n + 1) cap1 q m cq (LW ++ [y]) LM ∧ Below go w (w1.setCell ⟨go, 0, none⟩ (.slice (some ⟨g1, 0, none⟩) (n + 1) cap1)) ∧ (∀ b, b < w.heap.size → b ≠ go → (Value.slice p n cp).ownBlock ≠ some b → (w1.setCell ⟨go, 0, none⟩ (.slice (some ⟨g1, 0, none⟩) (n + 1) cap1)).heap[b]? = w.heap[b]?) ∧ w1.heap[go]? = some (.cells #[.slice p n cp, .slice q m cq, .slice none 0 0, .slice none 0 0] 26) ∧ go + 1 ≤ (w1.setCell ⟨go, 0, none⟩ (.slice (some ⟨g1, 0, none⟩) (n + 1) cap1)).heap.size := by
  obtain ⟨z, hW, hM, hne⟩ := h
  have b : Below go w w1 := ((Below.refl go w).alloc (by omega) o).grown hgrow (by simp; omega) (fun k e => by have := (hW.lt k e).1; omega)
  have hal : ∀ k, k < w.heap.size → (w.alloc o).heap[k]? = w.heap[k]? := fun k hk => (one_upD w o).block k hk
  have z1 : w1.heap[go]? = some (.cells #[.slice p n cp, .slice q m cq, .slice none 0 0, .slice none 0 0] 26) := by
    rw [hgrow.block go (by simp; omega) (fun e => by have := (hW.lt go e.symm).1; omega), hal go (by omega)]; exact z
  have hM1 : w1.ownsRow t 2 1 (.slice q m cq) m (LM.map encI) := own_any17 hM (fun g e => by
    have hl := hM.lt g e
    rw [hgrow.block g (by simp; omega) (fun e2 => hne g e2.symm e), hal g hl.2])
  refine ⟨⟨put_cell1 z1, ?_, own_any17 hM1 (fun g e => heap_setCell_other w1 ⟨go, 0, none⟩ g _ (by have := (hM1.lt g e).1; show g ≠ go; omega)), fun a e1 e2 => ?_⟩, b.setCell (p := ⟨go, 0, none⟩) (Nat.le_refl go) _, fun k hk hne2 hno => ?_, z1, by have := hgrow.size; simp at this ⊢; omega⟩
  · rw [List.map_append]
    exact own_any17 hown1 (fun g e => heap_setCell_other w1 ⟨go, 0, none⟩ g _ (by have := (hown1.lt g e).1; show g ≠ go; omega))
  · have e1 : g1 = a := by injection e1
    rcases hat with e3 | e3
    · exact hne a (by rw [e3, e1]) e2
    · have := (hM.lt a e2).2; simp at e3; omega
  · rw [heap_setCell_other w1 ⟨go, 0, none⟩ k _ hne2, hgrow.block k (by simp; omega) (fun e => hno e.symm), hal k hk]
/-- The second row has grown by a number. -/
theorem Own17.pushM {t go n m g1 cap1 cp cq : Nat} {p q : Option Addr} {w w1 : World} {o : Obj} {LW LM : List Int} {y : Int} (h : Own17 t go w p n cp q m cq LW LM) (hgo : go < t) (ht : t ≤ w.heap.size)
    (hown1 : w1.ownsRow t 2 1 (.slice (some ⟨g1, 0, none⟩) (m + 1) cap1) (m + 1) (LM.map encI ++ [.int .i64 y])) (hgrow : (w.alloc o).grownBy w1 (Value.slice q m cq).ownBlock) (hat : (Value.slice q m cq).ownBlock = some g1 ∨ g1 = (w.alloc o).heap.size) :
    Own17 t go (w1.setCell ⟨go, 1, none⟩ (.slice (some ⟨g1, 0, none⟩) (m + 1) cap1)) p n cp (some ⟨g1, 0, none⟩) (m + 1) cap1 LW (LM ++ [y]) ∧ Below go w (w1.setCell ⟨go, 1, none⟩ (.slice (some ⟨g1, 0, none⟩) (m + 1) cap1)) ∧ (∀ b, b < w.heap.size → b ≠ go → (Value.slice q m cq).ownBlock ≠ some b → (w1.setCell ⟨go, 1, none⟩ (.slice (some ⟨g1, 0, none⟩) (m + 1) cap1)).heap[b]? = w.heap[b]?) ∧ w1.heap[go]? = some (.cells #[.slice p n cp, .slice q m cq, .slice none 0 0, .slice none 0 0] 26) ∧ go + 1 ≤ (w1.setCell ⟨go, 1, none⟩ (.slice (some ⟨g1, 0, none⟩) (m + 1) cap1)).heap.size := by
  obtain ⟨z, hW, hM, hne⟩ := h
  have b : Below go w w1 := ((Below.refl go w).alloc (by omega) o).grown hgrow (by simp; omega) (fun k e => by have := (hM.lt k e).1; omega)
  have hal : ∀ k, k < w.heap.size → (w.alloc o).heap[k]? = w.heap[k]? := fun k hk => (one_upD w o).block k hk
  have z1 : w1.heap[go]? = some (.cells #[.slice p n cp, .slice q m cq, .slice none 0 0, .slice none 0 0] 26) := by
    rw [hgrow.block go (by simp; omega) (fun e => by have := (hM.lt go e.symm).1; omega), hal go (by omega)]; exact z
  have hW1 : w1.ownsRow t 2 1 (.slice p n cp) n (LW.map encI) := own_any17 hW (fun g e => by
    have hl := hW.lt g e
    rw [hgrow.block g (by simp; omega) (fun e2 => hne g e e2.symm), hal g hl.2])
  refine ⟨⟨put_cell1 z1, own_any17 hW1 (fun g e => heap_setCell_other w1 ⟨go, 1, none⟩ g _ (by have := (hW1.lt g e).1; show g ≠ go; omega)), ?_, fun a e1 e2 => ?_⟩, b.setCell (p := ⟨go, 1, none⟩) (Nat.le_refl go) _, fun k hk hne2 hno => ?_, z1, by have := hgrow.size; simp at this ⊢; omega⟩
  · rw [List.map_append]
    exact own_any17 hown1 (fun g e => heap_setCell_other w1 ⟨go, 1, none⟩ g _ (by have := (hown1.lt g e).1; show g ≠ go; omega))
  · have e2 : g1 = a := by injection e2
    rcases hat with e3 | e3
    · exact hne a e1 (by rw [e3, e2])
    · have := (hW.lt a e1).2; simp at e3; omega
  · rw [heap_setCell_other w1 ⟨go, 1, none⟩ k _ hne2, hgrow.block k (by simp; omega) (fun e => hno e.symm), hal k hk]
theorem put4_far {W : World} {g b : Nat} {x y z u : Value} (h : b ≠ g) : (put4 W g x y z u).heap[b]? = W.heap[b]? := by
  unfold put4
  rw [heap_setCell_other _ ⟨g, 3, none⟩ b u h, heap_setCell_other _ ⟨g, 2, none⟩ b z h, heap_setCell_other _ ⟨g, 1, none⟩ b y h, heap_setCell_other _ ⟨g, 0, none⟩ b x h]
/-- Two rows are answered, with a code; both are new. -/
def GotS17 (w : World) (LW LM : List Int) (k : Int) (e : Ending) (w' : World) : Prop :=
  ∃ A n c B m d, e = .returned (.tuple #[.agg #[.slice A n c, .slice B m d, .slice none 0 0, .slice none 0 0], .int .i64 k]) ∧ IR w' A n c LW ∧ IR w' B m d LM ∧ Below w.heap.size w w' ∧ (∀ q, A = some q → w.heap.size ≤ q.block) ∧ ∀ q, B = some q → w.heap.size ≤ q.block
theorem Own17.got {t go g : Nat} {w w' : World} {p : Option Addr} {n cp : Nat} {q : Option Addr} {m cq : Nat} {LW LM : List Int} {e : Ending} {k : Int} (h : Own17 t go w' p n cp q m cq LW LM) (cc : Below w.heap.size w w') (hg : w.heap.size ≤ g) (hgt : g < t) (x y z u : Value)
    (he : e = .returned (.tuple #[.agg #[.slice p n cp, .slice q m cq, .slice none 0 0, .slice none 0 0], .int .i64 k])) : GotS17 w LW LM k e (put4 w' g x y z u) := by
  obtain ⟨_, hW, hM, _⟩ := h
  have nb : ∀ {A : Option Addr} {n c : Nat} {L : List Int}, w'.ownsRow t 2 1 (.slice A n c) n (L.map encI) → ∀ r, A = some r → t ≤ r.block := fun {A n c L} hO r e => by
    rcases hO.2 with ⟨e1, _⟩ | ⟨g', cap', cur, hv, hg', _⟩
    · rw [e] at e1; cases e1
    · injection hv with e2; rw [e] at e2; injection e2 with e2; rw [e2]; exact hg'
  refine ⟨p, n, cp, q, m, cq, he, ?_, ?_, below_put4 cc hg x y z u, fun r e => ?_, fun r e => ?_⟩
  · exact ir_keep17 (IR.of_own hW) (fun r _ e => put4_far (by have := nb hW r e; omega)) (by unfold put4; simp)
  · exact ir_keep17 (IR.of_own hM) (fun r _ e => put4_far (by have := nb hM r e; omega)) (by unfold put4; simp)
  · have := nb hW r e; omega
  · have := nb hM r e; omega
end Go.Proofs.Ytckdbcngnghhiaa

/-
  The seventeenth reference: Step, where Mom and the rows' shape may be.
-/
namespace Go.Proofs.Ytckdbcngnghhiaa
set_option maxRecDepth 100000
open Go.RowKit
set_option linter.unusedVariables false
set_option linter.unusedSimpArgs false

set_option maxHeartbeats 8000000 in
theorem nStep17_loop {w : World} {lr mu wd f : Int} {ne : Bool} {Aw : Option Addr} {n cw : Nat} {Am : Option Addr} {cm : Nat} {Av : Option Addr} {nv cv : Nat} {Ag : Option Addr} {cg : Nat} {LW LM LG : List Int} (hK : OkM17 lr mu wd f) (hl : I64 lr) (hm : I64 mu) (hd : I64 wd) (hW : IR w Aw n cw LW) (hM : IR w Am n cm LM) (hG : IR w Ag n cg LG) (iW : ∀ z ∈ LW, I64 z) (iM : ∀ z ∈ LM, I64 z) (iG : ∀ z ∈ LG, I64 z) (kn : n ≤ 2305843009213693951 ∧ (n + 1) * 8 ≤ 140737488355328) :
    Calls Try.prog 11 #[.agg #[.int .i64 lr, .int .i64 mu, .int .i64 wd, .bool ne], .int .i64 f, .agg #[.slice Aw n cw, .slice Am n cm, .slice Av nv cv, .slice Ag n cg]] w
      (GotS17 w (if rowOK lr mu wd ne f.toNat LW LM LG = true then rowW lr mu wd ne f.toNat LW LM LG else []) (if rowOK lr mu wd ne f.toNat LW LM LG = true then rowV mu wd f.toNat LW LM LG else []) (if rowOK lr mu wd ne f.toNat LW LM LG = true then 0 else 2)) := by
  have hn1 := hW.1
  have hn2 := hM.1
  have hn3 := hG.1
  have hRV := rowV_eq mu wd f.toNat (W := LW) (V := LM) (G := LG) (by omega) (by omega)
  have hRW := rowW_eq lr mu wd ne f.toNat (W := LW) (V := LM) (G := LG) (by omega) (by omega)
  have hOK := rowOK_iff lr mu wd ne f.toNat (W := LW) (V := LM) (G := LG) (by omega) (by omega)
  rw [show (List.range LW.length).map (fun j => (sV mu wd f.toNat LW LM LG j).1) = upV mu wd f.toNat LW LM LG n by unfold upV; rw [hn1]] at hRV
  rw [show (List.range LW.length).map (fun j => (sW lr mu wd ne f.toNat LW LM LG j).1) = upW lr mu wd ne f.toNat LW LM LG n by unfold upW; rw [hn1]] at hRW
  rw [← hn1] at hOK
  rw [hRV, hRW]
  have hUV := fun i => upV_succ mu wd f.toNat LW LM LG i
  have hUW := fun i => upW_succ lr mu wd ne f.toNat LW LM LG i
  have at_ : ∀ {L : List Int}, n = L.length → (∀ z ∈ L, I64 z) → ∀ j, I64 (L[j]?.getD 0) := fun {L} e h j => by
    rcases Nat.lt_or_ge j L.length with q | q
    · rw [List.getElem?_eq_getElem q]; exact h _ (List.getElem_mem q)
    · rw [List.getElem?_eq_none q]; show I64 0; unfold I64; omega
  have CS : ∀ (j : Nat) (W : World), Calls Try.prog 25 #[.agg #[.int .i64 lr, .int .i64 mu, .int .i64 wd, .bool ne], .int .i64 f, .agg #[.int .i64 (LW[j]?.getD 0), .int .i64 (LM[j]?.getD 0), .int .i64 (LG[j]?.getD 0)]] W (GotV W (.tuple #[.agg #[.int .i64 (sV mu wd f.toNat LW LM LG j).1, .bool (sV mu wd f.toNat LW LM LG j).2], .agg #[.int .i64 (sW lr mu wd ne f.toNat LW LM LG j).1, .bool (sW lr mu wd ne f.toNat LW LM LG j).2]])) := fun j W => nstep17_N hK.1 hK.2.1 hl hm hd (at_ hn1 iW j) (at_ hn2 iM j) (at_ hn3 iG j)
  have CR : ∀ W : World, Calls Try.prog 13 #[.agg #[.int .i64 lr, .int .i64 mu, .int .i64 wd, .bool ne], .int .i64 f] W (GotV W (.bool true)) := fun W => by have h := nRight17_N (w := W) (lr := lr) (mu := mu) (wd := wd) (f := f) (ne := ne); rw [decide_eq_true hK] at h; exact h
  obtain ⟨XV, eV⟩ : ∃ X : Nat → Nm, (fun j => sV mu wd f.toNat LW LM LG j) = X := ⟨_, rfl⟩
  obtain ⟨XW, eW⟩ : ∃ X : Nat → Nm, (fun j => sW lr mu wd ne f.toNat LW LM LG j) = X := ⟨_, rfl⟩
  have eV1 : ∀ j, sV mu wd f.toNat LW LM LG j = XV j := fun j => by rw [← eV]
  have eW1 : ∀ j, sW lr mu wd ne f.toNat LW LM LG j = XW j := fun j => by rw [← eW]
  obtain ⟨UV, eUV⟩ : ∃ X : Nat → List Int, (fun j => upV mu wd f.toNat LW LM LG j) = X := ⟨_, rfl⟩
  obtain ⟨UW, eUW⟩ : ∃ X : Nat → List Int, (fun j => upW lr mu wd ne f.toNat LW LM LG j) = X := ⟨_, rfl⟩
  have eUV1 : ∀ j, upV mu wd f.toNat LW LM LG j = UV j := fun j => by rw [← eUV]
  have eUW1 : ∀ j, upW lr mu wd ne f.toNat LW LM LG j = UW j := fun j => by rw [← eUW]
  have u0 : UV 0 = [] ∧ UW 0 = [] := ⟨by rw [← eUV]; rfl, by rw [← eUW]; rfl⟩
  obtain ⟨ok, eok⟩ : ∃ b, rowOK lr mu wd ne f.toNat LW LM LG = b := ⟨_, rfl⟩
  simp only [eV1, eW1, eUV1, eUW1, eok] at hUV hUW hOK CS ⊢
  obtain ⟨aW, hAW⟩ : ∃ A, (if ok = true then UW n else []) = A := ⟨_, rfl⟩
  obtain ⟨aV, hAV⟩ : ∃ A, (if ok = true then UV n else []) = A := ⟨_, rfl⟩
  obtain ⟨aC, hAC⟩ : ∃ A, (if ok = true then (0 : Int) else 2) = A := ⟨_, rfl⟩
  rw [hAW, hAV, hAC]
  have HAW := Lib.hid hAW
  have HAV := Lib.hid hAV
  have HAC := Lib.hid hAC
  clear hAW hAV hAC
  have HUV := Lib.hid hUV
  have HUW := Lib.hid hUW
  have HOK := Lib.hid hOK
  have HU0 := Lib.hid u0
  have HCS := Lib.hid CS
  have HKN := Lib.hid kn
  clear hUV hUW hOK u0 CS eV eW eUV eUW eok eV1 eW1 eUV1 eUW1 hRV hRW hn1 hn2 hn3 at_ iW iM iG hK hl hm hd
  have t0 : ((n : Int) == (n : Int)) = true := beq_self_eq_true _
  have t1 : ((n : Int) != (n : Int)) = false := by simp
  obtain ⟨i0, hi, hz0, hz1, hz2⟩ := info_parts infoI
  have cc := Below.refl w.heap.size w
  go_enter Try.func11, Try.ntmps11
  go_upto_region 1 with fail
  have NW : ∀ (W : World) (o : Obj), (W.alloc o).heap[W.heap.size]? = some o := fun W o => World.alloc_heap_new W o
  generalize hv_ : ((w.alloc (.cells #[.int .i64 lr, .int .i64 mu, .int .i64 wd, .bool ne] 23)).alloc (.cells #[.slice Aw n cw, .slice Am n cm, .slice Av nv cv, .slice Ag n cg] 26)).alloc (.cells #[.slice none 0 0, .slice none 0 0, .slice none 0 0, .slice none 0 0] 26) = v1
  have zbm : v1.heap[w.heap.size]? = some (.cells #[.int .i64 lr, .int .i64 mu, .int .i64 wd, .bool ne] 23) := by rw [← hv_]; exact heap_up (heap_up (NW _ _))
  have zbr : v1.heap[w.heap.size + 1]? = some (.cells #[.slice Aw n cw, .slice Am n cm, .slice Av nv cv, .slice Ag n cg] 26) := by rw [← hv_]; exact heap_up (by have h := NW (w.alloc (.cells #[.int .i64 lr, .int .i64 mu, .int .i64 wd, .bool ne] 23)) (.cells #[.slice Aw n cw, .slice Am n cm, .slice Av nv cv, .slice Ag n cg] 26); simpa only [World.size_alloc] using h)
  have zg : v1.heap[w.heap.size + 1 + 1]? = some (.cells #[.slice none 0 0, .slice none 0 0, .slice none 0 0, .slice none 0 0] 26) := by rw [← hv_]; exact by have h := NW ((w.alloc (.cells #[.int .i64 lr, .int .i64 mu, .int .i64 wd, .bool ne] 23)).alloc (.cells #[.slice Aw n cw, .slice Am n cm, .slice Av nv cv, .slice Ag n cg] 26)) (.cells #[.slice none 0 0, .slice none 0 0, .slice none 0 0, .slice none 0 0] 26); simpa only [World.size_alloc] using h
  have bA : Below w.heap.size w v1 := by rw [← hv_]; exact ((((Below.refl _ w).alloc (by simp) _).alloc (by simp) _).alloc (by simp <;> omega) _)
  replace cc := bK cc bA
  clear bA
  clear hv_
  have lt := fun {W : World} {b : Nat} {o : Obj} (h : W.heap[b]? = some o) => (Array.getElem?_eq_some_iff.1 h).1
  obtain ⟨pa0, pa1, pa2, pa3⟩ := cells4 zbm
  clear NW
  go_wp2_with fail
  refine (CR _).mono ?_
  rintro e w2 ⟨rfl, b⟩
  replace zbm := (b.block _ (lt zbm)).trans zbm
  replace zbr := (b.block _ (lt zbr)).trans zbr
  replace zg := (b.block _ (lt zg)).trans zg
  replace cc := bK cc b
  clear b CR pa0 pa1 pa2 pa3
  obtain ⟨xa0, xa1, xa2, xa3⟩ := cells4 zbr
  go_upto_region 6 with fail
  have zgo : (w2.alloc (.cells #[.slice none 0 0, .slice none 0 0, .slice none 0 0, .slice none 0 0] 26)).heap[w2.heap.size]? = some (.cells #[.slice none 0 0, .slice none 0 0, .slice none 0 0, .slice none 0 0] 26) := World.alloc_heap_new w2 _
  have b := one_upD w2 (.cells #[.slice none 0 0, .slice none 0 0, .slice none 0 0, .slice none 0 0] 26)
  have lgo : w.heap.size + 1 + 1 < w2.heap.size := lt zg
  have hts : (w2.alloc (.cells #[.slice none 0 0, .slice none 0 0, .slice none 0 0, .slice none 0 0] 26)).heap.size = w2.heap.size + 1 := World.size_alloc _ _
  replace zbm := (b.block _ (lt zbm)).trans zbm
  replace zbr := (b.block _ (lt zbr)).trans zbr
  replace zg := (b.block _ (lt zg)).trans zg
  replace cc := bK cc b
  clear b xa0 xa1 xa2 xa3
  generalize w2.alloc (.cells #[.slice none 0 0, .slice none 0 0, .slice none 0 0, .slice none 0 0] 26) = V at *
  generalize w2.heap.size = go at *
  have hO : Own17 (go + 1) go V none 0 0 none 0 0 (UW 0) (UV 0) := ⟨zgo, by rw [HU0.out.2]; exact World.ownsRow_nil _ _ _ _, by rw [HU0.out.1]; exact World.ownsRow_nil _ _ _ _, fun a e => by cases e⟩
  have HO0 := Lib.hid hO
  have Hts := Lib.hid hts
  have Hlgo := Lib.hid lgo
  have Hbm := Lib.hid zbm
  have Hbr := Lib.hid zbr
  have Hg := Lib.hid zg
  have HC := Lib.hid cc
  have HW := Lib.hid hW
  have HM := Lib.hid hM
  have HG := Lib.hid hG
  clear zgo hO hts lgo zbm zbr zg cc hW hM hG
  go_wp2_with fail
  go_loopw [9] (fun iv wr => ∃ (i : Nat) (p : Option Addr) (cp : Nat) (q : Option Addr) (cq : Nat), i ≤ n ∧ iv = .int .i64 (i : Int) ∧ Own17 (go + 1) go wr p i cp q i cq (UW i) (UV i) ∧ Below go V wr ∧ go + 1 ≤ wr.heap.size ∧ ∀ j, j < i → (XW j).2 = true ∧ (XV j).2 = true) (fun iv _ => n - (intOf iv).toNat)
  case atStart => exact ⟨0, none, 0, none, 0, by omega, rfl, HO0.out, Below.refl _ _, by rw [Hts.out]; exact Nat.le_refl _, fun j h => absurd h (by omega)⟩
  case round =>
    obtain ⟨i, p, cp, q, cq, hi_, rfl, hO, bl, hsz, hj⟩ := hrel
    have lgo := Hlgo.out
    have zbm := (bl.block _ (show w.heap.size < go by omega)).trans Hbm.out
    have zbr := (bl.block _ (show w.heap.size + 1 < go by omega)).trans Hbr.out
    have zg := (bl.block _ (show w.heap.size + 1 + 1 < go by omega)).trans Hg.out
    have hsv := HC.out.size
    have cc := HC.out.trans (bl.mono (show w.heap.size ≤ go by omega))
    obtain ⟨xa0, xa1, xa2, xa3⟩ := cells4 zbr
    by_cases hlt : i < n
    · have jlt : (i : Int) < (n : Int) := by omega
      obtain ⟨bw, ow, rfl, lbw, cW⟩ := HW.out.2.2 (by omega)
      obtain ⟨bm_, om, rfl, lbm, cM⟩ := HM.out.2.2 (by omega)
      obtain ⟨bg, og, rfl, lbg, cG⟩ := HG.out.2.2 (by omega)
      have ew := (cc.cell (p := ⟨bw, ow + i, none⟩) lbw).trans (cW i hlt)
      have em := (cc.cell (p := ⟨bm_, om + i, none⟩) lbm).trans (cM i hlt)
      have eg := (cc.cell (p := ⟨bg, og + i, none⟩) lbg).trans (cG i hlt)
      have CSi := fun W : World => HCS.out i W
      obtain ⟨⟨v, vb⟩, ev⟩ : ∃ x, XV i = x := ⟨_, rfl⟩
      obtain ⟨⟨y, yb⟩, ey⟩ : ∃ x, XW i = x := ⟨_, rfl⟩
      have hUV := HUV.out i
      have hUW := HUW.out i
      have hOKi : ok = true → yb = true ∧ vb = true := fun h => by have h2 := HOK.out.1 h i hlt; rw [ey, ev] at h2; exact h2
      have hjn : yb = true → vb = true → ∀ j, j < i + 1 → (XW j).2 = true ∧ (XV j).2 = true := fun h1 h2 j hj2 => by
        rcases Nat.lt_or_ge j i with e | e
        · exact hj j e
        · have e2 : j = i := by omega
          rw [e2, ey, ev]; exact ⟨h1, h2⟩
      rw [ev] at hUV
      rw [ey] at hUW
      simp only [ev, ey] at CSi
      have HUVi := Lib.hid hUV
      have HUWi := Lib.hid hUW
      have HOKi := Lib.hid hOKi
      have HJN := Lib.hid hjn
      generalize LW[i]?.getD 0 = x0 at *
      generalize LM[i]?.getD 0 = x1 at *
      generalize LG[i]?.getD 0 = x2 at *
      clear hj hUV hUW hOKi hjn ev ey cW cM cG
      go_upto_region 9 with fail
      clear xa0 xa1 xa2 xa3
      refine StepR9 (C := wr.heap.size) hlt hlt hlt jlt jlt jlt CSi (by intro c a d v w h; cases d <;> exact h) (Nat.le_refl _) ew (by have := cc.size; omega) em (by have := cc.size; omega) eg (by have := cc.size; omega) zbm zbr ?_
      intro W gv gw b zbm2 zbr2 zgv zgw mgv mgw
      clear zbm zbr zbm2 zbr2 ew em eg CSi
      have hpl : ∀ a, (Value.slice p i cp).ownBlock = some a → a < wr.heap.size := fun a e => (hO.2.1.lt a e).2
      have hgo := lt hO.1
      replace hO := hO.on b
      replace zg := (b.block _ (lt zg)).trans zg
      replace bl := bl.trans (b.mono (Nat.le_of_lt hgo))
      replace hsz := Nat.le_trans hsz b.size
      replace cc := bK cc b
      clear b
      obtain ⟨cv0, cv1⟩ := cells2 zgv
      obtain ⟨cw0, cw1⟩ := cells2 zgw
      have HC2 := Lib.hid cc
      by_cases hyv : yb = true ∧ vb = true
      rotate_left
      · have hok : ok = false := by
          cases ok
          · rfl
          · exact absurd (HOKi.out rfl) hyv
        subst hok
        obtain rfl : [] = aW := by have h := HAW.out; rw [if_neg (by simp)] at h; exact h
        obtain rfl : [] = aV := by have h := HAV.out; rw [if_neg (by simp)] at h; exact h
        obtain rfl : (2 : Int) = aC := by have h := HAC.out; rw [if_neg (by simp)] at h; exact h
        obtain ⟨g0, g1, g2, g3⟩ := cells4 zg
        have f0 := fro_of 0 zg
        have f1 := fro_of 1 zg
        have f2 := fro_of 2 zg
        have f3 := fro_of 3 zg
        have HBF := Lib.hid (below_put4 cc (show w.heap.size ≤ w.heap.size + 1 + 1 by omega) (.slice none 0 0) (.slice none 0 0) (.slice none 0 0) (.slice none 0 0))
        clear cc bl hO zg zgv zgw hpl hsz hgo
        have hyb : yb = false ∨ (yb = true ∧ vb = false) := by
          cases yb
          · exact .inl rfl
          · exact .inr ⟨rfl, by cases vb; rfl; exact absurd ⟨rfl, rfl⟩ hyv⟩
        clear hyv
        rcases hyb with rfl | ⟨rfl, rfl⟩
        all_goals go_wp2_with fail
        all_goals refine bodyPost_ret (v := .tuple #[.agg #[.slice none 0 0, .slice none 0 0, .slice none 0 0, .slice none 0 0], .int .i64 2]) (by simp [results, Try.results11, go_sem, g0, g1, g2, g3]) rfl ⟨none, 0, 0, none, 0, 0, rfl, IR.nil _ _ _, IR.nil _ _ _, HBF.out, fun _ e => (by cases e), fun _ e => (by cases e)⟩
      obtain ⟨rfl, rfl⟩ := hyv
      obtain ⟨o0, o1, o2, o3⟩ := cells4 hO.1
      have fo := hO.fro 0
      have HO := Lib.hid hO
      have HZG := Lib.hid zg
      have HGV := Lib.hid zgv
      have HBL := Lib.hid bl
      have HPL := Lib.hid hpl
      have hkn := HKN.out
      have kw : (i + 1) * 8 ≤ 140737488355328 := by omega
      have HGL : Hid (gv < W.heap.size) := Lib.hid (lt zgv)
      clear hO zg zgv zgw bl cc hpl
      go_upto_region 13 with (at_builtin; refine wpList_append_lies _ rfl _ _ 24 rfl (go + 1) 2 i0 (.int .i64 0) 1 8 Try.underlying24 hi hz0 hz1 hz2 rfl (by decide) _ _ _ rfl (HO.out.2.1.alloc _) ⟨W.heap.size, 0, none⟩ 1 1 [.int .i64 y] rfl rfl (cell_one_new _ _ _) (by simp [Value.oneCell']) (by omega) (by unfold maxLen; omega) (by omega) (by simp; omega) _ rfl ?_; intro g1 cap1 w1 hown1 hgrow1 hat1 hlt1; have HP1 := Lib.hid (Own17.pushW HO.out (show go < go + 1 by omega) hsz hown1 hgrow1 hat1); have hz1_ := HP1.out.2.2.2.1; have fo1 := fro_of 0 hz1_; have o0 := (cells4 hz1_).1)
      obtain ⟨hO2, b2, k2, _, hsz2⟩ := HP1.out
      have zgv2 := k2 gv HGL.out (by omega) (fun e => by have := HPL.out gv e; omega)
      replace zgv2 := zgv2.trans HGV.out
      generalize w1.setCell ⟨go, 0, none⟩ (.slice (some ⟨g1, 0, none⟩) (i + 1) cap1) = W2 at *
      have bl2 := HBL.out.trans b2
      obtain ⟨o0, o1, o2, o3⟩ := cells4 hO2.1
      have fo := hO2.fro 1
      obtain ⟨cv0, cv1⟩ := cells2 zgv2
      have HO2 := Lib.hid hO2
      have HBL2 := Lib.hid bl2
      have k4_ : IntKind.i64.wrap ((i : Int) + 1) = ((i + 1 : Nat) : Int) := by rw [IntWalk.i64_in _ (by omega)]; omega
      clear hO2 b2 k2 zgv2 bl2 cw0 cw1 HP1 hgrow1 hown1 hat1 hlt1 hz1_ fo1
      go_wp2_with (at_builtin; refine wpList_append_lies _ rfl _ _ 24 rfl (go + 1) 2 i0 (.int .i64 0) 1 8 Try.underlying24 hi hz0 hz1 hz2 rfl (by decide) _ _ _ rfl (HO2.out.2.2.1.alloc _) ⟨W2.heap.size, 0, none⟩ 1 1 [.int .i64 v] rfl rfl (cell_one_new _ _ _) (by simp [Value.oneCell']) (by omega) (by unfold maxLen; omega) (by omega) (by simp; omega) _ rfl ?_; intro g2 cap2 w3 hown2 hgrow2 hat2 hlt2; have HP2 := Lib.hid (Own17.pushM HO2.out (show go < go + 1 by omega) hsz2 hown2 hgrow2 hat2); have hz2_ := HP2.out.2.2.2.1; have fo2 := fro_of 1 hz2_; have o1 := (cells4 hz2_).2.1)
      go_roundw
      case rel =>
        obtain ⟨hO3, b3, _, _, hsz3⟩ := HP2.out
        exact ⟨i + 1, _, _, _, _, by omega, by go_num, by rw [HUWi.out, HUVi.out]; exact hO3, HBL2.out.trans b3, hsz3, HJN.out rfl rfl⟩
      case measure => simp [intOf] <;> omega
    · obtain rfl : i = n := by omega
      have hok : ok = true := HOK.out.2 hj
      subst hok
      have eW : UW i = aW := by have h := HAW.out; rw [if_pos rfl] at h; exact h
      have eV : UV i = aV := by have h := HAV.out; rw [if_pos rfl] at h; exact h
      obtain rfl : (0 : Int) = aC := by have h := HAC.out; rw [if_pos rfl] at h; exact h
      rw [eW, eV] at hO
      obtain ⟨z, z_⟩ := hO
      obtain ⟨o0, o1, o2, o3⟩ := cells4 z
      obtain ⟨g0, g1, g2, g3⟩ := cells4 zg
      have f0 := fro_of 0 zg
      have f1 := fro_of 1 zg
      have f2 := fro_of 2 zg
      have f3 := fro_of 3 zg
      have jl : ¬ ((i : Int) < (i : Int)) := by omega
      have HF := Lib.hid (Own17.got (k := 0) ⟨z, z_⟩ cc (show w.heap.size ≤ w.heap.size + 1 + 1 by omega) (show w.heap.size + 1 + 1 < go + 1 by omega) (.slice p i cp) (.slice q i cq) (.slice none 0 0) (.slice none 0 0) rfl)
      clear z z_ hj hsz bl zbm zbr zg cc hsv
      go_wp2_with fail
      refine bodyPost_ret (v := .tuple #[.agg #[.slice p i cp, .slice q i cq, .slice none 0 0, .slice none 0 0], .int .i64 0]) (by simp [results, Try.results11, go_sem, g0, g1, g2, g3]) rfl HF.out
/-- What a step of rows tells: a code, new weights, new velocities. -/
def stC17 (lr mu wd f : Int) (ne : Bool) (LW LM LG : List Int) : Int := if OkM17 lr mu wd f then if LM.length = LW.length ∧ LG.length = LW.length then if rowOK lr mu wd ne f.toNat LW LM LG = true then 0 else 2 else 5 else 1
def stRW17 (lr mu wd f : Int) (ne : Bool) (LW LM LG : List Int) : List Int := if stC17 lr mu wd f ne LW LM LG = 0 then rowW lr mu wd ne f.toNat LW LM LG else []
def stRV17 (lr mu wd f : Int) (ne : Bool) (LW LM LG : List Int) : List Int := if stC17 lr mu wd f ne LW LM LG = 0 then rowV mu wd f.toNat LW LM LG else []
theorem gotS17_nil {w : World} {k : Int} {e : Ending} {w' : World} (h : GotV w (.tuple #[.agg #[.slice none 0 0, .slice none 0 0, .slice none 0 0, .slice none 0 0], .int .i64 k]) e w') : GotS17 w [] [] k e w' :=
  ⟨none, 0, 0, none, 0, 0, h.1, IR.nil _ _ _, IR.nil _ _ _, h.2, fun _ e => (by cases e), fun _ e => (by cases e)⟩
theorem nStep17_N {w : World} {lr mu wd f : Int} {ne : Bool} {Aw : Option Addr} {nw cw : Nat} {Am : Option Addr} {nm cm : Nat} {Av : Option Addr} {nv cv : Nat} {Ag : Option Addr} {ng cg : Nat} {LW LM LG : List Int} (hl : I64 lr) (hm : I64 mu) (hd : I64 wd) (hW : IR w Aw nw cw LW) (hM : IR w Am nm cm LM) (hG : IR w Ag ng cg LG) (iW : ∀ z ∈ LW, I64 z) (iM : ∀ z ∈ LM, I64 z) (iG : ∀ z ∈ LG, I64 z) (kn : nw ≤ 2305843009213693951 ∧ (nw + 1) * 8 ≤ 140737488355328) :
    Calls Try.prog 11 #[.agg #[.int .i64 lr, .int .i64 mu, .int .i64 wd, .bool ne], .int .i64 f, .agg #[.slice Aw nw cw, .slice Am nm cm, .slice Av nv cv, .slice Ag ng cg]] w
      (GotS17 w (stRW17 lr mu wd f ne LW LM LG) (stRV17 lr mu wd f ne LW LM LG) (stC17 lr mu wd f ne LW LM LG)) := by
  have e1 := hW.1
  have e2 := hM.1
  have e3 := hG.1
  have fin : ∀ {k : Int}, stC17 lr mu wd f ne LW LM LG = k → k ≠ 0 → Calls Try.prog 11 #[.agg #[.int .i64 lr, .int .i64 mu, .int .i64 wd, .bool ne], .int .i64 f, .agg #[.slice Aw nw cw, .slice Am nm cm, .slice Av nv cv, .slice Ag ng cg]] w (GotS17 w [] [] k) → Calls Try.prog 11 #[.agg #[.int .i64 lr, .int .i64 mu, .int .i64 wd, .bool ne], .int .i64 f, .agg #[.slice Aw nw cw, .slice Am nm cm, .slice Av nv cv, .slice Ag ng cg]] w (GotS17 w (stRW17 lr mu wd f ne LW LM LG) (stRV17 lr mu wd f ne LW LM LG) (stC17 lr mu wd f ne LW LM LG)) := fun hk hn h => by
    unfold stRW17 stRV17
    rw [hk, if_neg hn, if_neg hn]; exact h
  by_cases hK : OkM17 lr mu wd f
  rotate_left
  · exact fin (k := 1) (by unfold stC17; rw [if_neg hK]) (by omega) ((nStep17_k hK).mono fun e w' h => gotS17_nil h)
  by_cases q : nm = nw
  rotate_left
  · exact fin (k := 5) (by unfold stC17; rw [if_pos hK, if_neg (fun h => q (by rw [e1, e2]; exact h.1))]) (by omega) ((nStep17_m hK q).mono fun e w' h => gotS17_nil h)
  by_cases q2 : ng = nw
  rotate_left
  · exact fin (k := 5) (by unfold stC17; rw [if_pos hK, if_neg (fun h => q2 (by rw [e1, e3]; exact h.2))]) (by omega) ((nStep17_g hK q q2).mono fun e w' h => gotS17_nil h)
  have hs : LM.length = LW.length ∧ LG.length = LW.length := ⟨by omega, by omega⟩
  subst q
  subst q2
  have h := nStep17_loop (ne := ne) (Av := Av) (nv := nv) (cv := cv) hK hl hm hd hW hM hG iW iM iG kn
  by_cases ho : rowOK lr mu wd ne f.toNat LW LM LG = true
  · have hk : stC17 lr mu wd f ne LW LM LG = 0 := by unfold stC17; rw [if_pos hK, if_pos hs, if_pos ho]
    simp only [if_pos ho] at h
    unfold stRW17 stRV17
    rw [hk, if_pos rfl, if_pos rfl]; exact h
  · simp only [if_neg ho] at h
    exact fin (k := 2) (by unfold stC17; rw [if_pos hK, if_pos hs, if_neg ho]) (by omega) h
end Go.Proofs.Ytckdbcngnghhiaa

/-
  The landed mom: Step where there is none; the rows that it makes.
-/
namespace Go.Proofs.Ytckdbcngnghhiaa
set_option maxRecDepth 100000
set_option maxHeartbeats 8000000
open Go.RowKit
set_option linter.unusedVariables false
set_option linter.unusedSimpArgs false

theorem kStep_k {w : World} {lr mu wd f : Int} {ne : Bool} {Aw : Option Addr} {nw cw : Nat} {Am : Option Addr} {nm cm : Nat} {Av : Option Addr} {nv cv : Nat} {Ag : Option Addr} {ng cg : Nat} (hK : ¬ OkM17 lr mu wd f) :
    Calls Try.prog 10 #[.agg #[.int .i64 lr, .int .i64 mu, .int .i64 wd, .bool ne], .int .i64 f, .agg #[.slice Aw nw cw, .slice Am nm cm, .slice Av nv cv, .slice Ag ng cg]] w (GotV w (.tuple #[.agg #[.slice none 0 0, .slice none 0 0, .slice none 0 0, .slice none 0 0], .int .i64 1])) := by
  have CR : ∀ W : World, Calls Try.prog 12 #[.agg #[.int .i64 lr, .int .i64 mu, .int .i64 wd, .bool ne], .int .i64 f] W (GotV W (.bool false)) := fun W => by have h := kRight_N (w := W) (lr := lr) (mu := mu) (wd := wd) (f := f) (ne := ne); rw [decide_eq_false hK] at h; exact h
  clear hK
  have cc := Below.refl w.heap.size w
  go_enter Try.func10, Try.ntmps10
  go_upto_region 1 with fail
  generalize hv_ : ((w.alloc (.cells #[.int .i64 lr, .int .i64 mu, .int .i64 wd, .bool ne] 23)).alloc (.cells #[.slice Aw nw cw, .slice Am nm cm, .slice Av nv cv, .slice Ag ng cg] 26)).alloc (.cells #[.slice none 0 0, .slice none 0 0, .slice none 0 0, .slice none 0 0] 26) = v1
  have f0 : v1.frozen? ⟨w.heap.size + 1 + 1, 0, none⟩ = false := by simp [← hv_, go_sem]
  have f1 : v1.frozen? ⟨w.heap.size + 1 + 1, 1, none⟩ = false := by simp [← hv_, go_sem]
  have f2 : v1.frozen? ⟨w.heap.size + 1 + 1, 2, none⟩ = false := by simp [← hv_, go_sem]
  have f3 : v1.frozen? ⟨w.heap.size + 1 + 1, 3, none⟩ = false := by simp [← hv_, go_sem]
  have bA : Below w.heap.size w v1 := by rw [← hv_]; exact ((((Below.refl _ w).alloc (by simp) _).alloc (by simp) _).alloc (by simp <;> omega) _)
  replace cc := bK cc bA
  clear bA
  have pa0 : v1.cell? ⟨w.heap.size, 0, none⟩ = some (.int .i64 lr) := by simp [← hv_, go_sem]
  have pa1 : v1.cell? ⟨w.heap.size, 1, none⟩ = some (.int .i64 mu) := by simp [← hv_, go_sem]
  have pa2 : v1.cell? ⟨w.heap.size, 2, none⟩ = some (.int .i64 wd) := by simp [← hv_, go_sem]
  have pa3 : v1.cell? ⟨w.heap.size, 3, none⟩ = some (.bool ne) := by simp [← hv_, go_sem]
  have pal : w.heap.size < v1.heap.size := by simp [← hv_] <;> omega
  have xa0 : v1.cell? ⟨w.heap.size + 1, 0, none⟩ = some (.slice Aw nw cw) := by simp [← hv_, go_sem]
  have xa1 : v1.cell? ⟨w.heap.size + 1, 1, none⟩ = some (.slice Am nm cm) := by simp [← hv_, go_sem]
  have xa2 : v1.cell? ⟨w.heap.size + 1, 2, none⟩ = some (.slice Av nv cv) := by simp [← hv_, go_sem]
  have xa3 : v1.cell? ⟨w.heap.size + 1, 3, none⟩ = some (.slice Ag ng cg) := by simp [← hv_, go_sem]
  have xal : w.heap.size + 1 < v1.heap.size := by simp [← hv_] <;> omega
  have g0 : v1.cell? ⟨w.heap.size + 1 + 1, 0, none⟩ = some (.slice none 0 0) := by simp [← hv_, go_sem]
  have g1 : v1.cell? ⟨w.heap.size + 1 + 1, 1, none⟩ = some (.slice none 0 0) := by simp [← hv_, go_sem]
  have g2 : v1.cell? ⟨w.heap.size + 1 + 1, 2, none⟩ = some (.slice none 0 0) := by simp [← hv_, go_sem]
  have g3 : v1.cell? ⟨w.heap.size + 1 + 1, 3, none⟩ = some (.slice none 0 0) := by simp [← hv_, go_sem]
  have gl : w.heap.size + 1 + 1 < v1.heap.size := by simp [← hv_] <;> omega
  clear hv_
  go_wp2_with fail
  refine (CR _).mono ?_
  rintro e w2 ⟨rfl, b⟩
  rewrite [fR b gl] at f0 f1 f2 f3
  rewrite [cR b pal] at pa0 pa1 pa2 pa3
  replace pal := lK b pal
  rewrite [cR b xal] at xa0 xa1 xa2 xa3
  replace xal := lK b xal
  rewrite [cR b gl] at g0 g1 g2 g3
  replace gl := lK b gl
  replace cc := bK cc b
  clear b
  have HBF := Lib.hid (below_put4 cc (show w.heap.size ≤ w.heap.size + 1 + 1 by omega) (.slice none 0 0) (.slice none 0 0) (.slice none 0 0) (.slice none 0 0))
  clear cc
  go_wp2_with fail
  refine bodyPost_ret (v := .tuple #[.agg #[.slice none 0 0, .slice none 0 0, .slice none 0 0, .slice none 0 0], .int .i64 1]) (by simp [results, Try.results10, go_sem, g0, g1, g2, g3]) rfl ⟨rfl, HBF.out⟩

theorem kStep_m {w : World} {lr mu wd f : Int} {ne : Bool} {Aw : Option Addr} {nw cw : Nat} {Am : Option Addr} {nm cm : Nat} {Av : Option Addr} {nv cv : Nat} {Ag : Option Addr} {ng cg : Nat} (hK : OkM17 lr mu wd f) (q : nm ≠ nw) :
    Calls Try.prog 10 #[.agg #[.int .i64 lr, .int .i64 mu, .int .i64 wd, .bool ne], .int .i64 f, .agg #[.slice Aw nw cw, .slice Am nm cm, .slice Av nv cv, .slice Ag ng cg]] w (GotV w (.tuple #[.agg #[.slice none 0 0, .slice none 0 0, .slice none 0 0, .slice none 0 0], .int .i64 5])) := by
  have CR : ∀ W : World, Calls Try.prog 12 #[.agg #[.int .i64 lr, .int .i64 mu, .int .i64 wd, .bool ne], .int .i64 f] W (GotV W (.bool true)) := fun W => by have h := kRight_N (w := W) (lr := lr) (mu := mu) (wd := wd) (f := f) (ne := ne); rw [decide_eq_true hK] at h; exact h
  clear hK
  have t0 : ((nm : Int) == (nw : Int)) = false := beq_eq_false_iff_ne.2 (by omega)
  have t1 : ((nm : Int) != (nw : Int)) = true := by simp; omega
  have t2 : (nm == nw) = false := beq_eq_false_iff_ne.2 q
  have t3 : (nm != nw) = true := by simp; omega
  clear q
  have cc := Below.refl w.heap.size w
  go_enter Try.func10, Try.ntmps10
  go_upto_region 1 with fail
  generalize hv_ : ((w.alloc (.cells #[.int .i64 lr, .int .i64 mu, .int .i64 wd, .bool ne] 23)).alloc (.cells #[.slice Aw nw cw, .slice Am nm cm, .slice Av nv cv, .slice Ag ng cg] 26)).alloc (.cells #[.slice none 0 0, .slice none 0 0, .slice none 0 0, .slice none 0 0] 26) = v1
  have f0 : v1.frozen? ⟨w.heap.size + 1 + 1, 0, none⟩ = false := by simp [← hv_, go_sem]
  have f1 : v1.frozen? ⟨w.heap.size + 1 + 1, 1, none⟩ = false := by simp [← hv_, go_sem]
  have f2 : v1.frozen? ⟨w.heap.size + 1 + 1, 2, none⟩ = false := by simp [← hv_, go_sem]
  have f3 : v1.frozen? ⟨w.heap.size + 1 + 1, 3, none⟩ = false := by simp [← hv_, go_sem]
  have bA : Below w.heap.size w v1 := by rw [← hv_]; exact ((((Below.refl _ w).alloc (by simp) _).alloc (by simp) _).alloc (by simp <;> omega) _)
  replace cc := bK cc bA
  clear bA
  have pa0 : v1.cell? ⟨w.heap.size, 0, none⟩ = some (.int .i64 lr) := by simp [← hv_, go_sem]
  have pa1 : v1.cell? ⟨w.heap.size, 1, none⟩ = some (.int .i64 mu) := by simp [← hv_, go_sem]
  have pa2 : v1.cell? ⟨w.heap.size, 2, none⟩ = some (.int .i64 wd) := by simp [← hv_, go_sem]
  have pa3 : v1.cell? ⟨w.heap.size, 3, none⟩ = some (.bool ne) := by simp [← hv_, go_sem]
  have pal : w.heap.size < v1.heap.size := by simp [← hv_] <;> omega
  have xa0 : v1.cell? ⟨w.heap.size + 1, 0, none⟩ = some (.slice Aw nw cw) := by simp [← hv_, go_sem]
  have xa1 : v1.cell? ⟨w.heap.size + 1, 1, none⟩ = some (.slice Am nm cm) := by simp [← hv_, go_sem]
  have xa2 : v1.cell? ⟨w.heap.size + 1, 2, none⟩ = some (.slice Av nv cv) := by simp [← hv_, go_sem]
  have xa3 : v1.cell? ⟨w.heap.size + 1, 3, none⟩ = some (.slice Ag ng cg) := by simp [← hv_, go_sem]
  have xal : w.heap.size + 1 < v1.heap.size := by simp [← hv_] <;> omega
  have g0 : v1.cell? ⟨w.heap.size + 1 + 1, 0, none⟩ = some (.slice none 0 0) := by simp [← hv_, go_sem]
  have g1 : v1.cell? ⟨w.heap.size + 1 + 1, 1, none⟩ = some (.slice none 0 0) := by simp [← hv_, go_sem]
  have g2 : v1.cell? ⟨w.heap.size + 1 + 1, 2, none⟩ = some (.slice none 0 0) := by simp [← hv_, go_sem]
  have g3 : v1.cell? ⟨w.heap.size + 1 + 1, 3, none⟩ = some (.slice none 0 0) := by simp [← hv_, go_sem]
  have gl : w.heap.size + 1 + 1 < v1.heap.size := by simp [← hv_] <;> omega
  clear hv_
  go_wp2_with fail
  refine (CR _).mono ?_
  rintro e w2 ⟨rfl, b⟩
  rewrite [fR b gl] at f0 f1 f2 f3
  rewrite [cR b pal] at pa0 pa1 pa2 pa3
  replace pal := lK b pal
  rewrite [cR b xal] at xa0 xa1 xa2 xa3
  replace xal := lK b xal
  rewrite [cR b gl] at g0 g1 g2 g3
  replace gl := lK b gl
  replace cc := bK cc b
  clear b
  have HBF := Lib.hid (below_put4 cc (show w.heap.size ≤ w.heap.size + 1 + 1 by omega) (.slice none 0 0) (.slice none 0 0) (.slice none 0 0) (.slice none 0 0))
  clear cc
  go_wp2_with fail
  refine bodyPost_ret (v := .tuple #[.agg #[.slice none 0 0, .slice none 0 0, .slice none 0 0, .slice none 0 0], .int .i64 5]) (by simp [results, Try.results10, go_sem, g0, g1, g2, g3]) rfl ⟨rfl, HBF.out⟩

theorem kStep_g {w : World} {lr mu wd f : Int} {ne : Bool} {Aw : Option Addr} {nw cw : Nat} {Am : Option Addr} {nm cm : Nat} {Av : Option Addr} {nv cv : Nat} {Ag : Option Addr} {ng cg : Nat} (hK : OkM17 lr mu wd f) (q : nm = nw) (q2 : ng ≠ nw) :
    Calls Try.prog 10 #[.agg #[.int .i64 lr, .int .i64 mu, .int .i64 wd, .bool ne], .int .i64 f, .agg #[.slice Aw nw cw, .slice Am nm cm, .slice Av nv cv, .slice Ag ng cg]] w (GotV w (.tuple #[.agg #[.slice none 0 0, .slice none 0 0, .slice none 0 0, .slice none 0 0], .int .i64 5])) := by
  have CR : ∀ W : World, Calls Try.prog 12 #[.agg #[.int .i64 lr, .int .i64 mu, .int .i64 wd, .bool ne], .int .i64 f] W (GotV W (.bool true)) := fun W => by have h := kRight_N (w := W) (lr := lr) (mu := mu) (wd := wd) (f := f) (ne := ne); rw [decide_eq_true hK] at h; exact h
  clear hK
  subst q
  have t0 : ((ng : Int) == (nm : Int)) = false := beq_eq_false_iff_ne.2 (by omega)
  have t1 : ((ng : Int) != (nm : Int)) = true := by simp; omega
  have t2 : (ng == nm) = false := beq_eq_false_iff_ne.2 q2
  have t3 : (ng != nm) = true := by simp; omega
  clear q2
  have cc := Below.refl w.heap.size w
  go_enter Try.func10, Try.ntmps10
  go_upto_region 1 with fail
  generalize hv_ : ((w.alloc (.cells #[.int .i64 lr, .int .i64 mu, .int .i64 wd, .bool ne] 23)).alloc (.cells #[.slice Aw nm cw, .slice Am nm cm, .slice Av nv cv, .slice Ag ng cg] 26)).alloc (.cells #[.slice none 0 0, .slice none 0 0, .slice none 0 0, .slice none 0 0] 26) = v1
  have f0 : v1.frozen? ⟨w.heap.size + 1 + 1, 0, none⟩ = false := by simp [← hv_, go_sem]
  have f1 : v1.frozen? ⟨w.heap.size + 1 + 1, 1, none⟩ = false := by simp [← hv_, go_sem]
  have f2 : v1.frozen? ⟨w.heap.size + 1 + 1, 2, none⟩ = false := by simp [← hv_, go_sem]
  have f3 : v1.frozen? ⟨w.heap.size + 1 + 1, 3, none⟩ = false := by simp [← hv_, go_sem]
  have bA : Below w.heap.size w v1 := by rw [← hv_]; exact ((((Below.refl _ w).alloc (by simp) _).alloc (by simp) _).alloc (by simp <;> omega) _)
  replace cc := bK cc bA
  clear bA
  have pa0 : v1.cell? ⟨w.heap.size, 0, none⟩ = some (.int .i64 lr) := by simp [← hv_, go_sem]
  have pa1 : v1.cell? ⟨w.heap.size, 1, none⟩ = some (.int .i64 mu) := by simp [← hv_, go_sem]
  have pa2 : v1.cell? ⟨w.heap.size, 2, none⟩ = some (.int .i64 wd) := by simp [← hv_, go_sem]
  have pa3 : v1.cell? ⟨w.heap.size, 3, none⟩ = some (.bool ne) := by simp [← hv_, go_sem]
  have pal : w.heap.size < v1.heap.size := by simp [← hv_] <;> omega
  have xa0 : v1.cell? ⟨w.heap.size + 1, 0, none⟩ = some (.slice Aw nm cw) := by simp [← hv_, go_sem]
  have xa1 : v1.cell? ⟨w.heap.size + 1, 1, none⟩ = some (.slice Am nm cm) := by simp [← hv_, go_sem]
  have xa2 : v1.cell? ⟨w.heap.size + 1, 2, none⟩ = some (.slice Av nv cv) := by simp [← hv_, go_sem]
  have xa3 : v1.cell? ⟨w.heap.size + 1, 3, none⟩ = some (.slice Ag ng cg) := by simp [← hv_, go_sem]
  have xal : w.heap.size + 1 < v1.heap.size := by simp [← hv_] <;> omega
  have g0 : v1.cell? ⟨w.heap.size + 1 + 1, 0, none⟩ = some (.slice none 0 0) := by simp [← hv_, go_sem]
  have g1 : v1.cell? ⟨w.heap.size + 1 + 1, 1, none⟩ = some (.slice none 0 0) := by simp [← hv_, go_sem]
  have g2 : v1.cell? ⟨w.heap.size + 1 + 1, 2, none⟩ = some (.slice none 0 0) := by simp [← hv_, go_sem]
  have g3 : v1.cell? ⟨w.heap.size + 1 + 1, 3, none⟩ = some (.slice none 0 0) := by simp [← hv_, go_sem]
  have gl : w.heap.size + 1 + 1 < v1.heap.size := by simp [← hv_] <;> omega
  clear hv_
  go_wp2_with fail
  refine (CR _).mono ?_
  rintro e w2 ⟨rfl, b⟩
  rewrite [fR b gl] at f0 f1 f2 f3
  rewrite [cR b pal] at pa0 pa1 pa2 pa3
  replace pal := lK b pal
  rewrite [cR b xal] at xa0 xa1 xa2 xa3
  replace xal := lK b xal
  rewrite [cR b gl] at g0 g1 g2 g3
  replace gl := lK b gl
  replace cc := bK cc b
  clear b
  have HBF := Lib.hid (below_put4 cc (show w.heap.size ≤ w.heap.size + 1 + 1 by omega) (.slice none 0 0) (.slice none 0 0) (.slice none 0 0) (.slice none 0 0))
  clear cc
  go_wp2_with fail
  refine bodyPost_ret (v := .tuple #[.agg #[.slice none 0 0, .slice none 0 0, .slice none 0 0, .slice none 0 0], .int .i64 5]) (by simp [results, Try.results10, go_sem, g0, g1, g2, g3]) rfl ⟨rfl, HBF.out⟩

def rg_kStepR6 : { o : Array Oper // regOf 6 Try.f10 = o } := ⟨_, by
  simp only [regOf, regIn, Try.f10, reduceIte, Nat.reduceEqDiff, Option.or, Option.getD, Nat.one_ne_zero, Nat.zero_ne_one]
  rfl⟩
theorem kStepR6 {V : World} {C : Nat} {Q : Exit → Act → World → Prop} {u0 u1 u2 u3 u4 u6 u7 u8 u9 u10 u11 u12 u13 u14 u15 u16 u17 u18 u19 u20 u21 u22 u23 u24 u25 u26 u27 u28 u29 u30 u31 u32 u33 u34 u35 u36 u37 u38 u39 u40 u41 u42 u43 u44 u45 u46 u47 u48 u49 u50 u51 u52 u53 u54 u55 u56 u57 u58 u59 u60 u61 u62 u63 u64 u65 u66 u67 u68 u69 u70 u71 u72 u73 u74 u75 u76 u77 u78 u79 u80 u81 u82 u83 u84 u85 u86 u87 u88 : Value} {br : Nat} {n cw cm nv cv cg : Nat} {Aw Am Av Ag : Option Addr} (hmk : ∀ W : World, (Instr.makeSlice 24 (.int .i64 (n : Int)) (.int .i64 (n : Int))).run Try.prog W = .ok (.slice (some ⟨W.heap.size, 0, none⟩) n n) (W.alloc (ziM n))) (hP : ∀ c (a : Act) (d : Option Tmp) (v : Value) (w : World), Q (.panic c) (a.put d v) w → Q (.panic c) a w) (hC : C ≤ V.heap.size) (zbr : V.heap[br]? = some (.cells #[.slice Aw n cw, .slice Am n cm, .slice Av nv cv, .slice Ag n cg] 26)) (hQ : ∀ (W : World) (gW gM go : Nat), Below C V W → W.heap[br]? = some (.cells #[.slice Aw n cw, .slice Am n cm, .slice Av nv cv, .slice Ag n cg] 26) → W.heap[gW]? = some (ziM n) → W.heap[gM]? = some (ziM n) → W.heap[go]? = some (.cells #[.slice (some ⟨gW, 0, none⟩) n n, .slice (some ⟨gM, 0, none⟩) n n, .slice none 0 0, .slice none 0 0] 26) → C ≤ gW → C ≤ gM → C ≤ go → br ≠ gW → br ≠ gM → gW ≠ gM → br ≠ go → gW ≠ go → gM ≠ go → Q .normal { tmps := #[u0, u1, u2, u3, u4, .pointer (some ⟨br, 0, none⟩), u6, u7, u8, .pointer (some ⟨go, 0, none⟩), u10, u11, u12, u13, u14, u15, u16, u17, u18, u19, u20, u21, u22, u23, u24, u25, u26, u27, u28, u29, u30, u31, u32, u33, u34, u35, u36, .pointer (some ⟨br, 0, none⟩), .slice Aw n cw, .int .i64 (n : Int), .slice (some ⟨gW, 0, none⟩) n n, .pointer (some ⟨br, 0, none⟩), .slice Aw n cw, .int .i64 (n : Int), .slice (some ⟨gM, 0, none⟩) n n, .agg #[.slice (some ⟨gW, 0, none⟩) n n, .slice (some ⟨gM, 0, none⟩) n n, .slice none 0 0, .slice none 0 0], u46, u47, u48, u49, u50, u51, u52, u53, u54, u55, u56, u57, u58, u59, u60, u61, u62, u63, u64, u65, u66, u67, u68, u69, u70, u71, u72, u73, u74, u75, u76, u77, u78, u79, u80, u81, u82, u83, u84, u85, u86, u87, u88], defers := [] } W) :
    (Code.region 6 rg_kStepR6.1 true).wp Try.prog Q { tmps := #[u0, u1, u2, u3, u4, .pointer (some ⟨br, 0, none⟩), u6, u7, u8, u9, u10, u11, u12, u13, u14, u15, u16, u17, u18, u19, u20, u21, u22, u23, u24, u25, u26, u27, u28, u29, u30, u31, u32, u33, u34, u35, u36, u37, u38, u39, u40, u41, u42, u43, u44, u45, u46, u47, u48, u49, u50, u51, u52, u53, u54, u55, u56, u57, u58, u59, u60, u61, u62, u63, u64, u65, u66, u67, u68, u69, u70, u71, u72, u73, u74, u75, u76, u77, u78, u79, u80, u81, u82, u83, u84, u85, u86, u87, u88], defers := [] } V := by
  have HS : ∀ W : World, Below C V W → W.heap[br]? = some (.cells #[.slice Aw n cw, .slice Am n cm, .slice Av nv cv, .slice Ag n cg] 26) → (fun w' : World => w'.cell? ⟨br, 0, none⟩ = some (.slice Aw n cw)) W := fun W yb ybr => cell_of_row W br 0 #[.slice Aw n cw, .slice Am n cm, .slice Av nv cv, .slice Ag n cg] 26 _ ybr
  have s_1111 : ∀ (W : World) (gW gM go : Nat), Below C V W → W.heap[br]? = some (.cells #[.slice Aw n cw, .slice Am n cm, .slice Av nv cv, .slice Ag n cg] 26) → W.heap[gW]? = some (ziM n) → W.heap[gM]? = some (ziM n) → W.heap[go]? = some (.cells #[.slice (some ⟨gW, 0, none⟩) n n, .slice (some ⟨gM, 0, none⟩) n n, .slice none 0 0, .slice none 0 0] 26) → C ≤ gW → C ≤ gM → C ≤ go → br ≠ gW → br ≠ gM → gW ≠ gM → br ≠ go → gW ≠ go → gM ≠ go → wpAnyH Try.prog .any rg_kStepR6.1 Q (fun w' => w'.cell? ⟨br, 0, none⟩ = some (.slice Aw n cw)) 0 #[true, true, true, true, true, true, true, true, true, true, true] { tmps := #[u0, u1, u2, u3, u4, .pointer (some ⟨br, 0, none⟩), u6, u7, u8, .pointer (some ⟨go, 0, none⟩), u10, u11, u12, u13, u14, u15, u16, u17, u18, u19, u20, u21, u22, u23, u24, u25, u26, u27, u28, u29, u30, u31, u32, u33, u34, u35, u36, .pointer (some ⟨br, 0, none⟩), .slice Aw n cw, .int .i64 (n : Int), .slice (some ⟨gW, 0, none⟩) n n, .pointer (some ⟨br, 0, none⟩), .slice Aw n cw, .int .i64 (n : Int), .slice (some ⟨gM, 0, none⟩) n n, .agg #[.slice (some ⟨gW, 0, none⟩) n n, .slice (some ⟨gM, 0, none⟩) n n, .slice none 0 0, .slice none 0 0], u46, u47, u48, u49, u50, u51, u52, u53, u54, u55, u56, u57, u58, u59, u60, u61, u62, u63, u64, u65, u66, u67, u68, u69, u70, u71, u72, u73, u74, u75, u76, u77, u78, u79, u80, u81, u82, u83, u84, u85, u86, u87, u88], defers := [] } W := by
    intro W gW gM go hb zbr zgW zgM zgo mgW mgM mgo dbr_gW dbr_gM dgW_gM dbr_go dgW_go dgM_go
    dsimp only [rg_kStepR6]
    exact wpAnyH_done (by kernel_rfl) (hQ W gW gM go hb zbr zgW zgM zgo mgW mgM mgo dbr_gW dbr_gM dgW_gM dbr_go dgW_go dgM_go) _
  have s_1110 : ∀ (W : World) (gW gM go : Nat), Below C V W → W.heap[br]? = some (.cells #[.slice Aw n cw, .slice Am n cm, .slice Av nv cv, .slice Ag n cg] 26) → W.heap[gW]? = some (ziM n) → W.heap[gM]? = some (ziM n) → W.heap[go]? = some (.cells #[.slice none 0 0, .slice none 0 0, .slice none 0 0, .slice none 0 0] 26) → C ≤ gW → C ≤ gM → C ≤ go → br ≠ gW → br ≠ gM → gW ≠ gM → br ≠ go → gW ≠ go → gM ≠ go → wpAnyH Try.prog .any rg_kStepR6.1 Q (fun w' => w'.cell? ⟨br, 0, none⟩ = some (.slice Aw n cw)) 1 #[true, true, true, true, true, true, true, true, true, true, false] { tmps := #[u0, u1, u2, u3, u4, .pointer (some ⟨br, 0, none⟩), u6, u7, u8, .pointer (some ⟨go, 0, none⟩), u10, u11, u12, u13, u14, u15, u16, u17, u18, u19, u20, u21, u22, u23, u24, u25, u26, u27, u28, u29, u30, u31, u32, u33, u34, u35, u36, .pointer (some ⟨br, 0, none⟩), .slice Aw n cw, .int .i64 (n : Int), .slice (some ⟨gW, 0, none⟩) n n, .pointer (some ⟨br, 0, none⟩), .slice Aw n cw, .int .i64 (n : Int), .slice (some ⟨gM, 0, none⟩) n n, .agg #[.slice (some ⟨gW, 0, none⟩) n n, .slice (some ⟨gM, 0, none⟩) n n, .slice none 0 0, .slice none 0 0], u46, u47, u48, u49, u50, u51, u52, u53, u54, u55, u56, u57, u58, u59, u60, u61, u62, u63, u64, u65, u66, u67, u68, u69, u70, u71, u72, u73, u74, u75, u76, u77, u78, u79, u80, u81, u82, u83, u84, u85, u86, u87, u88], defers := [] } W := by
    intro W gW gM go hb zbr zgW zgM zgo mgW mgM mgo dbr_gW dbr_gM dgW_gM dbr_go dgW_go dgM_go
    dsimp only [rg_kStepR6]
    refine wpAnyH_ready (rs := [10]) (by kernel_rfl) (by simp) ?_
    refine AllReadyH.cons rfl (fun K hK => ?_) (AllReadyH.nil)
    · (try simp only [pT])
      rw [if_pos (by rfl)]
      have c0 : W.cell? ⟨go, 0, none⟩ = some (.slice none 0 0) := cell_of_row W go 0 #[.slice none 0 0, .slice none 0 0, .slice none 0 0, .slice none 0 0] 26 _ zgo
      have f0 : W.frozen? ⟨go, 0, none⟩ = false := by simp [World.frozen?, zgo]
      have c1 : W.cell? ⟨go, 1, none⟩ = some (.slice none 0 0) := cell_of_row W go 1 #[.slice none 0 0, .slice none 0 0, .slice none 0 0, .slice none 0 0] 26 _ zgo
      have f1 : W.frozen? ⟨go, 1, none⟩ = false := by simp [World.frozen?, zgo]
      have c2 : W.cell? ⟨go, 2, none⟩ = some (.slice none 0 0) := cell_of_row W go 2 #[.slice none 0 0, .slice none 0 0, .slice none 0 0, .slice none 0 0] 26 _ zgo
      have f2 : W.frozen? ⟨go, 2, none⟩ = false := by simp [World.frozen?, zgo]
      have c3 : W.cell? ⟨go, 3, none⟩ = some (.slice none 0 0) := cell_of_row W go 3 #[.slice none 0 0, .slice none 0 0, .slice none 0 0, .slice none 0 0] 26 _ zgo
      have f3 : W.frozen? ⟨go, 3, none⟩ = false := by simp [World.frozen?, zgo]
      go_simp
      refine hK.out _ _ (HS _ ((((hb.setCell (p := ⟨go, 0, none⟩) mgo _).setCell (p := ⟨go, 1, none⟩) mgo _).setCell (p := ⟨go, 2, none⟩) mgo _).setCell (p := ⟨go, 3, none⟩) mgo _) (put_far4 zbr dbr_go)) (fun hHeld => ?_)
      exact s_1111 ((((W.setCell ⟨go, 0, none⟩ (.slice (some ⟨gW, 0, none⟩) n n)).setCell ⟨go, 1, none⟩ (.slice (some ⟨gM, 0, none⟩) n n)).setCell ⟨go, 2, none⟩ (.slice none 0 0)).setCell ⟨go, 3, none⟩ (.slice none 0 0)) gW gM go ((((hb.setCell (p := ⟨go, 0, none⟩) mgo _).setCell (p := ⟨go, 1, none⟩) mgo _).setCell (p := ⟨go, 2, none⟩) mgo _).setCell (p := ⟨go, 3, none⟩) mgo _) (put_far4 zbr dbr_go) (put_far4 zgW dgW_go) (put_far4 zgM dgM_go) (put_cells4 zgo) mgW mgM mgo dbr_gW dbr_gM dgW_gM dbr_go dgW_go dgM_go
  have s_1100 : ∀ (W : World) (gW gM : Nat), Below C V W → W.heap[br]? = some (.cells #[.slice Aw n cw, .slice Am n cm, .slice Av nv cv, .slice Ag n cg] 26) → W.heap[gW]? = some (ziM n) → W.heap[gM]? = some (ziM n) → C ≤ gW → C ≤ gM → br ≠ gW → br ≠ gM → gW ≠ gM → wpAnyH Try.prog .any rg_kStepR6.1 Q (fun w' => w'.cell? ⟨br, 0, none⟩ = some (.slice Aw n cw)) 2 #[true, true, true, true, true, true, true, true, true, false, false] { tmps := #[u0, u1, u2, u3, u4, .pointer (some ⟨br, 0, none⟩), u6, u7, u8, u9, u10, u11, u12, u13, u14, u15, u16, u17, u18, u19, u20, u21, u22, u23, u24, u25, u26, u27, u28, u29, u30, u31, u32, u33, u34, u35, u36, .pointer (some ⟨br, 0, none⟩), .slice Aw n cw, .int .i64 (n : Int), .slice (some ⟨gW, 0, none⟩) n n, .pointer (some ⟨br, 0, none⟩), .slice Aw n cw, .int .i64 (n : Int), .slice (some ⟨gM, 0, none⟩) n n, .agg #[.slice (some ⟨gW, 0, none⟩) n n, .slice (some ⟨gM, 0, none⟩) n n, .slice none 0 0, .slice none 0 0], u46, u47, u48, u49, u50, u51, u52, u53, u54, u55, u56, u57, u58, u59, u60, u61, u62, u63, u64, u65, u66, u67, u68, u69, u70, u71, u72, u73, u74, u75, u76, u77, u78, u79, u80, u81, u82, u83, u84, u85, u86, u87, u88], defers := [] } W := by
    intro W gW gM hb zbr zgW zgM mgW mgM dbr_gW dbr_gM dgW_gM
    dsimp only [rg_kStepR6]
    refine wpAnyH_ready (rs := [9]) (by kernel_rfl) (by simp) ?_
    refine AllReadyH.cons rfl (fun K hK => ?_) (AllReadyH.nil)
    · (try simp only [pT])
      rw [if_pos (by rfl)]
      go_simp
      refine hK.out _ _ (HS _ (hb.alloc (Nat.le_trans hC hb.size) _) (((one_upD W _).block br (Array.getElem?_eq_some_iff.1 zbr).1).trans zbr)) (fun hHeld => ?_)
      exact s_1110 (W.alloc (.cells #[.slice none 0 0, .slice none 0 0, .slice none 0 0, .slice none 0 0] 26)) gW gM W.heap.size (hb.alloc (Nat.le_trans hC hb.size) _) (((one_upD W _).block br (Array.getElem?_eq_some_iff.1 zbr).1).trans zbr) (((one_upD W _).block gW (Array.getElem?_eq_some_iff.1 zgW).1).trans zgW) (((one_upD W _).block gM (Array.getElem?_eq_some_iff.1 zgM).1).trans zgM) (World.alloc_heap_new W _) mgW mgM (Nat.le_trans hC hb.size) dbr_gW dbr_gM dgW_gM (Nat.ne_of_lt (Array.getElem?_eq_some_iff.1 zbr).1) (Nat.ne_of_lt (Array.getElem?_eq_some_iff.1 zgW).1) (Nat.ne_of_lt (Array.getElem?_eq_some_iff.1 zgM).1)
  have s_0110 : ∀ (W : World) (gM go : Nat), Below C V W → W.heap[br]? = some (.cells #[.slice Aw n cw, .slice Am n cm, .slice Av nv cv, .slice Ag n cg] 26) → W.heap[gM]? = some (ziM n) → W.heap[go]? = some (.cells #[.slice none 0 0, .slice none 0 0, .slice none 0 0, .slice none 0 0] 26) → C ≤ gM → C ≤ go → br ≠ gM → br ≠ go → gM ≠ go → wpAnyH Try.prog .any rg_kStepR6.1 Q (fun w' => w'.cell? ⟨br, 0, none⟩ = some (.slice Aw n cw)) 3 #[true, true, true, false, true, true, true, true, false, true, false] { tmps := #[u0, u1, u2, u3, u4, .pointer (some ⟨br, 0, none⟩), u6, u7, u8, .pointer (some ⟨go, 0, none⟩), u10, u11, u12, u13, u14, u15, u16, u17, u18, u19, u20, u21, u22, u23, u24, u25, u26, u27, u28, u29, u30, u31, u32, u33, u34, u35, u36, .pointer (some ⟨br, 0, none⟩), .slice Aw n cw, .int .i64 (n : Int), u40, .pointer (some ⟨br, 0, none⟩), .slice Aw n cw, .int .i64 (n : Int), .slice (some ⟨gM, 0, none⟩) n n, u45, u46, u47, u48, u49, u50, u51, u52, u53, u54, u55, u56, u57, u58, u59, u60, u61, u62, u63, u64, u65, u66, u67, u68, u69, u70, u71, u72, u73, u74, u75, u76, u77, u78, u79, u80, u81, u82, u83, u84, u85, u86, u87, u88], defers := [] } W := by
    intro W gM go hb zbr zgM zgo mgM mgo dbr_gM dbr_go dgM_go
    dsimp only [rg_kStepR6]
    refine wpAnyH_ready (rs := [3]) (by kernel_rfl) (by simp) ?_
    refine AllReadyH.cons rfl (fun K hK => ?_) (AllReadyH.nil)
    · (try simp only [pT])
      rw [if_pos (by rfl)]
      go_simp
      refine hK.out _ _ (HS _ (hb.alloc (Nat.le_trans hC hb.size) _) (((one_upD W _).block br (Array.getElem?_eq_some_iff.1 zbr).1).trans zbr)) (fun hHeld => ?_)
      clear hK K
      try simp only [Act.put, pT]
      refine wpAnyH_take (i := 8) (v := ?_) rfl (by kernel_rfl) (by kernel_rfl) (by kernel_rfl) (fun _ _ _ h => hP _ _ _ _ _ h) (Or.inl ⟨by rfl, ?_⟩) hHeld ?_
      rotate_left
      · (intro w hSw; (try dsimp only at hSw); go_simp; (try with_reducible rfl))
      try simp only [Act.put, pT]
      exact s_1110 (W.alloc (ziM n)) W.heap.size gM go (hb.alloc (Nat.le_trans hC hb.size) _) (((one_upD W _).block br (Array.getElem?_eq_some_iff.1 zbr).1).trans zbr) (World.alloc_heap_new W _) (((one_upD W _).block gM (Array.getElem?_eq_some_iff.1 zgM).1).trans zgM) (((one_upD W _).block go (Array.getElem?_eq_some_iff.1 zgo).1).trans zgo) (Nat.le_trans hC hb.size) mgM mgo (Nat.ne_of_lt (Array.getElem?_eq_some_iff.1 zbr).1) dbr_gM (Nat.ne_of_gt (Array.getElem?_eq_some_iff.1 zgM).1) dbr_go (Nat.ne_of_gt (Array.getElem?_eq_some_iff.1 zgo).1) dgM_go
  have s_1010 : ∀ (W : World) (gW go : Nat), Below C V W → W.heap[br]? = some (.cells #[.slice Aw n cw, .slice Am n cm, .slice Av nv cv, .slice Ag n cg] 26) → W.heap[gW]? = some (ziM n) → W.heap[go]? = some (.cells #[.slice none 0 0, .slice none 0 0, .slice none 0 0, .slice none 0 0] 26) → C ≤ gW → C ≤ go → br ≠ gW → br ≠ go → gW ≠ go → wpAnyH Try.prog .any rg_kStepR6.1 Q (fun w' => w'.cell? ⟨br, 0, none⟩ = some (.slice Aw n cw)) 3 #[true, true, true, true, true, true, true, false, false, true, false] { tmps := #[u0, u1, u2, u3, u4, .pointer (some ⟨br, 0, none⟩), u6, u7, u8, .pointer (some ⟨go, 0, none⟩), u10, u11, u12, u13, u14, u15, u16, u17, u18, u19, u20, u21, u22, u23, u24, u25, u26, u27, u28, u29, u30, u31, u32, u33, u34, u35, u36, .pointer (some ⟨br, 0, none⟩), .slice Aw n cw, .int .i64 (n : Int), .slice (some ⟨gW, 0, none⟩) n n, .pointer (some ⟨br, 0, none⟩), .slice Aw n cw, .int .i64 (n : Int), u44, u45, u46, u47, u48, u49, u50, u51, u52, u53, u54, u55, u56, u57, u58, u59, u60, u61, u62, u63, u64, u65, u66, u67, u68, u69, u70, u71, u72, u73, u74, u75, u76, u77, u78, u79, u80, u81, u82, u83, u84, u85, u86, u87, u88], defers := [] } W := by
    intro W gW go hb zbr zgW zgo mgW mgo dbr_gW dbr_go dgW_go
    dsimp only [rg_kStepR6]
    refine wpAnyH_ready (rs := [7]) (by kernel_rfl) (by simp) ?_
    refine AllReadyH.cons rfl (fun K hK => ?_) (AllReadyH.nil)
    · (try simp only [pT])
      rw [if_pos (by rfl)]
      go_simp
      refine hK.out _ _ (HS _ (hb.alloc (Nat.le_trans hC hb.size) _) (((one_upD W _).block br (Array.getElem?_eq_some_iff.1 zbr).1).trans zbr)) (fun hHeld => ?_)
      clear hK K
      try simp only [Act.put, pT]
      refine wpAnyH_take (i := 8) (v := ?_) rfl (by kernel_rfl) (by kernel_rfl) (by kernel_rfl) (fun _ _ _ h => hP _ _ _ _ _ h) (Or.inl ⟨by rfl, ?_⟩) hHeld ?_
      rotate_left
      · (intro w hSw; (try dsimp only at hSw); go_simp; (try with_reducible rfl))
      try simp only [Act.put, pT]
      exact s_1110 (W.alloc (ziM n)) gW W.heap.size go (hb.alloc (Nat.le_trans hC hb.size) _) (((one_upD W _).block br (Array.getElem?_eq_some_iff.1 zbr).1).trans zbr) (((one_upD W _).block gW (Array.getElem?_eq_some_iff.1 zgW).1).trans zgW) (World.alloc_heap_new W _) (((one_upD W _).block go (Array.getElem?_eq_some_iff.1 zgo).1).trans zgo) mgW (Nat.le_trans hC hb.size) mgo dbr_gW (Nat.ne_of_lt (Array.getElem?_eq_some_iff.1 zbr).1) (Nat.ne_of_lt (Array.getElem?_eq_some_iff.1 zgW).1) dbr_go dgW_go (Nat.ne_of_gt (Array.getElem?_eq_some_iff.1 zgo).1)
  have s_0010 : ∀ (W : World) (go : Nat), Below C V W → W.heap[br]? = some (.cells #[.slice Aw n cw, .slice Am n cm, .slice Av nv cv, .slice Ag n cg] 26) → W.heap[go]? = some (.cells #[.slice none 0 0, .slice none 0 0, .slice none 0 0, .slice none 0 0] 26) → C ≤ go → br ≠ go → wpAnyH Try.prog .any rg_kStepR6.1 Q (fun w' => w'.cell? ⟨br, 0, none⟩ = some (.slice Aw n cw)) 4 #[true, true, true, false, true, true, true, false, false, true, false] { tmps := #[u0, u1, u2, u3, u4, .pointer (some ⟨br, 0, none⟩), u6, u7, u8, .pointer (some ⟨go, 0, none⟩), u10, u11, u12, u13, u14, u15, u16, u17, u18, u19, u20, u21, u22, u23, u24, u25, u26, u27, u28, u29, u30, u31, u32, u33, u34, u35, u36, .pointer (some ⟨br, 0, none⟩), .slice Aw n cw, .int .i64 (n : Int), u40, .pointer (some ⟨br, 0, none⟩), .slice Aw n cw, .int .i64 (n : Int), u44, u45, u46, u47, u48, u49, u50, u51, u52, u53, u54, u55, u56, u57, u58, u59, u60, u61, u62, u63, u64, u65, u66, u67, u68, u69, u70, u71, u72, u73, u74, u75, u76, u77, u78, u79, u80, u81, u82, u83, u84, u85, u86, u87, u88], defers := [] } W := by
    intro W go hb zbr zgo mgo dbr_go
    dsimp only [rg_kStepR6]
    refine wpAnyH_ready (rs := [3, 7]) (by kernel_rfl) (by simp) ?_
    refine AllReadyH.cons rfl (fun K hK => ?_) (AllReadyH.cons rfl (fun K hK => ?_) (AllReadyH.nil))
    · (try simp only [pT])
      rw [if_pos (by rfl)]
      go_simp
      refine hK.out _ _ (HS _ (hb.alloc (Nat.le_trans hC hb.size) _) (((one_upD W _).block br (Array.getElem?_eq_some_iff.1 zbr).1).trans zbr)) (fun hHeld => ?_)
      exact s_1010 (W.alloc (ziM n)) W.heap.size go (hb.alloc (Nat.le_trans hC hb.size) _) (((one_upD W _).block br (Array.getElem?_eq_some_iff.1 zbr).1).trans zbr) (World.alloc_heap_new W _) (((one_upD W _).block go (Array.getElem?_eq_some_iff.1 zgo).1).trans zgo) (Nat.le_trans hC hb.size) mgo (Nat.ne_of_lt (Array.getElem?_eq_some_iff.1 zbr).1) dbr_go (Nat.ne_of_gt (Array.getElem?_eq_some_iff.1 zgo).1)
    · (try simp only [pT])
      rw [if_pos (by rfl)]
      go_simp
      refine hK.out _ _ (HS _ (hb.alloc (Nat.le_trans hC hb.size) _) (((one_upD W _).block br (Array.getElem?_eq_some_iff.1 zbr).1).trans zbr)) (fun hHeld => ?_)
      exact s_0110 (W.alloc (ziM n)) W.heap.size go (hb.alloc (Nat.le_trans hC hb.size) _) (((one_upD W _).block br (Array.getElem?_eq_some_iff.1 zbr).1).trans zbr) (World.alloc_heap_new W _) (((one_upD W _).block go (Array.getElem?_eq_some_iff.1 zgo).1).trans zgo) (Nat.le_trans hC hb.size) mgo (Nat.ne_of_lt (Array.getElem?_eq_some_iff.1 zbr).1) dbr_go (Nat.ne_of_gt (Array.getElem?_eq_some_iff.1 zgo).1)
  have s_0100 : ∀ (W : World) (gM : Nat), Below C V W → W.heap[br]? = some (.cells #[.slice Aw n cw, .slice Am n cm, .slice Av nv cv, .slice Ag n cg] 26) → W.heap[gM]? = some (ziM n) → C ≤ gM → br ≠ gM → wpAnyH Try.prog .any rg_kStepR6.1 Q (fun w' => w'.cell? ⟨br, 0, none⟩ = some (.slice Aw n cw)) 4 #[true, true, true, false, true, true, true, true, false, false, false] { tmps := #[u0, u1, u2, u3, u4, .pointer (some ⟨br, 0, none⟩), u6, u7, u8, u9, u10, u11, u12, u13, u14, u15, u16, u17, u18, u19, u20, u21, u22, u23, u24, u25, u26, u27, u28, u29, u30, u31, u32, u33, u34, u35, u36, .pointer (some ⟨br, 0, none⟩), .slice Aw n cw, .int .i64 (n : Int), u40, .pointer (some ⟨br, 0, none⟩), .slice Aw n cw, .int .i64 (n : Int), .slice (some ⟨gM, 0, none⟩) n n, u45, u46, u47, u48, u49, u50, u51, u52, u53, u54, u55, u56, u57, u58, u59, u60, u61, u62, u63, u64, u65, u66, u67, u68, u69, u70, u71, u72, u73, u74, u75, u76, u77, u78, u79, u80, u81, u82, u83, u84, u85, u86, u87, u88], defers := [] } W := by
    intro W gM hb zbr zgM mgM dbr_gM
    dsimp only [rg_kStepR6]
    refine wpAnyH_ready (rs := [3, 9]) (by kernel_rfl) (by simp) ?_
    refine AllReadyH.cons rfl (fun K hK => ?_) (AllReadyH.cons rfl (fun K hK => ?_) (AllReadyH.nil))
    · (try simp only [pT])
      rw [if_pos (by rfl)]
      go_simp
      refine hK.out _ _ (HS _ (hb.alloc (Nat.le_trans hC hb.size) _) (((one_upD W _).block br (Array.getElem?_eq_some_iff.1 zbr).1).trans zbr)) (fun hHeld => ?_)
      clear hK K
      try simp only [Act.put, pT]
      refine wpAnyH_take (i := 8) (v := ?_) rfl (by kernel_rfl) (by kernel_rfl) (by kernel_rfl) (fun _ _ _ h => hP _ _ _ _ _ h) (Or.inl ⟨by rfl, ?_⟩) hHeld ?_
      rotate_left
      · (intro w hSw; (try dsimp only at hSw); go_simp; (try with_reducible rfl))
      try simp only [Act.put, pT]
      exact s_1100 (W.alloc (ziM n)) W.heap.size gM (hb.alloc (Nat.le_trans hC hb.size) _) (((one_upD W _).block br (Array.getElem?_eq_some_iff.1 zbr).1).trans zbr) (World.alloc_heap_new W _) (((one_upD W _).block gM (Array.getElem?_eq_some_iff.1 zgM).1).trans zgM) (Nat.le_trans hC hb.size) mgM (Nat.ne_of_lt (Array.getElem?_eq_some_iff.1 zbr).1) dbr_gM (Nat.ne_of_gt (Array.getElem?_eq_some_iff.1 zgM).1)
    · (try simp only [pT])
      rw [if_pos (by rfl)]
      go_simp
      refine hK.out _ _ (HS _ (hb.alloc (Nat.le_trans hC hb.size) _) (((one_upD W _).block br (Array.getElem?_eq_some_iff.1 zbr).1).trans zbr)) (fun hHeld => ?_)
      exact s_0110 (W.alloc (.cells #[.slice none 0 0, .slice none 0 0, .slice none 0 0, .slice none 0 0] 26)) gM W.heap.size (hb.alloc (Nat.le_trans hC hb.size) _) (((one_upD W _).block br (Array.getElem?_eq_some_iff.1 zbr).1).trans zbr) (((one_upD W _).block gM (Array.getElem?_eq_some_iff.1 zgM).1).trans zgM) (World.alloc_heap_new W _) mgM (Nat.le_trans hC hb.size) dbr_gM (Nat.ne_of_lt (Array.getElem?_eq_some_iff.1 zbr).1) (Nat.ne_of_lt (Array.getElem?_eq_some_iff.1 zgM).1)
  have s_1000 : ∀ (W : World) (gW : Nat), Below C V W → W.heap[br]? = some (.cells #[.slice Aw n cw, .slice Am n cm, .slice Av nv cv, .slice Ag n cg] 26) → W.heap[gW]? = some (ziM n) → C ≤ gW → br ≠ gW → wpAnyH Try.prog .any rg_kStepR6.1 Q (fun w' => w'.cell? ⟨br, 0, none⟩ = some (.slice Aw n cw)) 4 #[true, true, true, true, true, true, true, false, false, false, false] { tmps := #[u0, u1, u2, u3, u4, .pointer (some ⟨br, 0, none⟩), u6, u7, u8, u9, u10, u11, u12, u13, u14, u15, u16, u17, u18, u19, u20, u21, u22, u23, u24, u25, u26, u27, u28, u29, u30, u31, u32, u33, u34, u35, u36, .pointer (some ⟨br, 0, none⟩), .slice Aw n cw, .int .i64 (n : Int), .slice (some ⟨gW, 0, none⟩) n n, .pointer (some ⟨br, 0, none⟩), .slice Aw n cw, .int .i64 (n : Int), u44, u45, u46, u47, u48, u49, u50, u51, u52, u53, u54, u55, u56, u57, u58, u59, u60, u61, u62, u63, u64, u65, u66, u67, u68, u69, u70, u71, u72, u73, u74, u75, u76, u77, u78, u79, u80, u81, u82, u83, u84, u85, u86, u87, u88], defers := [] } W := by
    intro W gW hb zbr zgW mgW dbr_gW
    dsimp only [rg_kStepR6]
    refine wpAnyH_ready (rs := [7, 9]) (by kernel_rfl) (by simp) ?_
    refine AllReadyH.cons rfl (fun K hK => ?_) (AllReadyH.cons rfl (fun K hK => ?_) (AllReadyH.nil))
    · (try simp only [pT])
      rw [if_pos (by rfl)]
      go_simp
      refine hK.out _ _ (HS _ (hb.alloc (Nat.le_trans hC hb.size) _) (((one_upD W _).block br (Array.getElem?_eq_some_iff.1 zbr).1).trans zbr)) (fun hHeld => ?_)
      clear hK K
      try simp only [Act.put, pT]
      refine wpAnyH_take (i := 8) (v := ?_) rfl (by kernel_rfl) (by kernel_rfl) (by kernel_rfl) (fun _ _ _ h => hP _ _ _ _ _ h) (Or.inl ⟨by rfl, ?_⟩) hHeld ?_
      rotate_left
      · (intro w hSw; (try dsimp only at hSw); go_simp; (try with_reducible rfl))
      try simp only [Act.put, pT]
      exact s_1100 (W.alloc (ziM n)) gW W.heap.size (hb.alloc (Nat.le_trans hC hb.size) _) (((one_upD W _).block br (Array.getElem?_eq_some_iff.1 zbr).1).trans zbr) (((one_upD W _).block gW (Array.getElem?_eq_some_iff.1 zgW).1).trans zgW) (World.alloc_heap_new W _) mgW (Nat.le_trans hC hb.size) dbr_gW (Nat.ne_of_lt (Array.getElem?_eq_some_iff.1 zbr).1) (Nat.ne_of_lt (Array.getElem?_eq_some_iff.1 zgW).1)
    · (try simp only [pT])
      rw [if_pos (by rfl)]
      go_simp
      refine hK.out _ _ (HS _ (hb.alloc (Nat.le_trans hC hb.size) _) (((one_upD W _).block br (Array.getElem?_eq_some_iff.1 zbr).1).trans zbr)) (fun hHeld => ?_)
      exact s_1010 (W.alloc (.cells #[.slice none 0 0, .slice none 0 0, .slice none 0 0, .slice none 0 0] 26)) gW W.heap.size (hb.alloc (Nat.le_trans hC hb.size) _) (((one_upD W _).block br (Array.getElem?_eq_some_iff.1 zbr).1).trans zbr) (((one_upD W _).block gW (Array.getElem?_eq_some_iff.1 zgW).1).trans zgW) (World.alloc_heap_new W _) mgW (Nat.le_trans hC hb.size) dbr_gW (Nat.ne_of_lt (Array.getElem?_eq_some_iff.1 zbr).1) (Nat.ne_of_lt (Array.getElem?_eq_some_iff.1 zgW).1)
  have s_0000 : ∀ (W : World), Below C V W → W.heap[br]? = some (.cells #[.slice Aw n cw, .slice Am n cm, .slice Av nv cv, .slice Ag n cg] 26) → wpAnyH Try.prog .any rg_kStepR6.1 Q (fun w' => w'.cell? ⟨br, 0, none⟩ = some (.slice Aw n cw)) 5 #[true, true, true, false, true, true, true, false, false, false, false] { tmps := #[u0, u1, u2, u3, u4, .pointer (some ⟨br, 0, none⟩), u6, u7, u8, u9, u10, u11, u12, u13, u14, u15, u16, u17, u18, u19, u20, u21, u22, u23, u24, u25, u26, u27, u28, u29, u30, u31, u32, u33, u34, u35, u36, .pointer (some ⟨br, 0, none⟩), .slice Aw n cw, .int .i64 (n : Int), u40, .pointer (some ⟨br, 0, none⟩), .slice Aw n cw, .int .i64 (n : Int), u44, u45, u46, u47, u48, u49, u50, u51, u52, u53, u54, u55, u56, u57, u58, u59, u60, u61, u62, u63, u64, u65, u66, u67, u68, u69, u70, u71, u72, u73, u74, u75, u76, u77, u78, u79, u80, u81, u82, u83, u84, u85, u86, u87, u88], defers := [] } W := by
    intro W hb zbr
    dsimp only [rg_kStepR6]
    refine wpAnyH_ready (rs := [3, 7, 9]) (by kernel_rfl) (by simp) ?_
    refine AllReadyH.cons rfl (fun K hK => ?_) (AllReadyH.cons rfl (fun K hK => ?_) (AllReadyH.cons rfl (fun K hK => ?_) (AllReadyH.nil)))
    · (try simp only [pT])
      rw [if_pos (by rfl)]
      go_simp
      refine hK.out _ _ (HS _ (hb.alloc (Nat.le_trans hC hb.size) _) (((one_upD W _).block br (Array.getElem?_eq_some_iff.1 zbr).1).trans zbr)) (fun hHeld => ?_)
      exact s_1000 (W.alloc (ziM n)) W.heap.size (hb.alloc (Nat.le_trans hC hb.size) _) (((one_upD W _).block br (Array.getElem?_eq_some_iff.1 zbr).1).trans zbr) (World.alloc_heap_new W _) (Nat.le_trans hC hb.size) (Nat.ne_of_lt (Array.getElem?_eq_some_iff.1 zbr).1)
    · (try simp only [pT])
      rw [if_pos (by rfl)]
      go_simp
      refine hK.out _ _ (HS _ (hb.alloc (Nat.le_trans hC hb.size) _) (((one_upD W _).block br (Array.getElem?_eq_some_iff.1 zbr).1).trans zbr)) (fun hHeld => ?_)
      exact s_0100 (W.alloc (ziM n)) W.heap.size (hb.alloc (Nat.le_trans hC hb.size) _) (((one_upD W _).block br (Array.getElem?_eq_some_iff.1 zbr).1).trans zbr) (World.alloc_heap_new W _) (Nat.le_trans hC hb.size) (Nat.ne_of_lt (Array.getElem?_eq_some_iff.1 zbr).1)
    · (try simp only [pT])
      rw [if_pos (by rfl)]
      go_simp
      refine hK.out _ _ (HS _ (hb.alloc (Nat.le_trans hC hb.size) _) (((one_upD W _).block br (Array.getElem?_eq_some_iff.1 zbr).1).trans zbr)) (fun hHeld => ?_)
      exact s_0010 (W.alloc (.cells #[.slice none 0 0, .slice none 0 0, .slice none 0 0, .slice none 0 0] 26)) W.heap.size (hb.alloc (Nat.le_trans hC hb.size) _) (((one_upD W _).block br (Array.getElem?_eq_some_iff.1 zbr).1).trans zbr) (World.alloc_heap_new W _) (Nat.le_trans hC hb.size) (Nat.ne_of_lt (Array.getElem?_eq_some_iff.1 zbr).1)
  refine wp_region_n (S := fun w' => w'.cell? ⟨br, 0, none⟩ = some (.slice Aw n cw)) (n := 11) (by kernel_rfl) (by kernel_rfl) (HS _ (below_drewN (Below.refl C V) 1) zbr) (fun hHeld => ?_)
  dsimp only [rg_kStepR6]
  refine wpAnyH_take (i := 0) (v := ?_) rfl (by kernel_rfl) (by kernel_rfl) (by kernel_rfl) (fun _ _ _ h => hP _ _ _ _ _ h) (Or.inl ⟨by rfl, ?_⟩) hHeld ?_
  rotate_left
  · (intro w hSw; (try dsimp only at hSw); go_simp; (try with_reducible rfl))
  try simp only [Act.put, pT]
  refine wpAnyH_take (i := 1) (v := ?_) rfl (by kernel_rfl) (by kernel_rfl) (by kernel_rfl) (fun _ _ _ h => hP _ _ _ _ _ h) (Or.inl ⟨by rfl, ?_⟩) hHeld ?_
  rotate_left
  · (intro w hSw; (try dsimp only at hSw); go_simp; (try with_reducible rfl))
  try simp only [Act.put, pT]
  refine wpAnyH_take (i := 2) (v := ?_) rfl (by kernel_rfl) (by kernel_rfl) (by kernel_rfl) (fun _ _ _ h => hP _ _ _ _ _ h) (Or.inl ⟨by rfl, ?_⟩) hHeld ?_
  rotate_left
  · (intro w hSw; (try dsimp only at hSw); go_simp; (try with_reducible rfl))
  try simp only [Act.put, pT]
  refine wpAnyH_take (i := 4) (v := ?_) rfl (by kernel_rfl) (by kernel_rfl) (by kernel_rfl) (fun _ _ _ h => hP _ _ _ _ _ h) (Or.inl ⟨by rfl, ?_⟩) hHeld ?_
  rotate_left
  · (intro w hSw; (try dsimp only at hSw); go_simp; (try with_reducible rfl))
  try simp only [Act.put, pT]
  refine wpAnyH_take (i := 5) (v := ?_) rfl (by kernel_rfl) (by kernel_rfl) (by kernel_rfl) (fun _ _ _ h => hP _ _ _ _ _ h) (Or.inl ⟨by rfl, ?_⟩) hHeld ?_
  rotate_left
  · (intro w hSw; (try dsimp only at hSw); go_simp; (try with_reducible rfl))
  try simp only [Act.put, pT]
  refine wpAnyH_take (i := 6) (v := ?_) rfl (by kernel_rfl) (by kernel_rfl) (by kernel_rfl) (fun _ _ _ h => hP _ _ _ _ _ h) (Or.inl ⟨by rfl, ?_⟩) hHeld ?_
  rotate_left
  · (intro w hSw; (try dsimp only at hSw); go_simp; (try with_reducible rfl))
  try simp only [Act.put, pT]
  exact s_0000 _ (below_drewN (Below.refl C V) 1) zbr

end Go.Proofs.Ytckdbcngnghhiaa
