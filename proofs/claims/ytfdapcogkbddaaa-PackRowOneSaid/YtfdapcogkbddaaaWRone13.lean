/-
  The walk of PackRowOne.
-/
import Derived.Test.YtfdapcogkbddaaaA2
import Derived.Test.YtfdapcogkbddaaaA1
namespace Go.Proofs.Ytfdapcogkbddaaa
set_option maxRecDepth 100000
open Go.RowKit
set_option linter.unusedVariables false
set_option linter.unusedSimpArgs false

set_option maxRecDepth 100000 in
set_option maxHeartbeats 8000000 in
theorem PackRowOne_few {w : World} {A : Option Addr} {n c : Nat} {z : Int} (h : 1000 < n) :
    Calls Try.prog 8 #[.slice A n c, .int .i64 z] w fun e w' => e = .returned (.bool true) ∧ Below w.heap.size w w' := by
  have t_n : decide (1000 < (n : Int)) = true := decide_eq_true (by omega)
  have u_n : decide (1000 < n) = true := decide_eq_true (by omega)
  clear h
  have cc := Below.refl w.heap.size w
  go_enter Try.func8, Try.ntmps8
  go_wp2_with fail
  refine (alive13_any _).mono ?_
  rintro e w1 ⟨rfl, b⟩
  replace cc := bK cc b
  clear b
  go_wp2_with fail
  go_ret
  exact ⟨rfl, cc⟩

set_option maxRecDepth 100000 in
set_option maxHeartbeats 8000000 in
theorem PackRowOne_no3 {w : World} {A : Option Addr} {n c : Nat} {z : Int} {l : List Nat} (hA : BR w A n c l) (h : n ≤ 1000) (hz : -9223372036854775808 ≤ z ∧ z ≤ 9223372036854775807) (hL : rwL z l = []) (hR : rwR z l = []) (hE : rwE z l = 3) :
    Calls Try.prog 8 #[.slice A n c, .int .i64 z] w fun e w' => e = .returned (.bool true) ∧ Below w.heap.size w w' := by
  have t_n : decide (1000 < (n : Int)) = false := decide_eq_false (by omega)
  have u_n : decide (1000 < n) = false := decide_eq_false (by omega)
  have CT : ∀ {W : World}, BR W A n c l → Calls Try.prog 19 #[.slice A n c, .int .i64 z] W (GotTr W (rwL z l) (rwR z l) (rwE z l)) := fun h => pTakeRow_N h (by omega) hz
  rw [hL, hR, hE] at CT
  clear h hz hL hR hE
  have cc := Below.refl w.heap.size w
  go_enter Try.func8, Try.ntmps8
  go_wp2_with fail
  refine (CT hA).mono ?_
  rintro e w1 ⟨Ax, nx, cx, Bx, px, dx, rfl, hx, kx, b⟩
  replace hA := hA.on b
  replace cc := bK cc b
  clear b
  obtain rfl : nx = 0 := hx.1
  obtain rfl : px = 0 := kx.1
  clear hx kx
  go_wp2_with fail
  refine (alive13_any _).mono ?_
  rintro e w2 ⟨rfl, b⟩
  replace hA := hA.on b
  replace cc := bK cc b
  clear b
  go_wp2_with fail
  go_ret
  exact ⟨rfl, cc⟩

set_option maxRecDepth 100000 in
set_option maxHeartbeats 8000000 in
theorem PackRowOne_no6 {w : World} {A : Option Addr} {n c : Nat} {z : Int} {l : List Nat} (hA : BR w A n c l) (h : n ≤ 1000) (hz : -9223372036854775808 ≤ z ∧ z ≤ 9223372036854775807) (hL : rwL z l = []) (hR : rwR z l = []) (hE : rwE z l = 6) :
    Calls Try.prog 8 #[.slice A n c, .int .i64 z] w fun e w' => e = .returned (.bool true) ∧ Below w.heap.size w w' := by
  have t_n : decide (1000 < (n : Int)) = false := decide_eq_false (by omega)
  have u_n : decide (1000 < n) = false := decide_eq_false (by omega)
  have CT : ∀ {W : World}, BR W A n c l → Calls Try.prog 19 #[.slice A n c, .int .i64 z] W (GotTr W (rwL z l) (rwR z l) (rwE z l)) := fun h => pTakeRow_N h (by omega) hz
  rw [hL, hR, hE] at CT
  clear h hz hL hR hE
  have cc := Below.refl w.heap.size w
  go_enter Try.func8, Try.ntmps8
  go_wp2_with fail
  refine (CT hA).mono ?_
  rintro e w1 ⟨Ax, nx, cx, Bx, px, dx, rfl, hx, kx, b⟩
  replace hA := hA.on b
  replace cc := bK cc b
  clear b
  obtain rfl : nx = 0 := hx.1
  obtain rfl : px = 0 := kx.1
  clear hx kx
  go_wp2_with fail
  refine (alive13_any _).mono ?_
  rintro e w2 ⟨rfl, b⟩
  replace hA := hA.on b
  replace cc := bK cc b
  clear b
  go_wp2_with fail
  go_ret
  exact ⟨rfl, cc⟩

set_option maxRecDepth 100000 in
set_option maxHeartbeats 8000000 in
theorem PackRowOne_some {w : World} {A : Option Addr} {n c : Nat} {z : Int} {l : List Nat} (hA : BR w A n c l) (h : n ≤ 1000) (hz : -9223372036854775808 ≤ z ∧ z ≤ 9223372036854775807) (hl : l = vb (rwL z l).length ++ (rwL z l ++ rwR z l)) (hm : ((rwL z l).length : Int) ≤ z) (hE : rwE z l = 0) (h0 : 0 < (rwR z l).length) :
    Calls Try.prog 8 #[.slice A n c, .int .i64 z] w fun e w' => e = .returned (.bool true) ∧ Below w.heap.size w w' := by
  have t_n : decide (1000 < (n : Int)) = false := decide_eq_false (by omega)
  have u_n : decide (1000 < n) = false := decide_eq_false (by omega)
  obtain ⟨i0, hi, hz0, hz1, hz2⟩ := info_parts infoB
  have CT : ∀ {W : World}, BR W A n c l → Calls Try.prog 19 #[.slice A n c, .int .i64 z] W (GotTr W (rwL z l) (rwR z l) (rwE z l)) := fun h => pTakeRow_N h (by omega) hz
  rw [hE] at CT
  have hl2 := congrArg List.length hl
  rw [List.length_append, List.length_append, ← hA.1] at hl2
  have hX8 := rwL_lt hA.2.2.1 z
  generalize rwL z l = X at *
  generalize rwR z l = R at *
  obtain ⟨p, ep⟩ : ∃ p, X.length = p := ⟨_, rfl⟩
  obtain ⟨q, eq⟩ : ∃ q, R.length = q := ⟨_, rfl⟩
  have hp : p ≤ 1000 := by omega
  have hq : q ≤ 1000 := by omega
  have hvl := (vb_len X.length).2
  have m64 : X.length < 2 * 128 ^ 9 := by rw [b64_9]; omega
  rw [ep] at hm
  have t1 : decide ((p : Int) ≤ z) = true := decide_eq_true hm
  have HP := Lib.hid ep
  have HQ := Lib.hid eq
  have CR : ∀ {W : World} {B : Option Addr} {m e_ : Nat}, BR W B m e_ X → Calls Try.prog 21 #[.slice none 0 0, .slice B m e_] W (GotNew W (vb X.length ++ X)) := fun h2 => pPutRow_N (BR.nil _ none 0) (by omega) h2 (by rw [h2.1]; omega)
  have hF8 : ∀ x ∈ vb X.length ++ X, x < 256 := fun x hx => by rcases List.mem_append.1 hx with e | e; exact vb_lt m64 x e; exact hX8 x e
  have hFl : (vb X.length ++ X).length ≤ 2000 := by rw [List.length_append]; omega
  have hFR : (vb X.length ++ X) ++ R = l := by rw [List.append_assoc]; exact hl.symm
  generalize vb X.length ++ X = F at *
  have HF := Lib.hid hFR
  have F8 := Lib.hid hF8
  have FL := Lib.hid hFl
  have HLL := Lib.hid hA.2.2.1
  clear hl hl2 hX8 hvl m64 hm hE hz hFR hF8 hFl ep eq
  have h0q : 0 < q := by rw [← HQ.out]; exact h0
  clear h0
  have hA0 := Lib.hid hA
  have cc := Below.refl w.heap.size w
  go_enter Try.func8, Try.ntmps8
  go_wp2_with fail
  refine (CT hA).mono ?_
  rintro e w1 ⟨Ax, nx, cx, Bx, px, dx, rfl, hx, kx, b⟩
  replace hA := hA.on b
  replace cc := bK cc b
  clear b
  obtain rfl : nx = p := by rw [hx.1]; exact HP.out
  obtain rfl : px = q := by rw [kx.1]; exact HQ.out
  clear CT
  go_wp2_with fail
  refine (alive13_any _).mono ?_
  rintro e w2 ⟨rfl, b⟩
  replace hA := hA.on b
  replace hx := hx.on b
  replace kx := kx.on b
  replace cc := bK cc b
  clear b
  go_wp2_with fail
  refine (CR hx).mono ?_
  rintro e w3 ⟨g1, n1, d1, rfl, hO, b⟩
  have hbs2 := b.size
  have hcs := cc.size
  replace hA := hA.on b
  replace hx := hx.on b
  replace kx := kx.on b
  replace cc := bK cc b
  clear b
  have hn1 : n1 = F.length := by have := hO.1; simp at this; omega
  have n2 : n1 ≤ 2000 := by have := FL.out; omega
  have hgt := (hO.lt g1 rfl).1
  clear CR
  obtain ⟨bb, off, rfl, hbb⟩ := kx.some h0q
  have HNW := Lib.hid (br_news kx (Below.refl _ _))
  have HL : Hid ((R.map encB).length = px * 1) := Lib.hid (by rw [List.length_map, ← kx.1]; omega)
  have HO := Lib.hid hO
  have hbs := cc.size
  clear hO hn1 hx kx
  go_wp2_with (at_builtin; refine wpList_append_liesG _ (by rfl) _ _ 22 rfl _ 5 i0 (.int .u8 0) 1 1 Try.underlying22 hi hz0 hz1 hz2 rfl (by decide) _ n1 (F.map encB) rfl HO.out ⟨bb, off, none⟩ px dx (R.map encB) rfl HL.out HNW.out (fun u hu => by obtain ⟨x, _, rfl⟩ := List.mem_map.1 hu; rfl) (by omega) (by unfold maxLen; omega) (by omega) (by first | omega | (simp; omega)) _ rfl ?_; intro g2 cap2 w4 hown2 hgrow2 hat2 hlt2)
  have b2 : Below w.heap.size w w4 := cc.grown hgrow2 hbs (fun q e => by injection (show some g1 = some q from e) with e1; omega)
  rw [← List.map_append, HF.out] at hown2
  have hZ := BR.of_own hown2 HLL.out
  have hA4 : BR w4 A n c l := hA0.out.on b2
  replace cc := b2
  clear hA hown2 hgrow2 hat2 hlt2
  refine (rsameB_self hZ hA4 (by omega)).mono ?_
  rintro e wz ⟨rfl, b⟩
  replace cc := bK cc b
  clear b
  go_wp2_with fail
  go_ret
  exact ⟨rfl, cc⟩

set_option maxRecDepth 100000 in
set_option maxHeartbeats 8000000 in
theorem PackRowOne_none {w : World} {A : Option Addr} {n c : Nat} {z : Int} {l : List Nat} (hA : BR w A n c l) (h : n ≤ 1000) (hz : -9223372036854775808 ≤ z ∧ z ≤ 9223372036854775807) (hl : l = vb (rwL z l).length ++ (rwL z l ++ rwR z l)) (hm : ((rwL z l).length : Int) ≤ z) (hE : rwE z l = 0) (h0 : (rwR z l).length = 0) :
    Calls Try.prog 8 #[.slice A n c, .int .i64 z] w fun e w' => e = .returned (.bool true) ∧ Below w.heap.size w w' := by
  have t_n : decide (1000 < (n : Int)) = false := decide_eq_false (by omega)
  have u_n : decide (1000 < n) = false := decide_eq_false (by omega)
  obtain ⟨i0, hi, hz0, hz1, hz2⟩ := info_parts infoB
  have CT : ∀ {W : World}, BR W A n c l → Calls Try.prog 19 #[.slice A n c, .int .i64 z] W (GotTr W (rwL z l) (rwR z l) (rwE z l)) := fun h => pTakeRow_N h (by omega) hz
  rw [hE] at CT
  have hl2 := congrArg List.length hl
  rw [List.length_append, List.length_append, ← hA.1] at hl2
  have hX8 := rwL_lt hA.2.2.1 z
  generalize rwL z l = X at *
  generalize rwR z l = R at *
  obtain ⟨p, ep⟩ : ∃ p, X.length = p := ⟨_, rfl⟩
  obtain ⟨q, eq⟩ : ∃ q, R.length = q := ⟨_, rfl⟩
  have hp : p ≤ 1000 := by omega
  have hq : q ≤ 1000 := by omega
  have hvl := (vb_len X.length).2
  have m64 : X.length < 2 * 128 ^ 9 := by rw [b64_9]; omega
  rw [ep] at hm
  have t1 : decide ((p : Int) ≤ z) = true := decide_eq_true hm
  have HP := Lib.hid ep
  have HQ := Lib.hid eq
  have CR : ∀ {W : World} {B : Option Addr} {m e_ : Nat}, BR W B m e_ X → Calls Try.prog 21 #[.slice none 0 0, .slice B m e_] W (GotNew W (vb X.length ++ X)) := fun h2 => pPutRow_N (BR.nil _ none 0) (by omega) h2 (by rw [h2.1]; omega)
  have hF8 : ∀ x ∈ vb X.length ++ X, x < 256 := fun x hx => by rcases List.mem_append.1 hx with e | e; exact vb_lt m64 x e; exact hX8 x e
  have hFl : (vb X.length ++ X).length ≤ 2000 := by rw [List.length_append]; omega
  have hFR : (vb X.length ++ X) ++ R = l := by rw [List.append_assoc]; exact hl.symm
  generalize vb X.length ++ X = F at *
  have HF := Lib.hid hFR
  have F8 := Lib.hid hF8
  have FL := Lib.hid hFl
  have HLL := Lib.hid hA.2.2.1
  clear hl hl2 hX8 hvl m64 hm hE hz hFR hF8 hFl ep eq
  have h0q : q = 0 := by rw [← HQ.out]; exact h0
  clear h0
  have cc := Below.refl w.heap.size w
  go_enter Try.func8, Try.ntmps8
  go_wp2_with fail
  refine (CT hA).mono ?_
  rintro e w1 ⟨Ax, nx, cx, Bx, px, dx, rfl, hx, kx, b⟩
  replace hA := hA.on b
  replace cc := bK cc b
  clear b
  obtain rfl : nx = p := by rw [hx.1]; exact HP.out
  obtain rfl : px = q := by rw [kx.1]; exact HQ.out
  clear CT
  go_wp2_with fail
  refine (alive13_any _).mono ?_
  rintro e w2 ⟨rfl, b⟩
  replace hA := hA.on b
  replace hx := hx.on b
  replace kx := kx.on b
  replace cc := bK cc b
  clear b
  go_wp2_with fail
  refine (CR hx).mono ?_
  rintro e w3 ⟨g1, n1, d1, rfl, hO, b⟩
  have hbs2 := b.size
  have hcs := cc.size
  replace hA := hA.on b
  replace hx := hx.on b
  replace kx := kx.on b
  replace cc := bK cc b
  clear b
  have hn1 : n1 = F.length := by have := hO.1; simp at this; omega
  have n2 : n1 ≤ 2000 := by have := FL.out; omega
  have hgt := (hO.lt g1 rfl).1
  clear CR
  have hqd : n1 ≤ d1 := (BR.of_own hO F8.out).2.1
  subst h0q
  have hR0 : R = [] := List.eq_nil_of_length_eq_zero HQ.out
  have hZ := BR.of_own hO F8.out
  rw [show F = l by rw [← HF.out, hR0, List.append_nil]] at hZ
  clear hO hn1 hx kx hR0
  go_wp2_with (at_builtin; refine wpList_append_zeroG _ (by rfl) _ _ 22 rfl 5 i0 Try.underlying22 hi _ _ _ _ _ rfl rfl hqd ?_)
  refine (rsameB_self hZ hA (by omega)).mono ?_
  rintro e wz ⟨rfl, b⟩
  replace cc := bK cc b
  clear b
  go_wp2_with fail
  go_ret
  exact ⟨rfl, cc⟩

theorem PackRowOne_walk {w : World} {A : Option Addr} {n c : Nat} {l : List Nat} (hA : BR w A n c l) (z : Int) (wz : (Lit.int .i64 z).wf = true) : Calls Try.prog 8 #[.slice A n c, .int .i64 z] w fun e w' => e = .returned (.bool true) ∧ Below w.heap.size w w' := by
  have hz := bounds_i64 wz
  by_cases h : 1000 < n
  · exact PackRowOne_few h
  rcases rw_ways hA.2.2.1 z with ⟨hL, hR, hE | hE⟩ | ⟨hl, hm, hE⟩
  · exact PackRowOne_no3 hA (by omega) hz hL hR hE
  · exact PackRowOne_no6 hA (by omega) hz hL hR hE
  · rcases Nat.eq_zero_or_pos (rwR z l).length with h0 | h0
    · exact PackRowOne_none hA (by omega) hz hl hm hE h0
    · exact PackRowOne_some hA (by omega) hz hl hm hE h0

end Go.Proofs.Ytfdapcogkbddaaa
