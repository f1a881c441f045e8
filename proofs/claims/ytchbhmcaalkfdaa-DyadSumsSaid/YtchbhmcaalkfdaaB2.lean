/-
  Several texts in one: FL, L6, Fr, FrR, FrA.
-/
import Derived.Test.YtchbhmcaalkfdaaB1
import Derived.Test.YtchbhmcaalkfdaaA2
import Derived.WalkKit
import Derived.ProofKit
import Derived.OpenShut
import Derived.ShutString
import Derived.ChangeOld
import Derived.Below
import Derived.Lib.SmallJoins

/-
  Helps for the laws of dyad.
-/
namespace Go.Proofs.Ytchbhmcaalkfdaa
open Go.RowKit
set_option linter.unusedVariables false
set_option linter.unusedSimpArgs false

theorem zsame_eq {w : World} {b b' : Bool} {A B : Option Addr} {n c m d : Nat} {z z' : Int} (ha : Zn w b A n c z) (hb : Zn w b' B m d z') (hx : (limbs z.natAbs).length ≤ 300) (h : Hid (z = z')) : Calls Try.prog 20 #[.agg #[.bool b, .slice A n c], .agg #[.bool b', .slice B m d]] w (GotV w (.bool true)) := zsame_N true ha hb (by omega) (by rw [← h.out]; omega) (decide_eq_true h.out)
theorem rzcmp_v {w : World} {b b' : Bool} {A B : Option Addr} {n c m d : Nat} {z z' : Int} (r : Int) (ha : Zn w b A n c z) (hb : Zn w b' B m d z') (hx : (limbs z.natAbs).length ≤ 300) (hy : (limbs z'.natAbs).length ≤ 300) (h : cmpZ z z' = r) : Calls Try.prog 29 #[.agg #[.bool b, .slice A n c], .agg #[.bool b', .slice B m d]] w (GotV w (.int .i64 r)) := by
  subst h
  exact rzcmp_N ha hb (by omega) (by omega)
theorem shr_pos {a x : Int} {n : Nat} (g : a = x / ((2 ^ n : Nat) : Int)) (h : ¬ x < 0) : a = ((x.natAbs / 2 ^ n : Nat) : Int) := by
  have e : ((x.natAbs : Nat) : Int) = x := by omega
  rw [Int.natCast_ediv, e]
  exact g
theorem cmpZ_le {a b : Int} : cmpZ a b ≤ 0 ↔ a ≤ b := by unfold cmpZ; split <;> (try split) <;> omega

theorem absQ_parts (x : Rat) : (absQ x).num = ((x.num.natAbs : Nat) : Int) ∧ (absQ x).den = x.den := by
  have h : x < 0 ↔ x.num < 0 := by
    rw [Rat.lt_iff]
    show x.num * ((1 : Nat) : Int) < 0 * (x.den : Int) ↔ _
    omega
  unfold absQ
  by_cases hx : x.num < 0
  · rw [if_pos (h.2 hx), Rat.neg_num, Rat.neg_den]; exact ⟨by omega, rfl⟩
  · rw [if_neg (fun a => hx (h.1 a))]; exact ⟨by omega, rfl⟩
theorem absQ_sz {x : Rat} {k : Nat} (h : Sz x k) : Sz (absQ x) k := by
  obtain ⟨a, b⟩ := absQ_parts x
  exact ⟨by rw [a, Int.natAbs_natCast]; exact h.1, by rw [b]; exact h.2⟩
set_option maxRecDepth 100000 in
set_option maxHeartbeats 2000000 in
theorem rtabs_N {w : World} {b : Bool} {A B : Option Addr} {n c m d : Nat} {x : Rat} (h : Rt w b A n c B m d x) :
    Calls Try.prog 25 #[.agg #[.bool b, .slice A n c, .slice B m d]] w (GotRt w (absQ x)) := by
  obtain ⟨e1, e2⟩ := absQ_parts x
  have HA : Hid (∀ W : World, Below w.heap.size w W → Rt W false A n c B m d (absQ x)) := Lib.hid (fun W hW => ⟨by rw [e1]; exact zn_nat (h.1.1.on hW), by rw [e2]; exact h.2.on hW⟩)
  obtain ⟨W, hW⟩ : ∃ W, (w.alloc (.cells #[.bool b, .slice A n c, .slice B m d] 27)).alloc (.cells #[.bool false, .slice none 0 0, .slice none 0 0] 27) = W := ⟨_, rfl⟩
  have hB : Below w.heap.size w W := by rw [← hW]; exact below_two w _ _
  have c0 : W.cell? ⟨w.heap.size, 0, none⟩ = some (.bool b) := by rw [← hW]; simp [go_sem]
  have c1 : W.cell? ⟨w.heap.size, 1, none⟩ = some (.slice A n c) := by rw [← hW]; simp [go_sem]
  have c2 : W.cell? ⟨w.heap.size, 2, none⟩ = some (.slice B m d) := by rw [← hW]; simp [go_sem]
  have d0 : W.cell? ⟨w.heap.size + 1, 0, none⟩ = some (.bool false) := by rw [← hW]; simp [go_sem]
  have d1 : W.cell? ⟨w.heap.size + 1, 1, none⟩ = some (.slice none 0 0) := by rw [← hW]; simp [go_sem]
  have d2 : W.cell? ⟨w.heap.size + 1, 2, none⟩ = some (.slice none 0 0) := by rw [← hW]; simp [go_sem]
  have f0 : W.frozen? ⟨w.heap.size + 1, 0, none⟩ = false := by rw [← hW]; simp [go_sem]
  have f1 : W.frozen? ⟨w.heap.size + 1, 1, none⟩ = false := by rw [← hW]; simp [go_sem]
  have f2 : W.frozen? ⟨w.heap.size + 1, 2, none⟩ = false := by rw [← hW]; simp [go_sem]
  have hr := HA.out W hB
  have eb : BoxR W (w.heap.size + 1) false none 0 0 none 0 0 := ⟨d0, d1, d2⟩
  have HZ : Hid (Rt (putR W (w.heap.size + 1) (.bool false) (.slice A n c) (.slice B m d)) false A n c B m d (absQ x)) := Lib.hid (Rt.putR hr eb _ _ _)
  clear hr h e1 e2
  go_enter Try.func25, Try.ntmps25
  go_wp2_with fail
  clear hW
  refine bodyPost_ret (v := .agg #[.bool false, .slice A n c, .slice B m d]) (by simp [results, Try.results25, go_sem, d0, d1, d2]) rfl ⟨_, _, _, _, _, _, _, rfl, HZ.out, below_putR hB (by omega) _ _ _⟩

end Go.Proofs.Ytchbhmcaalkfdaa

/-
  What the laws of dyad lean on: alive.
-/
namespace Go.Proofs.Ytchbhmcaalkfdaa
open Go.RowKit
set_option linter.unusedVariables false
set_option linter.unusedSimpArgs false

set_option maxRecDepth 100000 in
set_option maxHeartbeats 8000000 in
theorem alive6_any (w : World) :
    Calls Try.prog 11 #[] w (GotV w (.bool true)) := by
  obtain ⟨ra, hra⟩ : ∃ r, mkRat 5 4 = r := ⟨_, rfl⟩
  obtain ⟨rb, hrb⟩ : ∃ r, mkRat 3 2 = r := ⟨_, rfl⟩
  have sa : Sz ra 1 := by rw [← hra]; exact sz_mk (by decide) (len_one (by decide)) (len_one (by decide))
  have sb : Sz rb 1 := by rw [← hrb]; exact sz_mk (by decide) (len_one (by decide)) (len_one (by decide))
  have CA : ∀ W : World, Calls Try.prog 34 #[.int .i64 5, .int .i64 4] W (GotRt W ra) := fun W => by rw [← hra]; exact rtfrac_N W (by unfold I64; omega) (by unfold I64; omega) (by decide)
  have CD : ∀ W : World, Calls Try.prog 34 #[.int .i64 3, .int .i64 2] W (GotRt W rb) := fun W => by rw [← hrb]; exact rtfrac_N W (by unfold I64; omega) (by unfold I64; omega) (by decide)
  have f1_ : flo ra (1 : Int).toNat = 2 := by rw [← hra]; decide +kernel
  have f2_ : cei ra (1 : Int).toNat = 3 := by rw [← hra]; decide +kernel
  have f3_ : nea ra (1 : Int).toNat = 2 := by rw [← hra]; decide +kernel
  have f4_ : bak 3 (1 : Int).toNat = rb := by rw [← hrb]; rfl
  have CF : ∀ {W : World} {b : Bool} {A B : Option Addr} {n c m d : Nat}, Rt W b A n c B m d ra → Calls Try.prog 12 #[.agg #[.bool b, .slice A n c, .slice B m d], .int .i64 1] W (GotZp W 2 0) := fun hh => by rw [← f1_]; exact dfloor_N hh (sa.le (by omega)) (by omega) (by omega)
  have CC : ∀ {W : World} {b : Bool} {A B : Option Addr} {n c m d : Nat}, Rt W b A n c B m d ra → Calls Try.prog 14 #[.agg #[.bool b, .slice A n c, .slice B m d], .int .i64 1] W (GotZp W 3 0) := fun hh => by rw [← f2_]; exact dceil_N hh (sa.le (by omega)) (by omega) (by omega)
  have CN : ∀ {W : World} {b : Bool} {A B : Option Addr} {n c m d : Nat}, Rt W b A n c B m d ra → Calls Try.prog 16 #[.agg #[.bool b, .slice A n c, .slice B m d], .int .i64 1] W (GotZp W 2 0) := fun hh => by rw [← f3_]; exact dnear_N hh (sa.le (by omega)) (by omega) (by omega)
  have CB : ∀ {W : World} {b : Bool} {A : Option Addr} {n c : Nat}, Zn W b A n c 3 → Calls Try.prog 18 #[.agg #[.bool b, .slice A n c], .int .i64 1] W (GotRp W rb 0) := fun hh => by rw [← f4_]; exact dback_N hh (Nat.le_trans (len_one (by decide)) (by omega)) (by omega) (by omega)
  have l2 : (limbs (2 : Int).natAbs).length ≤ 300 := Nat.le_trans (len_one (by decide)) (by omega)
  have l3 : (limbs (3 : Int).natAbs).length ≤ 300 := Nat.le_trans (len_one (by decide)) (by omega)
  have i2 : I64 2 := by unfold I64; omega
  have i3 : I64 3 := by unfold I64; omega
  clear hra hrb f1_ f2_ f3_ f4_
  have cc := Below.refl w.heap.size w
  go_enter Try.func11, Try.ntmps11
  go_wp2_with fail
  refine (CA w).mono ?_
  rintro e w1 ⟨ba, Aa, na, ca, Ba, ma, da, rfl, ha, b⟩
  replace cc := bK cc b
  clear b
  go_wp2_with fail
  have bA := below_one w1 (.cells #[.bool ba, .slice Aa na ca, .slice Ba ma da] 27)
  replace ha := ha.on bA
  replace cc := bK cc bA
  clear bA
  have k0 : (w1.alloc (.cells #[.bool ba, .slice Aa na ca, .slice Ba ma da] 27)).cell? ⟨w1.heap.size, 0, none⟩ = some (.bool ba) := by simp [go_sem]
  have k1 : (w1.alloc (.cells #[.bool ba, .slice Aa na ca, .slice Ba ma da] 27)).cell? ⟨w1.heap.size, 1, none⟩ = some (.slice Aa na ca) := by simp [go_sem]
  have k2 : (w1.alloc (.cells #[.bool ba, .slice Aa na ca, .slice Ba ma da] 27)).cell? ⟨w1.heap.size, 2, none⟩ = some (.slice Ba ma da) := by simp [go_sem]
  have kl : w1.heap.size < (w1.alloc (.cells #[.bool ba, .slice Aa na ca, .slice Ba ma da] 27)).heap.size := by simp
  generalize w1.alloc (.cells #[.bool ba, .slice Aa na ca, .slice Ba ma da] 27) = v2 at *
  refine (CF ha).mono ?_
  rintro e w3 ⟨bx, Ax, nx, cx, rfl, hx, b⟩
  replace ha := ha.on b
  replace k0 := cK b k0 kl
  replace k1 := cK b k1 kl
  replace k2 := cK b k2 kl
  replace kl := lK b kl
  replace cc := bK cc b
  clear b
  go_wp2_with fail
  have bA := below_one w3 (.cells #[.bool bx, .slice Ax nx cx] 25)
  replace ha := ha.on bA
  replace hx := hx.on bA
  replace k0 := cK bA k0 kl
  replace k1 := cK bA k1 kl
  replace k2 := cK bA k2 kl
  replace kl := lK bA kl
  replace cc := bK cc bA
  clear bA
  have x0 : (w3.alloc (.cells #[.bool bx, .slice Ax nx cx] 25)).cell? ⟨w3.heap.size, 0, none⟩ = some (.bool bx) := by simp [go_sem]
  have x1 : (w3.alloc (.cells #[.bool bx, .slice Ax nx cx] 25)).cell? ⟨w3.heap.size, 1, none⟩ = some (.slice Ax nx cx) := by simp [go_sem]
  have xl : w3.heap.size < (w3.alloc (.cells #[.bool bx, .slice Ax nx cx] 25)).heap.size := by simp
  generalize w3.alloc (.cells #[.bool bx, .slice Ax nx cx] 25) = v4 at *
  refine (CC ha).mono ?_
  rintro e w5 ⟨bi, Ai, ni, ci, rfl, hi, b⟩
  replace ha := ha.on b
  replace hx := hx.on b
  replace k0 := cK b k0 kl
  replace k1 := cK b k1 kl
  replace k2 := cK b k2 kl
  replace kl := lK b kl
  replace x0 := cK b x0 xl
  replace x1 := cK b x1 xl
  replace xl := lK b xl
  replace cc := bK cc b
  clear b
  go_wp2_with fail
  have bA := below_one w5 (.cells #[.bool bi, .slice Ai ni ci] 25)
  replace ha := ha.on bA
  replace hx := hx.on bA
  replace hi := hi.on bA
  replace k0 := cK bA k0 kl
  replace k1 := cK bA k1 kl
  replace k2 := cK bA k2 kl
  replace kl := lK bA kl
  replace x0 := cK bA x0 xl
  replace x1 := cK bA x1 xl
  replace xl := lK bA xl
  replace cc := bK cc bA
  clear bA
  have i0 : (w5.alloc (.cells #[.bool bi, .slice Ai ni ci] 25)).cell? ⟨w5.heap.size, 0, none⟩ = some (.bool bi) := by simp [go_sem]
  have i1 : (w5.alloc (.cells #[.bool bi, .slice Ai ni ci] 25)).cell? ⟨w5.heap.size, 1, none⟩ = some (.slice Ai ni ci) := by simp [go_sem]
  have il : w5.heap.size < (w5.alloc (.cells #[.bool bi, .slice Ai ni ci] 25)).heap.size := by simp
  generalize w5.alloc (.cells #[.bool bi, .slice Ai ni ci] 25) = v6 at *
  refine (CN ha).mono ?_
  rintro e w7 ⟨bz, Az, nz, cz, rfl, hz, b⟩
  replace ha := ha.on b
  replace hx := hx.on b
  replace hi := hi.on b
  replace k0 := cK b k0 kl
  replace k1 := cK b k1 kl
  replace k2 := cK b k2 kl
  replace kl := lK b kl
  replace x0 := cK b x0 xl
  replace x1 := cK b x1 xl
  replace xl := lK b xl
  replace i0 := cK b i0 il
  replace i1 := cK b i1 il
  replace il := lK b il
  replace cc := bK cc b
  clear b
  go_wp2_with fail
  have bA := below_one w7 (.cells #[.bool bz, .slice Az nz cz] 25)
  replace ha := ha.on bA
  replace hx := hx.on bA
  replace hi := hi.on bA
  replace hz := hz.on bA
  replace k0 := cK bA k0 kl
  replace k1 := cK bA k1 kl
  replace k2 := cK bA k2 kl
  replace kl := lK bA kl
  replace x0 := cK bA x0 xl
  replace x1 := cK bA x1 xl
  replace xl := lK bA xl
  replace i0 := cK bA i0 il
  replace i1 := cK bA i1 il
  replace il := lK bA il
  replace cc := bK cc bA
  clear bA
  have z0 : (w7.alloc (.cells #[.bool bz, .slice Az nz cz] 25)).cell? ⟨w7.heap.size, 0, none⟩ = some (.bool bz) := by simp [go_sem]
  have z1 : (w7.alloc (.cells #[.bool bz, .slice Az nz cz] 25)).cell? ⟨w7.heap.size, 1, none⟩ = some (.slice Az nz cz) := by simp [go_sem]
  have zl : w7.heap.size < (w7.alloc (.cells #[.bool bz, .slice Az nz cz] 25)).heap.size := by simp
  generalize w7.alloc (.cells #[.bool bz, .slice Az nz cz] 25) = v8 at *
  refine (CB hi).mono ?_
  rintro e w9 ⟨br, Ar, nr, cr, Br, mr, dr, rfl, hr, b⟩
  replace ha := ha.on b
  replace hx := hx.on b
  replace hi := hi.on b
  replace hz := hz.on b
  replace k0 := cK b k0 kl
  replace k1 := cK b k1 kl
  replace k2 := cK b k2 kl
  replace kl := lK b kl
  replace x0 := cK b x0 xl
  replace x1 := cK b x1 xl
  replace xl := lK b xl
  replace i0 := cK b i0 il
  replace i1 := cK b i1 il
  replace il := lK b il
  replace z0 := cK b z0 zl
  replace z1 := cK b z1 zl
  replace zl := lK b zl
  replace cc := bK cc b
  clear b
  go_wp2_with fail
  have bA := below_one w9 (.cells #[.bool br, .slice Ar nr cr, .slice Br mr dr] 27)
  replace ha := ha.on bA
  replace hx := hx.on bA
  replace hi := hi.on bA
  replace hz := hz.on bA
  replace hr := hr.on bA
  replace k0 := cK bA k0 kl
  replace k1 := cK bA k1 kl
  replace k2 := cK bA k2 kl
  replace kl := lK bA kl
  replace x0 := cK bA x0 xl
  replace x1 := cK bA x1 xl
  replace xl := lK bA xl
  replace i0 := cK bA i0 il
  replace i1 := cK bA i1 il
  replace il := lK bA il
  replace z0 := cK bA z0 zl
  replace z1 := cK bA z1 zl
  replace zl := lK bA zl
  replace cc := bK cc bA
  clear bA
  have r0 : (w9.alloc (.cells #[.bool br, .slice Ar nr cr, .slice Br mr dr] 27)).cell? ⟨w9.heap.size, 0, none⟩ = some (.bool br) := by simp [go_sem]
  have r1 : (w9.alloc (.cells #[.bool br, .slice Ar nr cr, .slice Br mr dr] 27)).cell? ⟨w9.heap.size, 1, none⟩ = some (.slice Ar nr cr) := by simp [go_sem]
  have r2 : (w9.alloc (.cells #[.bool br, .slice Ar nr cr, .slice Br mr dr] 27)).cell? ⟨w9.heap.size, 2, none⟩ = some (.slice Br mr dr) := by simp [go_sem]
  have rl : w9.heap.size < (w9.alloc (.cells #[.bool br, .slice Ar nr cr, .slice Br mr dr] 27)).heap.size := by simp
  generalize w9.alloc (.cells #[.bool br, .slice Ar nr cr, .slice Br mr dr] 27) = v10 at *
  have bD : Below v10.heap.size v10 v10.drew := below_drewN (Below.refl _ v10) 1
  replace ha := ha.on bD
  replace hx := hx.on bD
  replace hi := hi.on bD
  replace hz := hz.on bD
  replace hr := hr.on bD
  replace k0 := cK bD k0 kl
  replace k1 := cK bD k1 kl
  replace k2 := cK bD k2 kl
  replace kl := lK bD kl
  replace x0 := cK bD x0 xl
  replace x1 := cK bD x1 xl
  replace xl := lK bD xl
  replace i0 := cK bD i0 il
  replace i1 := cK bD i1 il
  replace il := lK bD il
  replace z0 := cK bD z0 zl
  replace z1 := cK bD z1 zl
  replace zl := lK bD zl
  replace r0 := cK bD r0 rl
  replace r1 := cK bD r1 rl
  replace r2 := cK bD r2 rl
  replace rl := lK bD rl
  replace cc := bK cc bD
  clear bD
  refine wp_region_held_drew (S := fun w' => w'.cell? ⟨w1.heap.size, 0, none⟩ = some (.bool ba) ∧ w'.cell? ⟨w1.heap.size, 1, none⟩ = some (.slice Aa na ca) ∧ w'.cell? ⟨w1.heap.size, 2, none⟩ = some (.slice Ba ma da) ∧ w'.cell? ⟨w3.heap.size, 0, none⟩ = some (.bool bx) ∧ w'.cell? ⟨w3.heap.size, 1, none⟩ = some (.slice Ax nx cx) ∧ w'.cell? ⟨w5.heap.size, 0, none⟩ = some (.bool bi) ∧ w'.cell? ⟨w5.heap.size, 1, none⟩ = some (.slice Ai ni ci) ∧ w'.cell? ⟨w7.heap.size, 0, none⟩ = some (.bool bz) ∧ w'.cell? ⟨w7.heap.size, 1, none⟩ = some (.slice Az nz cz) ∧ w'.cell? ⟨w9.heap.size, 0, none⟩ = some (.bool br) ∧ w'.cell? ⟨w9.heap.size, 1, none⟩ = some (.slice Ar nr cr) ∧ w'.cell? ⟨w9.heap.size, 2, none⟩ = some (.slice Br mr dr)) (by kernel_rfl) ?_ (fun hHeld => ?_)
  · exact ⟨k0, k1, k2, x0, x1, i0, i1, z0, z1, r0, r1, r2⟩
  refine wpAnyH_take (i := 0) (v := ?_) rfl (by kernel_rfl) (by kernel_rfl) (by kernel_rfl) (fun _ _ _ h => h) (Or.inl ⟨by rfl, ?_⟩) hHeld ?_
  rotate_left
  · (intro w hSw; (try dsimp only at hSw); go_simp; (try with_reducible rfl))
  try simp only [Act.put, List.getElem_toArray, List.getElem_cons_zero, List.getElem_cons_succ, List.setIfInBounds_toArray, List.set_cons_zero, List.set_cons_succ]
  refine wpAnyH_take (i := 1) (v := ?_) rfl (by kernel_rfl) (by kernel_rfl) (by kernel_rfl) (fun _ _ _ h => h) (Or.inl ⟨by rfl, ?_⟩) hHeld ?_
  rotate_left
  · (intro w hSw; (try dsimp only at hSw); go_simp; (try with_reducible rfl))
  try simp only [Act.put, List.getElem_toArray, List.getElem_cons_zero, List.getElem_cons_succ, List.setIfInBounds_toArray, List.set_cons_zero, List.set_cons_succ]
  refine wpAnyH_take (i := 2) (v := ?_) rfl (by kernel_rfl) (by kernel_rfl) (by kernel_rfl) (fun _ _ _ h => h) (Or.inl ⟨by rfl, ?_⟩) hHeld ?_
  rotate_left
  · (intro w hSw; (try dsimp only at hSw); go_simp; (try with_reducible rfl))
  try simp only [Act.put, List.getElem_toArray, List.getElem_cons_zero, List.getElem_cons_succ, List.setIfInBounds_toArray, List.set_cons_zero, List.set_cons_succ]
  refine wpAnyH_ready (rs := [3]) (by kernel_rfl) (by simp) ?_
  refine AllReadyH.cons rfl (fun K hK => ?_) AllReadyH.nil
  (try simp only [List.getElem_toArray, List.getElem_cons_zero, List.getElem_cons_succ])
  rw [if_pos (by rfl)]
  go_simp
  go_at_call 22
  refine (rzof_N _ 2 i2).mono ?_
  rintro e w11 ⟨bu, Au, nu, cu, rfl, hu, b⟩
  replace ha := ha.on b
  replace hx := hx.on b
  replace hi := hi.on b
  replace hz := hz.on b
  replace hr := hr.on b
  replace k0 := cK b k0 kl
  replace k1 := cK b k1 kl
  replace k2 := cK b k2 kl
  replace kl := lK b kl
  replace x0 := cK b x0 xl
  replace x1 := cK b x1 xl
  replace xl := lK b xl
  replace i0 := cK b i0 il
  replace i1 := cK b i1 il
  replace il := lK b il
  replace z0 := cK b z0 zl
  replace z1 := cK b z1 zl
  replace zl := lK b zl
  replace r0 := cK b r0 rl
  replace r1 := cK b r1 rl
  replace r2 := cK b r2 rl
  replace rl := lK b rl
  replace cc := bK cc b
  clear b
  refine hK.out _ _ ?_ (fun hHeld => ?_)
  · exact ⟨k0, k1, k2, x0, x1, i0, i1, z0, z1, r0, r1, r2⟩
  clear hK K
  try simp only [Act.put, List.getElem_toArray, List.getElem_cons_zero, List.getElem_cons_succ, List.setIfInBounds_toArray, List.set_cons_zero, List.set_cons_succ]
  refine wpAnyH_ready (rs := [4]) (by kernel_rfl) (by simp) ?_
  refine AllReadyH.cons rfl (fun K hK => ?_) AllReadyH.nil
  (try simp only [List.getElem_toArray, List.getElem_cons_zero, List.getElem_cons_succ])
  rw [if_pos (by rfl)]
  go_simp
  go_at_call 20
  refine (zsame_self hx hu l2).mono ?_
  rintro e w12 ⟨rfl, b⟩
  replace ha := ha.on b
  replace hx := hx.on b
  replace hi := hi.on b
  replace hz := hz.on b
  replace hr := hr.on b
  replace hu := hu.on b
  replace k0 := cK b k0 kl
  replace k1 := cK b k1 kl
  replace k2 := cK b k2 kl
  replace kl := lK b kl
  replace x0 := cK b x0 xl
  replace x1 := cK b x1 xl
  replace xl := lK b xl
  replace i0 := cK b i0 il
  replace i1 := cK b i1 il
  replace il := lK b il
  replace z0 := cK b z0 zl
  replace z1 := cK b z1 zl
  replace zl := lK b zl
  replace r0 := cK b r0 rl
  replace r1 := cK b r1 rl
  replace r2 := cK b r2 rl
  replace rl := lK b rl
  replace cc := bK cc b
  clear b
  refine hK.out _ _ ?_ (fun hHeld => ?_)
  · exact ⟨k0, k1, k2, x0, x1, i0, i1, z0, z1, r0, r1, r2⟩
  clear hK K
  try simp only [Act.put, List.getElem_toArray, List.getElem_cons_zero, List.getElem_cons_succ, List.setIfInBounds_toArray, List.set_cons_zero, List.set_cons_succ]
  refine wpAnyH_take (i := 5) (v := ?_) rfl (by kernel_rfl) (by kernel_rfl) (by kernel_rfl) (fun _ _ _ h => h) (Or.inl ⟨by rfl, ?_⟩) hHeld ?_
  rotate_left
  · (intro w hSw; (try dsimp only at hSw); go_simp; (try with_reducible rfl))
  try simp only [Act.put, List.getElem_toArray, List.getElem_cons_zero, List.getElem_cons_succ, List.setIfInBounds_toArray, List.set_cons_zero, List.set_cons_succ]
  refine wpAnyH_take (i := 6) (v := ?_) rfl (by kernel_rfl) (by kernel_rfl) (by kernel_rfl) (fun _ _ _ h => h) (Or.inl ⟨by rfl, ?_⟩) hHeld ?_
  rotate_left
  · (intro w hSw; (try dsimp only at hSw); go_simp; (try with_reducible rfl))
  try simp only [Act.put, List.getElem_toArray, List.getElem_cons_zero, List.getElem_cons_succ, List.setIfInBounds_toArray, List.set_cons_zero, List.set_cons_succ]
  refine wpAnyH_take (i := 7) (v := ?_) rfl (by kernel_rfl) (by kernel_rfl) (by kernel_rfl) (fun _ _ _ h => h) (Or.inl ⟨by rfl, ?_⟩) hHeld ?_
  rotate_left
  · (intro w hSw; (try dsimp only at hSw); go_simp; (try with_reducible rfl))
  try simp only [Act.put, List.getElem_toArray, List.getElem_cons_zero, List.getElem_cons_succ, List.setIfInBounds_toArray, List.set_cons_zero, List.set_cons_succ]
  refine wpAnyH_ready (rs := [8]) (by kernel_rfl) (by simp) ?_
  refine AllReadyH.cons rfl (fun K hK => ?_) AllReadyH.nil
  (try simp only [List.getElem_toArray, List.getElem_cons_zero, List.getElem_cons_succ])
  rw [if_pos (by rfl)]
  go_simp
  go_at_call 22
  refine (rzof_N _ 3 i3).mono ?_
  rintro e w13 ⟨bv, Av, nv, cv, rfl, hv, b⟩
  replace ha := ha.on b
  replace hx := hx.on b
  replace hi := hi.on b
  replace hz := hz.on b
  replace hr := hr.on b
  replace hu := hu.on b
  replace k0 := cK b k0 kl
  replace k1 := cK b k1 kl
  replace k2 := cK b k2 kl
  replace kl := lK b kl
  replace x0 := cK b x0 xl
  replace x1 := cK b x1 xl
  replace xl := lK b xl
  replace i0 := cK b i0 il
  replace i1 := cK b i1 il
  replace il := lK b il
  replace z0 := cK b z0 zl
  replace z1 := cK b z1 zl
  replace zl := lK b zl
  replace r0 := cK b r0 rl
  replace r1 := cK b r1 rl
  replace r2 := cK b r2 rl
  replace rl := lK b rl
  replace cc := bK cc b
  clear b
  refine hK.out _ _ ?_ (fun hHeld => ?_)
  · exact ⟨k0, k1, k2, x0, x1, i0, i1, z0, z1, r0, r1, r2⟩
  clear hK K
  try simp only [Act.put, List.getElem_toArray, List.getElem_cons_zero, List.getElem_cons_succ, List.setIfInBounds_toArray, List.set_cons_zero, List.set_cons_succ]
  refine wpAnyH_ready (rs := [9]) (by kernel_rfl) (by simp) ?_
  refine AllReadyH.cons rfl (fun K hK => ?_) AllReadyH.nil
  (try simp only [List.getElem_toArray, List.getElem_cons_zero, List.getElem_cons_succ])
  rw [if_pos (by rfl)]
  go_simp
  go_at_call 20
  refine (zsame_self hi hv l3).mono ?_
  rintro e w14 ⟨rfl, b⟩
  replace ha := ha.on b
  replace hx := hx.on b
  replace hi := hi.on b
  replace hz := hz.on b
  replace hr := hr.on b
  replace hu := hu.on b
  replace hv := hv.on b
  replace k0 := cK b k0 kl
  replace k1 := cK b k1 kl
  replace k2 := cK b k2 kl
  replace kl := lK b kl
  replace x0 := cK b x0 xl
  replace x1 := cK b x1 xl
  replace xl := lK b xl
  replace i0 := cK b i0 il
  replace i1 := cK b i1 il
  replace il := lK b il
  replace z0 := cK b z0 zl
  replace z1 := cK b z1 zl
  replace zl := lK b zl
  replace r0 := cK b r0 rl
  replace r1 := cK b r1 rl
  replace r2 := cK b r2 rl
  replace rl := lK b rl
  replace cc := bK cc b
  clear b
  refine hK.out _ _ ?_ (fun hHeld => ?_)
  · exact ⟨k0, k1, k2, x0, x1, i0, i1, z0, z1, r0, r1, r2⟩
  clear hK K
  try simp only [Act.put, List.getElem_toArray, List.getElem_cons_zero, List.getElem_cons_succ, List.setIfInBounds_toArray, List.set_cons_zero, List.set_cons_succ]
  refine wpAnyH_take (i := 10) (v := ?_) rfl (by kernel_rfl) (by kernel_rfl) (by kernel_rfl) (fun _ _ _ h => h) (Or.inl ⟨by rfl, ?_⟩) hHeld ?_
  rotate_left
  · (intro w hSw; (try dsimp only at hSw); go_simp; (try with_reducible rfl))
  try simp only [Act.put, List.getElem_toArray, List.getElem_cons_zero, List.getElem_cons_succ, List.setIfInBounds_toArray, List.set_cons_zero, List.set_cons_succ]
  refine wpAnyH_take (i := 11) (v := ?_) rfl (by kernel_rfl) (by kernel_rfl) (by kernel_rfl) (fun _ _ _ h => h) (Or.inl ⟨by rfl, ?_⟩) hHeld ?_
  rotate_left
  · (intro w hSw; (try dsimp only at hSw); go_simp; (try with_reducible rfl))
  try simp only [Act.put, List.getElem_toArray, List.getElem_cons_zero, List.getElem_cons_succ, List.setIfInBounds_toArray, List.set_cons_zero, List.set_cons_succ]
  refine wpAnyH_take (i := 12) (v := ?_) rfl (by kernel_rfl) (by kernel_rfl) (by kernel_rfl) (fun _ _ _ h => h) (Or.inl ⟨by rfl, ?_⟩) hHeld ?_
  rotate_left
  · (intro w hSw; (try dsimp only at hSw); go_simp; (try with_reducible rfl))
  try simp only [Act.put, List.getElem_toArray, List.getElem_cons_zero, List.getElem_cons_succ, List.setIfInBounds_toArray, List.set_cons_zero, List.set_cons_succ]
  refine wpAnyH_take (i := 13) (v := ?_) rfl (by kernel_rfl) (by kernel_rfl) (by kernel_rfl) (fun _ _ _ h => h) (Or.inl ⟨by rfl, ?_⟩) hHeld ?_
  rotate_left
  · (intro w hSw; (try dsimp only at hSw); go_simp; (try with_reducible rfl))
  try simp only [Act.put, List.getElem_toArray, List.getElem_cons_zero, List.getElem_cons_succ, List.setIfInBounds_toArray, List.set_cons_zero, List.set_cons_succ]
  refine wpAnyH_ready (rs := [14]) (by kernel_rfl) (by simp) ?_
  refine AllReadyH.cons rfl (fun K hK => ?_) AllReadyH.nil
  (try simp only [List.getElem_toArray, List.getElem_cons_zero, List.getElem_cons_succ])
  rw [if_pos (by rfl)]
  go_simp
  go_at_call 20
  refine (zsame_self hz hx l2).mono ?_
  rintro e w15 ⟨rfl, b⟩
  replace ha := ha.on b
  replace hx := hx.on b
  replace hi := hi.on b
  replace hz := hz.on b
  replace hr := hr.on b
  replace hu := hu.on b
  replace hv := hv.on b
  replace k0 := cK b k0 kl
  replace k1 := cK b k1 kl
  replace k2 := cK b k2 kl
  replace kl := lK b kl
  replace x0 := cK b x0 xl
  replace x1 := cK b x1 xl
  replace xl := lK b xl
  replace i0 := cK b i0 il
  replace i1 := cK b i1 il
  replace il := lK b il
  replace z0 := cK b z0 zl
  replace z1 := cK b z1 zl
  replace zl := lK b zl
  replace r0 := cK b r0 rl
  replace r1 := cK b r1 rl
  replace r2 := cK b r2 rl
  replace rl := lK b rl
  replace cc := bK cc b
  clear b
  refine hK.out _ _ ?_ (fun hHeld => ?_)
  · exact ⟨k0, k1, k2, x0, x1, i0, i1, z0, z1, r0, r1, r2⟩
  clear hK K
  try simp only [Act.put, List.getElem_toArray, List.getElem_cons_zero, List.getElem_cons_succ, List.setIfInBounds_toArray, List.set_cons_zero, List.set_cons_succ]
  refine wpAnyH_take (i := 15) (v := ?_) rfl (by kernel_rfl) (by kernel_rfl) (by kernel_rfl) (fun _ _ _ h => h) (Or.inl ⟨by rfl, ?_⟩) hHeld ?_
  rotate_left
  · (intro w hSw; (try dsimp only at hSw); go_simp; (try with_reducible rfl))
  try simp only [Act.put, List.getElem_toArray, List.getElem_cons_zero, List.getElem_cons_succ, List.setIfInBounds_toArray, List.set_cons_zero, List.set_cons_succ]
  refine wpAnyH_take (i := 16) (v := ?_) rfl (by kernel_rfl) (by kernel_rfl) (by kernel_rfl) (fun _ _ _ h => h) (Or.inl ⟨by rfl, ?_⟩) hHeld ?_
  rotate_left
  · (intro w hSw; (try dsimp only at hSw); go_simp; (try with_reducible rfl))
  try simp only [Act.put, List.getElem_toArray, List.getElem_cons_zero, List.getElem_cons_succ, List.setIfInBounds_toArray, List.set_cons_zero, List.set_cons_succ]
  refine wpAnyH_take (i := 17) (v := ?_) rfl (by kernel_rfl) (by kernel_rfl) (by kernel_rfl) (fun _ _ _ h => h) (Or.inl ⟨by rfl, ?_⟩) hHeld ?_
  rotate_left
  · (intro w hSw; (try dsimp only at hSw); go_simp; (try with_reducible rfl))
  try simp only [Act.put, List.getElem_toArray, List.getElem_cons_zero, List.getElem_cons_succ, List.setIfInBounds_toArray, List.set_cons_zero, List.set_cons_succ]
  refine wpAnyH_ready (rs := [18]) (by kernel_rfl) (by simp) ?_
  refine AllReadyH.cons rfl (fun K hK => ?_) AllReadyH.nil
  (try simp only [List.getElem_toArray, List.getElem_cons_zero, List.getElem_cons_succ])
  rw [if_pos (by rfl)]
  go_simp
  go_at_call 34
  refine (CD _).mono ?_
  rintro e w16 ⟨bs, As, ns, cs, Bs, ms, ds, rfl, hs, b⟩
  replace ha := ha.on b
  replace hx := hx.on b
  replace hi := hi.on b
  replace hz := hz.on b
  replace hr := hr.on b
  replace hu := hu.on b
  replace hv := hv.on b
  replace k0 := cK b k0 kl
  replace k1 := cK b k1 kl
  replace k2 := cK b k2 kl
  replace kl := lK b kl
  replace x0 := cK b x0 xl
  replace x1 := cK b x1 xl
  replace xl := lK b xl
  replace i0 := cK b i0 il
  replace i1 := cK b i1 il
  replace il := lK b il
  replace z0 := cK b z0 zl
  replace z1 := cK b z1 zl
  replace zl := lK b zl
  replace r0 := cK b r0 rl
  replace r1 := cK b r1 rl
  replace r2 := cK b r2 rl
  replace rl := lK b rl
  replace cc := bK cc b
  clear b
  refine hK.out _ _ ?_ (fun hHeld => ?_)
  · exact ⟨k0, k1, k2, x0, x1, i0, i1, z0, z1, r0, r1, r2⟩
  clear hK K
  try simp only [Act.put, List.getElem_toArray, List.getElem_cons_zero, List.getElem_cons_succ, List.setIfInBounds_toArray, List.set_cons_zero, List.set_cons_succ]
  refine wpAnyH_ready (rs := [19]) (by kernel_rfl) (by simp) ?_
  refine AllReadyH.cons rfl (fun K hK => ?_) AllReadyH.nil
  (try simp only [List.getElem_toArray, List.getElem_cons_zero, List.getElem_cons_succ])
  rw [if_pos (by rfl)]
  go_simp
  go_at_call 21
  refine (rtsame_self hr (sb.le (by omega)) hs).mono ?_
  rintro e w17 ⟨rfl, b⟩
  replace ha := ha.on b
  replace hx := hx.on b
  replace hi := hi.on b
  replace hz := hz.on b
  replace hr := hr.on b
  replace hu := hu.on b
  replace hv := hv.on b
  replace hs := hs.on b
  replace k0 := cK b k0 kl
  replace k1 := cK b k1 kl
  replace k2 := cK b k2 kl
  replace kl := lK b kl
  replace x0 := cK b x0 xl
  replace x1 := cK b x1 xl
  replace xl := lK b xl
  replace i0 := cK b i0 il
  replace i1 := cK b i1 il
  replace il := lK b il
  replace z0 := cK b z0 zl
  replace z1 := cK b z1 zl
  replace zl := lK b zl
  replace r0 := cK b r0 rl
  replace r1 := cK b r1 rl
  replace r2 := cK b r2 rl
  replace rl := lK b rl
  replace cc := bK cc b
  clear b
  refine hK.out _ _ ?_ (fun hHeld => ?_)
  · exact ⟨k0, k1, k2, x0, x1, i0, i1, z0, z1, r0, r1, r2⟩
  clear hK K
  try simp only [Act.put, List.getElem_toArray, List.getElem_cons_zero, List.getElem_cons_succ, List.setIfInBounds_toArray, List.set_cons_zero, List.set_cons_succ]
  refine wpAnyH_take (i := 20) (v := ?_) rfl (by kernel_rfl) (by kernel_rfl) (by kernel_rfl) (fun _ _ _ h => h) (Or.inl ⟨by rfl, ?_⟩) hHeld ?_
  rotate_left
  · (intro w hSw; (try dsimp only at hSw); go_simp; (try with_reducible rfl))
  try simp only [Act.put, List.getElem_toArray, List.getElem_cons_zero, List.getElem_cons_succ, List.setIfInBounds_toArray, List.set_cons_zero, List.set_cons_succ]
  refine wpAnyH_take (i := 21) (v := ?_) rfl (by kernel_rfl) (by kernel_rfl) (by kernel_rfl) (fun _ _ _ h => h) (Or.inl ⟨by rfl, ?_⟩) hHeld ?_
  rotate_left
  · (intro w hSw; (try dsimp only at hSw); go_simp; (try with_reducible rfl))
  try simp only [Act.put, List.getElem_toArray, List.getElem_cons_zero, List.getElem_cons_succ, List.setIfInBounds_toArray, List.set_cons_zero, List.set_cons_succ]
  refine wpAnyH_done (by kernel_rfl) ?_ _
  clear hHeld
  go_wp2_with fail
  go_ret
  exact ⟨rfl, cc⟩

end Go.Proofs.Ytchbhmcaalkfdaa

/-
  An integer that came in: its side, and its digits.
-/
namespace Go.Proofs.Ytchbhmcaalkfdaa
open Go.ChangeShapes Go.WideShapes Go.ChangeAt Go.RowKit Go.Joins

set_option maxRecDepth 100000 in
theorem open_zed {H : Type} {enc : TypeId × Value → H} {W : World} {base b0 : Nat} {held : Bool} {r : Reach} {v : Value} {d : DataW H} {p : List MemPlace} (hv : Value.okWide Try.prog W r b0 25 v) (h : DataW.Trod enc Try.prog W base (fun _ => true) held 25 v d p) :
    ∃ (b : Bool) (a : Option Addr) (len cap : Nat) (l : List Nat), v = .agg #[.bool b, .slice a len cap] ∧ Lim W.heap.size W a len cap l ∧ len ≤ 9223372036854775807 := by
  obtain ⟨v0, v1, y0, y1, n, rfl, _, _, h0, h1⟩ := open_agg2 Try.underlying25 (by kernel_rfl) (by kernel_rfl) hv h
  obtain ⟨b, hb, _⟩ := DataW.trod_bool Try.underlying4 h0
  injection hb with hb _
  subst hb
  rcases open_ints Try.underlying23 Try.underlying43 (by kernel_rfl) h1 with ⟨hcs, _⟩ | ⟨x, l, c, zs, hcs, _, hl, hm, hz, _, hcell, hwz⟩
  · injection hcs with hcs _
    subst hcs
    obtain ⟨l, hl, hs⟩ := arg_of_row (w := W) (a := none) (len := 0) (cap := 0) (zs := []) (.inl ⟨rfl, rfl, rfl, rfl⟩)
    exact ⟨b, none, 0, 0, l, rfl, hl, hs⟩
  · injection hcs with hcs _
    subst hcs
    obtain ⟨l', hl', hs⟩ := arg_of_row (w := W) (a := some x) (len := l) (cap := c) (zs := zs) (.inr ⟨x, rfl, hl, hm, by simpa using hz, hcell, hwz⟩)
    exact ⟨b, some x, l, c, l', rfl, hl', hs⟩

end Go.Proofs.Ytchbhmcaalkfdaa

/-
  A rational that came in: its side, and the digits of both its numbers.
-/
namespace Go.Proofs.Ytchbhmcaalkfdaa
open Go.ChangeShapes Go.WideShapes Go.ChangeAt Go.RowKit Go.Joins

theorem open_nat {H : Type} {enc : TypeId × Value → H} {W : World} {base : Nat} {held : Bool} {v : Value} {y : DataW H × List MemPlace} {n : Nat} (h : DataW.trod enc Try.prog W base (fun _ => true) held n 23 [v] = some y) :
    ∃ (a : Option Addr) (len cap : Nat) (l : List Nat), v = .slice a len cap ∧ Lim W.heap.size W a len cap l ∧ len ≤ 9223372036854775807 := by
  rcases open_ints Try.underlying23 Try.underlying43 (by kernel_rfl) h with ⟨hcs, _⟩ | ⟨x, l, c, zs, hcs, _, hl, hm, hz, _, hcell, hwz⟩
  · injection hcs with hcs _
    subst hcs
    obtain ⟨l, hl, hs⟩ := arg_of_row (w := W) (a := none) (len := 0) (cap := 0) (zs := []) (.inl ⟨rfl, rfl, rfl, rfl⟩)
    exact ⟨none, 0, 0, l, rfl, hl, hs⟩
  · injection hcs with hcs _
    subst hcs
    obtain ⟨l', hl', hs⟩ := arg_of_row (w := W) (a := some x) (len := l) (cap := c) (zs := zs) (.inr ⟨x, rfl, hl, hm, by simpa using hz, hcell, hwz⟩)
    exact ⟨some x, l, c, l', rfl, hl', hs⟩

set_option maxRecDepth 100000 in
theorem open_rat {H : Type} {enc : TypeId × Value → H} {W : World} {base b0 : Nat} {held : Bool} {r : Reach} {v : Value} {d : DataW H} {p : List MemPlace} (hv : Value.okWide Try.prog W r b0 27 v) (h : DataW.Trod enc Try.prog W base (fun _ => true) held 27 v d p) :
    ∃ (b : Bool) (a : Option Addr) (len cap : Nat) (l : List Nat) (a2 : Option Addr) (len2 cap2 : Nat) (l2 : List Nat), v = .agg #[.bool b, .slice a len cap, .slice a2 len2 cap2] ∧ Lim W.heap.size W a len cap l ∧ len ≤ 9223372036854775807 ∧ Lim W.heap.size W a2 len2 cap2 l2 ∧ len2 ≤ 9223372036854775807 := by
  obtain ⟨cs, rfl, hsz⟩ := okWide_struct Try.underlying27 hv
  obtain ⟨c0, c1, c2, rfl⟩ := array3 (hsz.trans (by kernel_rfl))
  obtain ⟨fuel, hf⟩ := h
  obtain ⟨y0, y1, n, _, _, h0, h1⟩ := trod_struct2 Try.underlying27 hf
  have k0 : Try.prog.cellsOf 25 = 2 := by kernel_rfl
  have k1 : Try.prog.cellsOf 23 = 1 := by kernel_rfl
  have k2 : Try.prog.cellsOf 4 = 1 := by kernel_rfl
  simp only [Value.cells, k0, k1] at h0 h1
  obtain ⟨z0, z1, m, _, _, g0, g1⟩ := trod_struct2 Try.underlying25 h0
  simp only [k1, k2] at g0 g1
  obtain ⟨b, hb, _⟩ := DataW.trod_bool Try.underlying4 g0
  obtain ⟨a, len, cap, l, e1, hl, hs⟩ := open_nat (v := c1) g1
  obtain ⟨a2, len2, cap2, l2, e2, hl2, hs2⟩ := open_nat (v := c2) h1
  injection hb with hb _
  subst hb e1 e2
  exact ⟨b, a, len, cap, l, a2, len2, cap2, l2, rfl, hl, hs, hl2, hs2⟩

end Go.Proofs.Ytchbhmcaalkfdaa

/-
  A number, two integers, two numbers that came in.
-/
namespace Go.Proofs.Ytchbhmcaalkfdaa
open Go.ChangeShapes Go.WideShapes Go.ChangeAt Go.RowKit Go.Joins

theorem open_natT {H : Type} {enc : TypeId × Value → H} {W : World} {base b0 : Nat} {held : Bool} {r : Reach} {v : Value} {d : DataW H} {p : List MemPlace} (hv : Value.okWide Try.prog W r b0 23 v) (h : DataW.Trod enc Try.prog W base (fun _ => true) held 23 v d p) :
    ∃ (a : Option Addr) (len cap : Nat) (l : List Nat), v = .slice a len cap ∧ Lim W.heap.size W a len cap l ∧ len ≤ 9223372036854775807 := by
  obtain ⟨a, len, cap, rfl⟩ := okWide_slice Try.underlying23 hv
  obtain ⟨fuel, hf⟩ := h
  exact open_nat hf



end Go.Proofs.Ytchbhmcaalkfdaa
