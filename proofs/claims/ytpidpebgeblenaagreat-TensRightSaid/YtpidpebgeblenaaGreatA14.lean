/-
  Several texts in one: C14g, C14c.
-/
import Derived.Test.YtpidpebgeblenaaGreatA13
import Derived.Test.YtpidpebgeblenaaGreatA10
import Derived.Test.YtpidpebgeblenaaGreatA3
import Derived.Test.YtpidpebgeblenaaGreatA9

/-
  The contracts of the fourteenth reference: Of.
-/
namespace Go.Proofs.YtpidpebgeblenaaGreat
set_option maxRecDepth 100000
set_option maxHeartbeats 8000000
open Go.RowKit
set_option linter.unusedVariables false
set_option linter.unusedSimpArgs false

/-- The lesser of two, behind a name. -/
def mn2 (a b : Int) : Int := min a b
theorem mn2_run {P : Program} (w : World) (ts : Array TypeId) (t : TypeId) (a b : Int) : (Builtin.min_ ts t #[.int .i64 a, .int .i64 b]).run P w = .ok (.int .i64 (mn2 a b)) w := by
  rw [run_min_int2]
  congr 2
  unfold mn2
  split <;> omega
attribute [local go_sem ↓] mn2_run
theorem row_i64_14 {L : List Int} (hi : ∀ x ∈ L, I64 x) (hm : ∀ x ∈ L, x ≠ -9223372036854775808) : ∀ j : Nat, I64 (L[j]?.getD 0) ∧ L[j]?.getD 0 ≠ -9223372036854775808 := by
  intro j
  rcases Nat.lt_or_ge j L.length with h | h
  · exact ⟨hi _ (mem_at h), hm _ (mem_at h)⟩
  · rw [List.getElem?_eq_none h]; exact ⟨i64_z, by show (0 : Int) ≠ _; omega⟩
theorem cells_new (w : World) (cs : Array Value) (e : TypeId) : ∀ j u, cs.toList[j]? = some u → (w.alloc (.cells cs e)).cell? ((⟨w.heap.size, 0, none⟩ : Addr).add j) = some u := by
  intro j u h
  rw [addr_add]
  have h2 : cs[j]? = some u := by rw [← Array.getElem?_toList]; exact h
  rw [cell_of_row (w.alloc (.cells cs e)) w.heap.size (0 + j) cs e _ (heap_alloc_new w _), Nat.zero_add]
  exact h2
theorem cutL_eq {s : Nat} {L : List Int} {i a k : Nat} (ha : i * s = a) (hk : k = min s (L.length - a)) : (L.drop a).take k = cutL s L i := by
  unfold cutL
  rw [ha, hk]
  rcases Nat.le_total s (L.length - a) with h | h
  · rw [Nat.min_eq_left h]
  · rw [Nat.min_eq_right h, List.take_of_length_le (by rw [List.length_drop]; exact Nat.le_refl _), List.take_of_length_le (by rw [List.length_drop]; exact h)]

theorem rOf14_k {w : World} {kk km ko : Int} {s : Nat} {A : Option Addr} {n c : Nat} {L : List Int} (hK : ¬ OkK kk (s : Int) km ko) :
    Calls Tryz.prog 20 #[.agg #[.int .i64 kk, .int .i64 (s : Int), .int .i64 km, .int .i64 ko], .slice A n c] w (GotV w (.tuple #[.agg #[.int .i64 0, .int .i64 0, .int .i64 0, .int .i64 0, .int .i64 0, .slice none 0 0], .int .i64 1])) := by
  have CM : ∀ V : World, Calls Tryz.prog 10 #[.agg #[.int .i64 kk, .int .i64 (s : Int), .int .i64 km, .int .i64 ko]] V (GotV V (.bool false)) := fun V => by have h := rMay14_N V (kk := kk) (ks := (s : Int)) (km := km) (ko := ko); rw [decide_eq_false hK] at h; exact h
  clear hK
  have cc := Below.refl w.heap.size w
  go_enter Tryz.func20, Tryz.ntmps20
  go_upto_region 1 with fail
  generalize hv_ : (w.alloc (.cells #[.int .i64 kk, .int .i64 (s : Int), .int .i64 km, .int .i64 ko] 23)).alloc (.cells #[.int .i64 0, .int .i64 0, .int .i64 0, .int .i64 0, .int .i64 0, .slice none 0 0] 26) = v1
  obtain ⟨f0, f1, f2, f3, f4, f5⟩ : Fz6 v1 (w.heap.size + 1) := by simp [Fz6, ← hv_, go_sem]
  have bA : Below w.heap.size w v1 := by rw [← hv_]; exact (((Below.refl _ w).alloc (by simp) _).alloc (by simp) _)
  replace cc := bK cc bA
  clear bA
  have pa0 : v1.cell? ⟨w.heap.size, 0, none⟩ = some (.int .i64 kk) := by simp [← hv_, go_sem]
  have pa1 : v1.cell? ⟨w.heap.size, 1, none⟩ = some (.int .i64 (s : Int)) := by simp [← hv_, go_sem]
  have pa2 : v1.cell? ⟨w.heap.size, 2, none⟩ = some (.int .i64 km) := by simp [← hv_, go_sem]
  have pa3 : v1.cell? ⟨w.heap.size, 3, none⟩ = some (.int .i64 ko) := by simp [← hv_, go_sem]
  have pal : w.heap.size < v1.heap.size := by simp [← hv_] <;> omega
  obtain ⟨g0, g1, g2, g3, g4, g5⟩ : Cs6 v1 (w.heap.size + 1) (.int .i64 0) (.int .i64 0) (.int .i64 0) (.int .i64 0) (.int .i64 0) (.slice none 0 0) := by simp [Cs6, ← hv_, go_sem]
  have gl : w.heap.size + 1 < v1.heap.size := by simp [← hv_] <;> omega
  clear hv_
  go_wp2_with fail
  refine (CM _).mono ?_
  rintro e w2 ⟨rfl, b⟩
  rewrite [fR b gl] at f0 f1 f2 f3 f4 f5
  rewrite [cR b pal] at pa0 pa1 pa2 pa3
  replace pal := lK b pal
  rewrite [cR b gl] at g0 g1 g2 g3 g4 g5
  replace gl := lK b gl
  replace cc := bK cc b
  clear b
  have HBF := Lib.hid (below_putT cc (show w.heap.size ≤ w.heap.size + 1 by omega) (.int .i64 0) (.int .i64 0) (.int .i64 0) (.int .i64 0) (.int .i64 0) (.slice none 0 0))
  clear cc
  go_wp2_with fail
  refine bodyPost_ret (v := .tuple #[.agg #[.int .i64 0, .int .i64 0, .int .i64 0, .int .i64 0, .int .i64 0, .slice none 0 0], .int .i64 1]) (by simp [results, Tryz.results20, go_sem, g0, g1, g2, g3, g4, g5]) rfl ⟨rfl, HBF.out⟩

theorem rOf14_yes {w : World} {kk km ko : Int} {s : Nat} {A : Option Addr} {n c : Nat} {L : List Int} (hK : OkK kk (s : Int) km ko) (hA : IR w A n c L) (hi6 : ∀ x ∈ L, I64 x) (hn : n ≤ 4096) (hO : OkO kk km ko n s L (nbk s L.length)) :
    Calls Tryz.prog 20 #[.agg #[.int .i64 kk, .int .i64 (s : Int), .int .i64 km, .int .i64 ko], .slice A n c] w (GotSto w kk (s : Int) km ko (n : Int) (ofL kk km ko n s L (nbk s L.length))) := by
  have hs1 : 1 ≤ s := by have := hK.2.1; omega
  have hs2 : s ≤ 4096 := by have := hK.2.1; omega
  have hk3 := hK.1
  have CM : ∀ V : World, Calls Tryz.prog 10 #[.agg #[.int .i64 kk, .int .i64 (s : Int), .int .i64 km, .int .i64 ko]] V (GotV V (.bool true)) := fun V => by have h := rMay14_N V (kk := kk) (ks := (s : Int)) (km := km) (ko := ko); rw [decide_eq_true hK] at h; exact h
  have HK3 := Lib.hid hk3
  have HS1 := Lib.hid hs1
  have HS2 := Lib.hid hs2
  have HI6 := Lib.hid hi6
  have HLn := Lib.hid hA.1
  have HO := Lib.hid hO
  have HN := Lib.hid hn
  have t4 : decide (4096 < n) = false := decide_eq_false (by omega)
  have t5 : decide ((4096 : Int) < (n : Int)) = false := decide_eq_false (by omega)
  obtain ⟨N, hN⟩ : ∃ N, nbk s L.length = N := ⟨_, rfl⟩
  have HNB : Hid (∀ i, i < N ↔ i * s < n) := Lib.hid (fun i => by rw [← hN, hA.1]; exact nbk_lt hs1)
  have HNN := Lib.hid hN
  clear hK hk3 hs1 hs2 hi6 hO hn hN
  have cc := Below.refl w.heap.size w
  go_enter Tryz.func20, Tryz.ntmps20
  go_upto_region 1 with fail
  generalize hv_ : (w.alloc (.cells #[.int .i64 kk, .int .i64 (s : Int), .int .i64 km, .int .i64 ko] 23)).alloc (.cells #[.int .i64 0, .int .i64 0, .int .i64 0, .int .i64 0, .int .i64 0, .slice none 0 0] 26) = v1
  obtain ⟨f0, f1, f2, f3, f4, f5⟩ : Fz6 v1 (w.heap.size + 1) := by simp [Fz6, ← hv_, go_sem]
  have bA : Below w.heap.size w v1 := by rw [← hv_]; exact (((Below.refl _ w).alloc (by simp) _).alloc (by simp) _)
  replace hA := hA.on bA
  replace cc := bK cc bA
  clear bA
  have pa0 : v1.cell? ⟨w.heap.size, 0, none⟩ = some (.int .i64 kk) := by simp [← hv_, go_sem]
  have pa1 : v1.cell? ⟨w.heap.size, 1, none⟩ = some (.int .i64 (s : Int)) := by simp [← hv_, go_sem]
  have pa2 : v1.cell? ⟨w.heap.size, 2, none⟩ = some (.int .i64 km) := by simp [← hv_, go_sem]
  have pa3 : v1.cell? ⟨w.heap.size, 3, none⟩ = some (.int .i64 ko) := by simp [← hv_, go_sem]
  have pal : w.heap.size < v1.heap.size := by simp [← hv_] <;> omega
  obtain ⟨g0, g1, g2, g3, g4, g5⟩ : Cs6 v1 (w.heap.size + 1) (.int .i64 0) (.int .i64 0) (.int .i64 0) (.int .i64 0) (.int .i64 0) (.slice none 0 0) := by simp [Cs6, ← hv_, go_sem]
  have gl : w.heap.size + 1 < v1.heap.size := by simp [← hv_] <;> omega
  clear hv_
  go_wp2_with fail
  refine (CM _).mono ?_
  rintro e w2 ⟨rfl, b⟩
  rewrite [fR b gl] at f0 f1 f2 f3 f4 f5
  replace hA := hA.on b
  rewrite [cR b pal] at pa0 pa1 pa2 pa3
  replace pal := lK b pal
  rewrite [cR b gl] at g0 g1 g2 g3 g4 g5
  replace gl := lK b gl
  replace cc := bK cc b
  clear b
  have HA1 := Lib.hid hA
  go_upto_region 6 with fail
  have oqpa : w.heap.size < w2.heap.size := pal
  have oqg : w.heap.size + 1 < w2.heap.size := gl
  generalize hv_ : w2.alloc (.cells #[.int .i64 kk, .int .i64 (s : Int), .int .i64 km, .int .i64 ko, .int .i64 (n : Int), .slice none 0 0] 26) = v3
  have bA : Below w2.heap.size w2 v3 := by rw [← hv_]; exact below_one _ _
  rewrite [fR bA gl] at f0 f1 f2 f3 f4 f5
  replace hA := hA.on bA
  rewrite [cR bA pal] at pa0 pa1 pa2 pa3
  replace pal := lK bA pal
  rewrite [cR bA gl] at g0 g1 g2 g3 g4 g5
  replace gl := lK bA gl
  replace cc := bK cc bA
  clear bA
  obtain ⟨o0, o1, o2, o3, o4, o5⟩ : Cs6 v3 w2.heap.size (.int .i64 kk) (.int .i64 (s : Int)) (.int .i64 km) (.int .i64 ko) (.int .i64 (n : Int)) (.slice none 0 0) := by simp [Cs6, ← hv_, go_sem]
  obtain ⟨or0, or1, or2, or3, or4, or5⟩ : Fz6 v3 w2.heap.size := by simp [Fz6, ← hv_, go_sem]
  have ol : w2.heap.size < v3.heap.size := by simp [← hv_]
  clear hv_
  have HOL : Hid (w2.heap.size < v3.heap.size) := Lib.hid ol
  have HGL : Hid (w.heap.size + 1 < w2.heap.size) := Lib.hid oqg
  have HPL : Hid (w.heap.size < w2.heap.size) := Lib.hid oqpa
  have G0 := Lib.hid g0
  have G1 := Lib.hid g1
  have G2 := Lib.hid g2
  have G3 := Lib.hid g3
  have G4 := Lib.hid g4
  have G5 := Lib.hid g5
  have F0 := Lib.hid f0
  have F1 := Lib.hid f1
  have F2 := Lib.hid f2
  have F3 := Lib.hid f3
  have F4 := Lib.hid f4
  have F5 := Lib.hid f5
  have P0 := Lib.hid o0
  have P1 := Lib.hid o1
  have P2 := Lib.hid o2
  have P3 := Lib.hid o3
  have P4 := Lib.hid o4
  have P5 := Lib.hid o5
  have K0 := Lib.hid pa0
  have K1 := Lib.hid pa1
  have K2 := Lib.hid pa2
  have K3 := Lib.hid pa3
  have FP := Lib.hid or5
  have HAV := Lib.hid hA
  have CCV := Lib.hid cc
  clear hA cc ol oqg oqpa gl pal or0 or1 or2 or3 or4 or5 g0 f0 o0 g1 f1 o1 g2 f2 o2 g3 f3 o3 g4 f4 o4 g5 f5 o5 pa0 pa1 pa2 pa3
  go_wp2_with fail
  go_loopw [7] (fun av wr => ∃ (i a : Nat) (p : Option Addr) (cq : Nat) (xs : List Value), i * s = a ∧ i ≤ N ∧ av = .int .i64 (a : Int) ∧ (∀ j, j < i → OkP (kdB kk km ko n (cutL s L j)) (cutL s L j)) ∧ (wr.cell? ⟨w2.heap.size, 0, none⟩ = some (.int .i64 kk) ∧ wr.cell? ⟨w2.heap.size, 1, none⟩ = some (.int .i64 (s : Int)) ∧ wr.cell? ⟨w2.heap.size, 2, none⟩ = some (.int .i64 km) ∧ wr.cell? ⟨w2.heap.size, 3, none⟩ = some (.int .i64 ko) ∧ wr.cell? ⟨w2.heap.size, 4, none⟩ = some (.int .i64 (n : Int)) ∧ wr.cell? ⟨w2.heap.size, 5, none⟩ = some (.slice p i cq)) ∧ wr.frozen? ⟨w2.heap.size, 5, none⟩ = false ∧ wr.ownsRow v3.heap.size 43 4 (.slice p i cq) i xs ∧ KV v3.heap.size (Value.slice p i cq).ownBlock wr xs i (ofL kk km ko n s L i) ∧ Below w2.heap.size v3 wr) (fun av _ => (n + s) - (intOf av).toNat)
  case atStart => exact ⟨0, 0, none, 0, [], by omega, by omega, rfl, fun j h => absurd h (by omega), ⟨P0.out, P1.out, P2.out, P3.out, P4.out, P5.out⟩, FP.out, ⟨by simp, Or.inl ⟨rfl, rfl⟩⟩, fun j h => absurd h (by omega), Below.refl _ _⟩
  case round =>
    obtain ⟨i, a, p, cq, xs, hia, hiN, rfl, hj, ⟨p0, p1, p2, p3, p4, p5⟩, fp, hO, hV, hbl⟩ := hrel
    have hgo : w2.heap.size < wr.heap.size := by have h := cell_lt p0; simpa using h
    have hpl := Nat.lt_trans HPL.out hgo
    have pa0 := (hbl.cell (p := ⟨w.heap.size, 0, none⟩) HPL.out).trans K0.out
    have pa1 := (hbl.cell (p := ⟨w.heap.size, 1, none⟩) HPL.out).trans K1.out
    have pa2 := (hbl.cell (p := ⟨w.heap.size, 2, none⟩) HPL.out).trans K2.out
    have pa3 := (hbl.cell (p := ⟨w.heap.size, 3, none⟩) HPL.out).trans K3.out
    by_cases hlt : a < n
    · skip
      have hiN2 : i < N := (HNB.out i).2 (by rw [hia]; exact hlt)
      obtain ⟨b2, o2, hAe, hb2, _⟩ := HA1.out.2.2 (by omega)
      subst hAe
      have hA : IR wr (some ⟨b2, o2, none⟩) n c L := ⟨HAV.out.1, HAV.out.2.1, fun hp => ⟨b2, o2, rfl, Nat.lt_trans hb2 hgo, fun j hj2 => (hbl.cell (p := ⟨b2, o2 + j, none⟩) hb2).trans (HAV.out.cell hj2)⟩⟩
      have hnc := hA.2.1
      obtain ⟨q, hq⟩ : ∃ q, a + s = q := ⟨_, rfl⟩
      obtain ⟨h, hh⟩ : ∃ h, min q n = h := ⟨_, rfl⟩
      have s1 := HS1.out
      have s2 := HS2.out
      have n4 := HN.out
      have k1 : IntKind.i64.wrap ((a : Int) + (s : Int)) = (q : Int) := by rw [IntWalk.i64_in _ (by omega)]; omega
      have k2 : mn2 (q : Int) (n : Int) = (h : Int) := by unfold mn2; omega
      obtain ⟨l, hl⟩ : ∃ l, h - a = l := ⟨_, rfl⟩
      have hl1 : 0 < l := by omega
      have hl2 : a + l = h := by omega
      have hP : IR wr (some ⟨b2, o2 + a, none⟩) l (c - a) (cutL s L i) := by rw [← cutL_eq (k := l) hia (by rw [← HLn.out]; omega)]; exact ir_win hA (by omega) (by omega)
      have kca : (c == a) = false := beq_eq_false_iff_ne.2 (by omega)
      have kca2 : ¬ c = a := by omega
      have ha_h : a ≤ h := by omega
      have hhc : h ≤ c := by omega
      go_upto_region 10 with fail
      have HIP : Hid (∀ x ∈ cutL s L i, I64 x) := Lib.hid (fun x hx => HI6.out x (cutL_mem hx))
      have HPi : Hid (OkP (kdB kk km ko n (cutL s L i)) (cutL s L i)) := Lib.hid (HO.out i (by rw [HNN.out]; exact hiN2))
      have HJ := Lib.hid hj
      have HC1 : Hid ((cutL s L i).length = l) := Lib.hid hP.1.symm
      obtain ⟨B, hB⟩ : ∃ B, cutL s L i = B := ⟨_, rfl⟩
      rw [hB] at hP HIP HC1 HPi
      have HB := Lib.hid hB
      have i4 : i ≤ 4096 := by have h1 := Nat.le_mul_of_pos_right i (show 0 < s by omega); omega
      have HAA := Lib.hid hA
      have hl4 : l ≤ 4096 := by omega
      have HQ := Lib.hid hq
      have HIA := Lib.hid hia
      clear hj hB hA hia hh hl hl2 ha_h hhc kca kca2 hnc hb2 hq
      go_wp2_with fail
      go_loopw [10] (fun jv wi => ∃ m : Nat, m ≤ l ∧ jv = .int .i64 (m : Int) ∧ (∀ t, t < m → B[t]?.getD 0 ≠ -9223372036854775808) ∧ wi = wr) (fun jv _ => l - (intOf jv).toNat)
      case atStart => exact ⟨0, by omega, rfl, fun t h => absurd h (by omega), rfl⟩
      case round =>
        obtain ⟨m, hml, rfl, hne, hwi⟩ := hrel
        subst hwi
        by_cases hlt2 : m < l
        · have e1 := hP.cell hlt2
          obtain ⟨x, hx⟩ : ∃ x, B[m]?.getD 0 = x := ⟨_, rfl⟩
          rw [hx] at e1
          have k4 : IntKind.i64.wrap ((m : Int) + 1) = ((m + 1 : Nat) : Int) := by rw [IntWalk.i64_in _ (by omega)]; omega
          by_cases hxl : x = -9223372036854775808
          · exact absurd hxl (by rw [← hx]; exact (HPi.out.2 _ (mem_at (by rw [HC1.out]; exact hlt2))).1)
          · have tx : (x == -9223372036854775808) = false := beq_eq_false_iff_ne.2 hxl
            have HNE : Hid (∀ t, t < m + 1 → B[t]?.getD 0 ≠ -9223372036854775808) := Lib.hid (fun t h => by
              rcases Nat.lt_or_ge t m with e | e
              · exact hne t e
              · have e2 : t = m := by omega
                rw [e2, hx]; exact hxl)
            clear hne hx hxl
            go_wp2_with fail
            go_roundw
            case rel => exact ⟨m + 1, by omega, by go_num, HNE.out, by trivial⟩
            case measure => simp [intOf] <;> omega
        · obtain rfl : m = l := by omega
          have hLg : ∀ j : Nat, I64 (B[j]?.getD 0) ∧ B[j]?.getD 0 ≠ -9223372036854775808 := fun j => (by
            rcases Nat.lt_or_ge j B.length with h | h
            · exact ⟨HIP.out _ (mem_at h), hne j (by rw [← HC1.out]; exact h)⟩
            · rw [List.getElem?_eq_none h]; exact ⟨i64_z, by show (0 : Int) ≠ _; omega⟩)
          have CG := fun {V : World} (h : IR V (some ⟨b2, o2 + a, none⟩) m (c - a) B) => rgreat_N h (by omega) hLg
          have hown : ∀ q, (Value.slice p i cq).ownBlock = some q → q < wr.heap.size := fun q e => (hO.lt q e).2
          by_cases hw : Wd km ko n (gr B)
          · skip
            have hkd : kdB kk km ko n B = 4 := by unfold kdB; rw [if_pos hw]
            have CW := fun V => rwide14_N V (kk := kk) (ks := (s : Int)) (km := km) (ko := ko) (lg := (n : Int)) (g := gr B)
            rw [decide_eq_true hw] at CW
            have hk04 : 0 ≤ (4 : Int) ∧ (4 : Int) ≤ 4 := by have := HK3.out; omega
            generalize gr B = G at CG CW
            clear hw hne hLg
            have qq : Below wr.heap.size wr wr.drew := below_drewN (Below.refl _ wr) 1
            have hP' := hP.on qq
            go_upto_region 16 with fail
            go_region_held3 (fun w' => w'.cell? ⟨w.heap.size, 0, none⟩ = some (.int .i64 kk) ∧ w'.cell? ⟨w.heap.size, 1, none⟩ = some (.int .i64 (s : Int)) ∧ w'.cell? ⟨w.heap.size, 2, none⟩ = some (.int .i64 km) ∧ w'.cell? ⟨w.heap.size, 3, none⟩ = some (.int .i64 ko))
              (first | with_reducible exact ⟨cK qq pa0 hpl, cK qq pa1 hpl, cK qq pa2 hpl, cK qq pa3 hpl⟩ | go_keep)
              (first | (go_at_call 21; (with_reducible refine (CG hP').mono ?_); rintro e wz ⟨rfl, q⟩; replace qq := bK qq q; replace hP' := hP'.on q; clear q) | (go_at_call 24; (with_reducible refine (CW _).mono ?_); rintro e wz ⟨rfl, q⟩; replace qq := bK qq q; replace hP' := hP'.on q; clear q))
            rewrite [cR qq hgo] at p0 p1 p2 p3 p4 p5
            rewrite [cR qq hpl] at pa0 pa1 pa2 pa3
            replace fp := fK qq fp hgo
            replace hO := own_any hO qq
            replace hV := hV.on qq
            replace hown : ∀ q, (Value.slice p i cq).ownBlock = some q → q < _ := fun q e => Nat.lt_of_lt_of_le (hown q e) qq.size
            replace hbl := hbl.trans (qq.mono (Nat.le_of_lt hgo))
            replace hpl := lK qq hpl
            replace hgo := lK qq hgo
            clear qq hP CG CW
            have hpi := HPi.out
            rw [hkd] at hpi
            have hbs : ofB kk km ko n B = (4, pkS 4 B, pkC 4 B, pkW 4 B) := by unfold ofB; rw [hkd]
            have hS6 : I64 (pkS 4 B) := by unfold pkS; split; exact i64_z; exact grk_i64 (row_i64_14 HIP.out (fun x hx => (hpi.2 x hx).1)) _
            have hW6 : ∀ x ∈ pkW 4 B, I64 x := by unfold pkW; split; exact HIP.out; intro x hx; cases hx
            have hC4 : (pkC 4 B).length ≤ 4096 ∧ (pkW 4 B).length ≤ 4096 := by have h1 := HC1.out; have h2 := HN.out; have := ofB_len (kk := kk) (km := km) (ko := ko) (lg := (n : Int)) B; rw [hbs] at this; simp only at this; omega
            have HPP := Lib.hid hpi
            clear hpi
            have CP := rPack_yes hk04 hP' (by omega) HIP.out HPP.out
            generalize pkS 4 B = S1 at *
            generalize pkC 4 B = C1 at *
            generalize pkW 4 B = W1 at *
            have HBS := Lib.hid hbs
            have HS6 := Lib.hid hS6
            have HW6 := Lib.hid hW6
            clear hbs hS6 hW6
            go_wp2_with fail
            refine CP.mono ?_
            rintro e wp ⟨Ab, nb, cb, Bb, mb, db, rfl, hC, hW, b, hn1, hn2⟩
            clear CP hP'
            have hA1 : Apart v3.heap.size (Value.slice p i cq).ownBlock Ab nb := fun _ q e => ⟨by have h1 := hn1 q e; have h2 := hbl.size; omega, fun e2 => by have h1 := hn1 q e; have h2 := hown _ e2; omega⟩
            have hA2 : Apart v3.heap.size (Value.slice p i cq).ownBlock Bb mb := fun _ q e => ⟨by have h1 := hn2 q e; have h2 := hbl.size; omega, fun e2 => by have h1 := hn2 q e; have h2 := hown _ e2; omega⟩
            have hnn : nb ≤ 9223372036854775807 ∧ mb ≤ 9223372036854775807 := by have h1 := hC.1; have h2 := hW.1; omega
            rewrite [cR b hgo] at p0 p1 p2 p3 p4 p5
            rewrite [cR b hpl] at pa0 pa1 pa2 pa3
            replace fp := fK b fp hgo
            replace hO := own_any hO b
            replace hV := hV.on b
            replace hown : ∀ q, (Value.slice p i cq).ownBlock = some q → q < _ := fun q e => Nat.lt_of_lt_of_le (hown q e) b.size
            replace hbl := hbl.trans (b.mono (Nat.le_of_lt hgo))
            replace hpl := lK b hpl
            replace hgo := lK b hgo
            clear b hn1 hn2
            go_upto_region 19 with fail
            generalize hv_ : wp.alloc (.cells #[.int .i64 4, .int .i64 S1, .slice Ab nb cb, .slice Bb mb db] 43) = wb
            have bA : Below wp.heap.size wp wb := by rw [← hv_]; exact below_one _ _
            replace hC := hC.on bA
            replace hW := hW.on bA
            have x0 : wb.cell? ⟨wp.heap.size, 0, none⟩ = some (.int .i64 4) := by simp [← hv_, go_sem]
            have x1 : wb.cell? ⟨wp.heap.size, 1, none⟩ = some (.int .i64 S1) := by simp [← hv_, go_sem]
            have x2 : wb.cell? ⟨wp.heap.size, 2, none⟩ = some (.slice Ab nb cb) := by simp [← hv_, go_sem]
            have x3 : wb.cell? ⟨wp.heap.size, 3, none⟩ = some (.slice Bb mb db) := by simp [← hv_, go_sem]
            rewrite [cR bA hgo] at p0 p1 p2 p3 p4 p5
            rewrite [cR bA hpl] at pa0 pa1 pa2 pa3
            replace fp := fK bA fp hgo
            replace hO := own_any hO bA
            replace hV := hV.on bA
            replace hown : ∀ q, (Value.slice p i cq).ownBlock = some q → q < _ := fun q e => Nat.lt_of_lt_of_le (hown q e) bA.size
            replace hbl := hbl.trans (bA.mono (Nat.le_of_lt hgo))
            replace hpl := lK bA hpl
            replace hgo := lK bA hgo
            clear bA
            clear hv_
            obtain ⟨i0, hi0, hz0, hz1, hz2⟩ := info_parts infoK
            have HOb := Lib.hid hO
            have HVb := Lib.hid hV
            have hT : v3.heap.size ≤ wb.heap.size := hbl.size
            have HCb := Lib.hid hC
            have HWb := Lib.hid hW
            have HA1b := Lib.hid hA1
            have HA2b := Lib.hid hA2
            clear hO hV hC hW hA1 hA2 hown
            have hxl := HOb.out.1
            go_wp2_with (at_builtin; refine wpList_append_lies _ rfl _ _ 24 rfl v3.heap.size 43 i0 _ 4 64 Tryz.underlying24 hi0 hz0 hz1 hz2 rfl (by decide) _ _ _ rfl (HOb.out.alloc _) ⟨wb.heap.size, 0, none⟩ 1 1 [.int .i64 4, .int .i64 S1, .slice Ab nb cb, .slice Bb mb db] rfl rfl (cells_new wb #[.int .i64 4, .int .i64 S1, .slice Ab nb cb, .slice Bb mb db] _) (by simp [Value.oneCell']) (by omega) (by unfold maxLen; omega) (by omega) (by simp; omega) _ rfl ?_; intro gq cr w3 hown1 hgrow1 hat hlt1; have h1 : Below v3.heap.size wb w3 := ((Below.refl v3.heap.size wb).alloc hT _).grown hgrow1 (by simp; omega) (fun q e => (HOb.out.lt q e).1); have hgT := HOL.out; have p0' := cK h1 p0 hgT; have p1' := cK h1 p1 hgT; have p2' := cK h1 p2 hgT; have p3' := cK h1 p3 hgT; have p4' := cK h1 p4 hgT; have p5' := cK h1 p5 hgT; have fp' := fK h1 fp hgT; have pa0' := (h1.cell (p := ⟨w.heap.size, 0, none⟩) (Nat.lt_trans HPL.out hgT)).trans pa0; have pa1' := (h1.cell (p := ⟨w.heap.size, 1, none⟩) (Nat.lt_trans HPL.out hgT)).trans pa1; have pa2' := (h1.cell (p := ⟨w.heap.size, 2, none⟩) (Nat.lt_trans HPL.out hgT)).trans pa2; have pa3' := (h1.cell (p := ⟨w.heap.size, 3, none⟩) (Nat.lt_trans HPL.out hgT)).trans pa3; have hgq := (hown1.lt gq rfl).1; have hV3 := KV.push (x := (4, S1, C1, W1)) (HVb.out.on (one_up _ _)) hxl (ofL_len _ _ _ _ _ _ _) hgrow1 hat (HCb.out.on (one_up _ _)) (HWb.out.on (one_up _ _)) ⟨hnn.1, hnn.2, HS6.out, HW6.out⟩ HA1b.out HA2b.out; have HV3 := Lib.hid (hV3.set (o := 5) (u := (.slice (some ⟨gq, 0, none⟩) (i + 1) cr)) hgT); have HO3 := Lib.hid (own_lt (o := 5) (u := (.slice (some ⟨gq, 0, none⟩) (i + 1) cr)) hown1 hgT); have HB3 := Lib.hid ((hbl.trans (h1.mono (Nat.le_of_lt hgT))).setCell (p := ⟨w2.heap.size, 5, none⟩) (Nat.le_refl _) (.slice (some ⟨gq, 0, none⟩) (i + 1) cr)); clear h1 hown1 hgrow1 hat hlt1 hV3 p0 p1 p2 p3 p4 p5 fp pa0 pa1 pa2 pa3 x0 x1 x2 x3 hbl hgq)
            go_roundw
            case rel => exact ⟨i + 1, q, some ⟨gq, 0, none⟩, cr, _, by rw [Nat.add_mul, Nat.one_mul, HIA.out, HQ.out], by omega, rfl, fun j hj => (by rcases Nat.lt_or_ge j i with e | e; exact HJ.out j e; have e2 : j = i := (by omega); rw [e2, HB.out, hkd]; exact HPP.out), ⟨(World.cell?_setCell_other _ _ _ _ (addr_ne (by omega))).trans p0', (World.cell?_setCell_other _ _ _ _ (addr_ne (by omega))).trans p1', (World.cell?_setCell_other _ _ _ _ (addr_ne (by omega))).trans p2', (World.cell?_setCell_other _ _ _ _ (addr_ne (by omega))).trans p3', (World.cell?_setCell_other _ _ _ _ (addr_ne (by omega))).trans p4', World.cell?_setCell_same _ _ _ p5'⟩, by simpa [go_sem] using fp', HO3.out, by rw [ofL_succ, HB.out, HBS.out]; exact HV3.out, HB3.out⟩
            case measure => have h1 := HQ.out; simp [intOf] <;> omega
          · skip
            have hkd : kdB kk km ko n B = kk := by unfold kdB; rw [if_neg hw]
            have CW := fun V => rwide14_N V (kk := kk) (ks := (s : Int)) (km := km) (ko := ko) (lg := (n : Int)) (g := gr B)
            rw [decide_eq_false hw] at CW
            have hk04 : 0 ≤ (kk : Int) ∧ (kk : Int) ≤ 4 := by have := HK3.out; omega
            generalize gr B = G at CG CW
            clear hw hne hLg
            have qq : Below wr.heap.size wr wr.drew := below_drewN (Below.refl _ wr) 1
            have hP' := hP.on qq
            go_upto_region 16 with fail
            go_region_held3 (fun w' => w'.cell? ⟨w.heap.size, 0, none⟩ = some (.int .i64 kk) ∧ w'.cell? ⟨w.heap.size, 1, none⟩ = some (.int .i64 (s : Int)) ∧ w'.cell? ⟨w.heap.size, 2, none⟩ = some (.int .i64 km) ∧ w'.cell? ⟨w.heap.size, 3, none⟩ = some (.int .i64 ko))
              (first | with_reducible exact ⟨cK qq pa0 hpl, cK qq pa1 hpl, cK qq pa2 hpl, cK qq pa3 hpl⟩ | go_keep)
              (first | (go_at_call 21; (with_reducible refine (CG hP').mono ?_); rintro e wz ⟨rfl, q⟩; replace qq := bK qq q; replace hP' := hP'.on q; clear q) | (go_at_call 24; (with_reducible refine (CW _).mono ?_); rintro e wz ⟨rfl, q⟩; replace qq := bK qq q; replace hP' := hP'.on q; clear q))
            rewrite [cR qq hgo] at p0 p1 p2 p3 p4 p5
            rewrite [cR qq hpl] at pa0 pa1 pa2 pa3
            replace fp := fK qq fp hgo
            replace hO := own_any hO qq
            replace hV := hV.on qq
            replace hown : ∀ q, (Value.slice p i cq).ownBlock = some q → q < _ := fun q e => Nat.lt_of_lt_of_le (hown q e) qq.size
            replace hbl := hbl.trans (qq.mono (Nat.le_of_lt hgo))
            replace hpl := lK qq hpl
            replace hgo := lK qq hgo
            clear qq hP CG CW
            have hpi := HPi.out
            rw [hkd] at hpi
            have hbs : ofB kk km ko n B = (kk, pkS kk B, pkC kk B, pkW kk B) := by unfold ofB; rw [hkd]
            have hS6 : I64 (pkS kk B) := by unfold pkS; split; exact i64_z; exact grk_i64 (row_i64_14 HIP.out (fun x hx => (hpi.2 x hx).1)) _
            have hW6 : ∀ x ∈ pkW kk B, I64 x := by unfold pkW; split; exact HIP.out; intro x hx; cases hx
            have hC4 : (pkC kk B).length ≤ 4096 ∧ (pkW kk B).length ≤ 4096 := by have h1 := HC1.out; have h2 := HN.out; have := ofB_len (kk := kk) (km := km) (ko := ko) (lg := (n : Int)) B; rw [hbs] at this; simp only at this; omega
            have HPP := Lib.hid hpi
            clear hpi
            have CP := rPack_yes hk04 hP' (by omega) HIP.out HPP.out
            generalize pkS kk B = S1 at *
            generalize pkC kk B = C1 at *
            generalize pkW kk B = W1 at *
            have HBS := Lib.hid hbs
            have HS6 := Lib.hid hS6
            have HW6 := Lib.hid hW6
            clear hbs hS6 hW6
            go_wp2_with fail
            refine CP.mono ?_
            rintro e wp ⟨Ab, nb, cb, Bb, mb, db, rfl, hC, hW, b, hn1, hn2⟩
            clear CP hP'
            have hA1 : Apart v3.heap.size (Value.slice p i cq).ownBlock Ab nb := fun _ q e => ⟨by have h1 := hn1 q e; have h2 := hbl.size; omega, fun e2 => by have h1 := hn1 q e; have h2 := hown _ e2; omega⟩
            have hA2 : Apart v3.heap.size (Value.slice p i cq).ownBlock Bb mb := fun _ q e => ⟨by have h1 := hn2 q e; have h2 := hbl.size; omega, fun e2 => by have h1 := hn2 q e; have h2 := hown _ e2; omega⟩
            have hnn : nb ≤ 9223372036854775807 ∧ mb ≤ 9223372036854775807 := by have h1 := hC.1; have h2 := hW.1; omega
            rewrite [cR b hgo] at p0 p1 p2 p3 p4 p5
            rewrite [cR b hpl] at pa0 pa1 pa2 pa3
            replace fp := fK b fp hgo
            replace hO := own_any hO b
            replace hV := hV.on b
            replace hown : ∀ q, (Value.slice p i cq).ownBlock = some q → q < _ := fun q e => Nat.lt_of_lt_of_le (hown q e) b.size
            replace hbl := hbl.trans (b.mono (Nat.le_of_lt hgo))
            replace hpl := lK b hpl
            replace hgo := lK b hgo
            clear b hn1 hn2
            go_upto_region 19 with fail
            generalize hv_ : wp.alloc (.cells #[.int .i64 kk, .int .i64 S1, .slice Ab nb cb, .slice Bb mb db] 43) = wb
            have bA : Below wp.heap.size wp wb := by rw [← hv_]; exact below_one _ _
            replace hC := hC.on bA
            replace hW := hW.on bA
            have x0 : wb.cell? ⟨wp.heap.size, 0, none⟩ = some (.int .i64 kk) := by simp [← hv_, go_sem]
            have x1 : wb.cell? ⟨wp.heap.size, 1, none⟩ = some (.int .i64 S1) := by simp [← hv_, go_sem]
            have x2 : wb.cell? ⟨wp.heap.size, 2, none⟩ = some (.slice Ab nb cb) := by simp [← hv_, go_sem]
            have x3 : wb.cell? ⟨wp.heap.size, 3, none⟩ = some (.slice Bb mb db) := by simp [← hv_, go_sem]
            rewrite [cR bA hgo] at p0 p1 p2 p3 p4 p5
            rewrite [cR bA hpl] at pa0 pa1 pa2 pa3
            replace fp := fK bA fp hgo
            replace hO := own_any hO bA
            replace hV := hV.on bA
            replace hown : ∀ q, (Value.slice p i cq).ownBlock = some q → q < _ := fun q e => Nat.lt_of_lt_of_le (hown q e) bA.size
            replace hbl := hbl.trans (bA.mono (Nat.le_of_lt hgo))
            replace hpl := lK bA hpl
            replace hgo := lK bA hgo
            clear bA
            clear hv_
            obtain ⟨i0, hi0, hz0, hz1, hz2⟩ := info_parts infoK
            have HOb := Lib.hid hO
            have HVb := Lib.hid hV
            have hT : v3.heap.size ≤ wb.heap.size := hbl.size
            have HCb := Lib.hid hC
            have HWb := Lib.hid hW
            have HA1b := Lib.hid hA1
            have HA2b := Lib.hid hA2
            clear hO hV hC hW hA1 hA2 hown
            have hxl := HOb.out.1
            go_wp2_with (at_builtin; refine wpList_append_lies _ rfl _ _ 24 rfl v3.heap.size 43 i0 _ 4 64 Tryz.underlying24 hi0 hz0 hz1 hz2 rfl (by decide) _ _ _ rfl (HOb.out.alloc _) ⟨wb.heap.size, 0, none⟩ 1 1 [.int .i64 kk, .int .i64 S1, .slice Ab nb cb, .slice Bb mb db] rfl rfl (cells_new wb #[.int .i64 kk, .int .i64 S1, .slice Ab nb cb, .slice Bb mb db] _) (by simp [Value.oneCell']) (by omega) (by unfold maxLen; omega) (by omega) (by simp; omega) _ rfl ?_; intro gq cr w3 hown1 hgrow1 hat hlt1; have h1 : Below v3.heap.size wb w3 := ((Below.refl v3.heap.size wb).alloc hT _).grown hgrow1 (by simp; omega) (fun q e => (HOb.out.lt q e).1); have hgT := HOL.out; have p0' := cK h1 p0 hgT; have p1' := cK h1 p1 hgT; have p2' := cK h1 p2 hgT; have p3' := cK h1 p3 hgT; have p4' := cK h1 p4 hgT; have p5' := cK h1 p5 hgT; have fp' := fK h1 fp hgT; have pa0' := (h1.cell (p := ⟨w.heap.size, 0, none⟩) (Nat.lt_trans HPL.out hgT)).trans pa0; have pa1' := (h1.cell (p := ⟨w.heap.size, 1, none⟩) (Nat.lt_trans HPL.out hgT)).trans pa1; have pa2' := (h1.cell (p := ⟨w.heap.size, 2, none⟩) (Nat.lt_trans HPL.out hgT)).trans pa2; have pa3' := (h1.cell (p := ⟨w.heap.size, 3, none⟩) (Nat.lt_trans HPL.out hgT)).trans pa3; have hgq := (hown1.lt gq rfl).1; have hV3 := KV.push (x := (kk, S1, C1, W1)) (HVb.out.on (one_up _ _)) hxl (ofL_len _ _ _ _ _ _ _) hgrow1 hat (HCb.out.on (one_up _ _)) (HWb.out.on (one_up _ _)) ⟨hnn.1, hnn.2, HS6.out, HW6.out⟩ HA1b.out HA2b.out; have HV3 := Lib.hid (hV3.set (o := 5) (u := (.slice (some ⟨gq, 0, none⟩) (i + 1) cr)) hgT); have HO3 := Lib.hid (own_lt (o := 5) (u := (.slice (some ⟨gq, 0, none⟩) (i + 1) cr)) hown1 hgT); have HB3 := Lib.hid ((hbl.trans (h1.mono (Nat.le_of_lt hgT))).setCell (p := ⟨w2.heap.size, 5, none⟩) (Nat.le_refl _) (.slice (some ⟨gq, 0, none⟩) (i + 1) cr)); clear h1 hown1 hgrow1 hat hlt1 hV3 p0 p1 p2 p3 p4 p5 fp pa0 pa1 pa2 pa3 x0 x1 x2 x3 hbl hgq)
            go_roundw
            case rel => exact ⟨i + 1, q, some ⟨gq, 0, none⟩, cr, _, by rw [Nat.add_mul, Nat.one_mul, HIA.out, HQ.out], by omega, rfl, fun j hj => (by rcases Nat.lt_or_ge j i with e | e; exact HJ.out j e; have e2 : j = i := (by omega); rw [e2, HB.out, hkd]; exact HPP.out), ⟨(World.cell?_setCell_other _ _ _ _ (addr_ne (by omega))).trans p0', (World.cell?_setCell_other _ _ _ _ (addr_ne (by omega))).trans p1', (World.cell?_setCell_other _ _ _ _ (addr_ne (by omega))).trans p2', (World.cell?_setCell_other _ _ _ _ (addr_ne (by omega))).trans p3', (World.cell?_setCell_other _ _ _ _ (addr_ne (by omega))).trans p4', World.cell?_setCell_same _ _ _ p5'⟩, by simpa [go_sem] using fp', HO3.out, by rw [ofL_succ, HB.out, HBS.out]; exact HV3.out, HB3.out⟩
            case measure => have h1 := HQ.out; simp [intOf] <;> omega
    · have hiN3 : i = N := by have h1 := (HNB.out i); rw [hia] at h1; omega
      subst hiN3
      have g0 := (hbl.cell (p := ⟨w.heap.size + 1, 0, none⟩) HGL.out).trans G0.out
      have g1 := (hbl.cell (p := ⟨w.heap.size + 1, 1, none⟩) HGL.out).trans G1.out
      have g2 := (hbl.cell (p := ⟨w.heap.size + 1, 2, none⟩) HGL.out).trans G2.out
      have g3 := (hbl.cell (p := ⟨w.heap.size + 1, 3, none⟩) HGL.out).trans G3.out
      have g4 := (hbl.cell (p := ⟨w.heap.size + 1, 4, none⟩) HGL.out).trans G4.out
      have g5 := (hbl.cell (p := ⟨w.heap.size + 1, 5, none⟩) HGL.out).trans G5.out
      have f0 := (hbl.frozen (p := ⟨w.heap.size + 1, 0, none⟩) HGL.out).trans F0.out
      have f1 := (hbl.frozen (p := ⟨w.heap.size + 1, 1, none⟩) HGL.out).trans F1.out
      have f2 := (hbl.frozen (p := ⟨w.heap.size + 1, 2, none⟩) HGL.out).trans F2.out
      have f3 := (hbl.frozen (p := ⟨w.heap.size + 1, 3, none⟩) HGL.out).trans F3.out
      have f4 := (hbl.frozen (p := ⟨w.heap.size + 1, 4, none⟩) HGL.out).trans F4.out
      have f5 := (hbl.frozen (p := ⟨w.heap.size + 1, 5, none⟩) HGL.out).trans F5.out
      have cc : Below w.heap.size w wr := CCV.out.trans (hbl.mono (by have := HPL.out; omega))
      have hgT : w.heap.size + 1 < v3.heap.size := by have h1 := HGL.out; have h2 := HOL.out; omega
      have HR : Hid (KR (putT wr (w.heap.size + 1) (.int .i64 kk) (.int .i64 (s : Int)) (.int .i64 km) (.int .i64 ko) (.int .i64 (n : Int)) (.slice p i cq)) p i cq (ofL kk km ko n s L (nbk s L.length))) := Lib.hid (by rw [HNN.out]; exact kr_putT hV (ofL_len _ _ _ _ _ _ _) hO hgT (.int .i64 kk) (.int .i64 (s : Int)) (.int .i64 km) (.int .i64 ko) (.int .i64 (n : Int)) (.slice p i cq))
      have HBF := Lib.hid (below_putT cc (show w.heap.size ≤ w.heap.size + 1 by omega) (.int .i64 kk) (.int .i64 (s : Int)) (.int .i64 km) (.int .i64 ko) (.int .i64 (n : Int)) (.slice p i cq))
      clear cc hV hO hbl hj hia hgT
      go_wp2_with fail
      refine bodyPost_ret (v := .tuple #[.agg #[.int .i64 kk, .int .i64 (s : Int), .int .i64 km, .int .i64 ko, .int .i64 (n : Int), .slice p i cq], .int .i64 0]) (by simp [results, Tryz.results20, go_sem, g0, g1, g2, g3, g4, g5]) rfl ⟨_, _, _, rfl, HR.out, HBF.out⟩

theorem rOf14_no {w : World} {kk km ko : Int} {s : Nat} {A : Option Addr} {n c : Nat} {L : List Int} (hK : OkK kk (s : Int) km ko) (hA : IR w A n c L) (hi6 : ∀ x ∈ L, I64 x) (hn : n ≤ 4096) (hO : ¬ OkO kk km ko n s L (nbk s L.length)) :
    Calls Tryz.prog 20 #[.agg #[.int .i64 kk, .int .i64 (s : Int), .int .i64 km, .int .i64 ko], .slice A n c] w (GotV w (.tuple #[.agg #[.int .i64 0, .int .i64 0, .int .i64 0, .int .i64 0, .int .i64 0, .slice none 0 0], .int .i64 1])) := by
  have hs1 : 1 ≤ s := by have := hK.2.1; omega
  have hs2 : s ≤ 4096 := by have := hK.2.1; omega
  have hk3 := hK.1
  have CM : ∀ V : World, Calls Tryz.prog 10 #[.agg #[.int .i64 kk, .int .i64 (s : Int), .int .i64 km, .int .i64 ko]] V (GotV V (.bool true)) := fun V => by have h := rMay14_N V (kk := kk) (ks := (s : Int)) (km := km) (ko := ko); rw [decide_eq_true hK] at h; exact h
  have HK3 := Lib.hid hk3
  have HS1 := Lib.hid hs1
  have HS2 := Lib.hid hs2
  have HI6 := Lib.hid hi6
  have HLn := Lib.hid hA.1
  have HO := Lib.hid hO
  have HN := Lib.hid hn
  have t4 : decide (4096 < n) = false := decide_eq_false (by omega)
  have t5 : decide ((4096 : Int) < (n : Int)) = false := decide_eq_false (by omega)
  obtain ⟨N, hN⟩ : ∃ N, nbk s L.length = N := ⟨_, rfl⟩
  have HNB : Hid (∀ i, i < N ↔ i * s < n) := Lib.hid (fun i => by rw [← hN, hA.1]; exact nbk_lt hs1)
  have HNN := Lib.hid hN
  clear hK hk3 hs1 hs2 hi6 hO hn hN
  have cc := Below.refl w.heap.size w
  go_enter Tryz.func20, Tryz.ntmps20
  go_upto_region 1 with fail
  generalize hv_ : (w.alloc (.cells #[.int .i64 kk, .int .i64 (s : Int), .int .i64 km, .int .i64 ko] 23)).alloc (.cells #[.int .i64 0, .int .i64 0, .int .i64 0, .int .i64 0, .int .i64 0, .slice none 0 0] 26) = v1
  obtain ⟨f0, f1, f2, f3, f4, f5⟩ : Fz6 v1 (w.heap.size + 1) := by simp [Fz6, ← hv_, go_sem]
  have bA : Below w.heap.size w v1 := by rw [← hv_]; exact (((Below.refl _ w).alloc (by simp) _).alloc (by simp) _)
  replace hA := hA.on bA
  replace cc := bK cc bA
  clear bA
  have pa0 : v1.cell? ⟨w.heap.size, 0, none⟩ = some (.int .i64 kk) := by simp [← hv_, go_sem]
  have pa1 : v1.cell? ⟨w.heap.size, 1, none⟩ = some (.int .i64 (s : Int)) := by simp [← hv_, go_sem]
  have pa2 : v1.cell? ⟨w.heap.size, 2, none⟩ = some (.int .i64 km) := by simp [← hv_, go_sem]
  have pa3 : v1.cell? ⟨w.heap.size, 3, none⟩ = some (.int .i64 ko) := by simp [← hv_, go_sem]
  have pal : w.heap.size < v1.heap.size := by simp [← hv_] <;> omega
  obtain ⟨g0, g1, g2, g3, g4, g5⟩ : Cs6 v1 (w.heap.size + 1) (.int .i64 0) (.int .i64 0) (.int .i64 0) (.int .i64 0) (.int .i64 0) (.slice none 0 0) := by simp [Cs6, ← hv_, go_sem]
  have gl : w.heap.size + 1 < v1.heap.size := by simp [← hv_] <;> omega
  clear hv_
  go_wp2_with fail
  refine (CM _).mono ?_
  rintro e w2 ⟨rfl, b⟩
  rewrite [fR b gl] at f0 f1 f2 f3 f4 f5
  replace hA := hA.on b
  rewrite [cR b pal] at pa0 pa1 pa2 pa3
  replace pal := lK b pal
  rewrite [cR b gl] at g0 g1 g2 g3 g4 g5
  replace gl := lK b gl
  replace cc := bK cc b
  clear b
  have HA1 := Lib.hid hA
  go_upto_region 6 with fail
  have oqpa : w.heap.size < w2.heap.size := pal
  have oqg : w.heap.size + 1 < w2.heap.size := gl
  generalize hv_ : w2.alloc (.cells #[.int .i64 kk, .int .i64 (s : Int), .int .i64 km, .int .i64 ko, .int .i64 (n : Int), .slice none 0 0] 26) = v3
  have bA : Below w2.heap.size w2 v3 := by rw [← hv_]; exact below_one _ _
  rewrite [fR bA gl] at f0 f1 f2 f3 f4 f5
  replace hA := hA.on bA
  rewrite [cR bA pal] at pa0 pa1 pa2 pa3
  replace pal := lK bA pal
  rewrite [cR bA gl] at g0 g1 g2 g3 g4 g5
  replace gl := lK bA gl
  replace cc := bK cc bA
  clear bA
  obtain ⟨o0, o1, o2, o3, o4, o5⟩ : Cs6 v3 w2.heap.size (.int .i64 kk) (.int .i64 (s : Int)) (.int .i64 km) (.int .i64 ko) (.int .i64 (n : Int)) (.slice none 0 0) := by simp [Cs6, ← hv_, go_sem]
  obtain ⟨or0, or1, or2, or3, or4, or5⟩ : Fz6 v3 w2.heap.size := by simp [Fz6, ← hv_, go_sem]
  have ol : w2.heap.size < v3.heap.size := by simp [← hv_]
  clear hv_
  have HOL : Hid (w2.heap.size < v3.heap.size) := Lib.hid ol
  have HGL : Hid (w.heap.size + 1 < w2.heap.size) := Lib.hid oqg
  have HPL : Hid (w.heap.size < w2.heap.size) := Lib.hid oqpa
  have G0 := Lib.hid g0
  have G1 := Lib.hid g1
  have G2 := Lib.hid g2
  have G3 := Lib.hid g3
  have G4 := Lib.hid g4
  have G5 := Lib.hid g5
  have F0 := Lib.hid f0
  have F1 := Lib.hid f1
  have F2 := Lib.hid f2
  have F3 := Lib.hid f3
  have F4 := Lib.hid f4
  have F5 := Lib.hid f5
  have P0 := Lib.hid o0
  have P1 := Lib.hid o1
  have P2 := Lib.hid o2
  have P3 := Lib.hid o3
  have P4 := Lib.hid o4
  have P5 := Lib.hid o5
  have K0 := Lib.hid pa0
  have K1 := Lib.hid pa1
  have K2 := Lib.hid pa2
  have K3 := Lib.hid pa3
  have FP := Lib.hid or5
  have HAV := Lib.hid hA
  have CCV := Lib.hid cc
  clear hA cc ol oqg oqpa gl pal or0 or1 or2 or3 or4 or5 g0 f0 o0 g1 f1 o1 g2 f2 o2 g3 f3 o3 g4 f4 o4 g5 f5 o5 pa0 pa1 pa2 pa3
  go_wp2_with fail
  go_loopw [7] (fun av wr => ∃ (i a : Nat) (p : Option Addr) (cq : Nat) (xs : List Value), i * s = a ∧ i ≤ N ∧ av = .int .i64 (a : Int) ∧ (∀ j, j < i → OkP (kdB kk km ko n (cutL s L j)) (cutL s L j)) ∧ (wr.cell? ⟨w2.heap.size, 0, none⟩ = some (.int .i64 kk) ∧ wr.cell? ⟨w2.heap.size, 1, none⟩ = some (.int .i64 (s : Int)) ∧ wr.cell? ⟨w2.heap.size, 2, none⟩ = some (.int .i64 km) ∧ wr.cell? ⟨w2.heap.size, 3, none⟩ = some (.int .i64 ko) ∧ wr.cell? ⟨w2.heap.size, 4, none⟩ = some (.int .i64 (n : Int)) ∧ wr.cell? ⟨w2.heap.size, 5, none⟩ = some (.slice p i cq)) ∧ wr.frozen? ⟨w2.heap.size, 5, none⟩ = false ∧ wr.ownsRow v3.heap.size 43 4 (.slice p i cq) i xs ∧ KV v3.heap.size (Value.slice p i cq).ownBlock wr xs i (ofL kk km ko n s L i) ∧ Below w2.heap.size v3 wr) (fun av _ => (n + s) - (intOf av).toNat)
  case atStart => exact ⟨0, 0, none, 0, [], by omega, by omega, rfl, fun j h => absurd h (by omega), ⟨P0.out, P1.out, P2.out, P3.out, P4.out, P5.out⟩, FP.out, ⟨by simp, Or.inl ⟨rfl, rfl⟩⟩, fun j h => absurd h (by omega), Below.refl _ _⟩
  case round =>
    obtain ⟨i, a, p, cq, xs, hia, hiN, rfl, hj, ⟨p0, p1, p2, p3, p4, p5⟩, fp, hO, hV, hbl⟩ := hrel
    have hgo : w2.heap.size < wr.heap.size := by have h := cell_lt p0; simpa using h
    have hpl := Nat.lt_trans HPL.out hgo
    have pa0 := (hbl.cell (p := ⟨w.heap.size, 0, none⟩) HPL.out).trans K0.out
    have pa1 := (hbl.cell (p := ⟨w.heap.size, 1, none⟩) HPL.out).trans K1.out
    have pa2 := (hbl.cell (p := ⟨w.heap.size, 2, none⟩) HPL.out).trans K2.out
    have pa3 := (hbl.cell (p := ⟨w.heap.size, 3, none⟩) HPL.out).trans K3.out
    by_cases hlt : a < n
    · skip
      have hiN2 : i < N := (HNB.out i).2 (by rw [hia]; exact hlt)
      obtain ⟨b2, o2, hAe, hb2, _⟩ := HA1.out.2.2 (by omega)
      subst hAe
      have hA : IR wr (some ⟨b2, o2, none⟩) n c L := ⟨HAV.out.1, HAV.out.2.1, fun hp => ⟨b2, o2, rfl, Nat.lt_trans hb2 hgo, fun j hj2 => (hbl.cell (p := ⟨b2, o2 + j, none⟩) hb2).trans (HAV.out.cell hj2)⟩⟩
      have hnc := hA.2.1
      obtain ⟨q, hq⟩ : ∃ q, a + s = q := ⟨_, rfl⟩
      obtain ⟨h, hh⟩ : ∃ h, min q n = h := ⟨_, rfl⟩
      have s1 := HS1.out
      have s2 := HS2.out
      have n4 := HN.out
      have k1 : IntKind.i64.wrap ((a : Int) + (s : Int)) = (q : Int) := by rw [IntWalk.i64_in _ (by omega)]; omega
      have k2 : mn2 (q : Int) (n : Int) = (h : Int) := by unfold mn2; omega
      obtain ⟨l, hl⟩ : ∃ l, h - a = l := ⟨_, rfl⟩
      have hl1 : 0 < l := by omega
      have hl2 : a + l = h := by omega
      have hP : IR wr (some ⟨b2, o2 + a, none⟩) l (c - a) (cutL s L i) := by rw [← cutL_eq (k := l) hia (by rw [← HLn.out]; omega)]; exact ir_win hA (by omega) (by omega)
      have kca : (c == a) = false := beq_eq_false_iff_ne.2 (by omega)
      have kca2 : ¬ c = a := by omega
      have ha_h : a ≤ h := by omega
      have hhc : h ≤ c := by omega
      go_upto_region 10 with fail
      have HIP : Hid (∀ x ∈ cutL s L i, I64 x) := Lib.hid (fun x hx => HI6.out x (cutL_mem hx))
      have HPi : Hid (True) := Lib.hid (trivial)
      have HJ := Lib.hid hj
      have HC1 : Hid ((cutL s L i).length = l) := Lib.hid hP.1.symm
      obtain ⟨B, hB⟩ : ∃ B, cutL s L i = B := ⟨_, rfl⟩
      rw [hB] at hP HIP HC1
      have HB := Lib.hid hB
      have i4 : i ≤ 4096 := by have h1 := Nat.le_mul_of_pos_right i (show 0 < s by omega); omega
      have HAA := Lib.hid hA
      have hl4 : l ≤ 4096 := by omega
      have HQ := Lib.hid hq
      have HIA := Lib.hid hia
      clear hj hB hA hia hh hl hl2 ha_h hhc kca kca2 hnc hb2 hq
      go_wp2_with fail
      go_loopw [10] (fun jv wi => ∃ m : Nat, m ≤ l ∧ jv = .int .i64 (m : Int) ∧ (∀ t, t < m → B[t]?.getD 0 ≠ -9223372036854775808) ∧ wi = wr) (fun jv _ => l - (intOf jv).toNat)
      case atStart => exact ⟨0, by omega, rfl, fun t h => absurd h (by omega), rfl⟩
      case round =>
        obtain ⟨m, hml, rfl, hne, hwi⟩ := hrel
        subst hwi
        by_cases hlt2 : m < l
        · have e1 := hP.cell hlt2
          obtain ⟨x, hx⟩ : ∃ x, B[m]?.getD 0 = x := ⟨_, rfl⟩
          rw [hx] at e1
          have k4 : IntKind.i64.wrap ((m : Int) + 1) = ((m + 1 : Nat) : Int) := by rw [IntWalk.i64_in _ (by omega)]; omega
          by_cases hxl : x = -9223372036854775808
          · have tx : (x == -9223372036854775808) = true := beq_iff_eq.2 hxl
            have g0 := (hbl.cell (p := ⟨w.heap.size + 1, 0, none⟩) HGL.out).trans G0.out
            have g1 := (hbl.cell (p := ⟨w.heap.size + 1, 1, none⟩) HGL.out).trans G1.out
            have g2 := (hbl.cell (p := ⟨w.heap.size + 1, 2, none⟩) HGL.out).trans G2.out
            have g3 := (hbl.cell (p := ⟨w.heap.size + 1, 3, none⟩) HGL.out).trans G3.out
            have g4 := (hbl.cell (p := ⟨w.heap.size + 1, 4, none⟩) HGL.out).trans G4.out
            have g5 := (hbl.cell (p := ⟨w.heap.size + 1, 5, none⟩) HGL.out).trans G5.out
            have f0 := (hbl.frozen (p := ⟨w.heap.size + 1, 0, none⟩) HGL.out).trans F0.out
            have f1 := (hbl.frozen (p := ⟨w.heap.size + 1, 1, none⟩) HGL.out).trans F1.out
            have f2 := (hbl.frozen (p := ⟨w.heap.size + 1, 2, none⟩) HGL.out).trans F2.out
            have f3 := (hbl.frozen (p := ⟨w.heap.size + 1, 3, none⟩) HGL.out).trans F3.out
            have f4 := (hbl.frozen (p := ⟨w.heap.size + 1, 4, none⟩) HGL.out).trans F4.out
            have f5 := (hbl.frozen (p := ⟨w.heap.size + 1, 5, none⟩) HGL.out).trans F5.out
            have cc : Below w.heap.size w wr := CCV.out.trans (hbl.mono (by have := HPL.out; omega))
            have HBF := Lib.hid (below_putT cc (show w.heap.size ≤ w.heap.size + 1 by omega) (.int .i64 0) (.int .i64 0) (.int .i64 0) (.int .i64 0) (.int .i64 0) (.slice none 0 0))
            clear cc hne hx hxl hV hO hbl HB p0 p1 p2 p3 p4 p5 fp
            go_wp2_with fail
            refine bodyPost_ret (v := .tuple #[.agg #[.int .i64 0, .int .i64 0, .int .i64 0, .int .i64 0, .int .i64 0, .slice none 0 0], .int .i64 1]) (by simp [results, Tryz.results20, go_sem, g0, g1, g2, g3, g4, g5]) rfl ⟨rfl, HBF.out⟩
          · have tx : (x == -9223372036854775808) = false := beq_eq_false_iff_ne.2 hxl
            have HNE : Hid (∀ t, t < m + 1 → B[t]?.getD 0 ≠ -9223372036854775808) := Lib.hid (fun t h => by
              rcases Nat.lt_or_ge t m with e | e
              · exact hne t e
              · have e2 : t = m := by omega
                rw [e2, hx]; exact hxl)
            clear hne hx hxl
            go_wp2_with fail
            go_roundw
            case rel => exact ⟨m + 1, by omega, by go_num, HNE.out, by trivial⟩
            case measure => simp [intOf] <;> omega
        · obtain rfl : m = l := by omega
          have hLg : ∀ j : Nat, I64 (B[j]?.getD 0) ∧ B[j]?.getD 0 ≠ -9223372036854775808 := fun j => (by
            rcases Nat.lt_or_ge j B.length with h | h
            · exact ⟨HIP.out _ (mem_at h), hne j (by rw [← HC1.out]; exact h)⟩
            · rw [List.getElem?_eq_none h]; exact ⟨i64_z, by show (0 : Int) ≠ _; omega⟩)
          have CG := fun {V : World} (h : IR V (some ⟨b2, o2 + a, none⟩) m (c - a) B) => rgreat_N h (by omega) hLg
          have hown : ∀ q, (Value.slice p i cq).ownBlock = some q → q < wr.heap.size := fun q e => (hO.lt q e).2
          by_cases hw : Wd km ko n (gr B)
          · skip
            have hkd : kdB kk km ko n B = 4 := by unfold kdB; rw [if_pos hw]
            have CW := fun V => rwide14_N V (kk := kk) (ks := (s : Int)) (km := km) (ko := ko) (lg := (n : Int)) (g := gr B)
            rw [decide_eq_true hw] at CW
            have hk04 : 0 ≤ (4 : Int) ∧ (4 : Int) ≤ 4 := by have := HK3.out; omega
            generalize gr B = G at CG CW
            clear hw hne hLg
            have qq : Below wr.heap.size wr wr.drew := below_drewN (Below.refl _ wr) 1
            have hP' := hP.on qq
            go_upto_region 16 with fail
            go_region_held3 (fun w' => w'.cell? ⟨w.heap.size, 0, none⟩ = some (.int .i64 kk) ∧ w'.cell? ⟨w.heap.size, 1, none⟩ = some (.int .i64 (s : Int)) ∧ w'.cell? ⟨w.heap.size, 2, none⟩ = some (.int .i64 km) ∧ w'.cell? ⟨w.heap.size, 3, none⟩ = some (.int .i64 ko))
              (first | with_reducible exact ⟨cK qq pa0 hpl, cK qq pa1 hpl, cK qq pa2 hpl, cK qq pa3 hpl⟩ | go_keep)
              (first | (go_at_call 21; (with_reducible refine (CG hP').mono ?_); rintro e wz ⟨rfl, q⟩; replace qq := bK qq q; replace hP' := hP'.on q; clear q) | (go_at_call 24; (with_reducible refine (CW _).mono ?_); rintro e wz ⟨rfl, q⟩; replace qq := bK qq q; replace hP' := hP'.on q; clear q))
            rewrite [cR qq hgo] at p0 p1 p2 p3 p4 p5
            rewrite [cR qq hpl] at pa0 pa1 pa2 pa3
            replace fp := fK qq fp hgo
            replace hO := own_any hO qq
            replace hV := hV.on qq
            replace hown : ∀ q, (Value.slice p i cq).ownBlock = some q → q < _ := fun q e => Nat.lt_of_lt_of_le (hown q e) qq.size
            replace hbl := hbl.trans (qq.mono (Nat.le_of_lt hgo))
            replace hpl := lK qq hpl
            replace hgo := lK qq hgo
            clear qq hP CG CW
            by_cases hpi : OkP 4 B
            · skip
              have hbs : ofB kk km ko n B = (4, pkS 4 B, pkC 4 B, pkW 4 B) := by unfold ofB; rw [hkd]
              have hS6 : I64 (pkS 4 B) := by unfold pkS; split; exact i64_z; exact grk_i64 (row_i64_14 HIP.out (fun x hx => (hpi.2 x hx).1)) _
              have hW6 : ∀ x ∈ pkW 4 B, I64 x := by unfold pkW; split; exact HIP.out; intro x hx; cases hx
              have hC4 : (pkC 4 B).length ≤ 4096 ∧ (pkW 4 B).length ≤ 4096 := by have h1 := HC1.out; have h2 := HN.out; have := ofB_len (kk := kk) (km := km) (ko := ko) (lg := (n : Int)) B; rw [hbs] at this; simp only at this; omega
              have HPP := Lib.hid hpi
              clear hpi
              have CP := rPack_yes hk04 hP' (by omega) HIP.out HPP.out
              generalize pkS 4 B = S1 at *
              generalize pkC 4 B = C1 at *
              generalize pkW 4 B = W1 at *
              have HBS := Lib.hid hbs
              have HS6 := Lib.hid hS6
              have HW6 := Lib.hid hW6
              clear hbs hS6 hW6
              go_wp2_with fail
              refine CP.mono ?_
              rintro e wp ⟨Ab, nb, cb, Bb, mb, db, rfl, hC, hW, b, hn1, hn2⟩
              clear CP hP'
              have hA1 : Apart v3.heap.size (Value.slice p i cq).ownBlock Ab nb := fun _ q e => ⟨by have h1 := hn1 q e; have h2 := hbl.size; omega, fun e2 => by have h1 := hn1 q e; have h2 := hown _ e2; omega⟩
              have hA2 : Apart v3.heap.size (Value.slice p i cq).ownBlock Bb mb := fun _ q e => ⟨by have h1 := hn2 q e; have h2 := hbl.size; omega, fun e2 => by have h1 := hn2 q e; have h2 := hown _ e2; omega⟩
              have hnn : nb ≤ 9223372036854775807 ∧ mb ≤ 9223372036854775807 := by have h1 := hC.1; have h2 := hW.1; omega
              rewrite [cR b hgo] at p0 p1 p2 p3 p4 p5
              rewrite [cR b hpl] at pa0 pa1 pa2 pa3
              replace fp := fK b fp hgo
              replace hO := own_any hO b
              replace hV := hV.on b
              replace hown : ∀ q, (Value.slice p i cq).ownBlock = some q → q < _ := fun q e => Nat.lt_of_lt_of_le (hown q e) b.size
              replace hbl := hbl.trans (b.mono (Nat.le_of_lt hgo))
              replace hpl := lK b hpl
              replace hgo := lK b hgo
              clear b hn1 hn2
              go_upto_region 19 with fail
              generalize hv_ : wp.alloc (.cells #[.int .i64 4, .int .i64 S1, .slice Ab nb cb, .slice Bb mb db] 43) = wb
              have bA : Below wp.heap.size wp wb := by rw [← hv_]; exact below_one _ _
              replace hC := hC.on bA
              replace hW := hW.on bA
              have x0 : wb.cell? ⟨wp.heap.size, 0, none⟩ = some (.int .i64 4) := by simp [← hv_, go_sem]
              have x1 : wb.cell? ⟨wp.heap.size, 1, none⟩ = some (.int .i64 S1) := by simp [← hv_, go_sem]
              have x2 : wb.cell? ⟨wp.heap.size, 2, none⟩ = some (.slice Ab nb cb) := by simp [← hv_, go_sem]
              have x3 : wb.cell? ⟨wp.heap.size, 3, none⟩ = some (.slice Bb mb db) := by simp [← hv_, go_sem]
              rewrite [cR bA hgo] at p0 p1 p2 p3 p4 p5
              rewrite [cR bA hpl] at pa0 pa1 pa2 pa3
              replace fp := fK bA fp hgo
              replace hO := own_any hO bA
              replace hV := hV.on bA
              replace hown : ∀ q, (Value.slice p i cq).ownBlock = some q → q < _ := fun q e => Nat.lt_of_lt_of_le (hown q e) bA.size
              replace hbl := hbl.trans (bA.mono (Nat.le_of_lt hgo))
              replace hpl := lK bA hpl
              replace hgo := lK bA hgo
              clear bA
              clear hv_
              obtain ⟨i0, hi0, hz0, hz1, hz2⟩ := info_parts infoK
              have HOb := Lib.hid hO
              have HVb := Lib.hid hV
              have hT : v3.heap.size ≤ wb.heap.size := hbl.size
              have HCb := Lib.hid hC
              have HWb := Lib.hid hW
              have HA1b := Lib.hid hA1
              have HA2b := Lib.hid hA2
              clear hO hV hC hW hA1 hA2 hown
              have hxl := HOb.out.1
              go_wp2_with (at_builtin; refine wpList_append_lies _ rfl _ _ 24 rfl v3.heap.size 43 i0 _ 4 64 Tryz.underlying24 hi0 hz0 hz1 hz2 rfl (by decide) _ _ _ rfl (HOb.out.alloc _) ⟨wb.heap.size, 0, none⟩ 1 1 [.int .i64 4, .int .i64 S1, .slice Ab nb cb, .slice Bb mb db] rfl rfl (cells_new wb #[.int .i64 4, .int .i64 S1, .slice Ab nb cb, .slice Bb mb db] _) (by simp [Value.oneCell']) (by omega) (by unfold maxLen; omega) (by omega) (by simp; omega) _ rfl ?_; intro gq cr w3 hown1 hgrow1 hat hlt1; have h1 : Below v3.heap.size wb w3 := ((Below.refl v3.heap.size wb).alloc hT _).grown hgrow1 (by simp; omega) (fun q e => (HOb.out.lt q e).1); have hgT := HOL.out; have p0' := cK h1 p0 hgT; have p1' := cK h1 p1 hgT; have p2' := cK h1 p2 hgT; have p3' := cK h1 p3 hgT; have p4' := cK h1 p4 hgT; have p5' := cK h1 p5 hgT; have fp' := fK h1 fp hgT; have pa0' := (h1.cell (p := ⟨w.heap.size, 0, none⟩) (Nat.lt_trans HPL.out hgT)).trans pa0; have pa1' := (h1.cell (p := ⟨w.heap.size, 1, none⟩) (Nat.lt_trans HPL.out hgT)).trans pa1; have pa2' := (h1.cell (p := ⟨w.heap.size, 2, none⟩) (Nat.lt_trans HPL.out hgT)).trans pa2; have pa3' := (h1.cell (p := ⟨w.heap.size, 3, none⟩) (Nat.lt_trans HPL.out hgT)).trans pa3; have hgq := (hown1.lt gq rfl).1; have hV3 := KV.push (x := (4, S1, C1, W1)) (HVb.out.on (one_up _ _)) hxl (ofL_len _ _ _ _ _ _ _) hgrow1 hat (HCb.out.on (one_up _ _)) (HWb.out.on (one_up _ _)) ⟨hnn.1, hnn.2, HS6.out, HW6.out⟩ HA1b.out HA2b.out; have HV3 := Lib.hid (hV3.set (o := 5) (u := (.slice (some ⟨gq, 0, none⟩) (i + 1) cr)) hgT); have HO3 := Lib.hid (own_lt (o := 5) (u := (.slice (some ⟨gq, 0, none⟩) (i + 1) cr)) hown1 hgT); have HB3 := Lib.hid ((hbl.trans (h1.mono (Nat.le_of_lt hgT))).setCell (p := ⟨w2.heap.size, 5, none⟩) (Nat.le_refl _) (.slice (some ⟨gq, 0, none⟩) (i + 1) cr)); clear h1 hown1 hgrow1 hat hlt1 hV3 p0 p1 p2 p3 p4 p5 fp pa0 pa1 pa2 pa3 x0 x1 x2 x3 hbl hgq)
              go_roundw
              case rel => exact ⟨i + 1, q, some ⟨gq, 0, none⟩, cr, _, by rw [Nat.add_mul, Nat.one_mul, HIA.out, HQ.out], by omega, rfl, fun j hj => (by rcases Nat.lt_or_ge j i with e | e; exact HJ.out j e; have e2 : j = i := (by omega); rw [e2, HB.out, hkd]; exact HPP.out), ⟨(World.cell?_setCell_other _ _ _ _ (addr_ne (by omega))).trans p0', (World.cell?_setCell_other _ _ _ _ (addr_ne (by omega))).trans p1', (World.cell?_setCell_other _ _ _ _ (addr_ne (by omega))).trans p2', (World.cell?_setCell_other _ _ _ _ (addr_ne (by omega))).trans p3', (World.cell?_setCell_other _ _ _ _ (addr_ne (by omega))).trans p4', World.cell?_setCell_same _ _ _ p5'⟩, by simpa [go_sem] using fp', HO3.out, by rw [ofL_succ, HB.out, HBS.out]; exact HV3.out, HB3.out⟩
              case measure => have h1 := HQ.out; simp [intOf] <;> omega
            · skip
              have CP := rPack_not hk04 hP' (by omega) hpi
              clear hpi
              go_wp2_with fail
              refine CP.mono ?_
              rintro e wp ⟨rfl, b⟩
              clear CP hP'
              rewrite [cR b hgo] at p0 p1 p2 p3 p4 p5
              rewrite [cR b hpl] at pa0 pa1 pa2 pa3
              replace fp := fK b fp hgo
              replace hO := own_any hO b
              replace hV := hV.on b
              replace hown : ∀ q, (Value.slice p i cq).ownBlock = some q → q < _ := fun q e => Nat.lt_of_lt_of_le (hown q e) b.size
              replace hbl := hbl.trans (b.mono (Nat.le_of_lt hgo))
              replace hpl := lK b hpl
              replace hgo := lK b hgo
              clear b
              go_upto_region 19 with fail
              generalize hv_ : wp.alloc (.cells #[.int .i64 0, .int .i64 0, .slice none 0 0, .slice none 0 0] 43) = wb
              have bA : Below wp.heap.size wp wb := by rw [← hv_]; exact below_one _ _
              rewrite [cR bA hgo] at p0 p1 p2 p3 p4 p5
              rewrite [cR bA hpl] at pa0 pa1 pa2 pa3
              replace fp := fK bA fp hgo
              replace hO := own_any hO bA
              replace hV := hV.on bA
              replace hown : ∀ q, (Value.slice p i cq).ownBlock = some q → q < _ := fun q e => Nat.lt_of_lt_of_le (hown q e) bA.size
              replace hbl := hbl.trans (bA.mono (Nat.le_of_lt hgo))
              replace hpl := lK bA hpl
              replace hgo := lK bA hgo
              clear bA
              clear hv_
              have g0 := (hbl.cell (p := ⟨w.heap.size + 1, 0, none⟩) HGL.out).trans G0.out
              have g1 := (hbl.cell (p := ⟨w.heap.size + 1, 1, none⟩) HGL.out).trans G1.out
              have g2 := (hbl.cell (p := ⟨w.heap.size + 1, 2, none⟩) HGL.out).trans G2.out
              have g3 := (hbl.cell (p := ⟨w.heap.size + 1, 3, none⟩) HGL.out).trans G3.out
              have g4 := (hbl.cell (p := ⟨w.heap.size + 1, 4, none⟩) HGL.out).trans G4.out
              have g5 := (hbl.cell (p := ⟨w.heap.size + 1, 5, none⟩) HGL.out).trans G5.out
              have f0 := (hbl.frozen (p := ⟨w.heap.size + 1, 0, none⟩) HGL.out).trans F0.out
              have f1 := (hbl.frozen (p := ⟨w.heap.size + 1, 1, none⟩) HGL.out).trans F1.out
              have f2 := (hbl.frozen (p := ⟨w.heap.size + 1, 2, none⟩) HGL.out).trans F2.out
              have f3 := (hbl.frozen (p := ⟨w.heap.size + 1, 3, none⟩) HGL.out).trans F3.out
              have f4 := (hbl.frozen (p := ⟨w.heap.size + 1, 4, none⟩) HGL.out).trans F4.out
              have f5 := (hbl.frozen (p := ⟨w.heap.size + 1, 5, none⟩) HGL.out).trans F5.out
              have cc : Below w.heap.size w wb := CCV.out.trans (hbl.mono (by have := HPL.out; omega))
              have HBF := Lib.hid (below_putT cc (show w.heap.size ≤ w.heap.size + 1 by omega) (.int .i64 0) (.int .i64 0) (.int .i64 0) (.int .i64 0) (.int .i64 0) (.slice none 0 0))
              clear cc hV hO hbl p0 p1 p2 p3 p4 p5 fp hown
              go_wp2_with fail
              refine bodyPost_ret (v := .tuple #[.agg #[.int .i64 0, .int .i64 0, .int .i64 0, .int .i64 0, .int .i64 0, .slice none 0 0], .int .i64 1]) (by simp [results, Tryz.results20, go_sem, g0, g1, g2, g3, g4, g5]) rfl ⟨rfl, HBF.out⟩
          · skip
            have hkd : kdB kk km ko n B = kk := by unfold kdB; rw [if_neg hw]
            have CW := fun V => rwide14_N V (kk := kk) (ks := (s : Int)) (km := km) (ko := ko) (lg := (n : Int)) (g := gr B)
            rw [decide_eq_false hw] at CW
            have hk04 : 0 ≤ (kk : Int) ∧ (kk : Int) ≤ 4 := by have := HK3.out; omega
            generalize gr B = G at CG CW
            clear hw hne hLg
            have qq : Below wr.heap.size wr wr.drew := below_drewN (Below.refl _ wr) 1
            have hP' := hP.on qq
            go_upto_region 16 with fail
            go_region_held3 (fun w' => w'.cell? ⟨w.heap.size, 0, none⟩ = some (.int .i64 kk) ∧ w'.cell? ⟨w.heap.size, 1, none⟩ = some (.int .i64 (s : Int)) ∧ w'.cell? ⟨w.heap.size, 2, none⟩ = some (.int .i64 km) ∧ w'.cell? ⟨w.heap.size, 3, none⟩ = some (.int .i64 ko))
              (first | with_reducible exact ⟨cK qq pa0 hpl, cK qq pa1 hpl, cK qq pa2 hpl, cK qq pa3 hpl⟩ | go_keep)
              (first | (go_at_call 21; (with_reducible refine (CG hP').mono ?_); rintro e wz ⟨rfl, q⟩; replace qq := bK qq q; replace hP' := hP'.on q; clear q) | (go_at_call 24; (with_reducible refine (CW _).mono ?_); rintro e wz ⟨rfl, q⟩; replace qq := bK qq q; replace hP' := hP'.on q; clear q))
            rewrite [cR qq hgo] at p0 p1 p2 p3 p4 p5
            rewrite [cR qq hpl] at pa0 pa1 pa2 pa3
            replace fp := fK qq fp hgo
            replace hO := own_any hO qq
            replace hV := hV.on qq
            replace hown : ∀ q, (Value.slice p i cq).ownBlock = some q → q < _ := fun q e => Nat.lt_of_lt_of_le (hown q e) qq.size
            replace hbl := hbl.trans (qq.mono (Nat.le_of_lt hgo))
            replace hpl := lK qq hpl
            replace hgo := lK qq hgo
            clear qq hP CG CW
            by_cases hpi : OkP kk B
            · skip
              have hbs : ofB kk km ko n B = (kk, pkS kk B, pkC kk B, pkW kk B) := by unfold ofB; rw [hkd]
              have hS6 : I64 (pkS kk B) := by unfold pkS; split; exact i64_z; exact grk_i64 (row_i64_14 HIP.out (fun x hx => (hpi.2 x hx).1)) _
              have hW6 : ∀ x ∈ pkW kk B, I64 x := by unfold pkW; split; exact HIP.out; intro x hx; cases hx
              have hC4 : (pkC kk B).length ≤ 4096 ∧ (pkW kk B).length ≤ 4096 := by have h1 := HC1.out; have h2 := HN.out; have := ofB_len (kk := kk) (km := km) (ko := ko) (lg := (n : Int)) B; rw [hbs] at this; simp only at this; omega
              have HPP := Lib.hid hpi
              clear hpi
              have CP := rPack_yes hk04 hP' (by omega) HIP.out HPP.out
              generalize pkS kk B = S1 at *
              generalize pkC kk B = C1 at *
              generalize pkW kk B = W1 at *
              have HBS := Lib.hid hbs
              have HS6 := Lib.hid hS6
              have HW6 := Lib.hid hW6
              clear hbs hS6 hW6
              go_wp2_with fail
              refine CP.mono ?_
              rintro e wp ⟨Ab, nb, cb, Bb, mb, db, rfl, hC, hW, b, hn1, hn2⟩
              clear CP hP'
              have hA1 : Apart v3.heap.size (Value.slice p i cq).ownBlock Ab nb := fun _ q e => ⟨by have h1 := hn1 q e; have h2 := hbl.size; omega, fun e2 => by have h1 := hn1 q e; have h2 := hown _ e2; omega⟩
              have hA2 : Apart v3.heap.size (Value.slice p i cq).ownBlock Bb mb := fun _ q e => ⟨by have h1 := hn2 q e; have h2 := hbl.size; omega, fun e2 => by have h1 := hn2 q e; have h2 := hown _ e2; omega⟩
              have hnn : nb ≤ 9223372036854775807 ∧ mb ≤ 9223372036854775807 := by have h1 := hC.1; have h2 := hW.1; omega
              rewrite [cR b hgo] at p0 p1 p2 p3 p4 p5
              rewrite [cR b hpl] at pa0 pa1 pa2 pa3
              replace fp := fK b fp hgo
              replace hO := own_any hO b
              replace hV := hV.on b
              replace hown : ∀ q, (Value.slice p i cq).ownBlock = some q → q < _ := fun q e => Nat.lt_of_lt_of_le (hown q e) b.size
              replace hbl := hbl.trans (b.mono (Nat.le_of_lt hgo))
              replace hpl := lK b hpl
              replace hgo := lK b hgo
              clear b hn1 hn2
              go_upto_region 19 with fail
              generalize hv_ : wp.alloc (.cells #[.int .i64 kk, .int .i64 S1, .slice Ab nb cb, .slice Bb mb db] 43) = wb
              have bA : Below wp.heap.size wp wb := by rw [← hv_]; exact below_one _ _
              replace hC := hC.on bA
              replace hW := hW.on bA
              have x0 : wb.cell? ⟨wp.heap.size, 0, none⟩ = some (.int .i64 kk) := by simp [← hv_, go_sem]
              have x1 : wb.cell? ⟨wp.heap.size, 1, none⟩ = some (.int .i64 S1) := by simp [← hv_, go_sem]
              have x2 : wb.cell? ⟨wp.heap.size, 2, none⟩ = some (.slice Ab nb cb) := by simp [← hv_, go_sem]
              have x3 : wb.cell? ⟨wp.heap.size, 3, none⟩ = some (.slice Bb mb db) := by simp [← hv_, go_sem]
              rewrite [cR bA hgo] at p0 p1 p2 p3 p4 p5
              rewrite [cR bA hpl] at pa0 pa1 pa2 pa3
              replace fp := fK bA fp hgo
              replace hO := own_any hO bA
              replace hV := hV.on bA
              replace hown : ∀ q, (Value.slice p i cq).ownBlock = some q → q < _ := fun q e => Nat.lt_of_lt_of_le (hown q e) bA.size
              replace hbl := hbl.trans (bA.mono (Nat.le_of_lt hgo))
              replace hpl := lK bA hpl
              replace hgo := lK bA hgo
              clear bA
              clear hv_
              obtain ⟨i0, hi0, hz0, hz1, hz2⟩ := info_parts infoK
              have HOb := Lib.hid hO
              have HVb := Lib.hid hV
              have hT : v3.heap.size ≤ wb.heap.size := hbl.size
              have HCb := Lib.hid hC
              have HWb := Lib.hid hW
              have HA1b := Lib.hid hA1
              have HA2b := Lib.hid hA2
              clear hO hV hC hW hA1 hA2 hown
              have hxl := HOb.out.1
              go_wp2_with (at_builtin; refine wpList_append_lies _ rfl _ _ 24 rfl v3.heap.size 43 i0 _ 4 64 Tryz.underlying24 hi0 hz0 hz1 hz2 rfl (by decide) _ _ _ rfl (HOb.out.alloc _) ⟨wb.heap.size, 0, none⟩ 1 1 [.int .i64 kk, .int .i64 S1, .slice Ab nb cb, .slice Bb mb db] rfl rfl (cells_new wb #[.int .i64 kk, .int .i64 S1, .slice Ab nb cb, .slice Bb mb db] _) (by simp [Value.oneCell']) (by omega) (by unfold maxLen; omega) (by omega) (by simp; omega) _ rfl ?_; intro gq cr w3 hown1 hgrow1 hat hlt1; have h1 : Below v3.heap.size wb w3 := ((Below.refl v3.heap.size wb).alloc hT _).grown hgrow1 (by simp; omega) (fun q e => (HOb.out.lt q e).1); have hgT := HOL.out; have p0' := cK h1 p0 hgT; have p1' := cK h1 p1 hgT; have p2' := cK h1 p2 hgT; have p3' := cK h1 p3 hgT; have p4' := cK h1 p4 hgT; have p5' := cK h1 p5 hgT; have fp' := fK h1 fp hgT; have pa0' := (h1.cell (p := ⟨w.heap.size, 0, none⟩) (Nat.lt_trans HPL.out hgT)).trans pa0; have pa1' := (h1.cell (p := ⟨w.heap.size, 1, none⟩) (Nat.lt_trans HPL.out hgT)).trans pa1; have pa2' := (h1.cell (p := ⟨w.heap.size, 2, none⟩) (Nat.lt_trans HPL.out hgT)).trans pa2; have pa3' := (h1.cell (p := ⟨w.heap.size, 3, none⟩) (Nat.lt_trans HPL.out hgT)).trans pa3; have hgq := (hown1.lt gq rfl).1; have hV3 := KV.push (x := (kk, S1, C1, W1)) (HVb.out.on (one_up _ _)) hxl (ofL_len _ _ _ _ _ _ _) hgrow1 hat (HCb.out.on (one_up _ _)) (HWb.out.on (one_up _ _)) ⟨hnn.1, hnn.2, HS6.out, HW6.out⟩ HA1b.out HA2b.out; have HV3 := Lib.hid (hV3.set (o := 5) (u := (.slice (some ⟨gq, 0, none⟩) (i + 1) cr)) hgT); have HO3 := Lib.hid (own_lt (o := 5) (u := (.slice (some ⟨gq, 0, none⟩) (i + 1) cr)) hown1 hgT); have HB3 := Lib.hid ((hbl.trans (h1.mono (Nat.le_of_lt hgT))).setCell (p := ⟨w2.heap.size, 5, none⟩) (Nat.le_refl _) (.slice (some ⟨gq, 0, none⟩) (i + 1) cr)); clear h1 hown1 hgrow1 hat hlt1 hV3 p0 p1 p2 p3 p4 p5 fp pa0 pa1 pa2 pa3 x0 x1 x2 x3 hbl hgq)
              go_roundw
              case rel => exact ⟨i + 1, q, some ⟨gq, 0, none⟩, cr, _, by rw [Nat.add_mul, Nat.one_mul, HIA.out, HQ.out], by omega, rfl, fun j hj => (by rcases Nat.lt_or_ge j i with e | e; exact HJ.out j e; have e2 : j = i := (by omega); rw [e2, HB.out, hkd]; exact HPP.out), ⟨(World.cell?_setCell_other _ _ _ _ (addr_ne (by omega))).trans p0', (World.cell?_setCell_other _ _ _ _ (addr_ne (by omega))).trans p1', (World.cell?_setCell_other _ _ _ _ (addr_ne (by omega))).trans p2', (World.cell?_setCell_other _ _ _ _ (addr_ne (by omega))).trans p3', (World.cell?_setCell_other _ _ _ _ (addr_ne (by omega))).trans p4', World.cell?_setCell_same _ _ _ p5'⟩, by simpa [go_sem] using fp', HO3.out, by rw [ofL_succ, HB.out, HBS.out]; exact HV3.out, HB3.out⟩
              case measure => have h1 := HQ.out; simp [intOf] <;> omega
            · skip
              have CP := rPack_not hk04 hP' (by omega) hpi
              clear hpi
              go_wp2_with fail
              refine CP.mono ?_
              rintro e wp ⟨rfl, b⟩
              clear CP hP'
              rewrite [cR b hgo] at p0 p1 p2 p3 p4 p5
              rewrite [cR b hpl] at pa0 pa1 pa2 pa3
              replace fp := fK b fp hgo
              replace hO := own_any hO b
              replace hV := hV.on b
              replace hown : ∀ q, (Value.slice p i cq).ownBlock = some q → q < _ := fun q e => Nat.lt_of_lt_of_le (hown q e) b.size
              replace hbl := hbl.trans (b.mono (Nat.le_of_lt hgo))
              replace hpl := lK b hpl
              replace hgo := lK b hgo
              clear b
              go_upto_region 19 with fail
              have bA := one_up wp (.cells #[.int .i64 0, .int .i64 0, .slice none 0 0, .slice none 0 0] 43)
              rewrite [cR bA hgo] at p0 p1 p2 p3 p4 p5
              rewrite [cR bA hpl] at pa0 pa1 pa2 pa3
              replace fp := fK bA fp hgo
              replace hO := own_any hO bA
              replace hV := hV.on bA
              replace hown : ∀ q, (Value.slice p i cq).ownBlock = some q → q < _ := fun q e => Nat.lt_of_lt_of_le (hown q e) bA.size
              replace hbl := hbl.trans (bA.mono (Nat.le_of_lt hgo))
              replace hpl := lK bA hpl
              replace hgo := lK bA hgo
              clear bA
              generalize wp.alloc (.cells #[.int .i64 0, .int .i64 0, .slice none 0 0, .slice none 0 0] 43) = wb at *
              have g0 := (hbl.cell (p := ⟨w.heap.size + 1, 0, none⟩) HGL.out).trans G0.out
              have g1 := (hbl.cell (p := ⟨w.heap.size + 1, 1, none⟩) HGL.out).trans G1.out
              have g2 := (hbl.cell (p := ⟨w.heap.size + 1, 2, none⟩) HGL.out).trans G2.out
              have g3 := (hbl.cell (p := ⟨w.heap.size + 1, 3, none⟩) HGL.out).trans G3.out
              have g4 := (hbl.cell (p := ⟨w.heap.size + 1, 4, none⟩) HGL.out).trans G4.out
              have g5 := (hbl.cell (p := ⟨w.heap.size + 1, 5, none⟩) HGL.out).trans G5.out
              have f0 := (hbl.frozen (p := ⟨w.heap.size + 1, 0, none⟩) HGL.out).trans F0.out
              have f1 := (hbl.frozen (p := ⟨w.heap.size + 1, 1, none⟩) HGL.out).trans F1.out
              have f2 := (hbl.frozen (p := ⟨w.heap.size + 1, 2, none⟩) HGL.out).trans F2.out
              have f3 := (hbl.frozen (p := ⟨w.heap.size + 1, 3, none⟩) HGL.out).trans F3.out
              have f4 := (hbl.frozen (p := ⟨w.heap.size + 1, 4, none⟩) HGL.out).trans F4.out
              have f5 := (hbl.frozen (p := ⟨w.heap.size + 1, 5, none⟩) HGL.out).trans F5.out
              have cc : Below w.heap.size w wb := CCV.out.trans (hbl.mono (by have := HPL.out; omega))
              have HBF := Lib.hid (below_putT cc (show w.heap.size ≤ w.heap.size + 1 by omega) (.int .i64 0) (.int .i64 0) (.int .i64 0) (.int .i64 0) (.int .i64 0) (.slice none 0 0))
              clear cc hV hO hbl p0 p1 p2 p3 p4 p5 fp hown
              go_wp2_with fail
              refine bodyPost_ret (v := .tuple #[.agg #[.int .i64 0, .int .i64 0, .int .i64 0, .int .i64 0, .int .i64 0, .slice none 0 0], .int .i64 1]) (by simp [results, Tryz.results20, go_sem, g0, g1, g2, g3, g4, g5]) rfl ⟨rfl, HBF.out⟩
    · have hiN3 : i = N := by have h1 := (HNB.out i); rw [hia] at h1; omega
      subst hiN3
      exfalso
      exact HO.out (by rw [HNN.out]; exact hj)

end Go.Proofs.YtpidpebgeblenaaGreat

/-
  The contracts of the fourteenth reference: Same.
-/
namespace Go.Proofs.YtpidpebgeblenaaGreat
set_option maxRecDepth 100000
set_option maxHeartbeats 8000000
open Go.RowKit
set_option linter.unusedVariables false
set_option linter.unusedSimpArgs false

theorem keep_eq (a b c d a' b' c' d' : Int) (w : World) : (Op.equalIn 10000 23 (.agg #[.int .i64 a, .int .i64 b, .int .i64 c, .int .i64 d]) (.agg #[.int .i64 a', .int .i64 b', .int .i64 c', .int .i64 d'])).run Tryz.prog w = .ok (decide (a = a' ∧ b = b' ∧ c = c' ∧ d = d')) w := by
  have u1 := Tryz.underlying3
  have u2 := Tryz.underlying2
  rw [show (10000 : Nat) = 9998 + 1 + 1 from rfl, run_equalIn_agg w (9998 + 1) 23 _ _ (by kernel_rfl) (by kernel_rfl)]
  rw [show Tryz.prog.fieldsOf 23 = (match Tryz.prog.underlying 23 with | some (.struct fs) => fs | _ => #[]) from rfl, Tryz.underlying23]
  go_simp
  by_cases h1 : a = a' <;> by_cases h2 : b = b' <;> by_cases h3 : c = c' <;> by_cases h4 : d = d' <;> simp [h1, h2, h3, h4]
theorem bk_eq (x y : Bk) : decide (x.1 = y.1 ∧ x.2.1 = y.2.1 ∧ x.2.2.1 = y.2.2.1 ∧ x.2.2.2 = y.2.2.2) = decide (x = y) := by
  refine decide_eq_decide.2 ⟨fun h => ?_, fun h => by rw [h]; exact ⟨rfl, rfl, rfl, rfl⟩⟩
  obtain ⟨a, b, c, d⟩ := x
  obtain ⟨a', b', c', d'⟩ := y
  obtain ⟨h1, h2, h3, h4⟩ := h
  simp only at h1 h2 h3 h4
  subst h1 h2 h3 h4
  rfl

attribute [local go_sem ↓] keep_eq
theorem rSame14_k {w : World} {kk ks km ko lg kk' ks' km' ko' lg' : Int} {A B : Option Addr} {n c m d : Nat} (hk : ¬ (kk = kk' ∧ ks = ks' ∧ km = km' ∧ ko = ko')) :
    Calls Tryz.prog 13 #[.agg #[.int .i64 kk, .int .i64 ks, .int .i64 km, .int .i64 ko, .int .i64 lg, .slice A n c], .agg #[.int .i64 kk', .int .i64 ks', .int .i64 km', .int .i64 ko', .int .i64 lg', .slice B m d]] w (GotV w (.bool false)) := by
  have tk : decide (kk = kk' ∧ ks = ks' ∧ km = km' ∧ ko = ko') = false := decide_eq_false hk
  clear hk
  have cc := Below.refl w.heap.size w
  have KE := keep_eq
  go_enter Tryz.func13, Tryz.ntmps13
  go_upto_region 1 with fail
  generalize hv_ : (w.alloc (.cells #[.int .i64 kk, .int .i64 ks, .int .i64 km, .int .i64 ko, .int .i64 lg, .slice A n c] 26)).alloc (.cells #[.int .i64 kk', .int .i64 ks', .int .i64 km', .int .i64 ko', .int .i64 lg', .slice B m d] 26) = v1
  have bA : Below w.heap.size w v1 := by rw [← hv_]; exact (((Below.refl _ w).alloc (by simp) _).alloc (by simp) _)
  replace cc := bK cc bA
  clear bA
  obtain ⟨xa0, xa1, xa2, xa3, xa4, xa5⟩ : Cs6 v1 w.heap.size (.int .i64 kk) (.int .i64 ks) (.int .i64 km) (.int .i64 ko) (.int .i64 lg) (.slice A n c) := by simp [Cs6, ← hv_, go_sem]
  have xal : w.heap.size < v1.heap.size := by simp [← hv_] <;> omega
  obtain ⟨xb0, xb1, xb2, xb3, xb4, xb5⟩ : Cs6 v1 (w.heap.size + 1) (.int .i64 kk') (.int .i64 ks') (.int .i64 km') (.int .i64 ko') (.int .i64 lg') (.slice B m d) := by simp [Cs6, ← hv_, go_sem]
  have xbl : w.heap.size + 1 < v1.heap.size := by simp [← hv_] <;> omega
  clear hv_
  go_wp2_with fail
  go_ret
  exact ⟨rfl, cc⟩

theorem rSame14_l {w : World} {kk ks km ko lg kk' ks' km' ko' lg' : Int} {A B : Option Addr} {n c m d : Nat} (hk : kk = kk' ∧ ks = ks' ∧ km = km' ∧ ko = ko') (hl : lg ≠ lg') :
    Calls Tryz.prog 13 #[.agg #[.int .i64 kk, .int .i64 ks, .int .i64 km, .int .i64 ko, .int .i64 lg, .slice A n c], .agg #[.int .i64 kk', .int .i64 ks', .int .i64 km', .int .i64 ko', .int .i64 lg', .slice B m d]] w (GotV w (.bool false)) := by
  have tk : decide (kk = kk' ∧ ks = ks' ∧ km = km' ∧ ko = ko') = true := decide_eq_true hk
  have t1 : (lg == lg') = false := beq_eq_false_iff_ne.2 hl
  have t2 : (lg != lg') = true := by simp; exact hl
  clear hk hl
  have cc := Below.refl w.heap.size w
  have KE := keep_eq
  go_enter Tryz.func13, Tryz.ntmps13
  go_upto_region 1 with fail
  generalize hv_ : (w.alloc (.cells #[.int .i64 kk, .int .i64 ks, .int .i64 km, .int .i64 ko, .int .i64 lg, .slice A n c] 26)).alloc (.cells #[.int .i64 kk', .int .i64 ks', .int .i64 km', .int .i64 ko', .int .i64 lg', .slice B m d] 26) = v1
  have bA : Below w.heap.size w v1 := by rw [← hv_]; exact (((Below.refl _ w).alloc (by simp) _).alloc (by simp) _)
  replace cc := bK cc bA
  clear bA
  obtain ⟨xa0, xa1, xa2, xa3, xa4, xa5⟩ : Cs6 v1 w.heap.size (.int .i64 kk) (.int .i64 ks) (.int .i64 km) (.int .i64 ko) (.int .i64 lg) (.slice A n c) := by simp [Cs6, ← hv_, go_sem]
  have xal : w.heap.size < v1.heap.size := by simp [← hv_] <;> omega
  obtain ⟨xb0, xb1, xb2, xb3, xb4, xb5⟩ : Cs6 v1 (w.heap.size + 1) (.int .i64 kk') (.int .i64 ks') (.int .i64 km') (.int .i64 ko') (.int .i64 lg') (.slice B m d) := by simp [Cs6, ← hv_, go_sem]
  have xbl : w.heap.size + 1 < v1.heap.size := by simp [← hv_] <;> omega
  clear hv_
  go_wp2_with fail
  go_ret
  exact ⟨rfl, cc⟩

theorem rSame14_n {w : World} {kk ks km ko lg kk' ks' km' ko' lg' : Int} {A B : Option Addr} {n c m d : Nat} (hk : kk = kk' ∧ ks = ks' ∧ km = km' ∧ ko = ko') (hl : lg = lg') (hnm : n ≠ m) :
    Calls Tryz.prog 13 #[.agg #[.int .i64 kk, .int .i64 ks, .int .i64 km, .int .i64 ko, .int .i64 lg, .slice A n c], .agg #[.int .i64 kk', .int .i64 ks', .int .i64 km', .int .i64 ko', .int .i64 lg', .slice B m d]] w (GotV w (.bool false)) := by
  have tk : decide (kk = kk' ∧ ks = ks' ∧ km = km' ∧ ko = ko') = true := decide_eq_true hk
  have e1 : ((n : Int) == (m : Int)) = false := beq_eq_false_iff_ne.2 (by omega)
  have e2 : ((n : Int) != (m : Int)) = true := by simp; omega
  have e3 : (n == m) = false := beq_eq_false_iff_ne.2 hnm
  have e4 : (n != m) = true := by simp; omega
  subst hl
  clear hk hnm
  have cc := Below.refl w.heap.size w
  have KE := keep_eq
  go_enter Tryz.func13, Tryz.ntmps13
  go_upto_region 1 with fail
  generalize hv_ : (w.alloc (.cells #[.int .i64 kk, .int .i64 ks, .int .i64 km, .int .i64 ko, .int .i64 lg, .slice A n c] 26)).alloc (.cells #[.int .i64 kk', .int .i64 ks', .int .i64 km', .int .i64 ko', .int .i64 lg, .slice B m d] 26) = v1
  have bA : Below w.heap.size w v1 := by rw [← hv_]; exact (((Below.refl _ w).alloc (by simp) _).alloc (by simp) _)
  replace cc := bK cc bA
  clear bA
  obtain ⟨xa0, xa1, xa2, xa3, xa4, xa5⟩ : Cs6 v1 w.heap.size (.int .i64 kk) (.int .i64 ks) (.int .i64 km) (.int .i64 ko) (.int .i64 lg) (.slice A n c) := by simp [Cs6, ← hv_, go_sem]
  have xal : w.heap.size < v1.heap.size := by simp [← hv_] <;> omega
  obtain ⟨xb0, xb1, xb2, xb3, xb4, xb5⟩ : Cs6 v1 (w.heap.size + 1) (.int .i64 kk') (.int .i64 ks') (.int .i64 km') (.int .i64 ko') (.int .i64 lg) (.slice B m d) := by simp [Cs6, ← hv_, go_sem]
  have xbl : w.heap.size + 1 < v1.heap.size := by simp [← hv_] <;> omega
  clear hv_
  go_wp2_with fail
  go_ret
  exact ⟨rfl, cc⟩

theorem rSame14_eq {w : World} {kk ks km ko lg kk' ks' km' ko' lg' : Int} {A B : Option Addr} {n c m d : Nat} (hk : kk = kk' ∧ ks = ks' ∧ km = km' ∧ ko = ko') (hl : lg = lg') (hnm : n = m) {L K : List Bk} (hA : KR w A n c L) (hB : KR w B m d K) (hn : n ≤ 9223372036854775807) :
    Calls Tryz.prog 13 #[.agg #[.int .i64 kk, .int .i64 ks, .int .i64 km, .int .i64 ko, .int .i64 lg, .slice A n c], .agg #[.int .i64 kk', .int .i64 ks', .int .i64 km', .int .i64 ko', .int .i64 lg', .slice B m d]] w (GotV w (.bool (decide (L = K)))) := by
  have tk : decide (kk = kk' ∧ ks = ks' ∧ km = km' ∧ ko = ko') = true := decide_eq_true hk
  subst hl
  subst hnm
  have HN := Lib.hid hn
  obtain ⟨R, hR⟩ : ∃ R, decide (L = K) = R := ⟨_, rfl⟩
  rw [hR]
  have HR := Lib.hid hR
  clear hR hk hn
  have cc := Below.refl w.heap.size w
  have KE := keep_eq
  go_enter Tryz.func13, Tryz.ntmps13
  go_upto_region 1 with fail
  generalize hv_ : (w.alloc (.cells #[.int .i64 kk, .int .i64 ks, .int .i64 km, .int .i64 ko, .int .i64 lg, .slice A n c] 26)).alloc (.cells #[.int .i64 kk', .int .i64 ks', .int .i64 km', .int .i64 ko', .int .i64 lg, .slice B n d] 26) = v1
  have bA : Below w.heap.size w v1 := by rw [← hv_]; exact (((Below.refl _ w).alloc (by simp) _).alloc (by simp) _)
  replace hA := hA.on bA
  replace hB := hB.on bA
  replace cc := bK cc bA
  clear bA
  obtain ⟨xa0, xa1, xa2, xa3, xa4, xa5⟩ : Cs6 v1 w.heap.size (.int .i64 kk) (.int .i64 ks) (.int .i64 km) (.int .i64 ko) (.int .i64 lg) (.slice A n c) := by simp [Cs6, ← hv_, go_sem]
  have xal : w.heap.size < v1.heap.size := by simp [← hv_] <;> omega
  obtain ⟨xb0, xb1, xb2, xb3, xb4, xb5⟩ : Cs6 v1 (w.heap.size + 1) (.int .i64 kk') (.int .i64 ks') (.int .i64 km') (.int .i64 ko') (.int .i64 lg) (.slice B n d) := by simp [Cs6, ← hv_, go_sem]
  have xbl : w.heap.size + 1 < v1.heap.size := by simp [← hv_] <;> omega
  clear hv_
  have Xa5 := Lib.hid xa5
  have Xb5 := Lib.hid xb5
  have XAL := Lib.hid xal
  have XBL := Lib.hid xbl
  have CCV := Lib.hid cc
  have HAV := Lib.hid hA
  have HBV := Lib.hid hB
  go_wp2_with fail
  clear xa0 xb0 xa1 xb1 xa2 xb2 xa3 xb3 xa4 xb4 xa5 xb5 xal xbl cc hA hB
  go_loopw [5] (fun iv wr => ∃ i : Nat, i ≤ n ∧ iv = .int .i64 (i : Int) ∧ (∀ j, j < i → L[j]?.getD bk0 = K[j]?.getD bk0) ∧ Below v1.heap.size v1 wr) (fun iv _ => n - (intOf iv).toNat)
  case atStart => exact ⟨0, by omega, rfl, fun j h => absurd h (by omega), Below.refl _ _⟩
  case round =>
    obtain ⟨i, hi, rfl, hj, hbl⟩ := hrel
    have xa5 := (hbl.cell (p := ⟨w.heap.size, 5, none⟩) XAL.out).trans Xa5.out
    have xb5 := (hbl.cell (p := ⟨w.heap.size + 1, 5, none⟩) XBL.out).trans Xb5.out
    have cc := CCV.out.trans (hbl.mono CCV.out.size)
    have l1 := HAV.out.1
    have l2 := HBV.out.1
    by_cases hlt : i < n
    · obtain ⟨b1, o1, rfl, hb1⟩ := HAV.out.some (by omega)
      obtain ⟨b2, o2, rfl, hb2⟩ := HBV.out.some (by omega)
      obtain ⟨A1, n1, c1, B1, m1, d1, g0, g1, g2, g3, hC, hW, hn1, hm1, hs1, hz1⟩ := kr_at (HAV.out.on hbl) hlt
      obtain ⟨A2, n2, c2, B2, m2, d2, f0, f1, f2, f3, hC2, hW2, hn2, hm2, hs2, hz2⟩ := kr_at (HBV.out.on hbl) hlt
      have bD : Below wr.heap.size wr wr.drew := below_drewN (Below.refl _ _) 1
      have CS0 := rSame_N (ka := (L[i]?.getD bk0).1) (sa := (L[i]?.getD bk0).2.1) (kb := (K[i]?.getD bk0).1) (sb := (K[i]?.getD bk0).2.1) (hC.on bD) (hW.on bD) hn1 hm1 (hC2.on bD) (hW2.on bD) hn2 hm2
      rw [bk_eq] at CS0
      obtain ⟨q, hq⟩ : ∃ q, decide (L[i]?.getD bk0 = K[i]?.getD bk0) = q := ⟨_, rfl⟩
      rw [hq] at CS0
      obtain ⟨x, hx⟩ : ∃ x, L[i]?.getD bk0 = x := ⟨_, rfl⟩
      obtain ⟨y, hy⟩ : ∃ y, K[i]?.getD bk0 = y := ⟨_, rfl⟩
      rw [hx] at CS0 g0 g1 hq
      rw [hy] at CS0 f0 f1 hq
      have k3 : IntKind.i64.wrap ((i : Int) + 1) = ((i + 1 : Nat) : Int) := by rw [IntWalk.i64_in _ (by have := HN.out; omega)]; omega
      have jl : (i : Int) < (n : Int) := by omega
      obtain ⟨x1, ex1⟩ : ∃ v, x.1 = v := ⟨_, rfl⟩
      obtain ⟨x2, ex2⟩ : ∃ v, x.2.1 = v := ⟨_, rfl⟩
      obtain ⟨y1, ey1⟩ : ∃ v, y.1 = v := ⟨_, rfl⟩
      obtain ⟨y2, ey2⟩ : ∃ v, y.2.1 = v := ⟨_, rfl⟩
      rw [ex1] at CS0 g0
      rw [ex2] at CS0 g1
      rw [ey1] at CS0 f0
      rw [ey2] at CS0 f1
      clear hC hW hn1 hm1 hC2 hW2 hn2 hm2 hs1 hz1 hs2 hz2 ex1 ex2 ey1 ey2
      have qa : w.heap.size < wr.heap.size := Nat.lt_of_lt_of_le XAL.out hbl.size
      have qb : w.heap.size + 1 < wr.heap.size := Nat.lt_of_lt_of_le XBL.out hbl.size
      have q1 : b1 < wr.heap.size := Nat.lt_of_lt_of_le hb1 hbl.size
      have q2 : b2 < wr.heap.size := Nat.lt_of_lt_of_le hb2 hbl.size
      by_cases hxy : x = y
      · have hq1 : q = true := by rw [← hq]; exact decide_eq_true hxy
        subst hq1
        have HJ : Hid (∀ j, j < i + 1 → L[j]?.getD bk0 = K[j]?.getD bk0) := Lib.hid (fun j h => by
          rcases Nat.lt_or_ge j i with e | e
          · exact hj j e
          · have e2 : j = i := by omega
            rw [e2, hx, hy, hxy])
        clear hj hx hy l1 l2 hq hxy hb1 hb2
        go_wp2_with fail
        go_region_held3 (fun w' => w'.cell? ⟨w.heap.size, 5, none⟩ = some (.slice (some ⟨b1, o1, none⟩) n c) ∧ w'.cell? ⟨w.heap.size + 1, 5, none⟩ = some (.slice (some ⟨b2, o2, none⟩) n d) ∧ w'.cell? ⟨b1, o1 + i * 4, none⟩ = some (.int .i64 x1) ∧ w'.cell? ⟨b1, o1 + i * 4 + 1, none⟩ = some (.int .i64 x2) ∧ w'.cell? ⟨b1, o1 + i * 4 + 2, none⟩ = some (.slice A1 n1 c1) ∧ w'.cell? ⟨b1, o1 + i * 4 + 3, none⟩ = some (.slice B1 m1 d1) ∧ w'.cell? ⟨b2, o2 + i * 4, none⟩ = some (.int .i64 y1) ∧ w'.cell? ⟨b2, o2 + i * 4 + 1, none⟩ = some (.int .i64 y2) ∧ w'.cell? ⟨b2, o2 + i * 4 + 2, none⟩ = some (.slice A2 n2 c2) ∧ w'.cell? ⟨b2, o2 + i * 4 + 3, none⟩ = some (.slice B2 m2 d2))
          (first | exact ⟨xa5, xb5, g0, g1, g2, g3, f0, f1, f2, f3⟩ | exact ⟨(qq.cell qa).trans xa5, (qq.cell qb).trans xb5, (qq.cell q1).trans g0, (qq.cell q1).trans g1, (qq.cell q1).trans g2, (qq.cell q1).trans g3, (qq.cell q2).trans f0, (qq.cell q2).trans f1, (qq.cell q2).trans f2, (qq.cell q2).trans f3⟩ | go_keep)
          (first | (go_at_call 31; refine CS0.mono ?_; rintro e y9 ⟨rfl, b⟩; have qq : Below wr.heap.size wr y9 := bD.trans (b.mono bD.size); clear b))
        go_wp2_with fail
        go_roundw
        case rel => exact ⟨i + 1, by omega, by go_num, HJ.out, hbl.trans (qq.mono hbl.size)⟩
        case measure => simp [intOf] <;> omega
      · have hq1 : q = false := by rw [← hq]; exact decide_eq_false hxy
        subst hq1
        have hF : R = false := by rw [← HR.out]; exact decide_eq_false (fun h => hxy (by rw [← hx, ← hy, h]))
        subst hF
        clear hj hx hy l1 l2 hq hxy hb1 hb2 HR
        go_wp2_with fail
        go_region_held3 (fun w' => w'.cell? ⟨w.heap.size, 5, none⟩ = some (.slice (some ⟨b1, o1, none⟩) n c) ∧ w'.cell? ⟨w.heap.size + 1, 5, none⟩ = some (.slice (some ⟨b2, o2, none⟩) n d) ∧ w'.cell? ⟨b1, o1 + i * 4, none⟩ = some (.int .i64 x1) ∧ w'.cell? ⟨b1, o1 + i * 4 + 1, none⟩ = some (.int .i64 x2) ∧ w'.cell? ⟨b1, o1 + i * 4 + 2, none⟩ = some (.slice A1 n1 c1) ∧ w'.cell? ⟨b1, o1 + i * 4 + 3, none⟩ = some (.slice B1 m1 d1) ∧ w'.cell? ⟨b2, o2 + i * 4, none⟩ = some (.int .i64 y1) ∧ w'.cell? ⟨b2, o2 + i * 4 + 1, none⟩ = some (.int .i64 y2) ∧ w'.cell? ⟨b2, o2 + i * 4 + 2, none⟩ = some (.slice A2 n2 c2) ∧ w'.cell? ⟨b2, o2 + i * 4 + 3, none⟩ = some (.slice B2 m2 d2))
          (first | exact ⟨xa5, xb5, g0, g1, g2, g3, f0, f1, f2, f3⟩ | exact ⟨(qq.cell qa).trans xa5, (qq.cell qb).trans xb5, (qq.cell q1).trans g0, (qq.cell q1).trans g1, (qq.cell q1).trans g2, (qq.cell q1).trans g3, (qq.cell q2).trans f0, (qq.cell q2).trans f1, (qq.cell q2).trans f2, (qq.cell q2).trans f3⟩ | go_keep)
          (first | (go_at_call 31; refine CS0.mono ?_; rintro e y9 ⟨rfl, b⟩; have qq : Below wr.heap.size wr y9 := bD.trans (b.mono bD.size); clear b))
        go_wp2_with fail
        go_ret
        exact ⟨rfl, cc.trans (qq.mono cc.size)⟩
    · obtain rfl : i = n := by omega
      have hE : R = true := by
        rw [← HR.out]
        refine decide_eq_true (List.ext_getElem (by omega) fun j h1 h2 => ?_)
        have := hj j (by omega)
        rwa [List.getElem?_eq_getElem h1, List.getElem?_eq_getElem h2] at this
      subst hE
      clear hj l1 l2 HR
      go_wp2_with fail
      go_ret
      exact ⟨rfl, cc⟩

theorem rSame14_N {w : World} {kk ks km ko lg kk' ks' km' ko' lg' : Int} {A B : Option Addr} {n c m d : Nat} {L K : List Bk} (hA : KR w A n c L) (hB : KR w B m d K) (hn : n ≤ 9223372036854775807) : Calls Tryz.prog 13 #[.agg #[.int .i64 kk, .int .i64 ks, .int .i64 km, .int .i64 ko, .int .i64 lg, .slice A n c], .agg #[.int .i64 kk', .int .i64 ks', .int .i64 km', .int .i64 ko', .int .i64 lg', .slice B m d]] w (GotV w (.bool (decide ((kk = kk' ∧ ks = ks' ∧ km = km' ∧ ko = ko') ∧ lg = lg' ∧ L = K)))) := by
  by_cases hk : kk = kk' ∧ ks = ks' ∧ km = km' ∧ ko = ko'
  · by_cases hl : lg = lg'
    · by_cases hnm : n = m
      · rw [show decide ((kk = kk' ∧ ks = ks' ∧ km = km' ∧ ko = ko') ∧ lg = lg' ∧ L = K) = decide (L = K) from decide_eq_decide.2 ⟨fun h => h.2.2, fun h => ⟨hk, hl, h⟩⟩]
        exact rSame14_eq hk hl hnm hA hB hn
      · rw [decide_eq_false (fun h => hnm (by rw [hA.1, hB.1, h.2.2]))]
        exact rSame14_n hk hl hnm
    · rw [decide_eq_false (fun h => hl h.2.1)]
      exact rSame14_l hk hl
  · rw [decide_eq_false (fun h => hk h.1)]
    exact rSame14_k hk

end Go.Proofs.YtpidpebgeblenaaGreat
