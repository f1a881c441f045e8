/-
  A way through DyadOrder.
-/
import Derived.Test.YtchbhmcaalkfdaaB2
import Derived.Test.YtchbhmcaalkfdaaA2
namespace Go.Proofs.Ytchbhmcaalkfdaa
open Go.RowKit
set_option linter.unusedVariables false
set_option linter.unusedSimpArgs false

set_option maxRecDepth 100000 in
set_option maxHeartbeats 8000000 in
theorem DyadOrder_g1 {w : World} {b0 : Bool} {A0 B0 : Option Addr} {n0 c0 m0 d0 : Nat} {b1 : Bool} {A1 B1 : Option Addr} {n1 c1 m1 d1 : Nat} {j : Int} {x0 : Rat} (h0 : Rt w b0 A0 n0 c0 B0 m0 d0 x0) (s0 : Sz x0 4) {x1 : Rat} (h1 : Rt w b1 A1 n1 c1 B1 m1 d1 x1) (s1 : Sz x1 4) (G0 : ∀ W : World, Below w.heap.size w W → Calls Try.prog 9 #[.agg #[.bool b0, .slice A0 n0 c0, .slice B0 m0 d0], .int .i64 4] W (GotV W (.bool true))) (G1 : ∀ W : World, Below w.heap.size w W → Calls Try.prog 9 #[.agg #[.bool b1, .slice A1 n1 c1, .slice B1 m1 d1], .int .i64 4] W (GotV W (.bool true))) (j0 : 0 ≤ j) (j1 : j ≤ 400) (hab : ¬ x0 ≤ x1) (q1 : ¬ cmpZ (flo x0 j.toNat) (flo x1 j.toNat) ≤ 0) :
    Calls Try.prog 5 #[.agg #[.bool b0, .slice A0 n0 c0, .slice B0 m0 d0], .agg #[.bool b1, .slice A1 n1 c1, .slice B1 m1 d1], .int .i64 j] w fun e w' => e = .returned (.bool true) ∧ Below w.heap.size w w' := by
  have t1 : decide (j < 0) = false := decide_eq_false (by omega)
  have t2 : decide (400 < j) = false := decide_eq_false (by omega)
  have jl : j.toNat ≤ 500 := by omega
  obtain ⟨xn, hxn⟩ : ∃ v : Rat, -x0 = v := ⟨_, rfl⟩
  have sn : Sz xn 4 := by rw [← hxn]; exact s0.neg
  have hCn := cei_neg x0 j.toNat
  have hNn := nea_neg x0 j.toNat
  rw [hxn] at hCn hNn
  have lf0 := flo_len s0 jl
  obtain ⟨vf0, ef0⟩ : ∃ v, flo x0 j.toNat = v := ⟨_, rfl⟩
  rw [ef0] at lf0
  have Cf0 : ∀ {W : World} {b : Bool} {A B : Option Addr} {n c m d : Nat}, Rt W b A n c B m d x0 → Calls Try.prog 12 #[.agg #[.bool b, .slice A n c, .slice B m d], .int .i64 j] W (GotZp W vf0 0) := fun hh => by rw [← ef0]; exact dfloor_N hh (s0.le (by omega)) (by omega) (by omega)
  have lc0 := cei_len s0 jl
  obtain ⟨vc0, ec0⟩ : ∃ v, cei x0 j.toNat = v := ⟨_, rfl⟩
  rw [ec0] at lc0
  have Cc0 : ∀ {W : World} {b : Bool} {A B : Option Addr} {n c m d : Nat}, Rt W b A n c B m d x0 → Calls Try.prog 14 #[.agg #[.bool b, .slice A n c, .slice B m d], .int .i64 j] W (GotZp W vc0 0) := fun hh => by rw [← ec0]; exact dceil_N hh (s0.le (by omega)) (by omega) (by omega)
  have ln0 := nea_len s0 jl
  obtain ⟨vn0, en0⟩ : ∃ v, nea x0 j.toNat = v := ⟨_, rfl⟩
  rw [en0] at ln0
  have Cn0 : ∀ {W : World} {b : Bool} {A B : Option Addr} {n c m d : Nat}, Rt W b A n c B m d x0 → Calls Try.prog 16 #[.agg #[.bool b, .slice A n c, .slice B m d], .int .i64 j] W (GotZp W vn0 0) := fun hh => by rw [← en0]; exact dnear_N hh (s0.le (by omega)) (by omega) (by omega)
  have lf1 := flo_len s1 jl
  obtain ⟨vf1, ef1⟩ : ∃ v, flo x1 j.toNat = v := ⟨_, rfl⟩
  rw [ef1] at lf1
  have Cf1 : ∀ {W : World} {b : Bool} {A B : Option Addr} {n c m d : Nat}, Rt W b A n c B m d x1 → Calls Try.prog 12 #[.agg #[.bool b, .slice A n c, .slice B m d], .int .i64 j] W (GotZp W vf1 0) := fun hh => by rw [← ef1]; exact dfloor_N hh (s1.le (by omega)) (by omega) (by omega)
  have lc1 := cei_len s1 jl
  obtain ⟨vc1, ec1⟩ : ∃ v, cei x1 j.toNat = v := ⟨_, rfl⟩
  rw [ec1] at lc1
  have Cc1 : ∀ {W : World} {b : Bool} {A B : Option Addr} {n c m d : Nat}, Rt W b A n c B m d x1 → Calls Try.prog 14 #[.agg #[.bool b, .slice A n c, .slice B m d], .int .i64 j] W (GotZp W vc1 0) := fun hh => by rw [← ec1]; exact dceil_N hh (s1.le (by omega)) (by omega) (by omega)
  have ln1 := nea_len s1 jl
  obtain ⟨vn1, en1⟩ : ∃ v, nea x1 j.toNat = v := ⟨_, rfl⟩
  rw [en1] at ln1
  have Cn1 : ∀ {W : World} {b : Bool} {A B : Option Addr} {n c m d : Nat}, Rt W b A n c B m d x1 → Calls Try.prog 16 #[.agg #[.bool b, .slice A n c, .slice B m d], .int .i64 j] W (GotZp W vn1 0) := fun hh => by rw [← en1]; exact dnear_N hh (s1.le (by omega)) (by omega) (by omega)
  rw [ef0] at hCn
  rw [en0] at hNn
  have CA : ∀ {W : World} {b : Bool} {A B : Option Addr} {n c m d : Nat}, Rt W b A n c B m d xn → Calls Try.prog 14 #[.agg #[.bool b, .slice A n c, .slice B m d], .int .i64 j] W (GotZp W (-vf0) 0) := fun hh => by rw [← hCn]; exact dceil_N hh (sn.le (by omega)) (by omega) (by omega)
  have CB : ∀ {W : World} {b : Bool} {A B : Option Addr} {n c m d : Nat}, Rt W b A n c B m d xn → Calls Try.prog 16 #[.agg #[.bool b, .slice A n c, .slice B m d], .int .i64 j] W (GotZp W (-vn0) 0) := fun hh => by rw [← hNn]; exact dnear_N hh (sn.le (by omega)) (by omega) (by omega)
  have CG : ∀ {W : World} {b : Bool} {A B : Option Addr} {n c m d : Nat}, Rt W b A n c B m d x0 → Calls Try.prog 27 #[.agg #[.bool b, .slice A n c, .slice B m d]] W (GotRt W xn) := fun hh => by rw [← hxn]; exact rtneg_N hh (s0.le (by omega))
  obtain ⟨cq, ecq⟩ : ∃ c, cmpQ x0 x1 = c := ⟨_, rfl⟩
  have EQ := Lib.hid ecq
  obtain ⟨df, gf⟩ : ∃ c, cmpZ vf0 vf1 = c := ⟨_, rfl⟩
  have Hf := Lib.hid gf
  obtain ⟨dc, gc⟩ : ∃ c, cmpZ vc0 vc1 = c := ⟨_, rfl⟩
  have Hc := Lib.hid gc
  obtain ⟨dn, gn⟩ : ∃ c, cmpZ vn0 vn1 = c := ⟨_, rfl⟩
  have Hn := Lib.hid gn
  have t6 : decide (0 < cq) = true := decide_eq_true (by rw [← ecq]; unfold cmpQ; grind)
  have t3 : decide (df ≤ 0) = false := decide_eq_false (by rw [← gf, ← ef0, ← ef1]; exact q1)
  have na : (limbs (-vf0).natAbs).length ≤ 300 := by rw [Int.natAbs_neg]; omega
  have nb : (limbs (-vn0).natAbs).length ≤ 300 := by rw [Int.natAbs_neg]; omega
  clear hxn hCn hNn ecq gf gc gn ef0 ef1 ec0 ec1 en0 en1 hab q1
  have cc := Below.refl w.heap.size w
  go_enter Try.func5, Try.ntmps5
  go_wp2_with fail
  have bA : Below w.heap.size w ((w.alloc (.cells #[.bool b0, .slice A0 n0 c0, .slice B0 m0 d0] 27)).alloc (.cells #[.bool b1, .slice A1 n1 c1, .slice B1 m1 d1] 27)) := (((Below.refl _ w).alloc (by simp) _).alloc (by simp) _)
  replace h0 := h0.on bA
  replace h1 := h1.on bA
  replace cc := bK cc bA
  clear bA
  have pa0 : ((w.alloc (.cells #[.bool b0, .slice A0 n0 c0, .slice B0 m0 d0] 27)).alloc (.cells #[.bool b1, .slice A1 n1 c1, .slice B1 m1 d1] 27)).cell? ⟨w.heap.size, 0, none⟩ = some (.bool b0) := by simp [go_sem]
  have pa1 : ((w.alloc (.cells #[.bool b0, .slice A0 n0 c0, .slice B0 m0 d0] 27)).alloc (.cells #[.bool b1, .slice A1 n1 c1, .slice B1 m1 d1] 27)).cell? ⟨w.heap.size, 1, none⟩ = some (.slice A0 n0 c0) := by simp [go_sem]
  have pa2 : ((w.alloc (.cells #[.bool b0, .slice A0 n0 c0, .slice B0 m0 d0] 27)).alloc (.cells #[.bool b1, .slice A1 n1 c1, .slice B1 m1 d1] 27)).cell? ⟨w.heap.size, 2, none⟩ = some (.slice B0 m0 d0) := by simp [go_sem]
  have pal : w.heap.size < ((w.alloc (.cells #[.bool b0, .slice A0 n0 c0, .slice B0 m0 d0] 27)).alloc (.cells #[.bool b1, .slice A1 n1 c1, .slice B1 m1 d1] 27)).heap.size := by simp <;> omega
  have pb0 : ((w.alloc (.cells #[.bool b0, .slice A0 n0 c0, .slice B0 m0 d0] 27)).alloc (.cells #[.bool b1, .slice A1 n1 c1, .slice B1 m1 d1] 27)).cell? ⟨w.heap.size + 1, 0, none⟩ = some (.bool b1) := by simp [go_sem]
  have pb1 : ((w.alloc (.cells #[.bool b0, .slice A0 n0 c0, .slice B0 m0 d0] 27)).alloc (.cells #[.bool b1, .slice A1 n1 c1, .slice B1 m1 d1] 27)).cell? ⟨w.heap.size + 1, 1, none⟩ = some (.slice A1 n1 c1) := by simp [go_sem]
  have pb2 : ((w.alloc (.cells #[.bool b0, .slice A0 n0 c0, .slice B0 m0 d0] 27)).alloc (.cells #[.bool b1, .slice A1 n1 c1, .slice B1 m1 d1] 27)).cell? ⟨w.heap.size + 1, 2, none⟩ = some (.slice B1 m1 d1) := by simp [go_sem]
  have pbl : w.heap.size + 1 < ((w.alloc (.cells #[.bool b0, .slice A0 n0 c0, .slice B0 m0 d0] 27)).alloc (.cells #[.bool b1, .slice A1 n1 c1, .slice B1 m1 d1] 27)).heap.size := by simp <;> omega
  generalize (w.alloc (.cells #[.bool b0, .slice A0 n0 c0, .slice B0 m0 d0] 27)).alloc (.cells #[.bool b1, .slice A1 n1 c1, .slice B1 m1 d1] 27) = v1 at *
  refine (G0 _ cc).mono ?_
  rintro e w2 ⟨rfl, b⟩
  replace h0 := h0.on b
  replace h1 := h1.on b
  replace pa0 := cK b pa0 pal
  replace pa1 := cK b pa1 pal
  replace pa2 := cK b pa2 pal
  replace pal := lK b pal
  replace pb0 := cK b pb0 pbl
  replace pb1 := cK b pb1 pbl
  replace pb2 := cK b pb2 pbl
  replace pbl := lK b pbl
  replace cc := bK cc b
  clear b
  go_wp2_with fail
  refine (G1 _ cc).mono ?_
  rintro e w3 ⟨rfl, b⟩
  replace h0 := h0.on b
  replace h1 := h1.on b
  replace pa0 := cK b pa0 pal
  replace pa1 := cK b pa1 pal
  replace pa2 := cK b pa2 pal
  replace pal := lK b pal
  replace pb0 := cK b pb0 pbl
  replace pb1 := cK b pb1 pbl
  replace pb2 := cK b pb2 pbl
  replace pbl := lK b pbl
  replace cc := bK cc b
  clear b
  go_wp2_with fail
  refine (Cf0 h0).mono ?_
  rintro e w4 ⟨bbf0, Abf0, nbf0, cbf0, rfl, hbf0, b⟩
  replace h0 := h0.on b
  replace h1 := h1.on b
  replace pa0 := cK b pa0 pal
  replace pa1 := cK b pa1 pal
  replace pa2 := cK b pa2 pal
  replace pal := lK b pal
  replace pb0 := cK b pb0 pbl
  replace pb1 := cK b pb1 pbl
  replace pb2 := cK b pb2 pbl
  replace pbl := lK b pbl
  replace cc := bK cc b
  clear b
  go_wp2_with fail
  have bA := below_one w4 (.cells #[.bool bbf0, .slice Abf0 nbf0 cbf0] 25)
  replace h0 := h0.on bA
  replace h1 := h1.on bA
  replace hbf0 := hbf0.on bA
  replace pa0 := cK bA pa0 pal
  replace pa1 := cK bA pa1 pal
  replace pa2 := cK bA pa2 pal
  replace pal := lK bA pal
  replace pb0 := cK bA pb0 pbl
  replace pb1 := cK bA pb1 pbl
  replace pb2 := cK bA pb2 pbl
  replace pbl := lK bA pbl
  replace cc := bK cc bA
  clear bA
  have bf00 : (w4.alloc (.cells #[.bool bbf0, .slice Abf0 nbf0 cbf0] 25)).cell? ⟨w4.heap.size, 0, none⟩ = some (.bool bbf0) := by simp [go_sem]
  have bf01 : (w4.alloc (.cells #[.bool bbf0, .slice Abf0 nbf0 cbf0] 25)).cell? ⟨w4.heap.size, 1, none⟩ = some (.slice Abf0 nbf0 cbf0) := by simp [go_sem]
  have bf0l : w4.heap.size < (w4.alloc (.cells #[.bool bbf0, .slice Abf0 nbf0 cbf0] 25)).heap.size := by simp
  generalize w4.alloc (.cells #[.bool bbf0, .slice Abf0 nbf0 cbf0] 25) = v5 at *
  refine (Cc0 h0).mono ?_
  rintro e w6 ⟨bbc0, Abc0, nbc0, cbc0, rfl, hbc0, b⟩
  replace h0 := h0.on b
  replace h1 := h1.on b
  replace hbf0 := hbf0.on b
  replace pa0 := cK b pa0 pal
  replace pa1 := cK b pa1 pal
  replace pa2 := cK b pa2 pal
  replace pal := lK b pal
  replace pb0 := cK b pb0 pbl
  replace pb1 := cK b pb1 pbl
  replace pb2 := cK b pb2 pbl
  replace pbl := lK b pbl
  replace bf00 := cK b bf00 bf0l
  replace bf01 := cK b bf01 bf0l
  replace bf0l := lK b bf0l
  replace cc := bK cc b
  clear b
  go_wp2_with fail
  have bA := below_one w6 (.cells #[.bool bbc0, .slice Abc0 nbc0 cbc0] 25)
  replace h0 := h0.on bA
  replace h1 := h1.on bA
  replace hbf0 := hbf0.on bA
  replace hbc0 := hbc0.on bA
  replace pa0 := cK bA pa0 pal
  replace pa1 := cK bA pa1 pal
  replace pa2 := cK bA pa2 pal
  replace pal := lK bA pal
  replace pb0 := cK bA pb0 pbl
  replace pb1 := cK bA pb1 pbl
  replace pb2 := cK bA pb2 pbl
  replace pbl := lK bA pbl
  replace bf00 := cK bA bf00 bf0l
  replace bf01 := cK bA bf01 bf0l
  replace bf0l := lK bA bf0l
  replace cc := bK cc bA
  clear bA
  have bc00 : (w6.alloc (.cells #[.bool bbc0, .slice Abc0 nbc0 cbc0] 25)).cell? ⟨w6.heap.size, 0, none⟩ = some (.bool bbc0) := by simp [go_sem]
  have bc01 : (w6.alloc (.cells #[.bool bbc0, .slice Abc0 nbc0 cbc0] 25)).cell? ⟨w6.heap.size, 1, none⟩ = some (.slice Abc0 nbc0 cbc0) := by simp [go_sem]
  have bc0l : w6.heap.size < (w6.alloc (.cells #[.bool bbc0, .slice Abc0 nbc0 cbc0] 25)).heap.size := by simp
  generalize w6.alloc (.cells #[.bool bbc0, .slice Abc0 nbc0 cbc0] 25) = v7 at *
  refine (Cn0 h0).mono ?_
  rintro e w8 ⟨bbn0, Abn0, nbn0, cbn0, rfl, hbn0, b⟩
  replace h0 := h0.on b
  replace h1 := h1.on b
  replace hbf0 := hbf0.on b
  replace hbc0 := hbc0.on b
  replace pa0 := cK b pa0 pal
  replace pa1 := cK b pa1 pal
  replace pa2 := cK b pa2 pal
  replace pal := lK b pal
  replace pb0 := cK b pb0 pbl
  replace pb1 := cK b pb1 pbl
  replace pb2 := cK b pb2 pbl
  replace pbl := lK b pbl
  replace bf00 := cK b bf00 bf0l
  replace bf01 := cK b bf01 bf0l
  replace bf0l := lK b bf0l
  replace bc00 := cK b bc00 bc0l
  replace bc01 := cK b bc01 bc0l
  replace bc0l := lK b bc0l
  replace cc := bK cc b
  clear b
  go_wp2_with fail
  have bA := below_one w8 (.cells #[.bool bbn0, .slice Abn0 nbn0 cbn0] 25)
  replace h0 := h0.on bA
  replace h1 := h1.on bA
  replace hbf0 := hbf0.on bA
  replace hbc0 := hbc0.on bA
  replace hbn0 := hbn0.on bA
  replace pa0 := cK bA pa0 pal
  replace pa1 := cK bA pa1 pal
  replace pa2 := cK bA pa2 pal
  replace pal := lK bA pal
  replace pb0 := cK bA pb0 pbl
  replace pb1 := cK bA pb1 pbl
  replace pb2 := cK bA pb2 pbl
  replace pbl := lK bA pbl
  replace bf00 := cK bA bf00 bf0l
  replace bf01 := cK bA bf01 bf0l
  replace bf0l := lK bA bf0l
  replace bc00 := cK bA bc00 bc0l
  replace bc01 := cK bA bc01 bc0l
  replace bc0l := lK bA bc0l
  replace cc := bK cc bA
  clear bA
  have bn00 : (w8.alloc (.cells #[.bool bbn0, .slice Abn0 nbn0 cbn0] 25)).cell? ⟨w8.heap.size, 0, none⟩ = some (.bool bbn0) := by simp [go_sem]
  have bn01 : (w8.alloc (.cells #[.bool bbn0, .slice Abn0 nbn0 cbn0] 25)).cell? ⟨w8.heap.size, 1, none⟩ = some (.slice Abn0 nbn0 cbn0) := by simp [go_sem]
  have bn0l : w8.heap.size < (w8.alloc (.cells #[.bool bbn0, .slice Abn0 nbn0 cbn0] 25)).heap.size := by simp
  generalize w8.alloc (.cells #[.bool bbn0, .slice Abn0 nbn0 cbn0] 25) = v9 at *
  refine (Cf1 h1).mono ?_
  rintro e w10 ⟨bbf1, Abf1, nbf1, cbf1, rfl, hbf1, b⟩
  replace h0 := h0.on b
  replace h1 := h1.on b
  replace hbf0 := hbf0.on b
  replace hbc0 := hbc0.on b
  replace hbn0 := hbn0.on b
  replace pa0 := cK b pa0 pal
  replace pa1 := cK b pa1 pal
  replace pa2 := cK b pa2 pal
  replace pal := lK b pal
  replace pb0 := cK b pb0 pbl
  replace pb1 := cK b pb1 pbl
  replace pb2 := cK b pb2 pbl
  replace pbl := lK b pbl
  replace bf00 := cK b bf00 bf0l
  replace bf01 := cK b bf01 bf0l
  replace bf0l := lK b bf0l
  replace bc00 := cK b bc00 bc0l
  replace bc01 := cK b bc01 bc0l
  replace bc0l := lK b bc0l
  replace bn00 := cK b bn00 bn0l
  replace bn01 := cK b bn01 bn0l
  replace bn0l := lK b bn0l
  replace cc := bK cc b
  clear b
  go_wp2_with fail
  have bA := below_one w10 (.cells #[.bool bbf1, .slice Abf1 nbf1 cbf1] 25)
  replace h0 := h0.on bA
  replace h1 := h1.on bA
  replace hbf0 := hbf0.on bA
  replace hbc0 := hbc0.on bA
  replace hbn0 := hbn0.on bA
  replace hbf1 := hbf1.on bA
  replace pa0 := cK bA pa0 pal
  replace pa1 := cK bA pa1 pal
  replace pa2 := cK bA pa2 pal
  replace pal := lK bA pal
  replace pb0 := cK bA pb0 pbl
  replace pb1 := cK bA pb1 pbl
  replace pb2 := cK bA pb2 pbl
  replace pbl := lK bA pbl
  replace bf00 := cK bA bf00 bf0l
  replace bf01 := cK bA bf01 bf0l
  replace bf0l := lK bA bf0l
  replace bc00 := cK bA bc00 bc0l
  replace bc01 := cK bA bc01 bc0l
  replace bc0l := lK bA bc0l
  replace bn00 := cK bA bn00 bn0l
  replace bn01 := cK bA bn01 bn0l
  replace bn0l := lK bA bn0l
  replace cc := bK cc bA
  clear bA
  have bf10 : (w10.alloc (.cells #[.bool bbf1, .slice Abf1 nbf1 cbf1] 25)).cell? ⟨w10.heap.size, 0, none⟩ = some (.bool bbf1) := by simp [go_sem]
  have bf11 : (w10.alloc (.cells #[.bool bbf1, .slice Abf1 nbf1 cbf1] 25)).cell? ⟨w10.heap.size, 1, none⟩ = some (.slice Abf1 nbf1 cbf1) := by simp [go_sem]
  have bf1l : w10.heap.size < (w10.alloc (.cells #[.bool bbf1, .slice Abf1 nbf1 cbf1] 25)).heap.size := by simp
  generalize w10.alloc (.cells #[.bool bbf1, .slice Abf1 nbf1 cbf1] 25) = v11 at *
  refine (Cc1 h1).mono ?_
  rintro e w12 ⟨bbc1, Abc1, nbc1, cbc1, rfl, hbc1, b⟩
  replace h0 := h0.on b
  replace h1 := h1.on b
  replace hbf0 := hbf0.on b
  replace hbc0 := hbc0.on b
  replace hbn0 := hbn0.on b
  replace hbf1 := hbf1.on b
  replace pa0 := cK b pa0 pal
  replace pa1 := cK b pa1 pal
  replace pa2 := cK b pa2 pal
  replace pal := lK b pal
  replace pb0 := cK b pb0 pbl
  replace pb1 := cK b pb1 pbl
  replace pb2 := cK b pb2 pbl
  replace pbl := lK b pbl
  replace bf00 := cK b bf00 bf0l
  replace bf01 := cK b bf01 bf0l
  replace bf0l := lK b bf0l
  replace bc00 := cK b bc00 bc0l
  replace bc01 := cK b bc01 bc0l
  replace bc0l := lK b bc0l
  replace bn00 := cK b bn00 bn0l
  replace bn01 := cK b bn01 bn0l
  replace bn0l := lK b bn0l
  replace bf10 := cK b bf10 bf1l
  replace bf11 := cK b bf11 bf1l
  replace bf1l := lK b bf1l
  replace cc := bK cc b
  clear b
  go_wp2_with fail
  have bA := below_one w12 (.cells #[.bool bbc1, .slice Abc1 nbc1 cbc1] 25)
  replace h0 := h0.on bA
  replace h1 := h1.on bA
  replace hbf0 := hbf0.on bA
  replace hbc0 := hbc0.on bA
  replace hbn0 := hbn0.on bA
  replace hbf1 := hbf1.on bA
  replace hbc1 := hbc1.on bA
  replace pa0 := cK bA pa0 pal
  replace pa1 := cK bA pa1 pal
  replace pa2 := cK bA pa2 pal
  replace pal := lK bA pal
  replace pb0 := cK bA pb0 pbl
  replace pb1 := cK bA pb1 pbl
  replace pb2 := cK bA pb2 pbl
  replace pbl := lK bA pbl
  replace bf00 := cK bA bf00 bf0l
  replace bf01 := cK bA bf01 bf0l
  replace bf0l := lK bA bf0l
  replace bc00 := cK bA bc00 bc0l
  replace bc01 := cK bA bc01 bc0l
  replace bc0l := lK bA bc0l
  replace bn00 := cK bA bn00 bn0l
  replace bn01 := cK bA bn01 bn0l
  replace bn0l := lK bA bn0l
  replace bf10 := cK bA bf10 bf1l
  replace bf11 := cK bA bf11 bf1l
  replace bf1l := lK bA bf1l
  replace cc := bK cc bA
  clear bA
  have bc10 : (w12.alloc (.cells #[.bool bbc1, .slice Abc1 nbc1 cbc1] 25)).cell? ⟨w12.heap.size, 0, none⟩ = some (.bool bbc1) := by simp [go_sem]
  have bc11 : (w12.alloc (.cells #[.bool bbc1, .slice Abc1 nbc1 cbc1] 25)).cell? ⟨w12.heap.size, 1, none⟩ = some (.slice Abc1 nbc1 cbc1) := by simp [go_sem]
  have bc1l : w12.heap.size < (w12.alloc (.cells #[.bool bbc1, .slice Abc1 nbc1 cbc1] 25)).heap.size := by simp
  generalize w12.alloc (.cells #[.bool bbc1, .slice Abc1 nbc1 cbc1] 25) = v13 at *
  refine (Cn1 h1).mono ?_
  rintro e w14 ⟨bbn1, Abn1, nbn1, cbn1, rfl, hbn1, b⟩
  replace h0 := h0.on b
  replace h1 := h1.on b
  replace hbf0 := hbf0.on b
  replace hbc0 := hbc0.on b
  replace hbn0 := hbn0.on b
  replace hbf1 := hbf1.on b
  replace hbc1 := hbc1.on b
  replace pa0 := cK b pa0 pal
  replace pa1 := cK b pa1 pal
  replace pa2 := cK b pa2 pal
  replace pal := lK b pal
  replace pb0 := cK b pb0 pbl
  replace pb1 := cK b pb1 pbl
  replace pb2 := cK b pb2 pbl
  replace pbl := lK b pbl
  replace bf00 := cK b bf00 bf0l
  replace bf01 := cK b bf01 bf0l
  replace bf0l := lK b bf0l
  replace bc00 := cK b bc00 bc0l
  replace bc01 := cK b bc01 bc0l
  replace bc0l := lK b bc0l
  replace bn00 := cK b bn00 bn0l
  replace bn01 := cK b bn01 bn0l
  replace bn0l := lK b bn0l
  replace bf10 := cK b bf10 bf1l
  replace bf11 := cK b bf11 bf1l
  replace bf1l := lK b bf1l
  replace bc10 := cK b bc10 bc1l
  replace bc11 := cK b bc11 bc1l
  replace bc1l := lK b bc1l
  replace cc := bK cc b
  clear b
  go_wp2_with fail
  have bA := below_one w14 (.cells #[.bool bbn1, .slice Abn1 nbn1 cbn1] 25)
  replace h0 := h0.on bA
  replace h1 := h1.on bA
  replace hbf0 := hbf0.on bA
  replace hbc0 := hbc0.on bA
  replace hbn0 := hbn0.on bA
  replace hbf1 := hbf1.on bA
  replace hbc1 := hbc1.on bA
  replace hbn1 := hbn1.on bA
  replace pa0 := cK bA pa0 pal
  replace pa1 := cK bA pa1 pal
  replace pa2 := cK bA pa2 pal
  replace pal := lK bA pal
  replace pb0 := cK bA pb0 pbl
  replace pb1 := cK bA pb1 pbl
  replace pb2 := cK bA pb2 pbl
  replace pbl := lK bA pbl
  replace bf00 := cK bA bf00 bf0l
  replace bf01 := cK bA bf01 bf0l
  replace bf0l := lK bA bf0l
  replace bc00 := cK bA bc00 bc0l
  replace bc01 := cK bA bc01 bc0l
  replace bc0l := lK bA bc0l
  replace bn00 := cK bA bn00 bn0l
  replace bn01 := cK bA bn01 bn0l
  replace bn0l := lK bA bn0l
  replace bf10 := cK bA bf10 bf1l
  replace bf11 := cK bA bf11 bf1l
  replace bf1l := lK bA bf1l
  replace bc10 := cK bA bc10 bc1l
  replace bc11 := cK bA bc11 bc1l
  replace bc1l := lK bA bc1l
  replace cc := bK cc bA
  clear bA
  have bn10 : (w14.alloc (.cells #[.bool bbn1, .slice Abn1 nbn1 cbn1] 25)).cell? ⟨w14.heap.size, 0, none⟩ = some (.bool bbn1) := by simp [go_sem]
  have bn11 : (w14.alloc (.cells #[.bool bbn1, .slice Abn1 nbn1 cbn1] 25)).cell? ⟨w14.heap.size, 1, none⟩ = some (.slice Abn1 nbn1 cbn1) := by simp [go_sem]
  have bn1l : w14.heap.size < (w14.alloc (.cells #[.bool bbn1, .slice Abn1 nbn1 cbn1] 25)).heap.size := by simp
  generalize w14.alloc (.cells #[.bool bbn1, .slice Abn1 nbn1 cbn1] 25) = v15 at *
  refine (CG h0).mono ?_
  rintro e w16 ⟨bg, Ag, ng, cg, Bg, mg, dg, rfl, hg, b⟩
  replace h0 := h0.on b
  replace h1 := h1.on b
  replace hbf0 := hbf0.on b
  replace hbc0 := hbc0.on b
  replace hbn0 := hbn0.on b
  replace hbf1 := hbf1.on b
  replace hbc1 := hbc1.on b
  replace hbn1 := hbn1.on b
  replace pa0 := cK b pa0 pal
  replace pa1 := cK b pa1 pal
  replace pa2 := cK b pa2 pal
  replace pal := lK b pal
  replace pb0 := cK b pb0 pbl
  replace pb1 := cK b pb1 pbl
  replace pb2 := cK b pb2 pbl
  replace pbl := lK b pbl
  replace bf00 := cK b bf00 bf0l
  replace bf01 := cK b bf01 bf0l
  replace bf0l := lK b bf0l
  replace bc00 := cK b bc00 bc0l
  replace bc01 := cK b bc01 bc0l
  replace bc0l := lK b bc0l
  replace bn00 := cK b bn00 bn0l
  replace bn01 := cK b bn01 bn0l
  replace bn0l := lK b bn0l
  replace bf10 := cK b bf10 bf1l
  replace bf11 := cK b bf11 bf1l
  replace bf1l := lK b bf1l
  replace bc10 := cK b bc10 bc1l
  replace bc11 := cK b bc11 bc1l
  replace bc1l := lK b bc1l
  replace bn10 := cK b bn10 bn1l
  replace bn11 := cK b bn11 bn1l
  replace bn1l := lK b bn1l
  replace cc := bK cc b
  clear b
  go_wp2_with fail
  refine (CA hg).mono ?_
  rintro e w17 ⟨bba, Aba, nba, cba, rfl, hba, b⟩
  replace h0 := h0.on b
  replace h1 := h1.on b
  replace hbf0 := hbf0.on b
  replace hbc0 := hbc0.on b
  replace hbn0 := hbn0.on b
  replace hbf1 := hbf1.on b
  replace hbc1 := hbc1.on b
  replace hbn1 := hbn1.on b
  replace hg := hg.on b
  replace pa0 := cK b pa0 pal
  replace pa1 := cK b pa1 pal
  replace pa2 := cK b pa2 pal
  replace pal := lK b pal
  replace pb0 := cK b pb0 pbl
  replace pb1 := cK b pb1 pbl
  replace pb2 := cK b pb2 pbl
  replace pbl := lK b pbl
  replace bf00 := cK b bf00 bf0l
  replace bf01 := cK b bf01 bf0l
  replace bf0l := lK b bf0l
  replace bc00 := cK b bc00 bc0l
  replace bc01 := cK b bc01 bc0l
  replace bc0l := lK b bc0l
  replace bn00 := cK b bn00 bn0l
  replace bn01 := cK b bn01 bn0l
  replace bn0l := lK b bn0l
  replace bf10 := cK b bf10 bf1l
  replace bf11 := cK b bf11 bf1l
  replace bf1l := lK b bf1l
  replace bc10 := cK b bc10 bc1l
  replace bc11 := cK b bc11 bc1l
  replace bc1l := lK b bc1l
  replace bn10 := cK b bn10 bn1l
  replace bn11 := cK b bn11 bn1l
  replace bn1l := lK b bn1l
  replace cc := bK cc b
  clear b
  go_wp2_with fail
  have bA := below_one w17 (.cells #[.bool bba, .slice Aba nba cba] 25)
  replace h0 := h0.on bA
  replace h1 := h1.on bA
  replace hbf0 := hbf0.on bA
  replace hbc0 := hbc0.on bA
  replace hbn0 := hbn0.on bA
  replace hbf1 := hbf1.on bA
  replace hbc1 := hbc1.on bA
  replace hbn1 := hbn1.on bA
  replace hg := hg.on bA
  replace hba := hba.on bA
  replace pa0 := cK bA pa0 pal
  replace pa1 := cK bA pa1 pal
  replace pa2 := cK bA pa2 pal
  replace pal := lK bA pal
  replace pb0 := cK bA pb0 pbl
  replace pb1 := cK bA pb1 pbl
  replace pb2 := cK bA pb2 pbl
  replace pbl := lK bA pbl
  replace bf00 := cK bA bf00 bf0l
  replace bf01 := cK bA bf01 bf0l
  replace bf0l := lK bA bf0l
  replace bc00 := cK bA bc00 bc0l
  replace bc01 := cK bA bc01 bc0l
  replace bc0l := lK bA bc0l
  replace bn00 := cK bA bn00 bn0l
  replace bn01 := cK bA bn01 bn0l
  replace bn0l := lK bA bn0l
  replace bf10 := cK bA bf10 bf1l
  replace bf11 := cK bA bf11 bf1l
  replace bf1l := lK bA bf1l
  replace bc10 := cK bA bc10 bc1l
  replace bc11 := cK bA bc11 bc1l
  replace bc1l := lK bA bc1l
  replace bn10 := cK bA bn10 bn1l
  replace bn11 := cK bA bn11 bn1l
  replace bn1l := lK bA bn1l
  replace cc := bK cc bA
  clear bA
  have ba0 : (w17.alloc (.cells #[.bool bba, .slice Aba nba cba] 25)).cell? ⟨w17.heap.size, 0, none⟩ = some (.bool bba) := by simp [go_sem]
  have ba1 : (w17.alloc (.cells #[.bool bba, .slice Aba nba cba] 25)).cell? ⟨w17.heap.size, 1, none⟩ = some (.slice Aba nba cba) := by simp [go_sem]
  have bal : w17.heap.size < (w17.alloc (.cells #[.bool bba, .slice Aba nba cba] 25)).heap.size := by simp
  generalize w17.alloc (.cells #[.bool bba, .slice Aba nba cba] 25) = v18 at *
  clear hg
  refine (CG h0).mono ?_
  rintro e w19 ⟨bg, Ag, ng, cg, Bg, mg, dg, rfl, hg, b⟩
  replace h0 := h0.on b
  replace h1 := h1.on b
  replace hbf0 := hbf0.on b
  replace hbc0 := hbc0.on b
  replace hbn0 := hbn0.on b
  replace hbf1 := hbf1.on b
  replace hbc1 := hbc1.on b
  replace hbn1 := hbn1.on b
  replace hba := hba.on b
  replace pa0 := cK b pa0 pal
  replace pa1 := cK b pa1 pal
  replace pa2 := cK b pa2 pal
  replace pal := lK b pal
  replace pb0 := cK b pb0 pbl
  replace pb1 := cK b pb1 pbl
  replace pb2 := cK b pb2 pbl
  replace pbl := lK b pbl
  replace bf00 := cK b bf00 bf0l
  replace bf01 := cK b bf01 bf0l
  replace bf0l := lK b bf0l
  replace bc00 := cK b bc00 bc0l
  replace bc01 := cK b bc01 bc0l
  replace bc0l := lK b bc0l
  replace bn00 := cK b bn00 bn0l
  replace bn01 := cK b bn01 bn0l
  replace bn0l := lK b bn0l
  replace bf10 := cK b bf10 bf1l
  replace bf11 := cK b bf11 bf1l
  replace bf1l := lK b bf1l
  replace bc10 := cK b bc10 bc1l
  replace bc11 := cK b bc11 bc1l
  replace bc1l := lK b bc1l
  replace bn10 := cK b bn10 bn1l
  replace bn11 := cK b bn11 bn1l
  replace bn1l := lK b bn1l
  replace ba0 := cK b ba0 bal
  replace ba1 := cK b ba1 bal
  replace bal := lK b bal
  replace cc := bK cc b
  clear b
  go_wp2_with fail
  refine (CB hg).mono ?_
  rintro e w20 ⟨bbb, Abb, nbb, cbb, rfl, hbb, b⟩
  replace h0 := h0.on b
  replace h1 := h1.on b
  replace hbf0 := hbf0.on b
  replace hbc0 := hbc0.on b
  replace hbn0 := hbn0.on b
  replace hbf1 := hbf1.on b
  replace hbc1 := hbc1.on b
  replace hbn1 := hbn1.on b
  replace hba := hba.on b
  replace hg := hg.on b
  replace pa0 := cK b pa0 pal
  replace pa1 := cK b pa1 pal
  replace pa2 := cK b pa2 pal
  replace pal := lK b pal
  replace pb0 := cK b pb0 pbl
  replace pb1 := cK b pb1 pbl
  replace pb2 := cK b pb2 pbl
  replace pbl := lK b pbl
  replace bf00 := cK b bf00 bf0l
  replace bf01 := cK b bf01 bf0l
  replace bf0l := lK b bf0l
  replace bc00 := cK b bc00 bc0l
  replace bc01 := cK b bc01 bc0l
  replace bc0l := lK b bc0l
  replace bn00 := cK b bn00 bn0l
  replace bn01 := cK b bn01 bn0l
  replace bn0l := lK b bn0l
  replace bf10 := cK b bf10 bf1l
  replace bf11 := cK b bf11 bf1l
  replace bf1l := lK b bf1l
  replace bc10 := cK b bc10 bc1l
  replace bc11 := cK b bc11 bc1l
  replace bc1l := lK b bc1l
  replace bn10 := cK b bn10 bn1l
  replace bn11 := cK b bn11 bn1l
  replace bn1l := lK b bn1l
  replace ba0 := cK b ba0 bal
  replace ba1 := cK b ba1 bal
  replace bal := lK b bal
  replace cc := bK cc b
  clear b
  go_wp2_with fail
  have bA := below_one w20 (.cells #[.bool bbb, .slice Abb nbb cbb] 25)
  replace h0 := h0.on bA
  replace h1 := h1.on bA
  replace hbf0 := hbf0.on bA
  replace hbc0 := hbc0.on bA
  replace hbn0 := hbn0.on bA
  replace hbf1 := hbf1.on bA
  replace hbc1 := hbc1.on bA
  replace hbn1 := hbn1.on bA
  replace hba := hba.on bA
  replace hg := hg.on bA
  replace hbb := hbb.on bA
  replace pa0 := cK bA pa0 pal
  replace pa1 := cK bA pa1 pal
  replace pa2 := cK bA pa2 pal
  replace pal := lK bA pal
  replace pb0 := cK bA pb0 pbl
  replace pb1 := cK bA pb1 pbl
  replace pb2 := cK bA pb2 pbl
  replace pbl := lK bA pbl
  replace bf00 := cK bA bf00 bf0l
  replace bf01 := cK bA bf01 bf0l
  replace bf0l := lK bA bf0l
  replace bc00 := cK bA bc00 bc0l
  replace bc01 := cK bA bc01 bc0l
  replace bc0l := lK bA bc0l
  replace bn00 := cK bA bn00 bn0l
  replace bn01 := cK bA bn01 bn0l
  replace bn0l := lK bA bn0l
  replace bf10 := cK bA bf10 bf1l
  replace bf11 := cK bA bf11 bf1l
  replace bf1l := lK bA bf1l
  replace bc10 := cK bA bc10 bc1l
  replace bc11 := cK bA bc11 bc1l
  replace bc1l := lK bA bc1l
  replace bn10 := cK bA bn10 bn1l
  replace bn11 := cK bA bn11 bn1l
  replace bn1l := lK bA bn1l
  replace ba0 := cK bA ba0 bal
  replace ba1 := cK bA ba1 bal
  replace bal := lK bA bal
  replace cc := bK cc bA
  clear bA
  have bb0 : (w20.alloc (.cells #[.bool bbb, .slice Abb nbb cbb] 25)).cell? ⟨w20.heap.size, 0, none⟩ = some (.bool bbb) := by simp [go_sem]
  have bb1 : (w20.alloc (.cells #[.bool bbb, .slice Abb nbb cbb] 25)).cell? ⟨w20.heap.size, 1, none⟩ = some (.slice Abb nbb cbb) := by simp [go_sem]
  have bbl : w20.heap.size < (w20.alloc (.cells #[.bool bbb, .slice Abb nbb cbb] 25)).heap.size := by simp
  generalize w20.alloc (.cells #[.bool bbb, .slice Abb nbb cbb] 25) = v21 at *
  clear hg
  have bD : Below v21.heap.size v21 v21.drew := below_drewN (Below.refl _ v21) 1
  replace h0 := h0.on bD
  replace h1 := h1.on bD
  replace hbf0 := hbf0.on bD
  replace hbc0 := hbc0.on bD
  replace hbn0 := hbn0.on bD
  replace hbf1 := hbf1.on bD
  replace hbc1 := hbc1.on bD
  replace hbn1 := hbn1.on bD
  replace hba := hba.on bD
  replace hbb := hbb.on bD
  replace pa0 := cK bD pa0 pal
  replace pa1 := cK bD pa1 pal
  replace pa2 := cK bD pa2 pal
  replace pal := lK bD pal
  replace pb0 := cK bD pb0 pbl
  replace pb1 := cK bD pb1 pbl
  replace pb2 := cK bD pb2 pbl
  replace pbl := lK bD pbl
  replace bf00 := cK bD bf00 bf0l
  replace bf01 := cK bD bf01 bf0l
  replace bf0l := lK bD bf0l
  replace bc00 := cK bD bc00 bc0l
  replace bc01 := cK bD bc01 bc0l
  replace bc0l := lK bD bc0l
  replace bn00 := cK bD bn00 bn0l
  replace bn01 := cK bD bn01 bn0l
  replace bn0l := lK bD bn0l
  replace bf10 := cK bD bf10 bf1l
  replace bf11 := cK bD bf11 bf1l
  replace bf1l := lK bD bf1l
  replace bc10 := cK bD bc10 bc1l
  replace bc11 := cK bD bc11 bc1l
  replace bc1l := lK bD bc1l
  replace bn10 := cK bD bn10 bn1l
  replace bn11 := cK bD bn11 bn1l
  replace bn1l := lK bD bn1l
  replace ba0 := cK bD ba0 bal
  replace ba1 := cK bD ba1 bal
  replace bal := lK bD bal
  replace bb0 := cK bD bb0 bbl
  replace bb1 := cK bD bb1 bbl
  replace bbl := lK bD bbl
  replace cc := bK cc bD
  clear bD
  refine wp_region_held_drew (S := fun w' => w'.cell? ⟨w.heap.size, 0, none⟩ = some (.bool b0) ∧ w'.cell? ⟨w.heap.size, 1, none⟩ = some (.slice A0 n0 c0) ∧ w'.cell? ⟨w.heap.size, 2, none⟩ = some (.slice B0 m0 d0) ∧ w'.cell? ⟨w.heap.size + 1, 0, none⟩ = some (.bool b1) ∧ w'.cell? ⟨w.heap.size + 1, 1, none⟩ = some (.slice A1 n1 c1) ∧ w'.cell? ⟨w.heap.size + 1, 2, none⟩ = some (.slice B1 m1 d1) ∧ w'.cell? ⟨w4.heap.size, 0, none⟩ = some (.bool bbf0) ∧ w'.cell? ⟨w4.heap.size, 1, none⟩ = some (.slice Abf0 nbf0 cbf0) ∧ w'.cell? ⟨w6.heap.size, 0, none⟩ = some (.bool bbc0) ∧ w'.cell? ⟨w6.heap.size, 1, none⟩ = some (.slice Abc0 nbc0 cbc0) ∧ w'.cell? ⟨w8.heap.size, 0, none⟩ = some (.bool bbn0) ∧ w'.cell? ⟨w8.heap.size, 1, none⟩ = some (.slice Abn0 nbn0 cbn0) ∧ w'.cell? ⟨w10.heap.size, 0, none⟩ = some (.bool bbf1) ∧ w'.cell? ⟨w10.heap.size, 1, none⟩ = some (.slice Abf1 nbf1 cbf1) ∧ w'.cell? ⟨w12.heap.size, 0, none⟩ = some (.bool bbc1) ∧ w'.cell? ⟨w12.heap.size, 1, none⟩ = some (.slice Abc1 nbc1 cbc1) ∧ w'.cell? ⟨w14.heap.size, 0, none⟩ = some (.bool bbn1) ∧ w'.cell? ⟨w14.heap.size, 1, none⟩ = some (.slice Abn1 nbn1 cbn1) ∧ w'.cell? ⟨w17.heap.size, 0, none⟩ = some (.bool bba) ∧ w'.cell? ⟨w17.heap.size, 1, none⟩ = some (.slice Aba nba cba) ∧ w'.cell? ⟨w20.heap.size, 0, none⟩ = some (.bool bbb) ∧ w'.cell? ⟨w20.heap.size, 1, none⟩ = some (.slice Abb nbb cbb)) (by kernel_rfl) ?_ (fun hHeld => ?_)
  · exact ⟨pa0, pa1, pa2, pb0, pb1, pb2, bf00, bf01, bc00, bc01, bn00, bn01, bf10, bf11, bc10, bc11, bn10, bn11, ba0, ba1, bb0, bb1⟩
  refine wpAnyH_take (i := 0) (v := ?_) rfl (by kernel_rfl) (by kernel_rfl) (by kernel_rfl) (fun _ _ _ h => h) (Or.inl ⟨by rfl, ?_⟩) hHeld ?_
  rotate_left
  · (intro w hSw; (try dsimp only at hSw); go_simp; (try with_reducible rfl))
  try simp only [Act.put, List.getElem_toArray, List.getElem_cons_zero, List.getElem_cons_succ, List.setIfInBounds_toArray, List.set_cons_zero, List.set_cons_succ]
  refine wpAnyH_take (i := 1) (v := ?_) rfl (by kernel_rfl) (by kernel_rfl) (by kernel_rfl) (fun _ _ _ h => h) (Or.inl ⟨by rfl, ?_⟩) hHeld ?_
  rotate_left
  · (intro w hSw; (try dsimp only at hSw); go_simp; (try with_reducible rfl))
  try simp only [Act.put, List.getElem_toArray, List.getElem_cons_zero, List.getElem_cons_succ, List.setIfInBounds_toArray, List.set_cons_zero, List.set_cons_succ]
  refine wpAnyH_ready (rs := [2]) (by kernel_rfl) (by simp) ?_
  refine AllReadyH.cons rfl (fun K hK => ?_) AllReadyH.nil
  (try simp only [List.getElem_toArray, List.getElem_cons_zero, List.getElem_cons_succ])
  rw [if_pos (by rfl)]
  go_simp
  go_at_call 28
  refine (rzneg_N hbf0 (by omega)).mono ?_
  rintro e w22 ⟨bu, Au, nu, cu, rfl, hu, b⟩
  replace h0 := h0.on b
  replace h1 := h1.on b
  replace hbf0 := hbf0.on b
  replace hbc0 := hbc0.on b
  replace hbn0 := hbn0.on b
  replace hbf1 := hbf1.on b
  replace hbc1 := hbc1.on b
  replace hbn1 := hbn1.on b
  replace hba := hba.on b
  replace hbb := hbb.on b
  replace pa0 := cK b pa0 pal
  replace pa1 := cK b pa1 pal
  replace pa2 := cK b pa2 pal
  replace pal := lK b pal
  replace pb0 := cK b pb0 pbl
  replace pb1 := cK b pb1 pbl
  replace pb2 := cK b pb2 pbl
  replace pbl := lK b pbl
  replace bf00 := cK b bf00 bf0l
  replace bf01 := cK b bf01 bf0l
  replace bf0l := lK b bf0l
  replace bc00 := cK b bc00 bc0l
  replace bc01 := cK b bc01 bc0l
  replace bc0l := lK b bc0l
  replace bn00 := cK b bn00 bn0l
  replace bn01 := cK b bn01 bn0l
  replace bn0l := lK b bn0l
  replace bf10 := cK b bf10 bf1l
  replace bf11 := cK b bf11 bf1l
  replace bf1l := lK b bf1l
  replace bc10 := cK b bc10 bc1l
  replace bc11 := cK b bc11 bc1l
  replace bc1l := lK b bc1l
  replace bn10 := cK b bn10 bn1l
  replace bn11 := cK b bn11 bn1l
  replace bn1l := lK b bn1l
  replace ba0 := cK b ba0 bal
  replace ba1 := cK b ba1 bal
  replace bal := lK b bal
  replace bb0 := cK b bb0 bbl
  replace bb1 := cK b bb1 bbl
  replace bbl := lK b bbl
  replace cc := bK cc b
  clear b
  refine hK.out _ _ ?_ (fun hHeld => ?_)
  · exact ⟨pa0, pa1, pa2, pb0, pb1, pb2, bf00, bf01, bc00, bc01, bn00, bn01, bf10, bf11, bc10, bc11, bn10, bn11, ba0, ba1, bb0, bb1⟩
  clear hK K
  try simp only [Act.put, List.getElem_toArray, List.getElem_cons_zero, List.getElem_cons_succ, List.setIfInBounds_toArray, List.set_cons_zero, List.set_cons_succ]
  refine wpAnyH_ready (rs := [3]) (by kernel_rfl) (by simp) ?_
  refine AllReadyH.cons rfl (fun K hK => ?_) AllReadyH.nil
  (try simp only [List.getElem_toArray, List.getElem_cons_zero, List.getElem_cons_succ])
  rw [if_pos (by rfl)]
  go_simp
  go_at_call 20
  refine (zsame_self hba hu na).mono ?_
  rintro e w23 ⟨rfl, b⟩
  replace h0 := h0.on b
  replace h1 := h1.on b
  replace hbf0 := hbf0.on b
  replace hbc0 := hbc0.on b
  replace hbn0 := hbn0.on b
  replace hbf1 := hbf1.on b
  replace hbc1 := hbc1.on b
  replace hbn1 := hbn1.on b
  replace hba := hba.on b
  replace hbb := hbb.on b
  replace hu := hu.on b
  replace pa0 := cK b pa0 pal
  replace pa1 := cK b pa1 pal
  replace pa2 := cK b pa2 pal
  replace pal := lK b pal
  replace pb0 := cK b pb0 pbl
  replace pb1 := cK b pb1 pbl
  replace pb2 := cK b pb2 pbl
  replace pbl := lK b pbl
  replace bf00 := cK b bf00 bf0l
  replace bf01 := cK b bf01 bf0l
  replace bf0l := lK b bf0l
  replace bc00 := cK b bc00 bc0l
  replace bc01 := cK b bc01 bc0l
  replace bc0l := lK b bc0l
  replace bn00 := cK b bn00 bn0l
  replace bn01 := cK b bn01 bn0l
  replace bn0l := lK b bn0l
  replace bf10 := cK b bf10 bf1l
  replace bf11 := cK b bf11 bf1l
  replace bf1l := lK b bf1l
  replace bc10 := cK b bc10 bc1l
  replace bc11 := cK b bc11 bc1l
  replace bc1l := lK b bc1l
  replace bn10 := cK b bn10 bn1l
  replace bn11 := cK b bn11 bn1l
  replace bn1l := lK b bn1l
  replace ba0 := cK b ba0 bal
  replace ba1 := cK b ba1 bal
  replace bal := lK b bal
  replace bb0 := cK b bb0 bbl
  replace bb1 := cK b bb1 bbl
  replace bbl := lK b bbl
  replace cc := bK cc b
  clear b
  refine hK.out _ _ ?_ (fun hHeld => ?_)
  · exact ⟨pa0, pa1, pa2, pb0, pb1, pb2, bf00, bf01, bc00, bc01, bn00, bn01, bf10, bf11, bc10, bc11, bn10, bn11, ba0, ba1, bb0, bb1⟩
  clear hK K
  try simp only [Act.put, List.getElem_toArray, List.getElem_cons_zero, List.getElem_cons_succ, List.setIfInBounds_toArray, List.set_cons_zero, List.set_cons_succ]
  refine wpAnyH_take (i := 4) (v := ?_) rfl (by kernel_rfl) (by kernel_rfl) (by kernel_rfl) (fun _ _ _ h => h) (Or.inl ⟨by rfl, ?_⟩) hHeld ?_
  rotate_left
  · (intro w hSw; (try dsimp only at hSw); go_simp; (try with_reducible rfl))
  try simp only [Act.put, List.getElem_toArray, List.getElem_cons_zero, List.getElem_cons_succ, List.setIfInBounds_toArray, List.set_cons_zero, List.set_cons_succ]
  refine wpAnyH_take (i := 5) (v := ?_) rfl (by kernel_rfl) (by kernel_rfl) (by kernel_rfl) (fun _ _ _ h => h) (Or.inl ⟨by rfl, ?_⟩) hHeld ?_
  rotate_left
  · (intro w hSw; (try dsimp only at hSw); go_simp; (try with_reducible rfl))
  try simp only [Act.put, List.getElem_toArray, List.getElem_cons_zero, List.getElem_cons_succ, List.setIfInBounds_toArray, List.set_cons_zero, List.set_cons_succ]
  refine wpAnyH_take (i := 6) (v := ?_) rfl (by kernel_rfl) (by kernel_rfl) (by kernel_rfl) (fun _ _ _ h => h) (Or.inl ⟨by rfl, ?_⟩) hHeld ?_
  rotate_left
  · (intro w hSw; (try dsimp only at hSw); go_simp; (try with_reducible rfl))
  try simp only [Act.put, List.getElem_toArray, List.getElem_cons_zero, List.getElem_cons_succ, List.setIfInBounds_toArray, List.set_cons_zero, List.set_cons_succ]
  refine wpAnyH_take (i := 7) (v := ?_) rfl (by kernel_rfl) (by kernel_rfl) (by kernel_rfl) (fun _ _ _ h => h) (Or.inl ⟨by rfl, ?_⟩) hHeld ?_
  rotate_left
  · (intro w hSw; (try dsimp only at hSw); go_simp; (try with_reducible rfl))
  try simp only [Act.put, List.getElem_toArray, List.getElem_cons_zero, List.getElem_cons_succ, List.setIfInBounds_toArray, List.set_cons_zero, List.set_cons_succ]
  refine wpAnyH_ready (rs := [8]) (by kernel_rfl) (by simp) ?_
  refine AllReadyH.cons rfl (fun K hK => ?_) AllReadyH.nil
  (try simp only [List.getElem_toArray, List.getElem_cons_zero, List.getElem_cons_succ])
  rw [if_pos (by rfl)]
  go_simp
  go_at_call 28
  refine (rzneg_N hbn0 (by omega)).mono ?_
  rintro e w24 ⟨bv, Av, nv, cv, rfl, hv, b⟩
  replace h0 := h0.on b
  replace h1 := h1.on b
  replace hbf0 := hbf0.on b
  replace hbc0 := hbc0.on b
  replace hbn0 := hbn0.on b
  replace hbf1 := hbf1.on b
  replace hbc1 := hbc1.on b
  replace hbn1 := hbn1.on b
  replace hba := hba.on b
  replace hbb := hbb.on b
  replace hu := hu.on b
  replace pa0 := cK b pa0 pal
  replace pa1 := cK b pa1 pal
  replace pa2 := cK b pa2 pal
  replace pal := lK b pal
  replace pb0 := cK b pb0 pbl
  replace pb1 := cK b pb1 pbl
  replace pb2 := cK b pb2 pbl
  replace pbl := lK b pbl
  replace bf00 := cK b bf00 bf0l
  replace bf01 := cK b bf01 bf0l
  replace bf0l := lK b bf0l
  replace bc00 := cK b bc00 bc0l
  replace bc01 := cK b bc01 bc0l
  replace bc0l := lK b bc0l
  replace bn00 := cK b bn00 bn0l
  replace bn01 := cK b bn01 bn0l
  replace bn0l := lK b bn0l
  replace bf10 := cK b bf10 bf1l
  replace bf11 := cK b bf11 bf1l
  replace bf1l := lK b bf1l
  replace bc10 := cK b bc10 bc1l
  replace bc11 := cK b bc11 bc1l
  replace bc1l := lK b bc1l
  replace bn10 := cK b bn10 bn1l
  replace bn11 := cK b bn11 bn1l
  replace bn1l := lK b bn1l
  replace ba0 := cK b ba0 bal
  replace ba1 := cK b ba1 bal
  replace bal := lK b bal
  replace bb0 := cK b bb0 bbl
  replace bb1 := cK b bb1 bbl
  replace bbl := lK b bbl
  replace cc := bK cc b
  clear b
  refine hK.out _ _ ?_ (fun hHeld => ?_)
  · exact ⟨pa0, pa1, pa2, pb0, pb1, pb2, bf00, bf01, bc00, bc01, bn00, bn01, bf10, bf11, bc10, bc11, bn10, bn11, ba0, ba1, bb0, bb1⟩
  clear hK K
  try simp only [Act.put, List.getElem_toArray, List.getElem_cons_zero, List.getElem_cons_succ, List.setIfInBounds_toArray, List.set_cons_zero, List.set_cons_succ]
  refine wpAnyH_ready (rs := [9]) (by kernel_rfl) (by simp) ?_
  refine AllReadyH.cons rfl (fun K hK => ?_) AllReadyH.nil
  (try simp only [List.getElem_toArray, List.getElem_cons_zero, List.getElem_cons_succ])
  rw [if_pos (by rfl)]
  go_simp
  go_at_call 20
  refine (zsame_self hbb hv nb).mono ?_
  rintro e w25 ⟨rfl, b⟩
  replace h0 := h0.on b
  replace h1 := h1.on b
  replace hbf0 := hbf0.on b
  replace hbc0 := hbc0.on b
  replace hbn0 := hbn0.on b
  replace hbf1 := hbf1.on b
  replace hbc1 := hbc1.on b
  replace hbn1 := hbn1.on b
  replace hba := hba.on b
  replace hbb := hbb.on b
  replace hu := hu.on b
  replace hv := hv.on b
  replace pa0 := cK b pa0 pal
  replace pa1 := cK b pa1 pal
  replace pa2 := cK b pa2 pal
  replace pal := lK b pal
  replace pb0 := cK b pb0 pbl
  replace pb1 := cK b pb1 pbl
  replace pb2 := cK b pb2 pbl
  replace pbl := lK b pbl
  replace bf00 := cK b bf00 bf0l
  replace bf01 := cK b bf01 bf0l
  replace bf0l := lK b bf0l
  replace bc00 := cK b bc00 bc0l
  replace bc01 := cK b bc01 bc0l
  replace bc0l := lK b bc0l
  replace bn00 := cK b bn00 bn0l
  replace bn01 := cK b bn01 bn0l
  replace bn0l := lK b bn0l
  replace bf10 := cK b bf10 bf1l
  replace bf11 := cK b bf11 bf1l
  replace bf1l := lK b bf1l
  replace bc10 := cK b bc10 bc1l
  replace bc11 := cK b bc11 bc1l
  replace bc1l := lK b bc1l
  replace bn10 := cK b bn10 bn1l
  replace bn11 := cK b bn11 bn1l
  replace bn1l := lK b bn1l
  replace ba0 := cK b ba0 bal
  replace ba1 := cK b ba1 bal
  replace bal := lK b bal
  replace bb0 := cK b bb0 bbl
  replace bb1 := cK b bb1 bbl
  replace bbl := lK b bbl
  replace cc := bK cc b
  clear b
  refine hK.out _ _ ?_ (fun hHeld => ?_)
  · exact ⟨pa0, pa1, pa2, pb0, pb1, pb2, bf00, bf01, bc00, bc01, bn00, bn01, bf10, bf11, bc10, bc11, bn10, bn11, ba0, ba1, bb0, bb1⟩
  clear hK K
  try simp only [Act.put, List.getElem_toArray, List.getElem_cons_zero, List.getElem_cons_succ, List.setIfInBounds_toArray, List.set_cons_zero, List.set_cons_succ]
  refine wpAnyH_take (i := 10) (v := ?_) rfl (by kernel_rfl) (by kernel_rfl) (by kernel_rfl) (fun _ _ _ h => h) (Or.inl ⟨by rfl, ?_⟩) hHeld ?_
  rotate_left
  · (intro w hSw; (try dsimp only at hSw); go_simp; (try with_reducible rfl))
  try simp only [Act.put, List.getElem_toArray, List.getElem_cons_zero, List.getElem_cons_succ, List.setIfInBounds_toArray, List.set_cons_zero, List.set_cons_succ]
  refine wpAnyH_take (i := 11) (v := ?_) rfl (by kernel_rfl) (by kernel_rfl) (by kernel_rfl) (fun _ _ _ h => h) (Or.inl ⟨by rfl, ?_⟩) hHeld ?_
  rotate_left
  · (intro w hSw; (try dsimp only at hSw); go_simp; (try with_reducible rfl))
  try simp only [Act.put, List.getElem_toArray, List.getElem_cons_zero, List.getElem_cons_succ, List.setIfInBounds_toArray, List.set_cons_zero, List.set_cons_succ]
  refine wpAnyH_done (by kernel_rfl) ?_ _
  clear hHeld
  go_wp2_with fail
  refine (rzcmp_v df hbf0 hbf1 (by omega) (by omega) Hf.out).mono ?_
  rintro e w26 ⟨rfl, b⟩
  replace h0 := h0.on b
  replace h1 := h1.on b
  replace hbf0 := hbf0.on b
  replace hbc0 := hbc0.on b
  replace hbn0 := hbn0.on b
  replace hbf1 := hbf1.on b
  replace hbc1 := hbc1.on b
  replace hbn1 := hbn1.on b
  replace hba := hba.on b
  replace hbb := hbb.on b
  replace hu := hu.on b
  replace hv := hv.on b
  replace pa0 := cK b pa0 pal
  replace pa1 := cK b pa1 pal
  replace pa2 := cK b pa2 pal
  replace pal := lK b pal
  replace pb0 := cK b pb0 pbl
  replace pb1 := cK b pb1 pbl
  replace pb2 := cK b pb2 pbl
  replace pbl := lK b pbl
  replace bf00 := cK b bf00 bf0l
  replace bf01 := cK b bf01 bf0l
  replace bf0l := lK b bf0l
  replace bc00 := cK b bc00 bc0l
  replace bc01 := cK b bc01 bc0l
  replace bc0l := lK b bc0l
  replace bn00 := cK b bn00 bn0l
  replace bn01 := cK b bn01 bn0l
  replace bn0l := lK b bn0l
  replace bf10 := cK b bf10 bf1l
  replace bf11 := cK b bf11 bf1l
  replace bf1l := lK b bf1l
  replace bc10 := cK b bc10 bc1l
  replace bc11 := cK b bc11 bc1l
  replace bc1l := lK b bc1l
  replace bn10 := cK b bn10 bn1l
  replace bn11 := cK b bn11 bn1l
  replace bn1l := lK b bn1l
  replace ba0 := cK b ba0 bal
  replace ba1 := cK b ba1 bal
  replace bal := lK b bal
  replace bb0 := cK b bb0 bbl
  replace bb1 := cK b bb1 bbl
  replace bbl := lK b bbl
  replace cc := bK cc b
  clear b
  go_wp2_with fail
  refine (alive6_any _).mono ?_
  rintro e w27 ⟨rfl, b⟩
  replace h0 := h0.on b
  replace h1 := h1.on b
  replace hbf0 := hbf0.on b
  replace hbc0 := hbc0.on b
  replace hbn0 := hbn0.on b
  replace hbf1 := hbf1.on b
  replace hbc1 := hbc1.on b
  replace hbn1 := hbn1.on b
  replace hba := hba.on b
  replace hbb := hbb.on b
  replace hu := hu.on b
  replace hv := hv.on b
  replace pa0 := cK b pa0 pal
  replace pa1 := cK b pa1 pal
  replace pa2 := cK b pa2 pal
  replace pal := lK b pal
  replace pb0 := cK b pb0 pbl
  replace pb1 := cK b pb1 pbl
  replace pb2 := cK b pb2 pbl
  replace pbl := lK b pbl
  replace bf00 := cK b bf00 bf0l
  replace bf01 := cK b bf01 bf0l
  replace bf0l := lK b bf0l
  replace bc00 := cK b bc00 bc0l
  replace bc01 := cK b bc01 bc0l
  replace bc0l := lK b bc0l
  replace bn00 := cK b bn00 bn0l
  replace bn01 := cK b bn01 bn0l
  replace bn0l := lK b bn0l
  replace bf10 := cK b bf10 bf1l
  replace bf11 := cK b bf11 bf1l
  replace bf1l := lK b bf1l
  replace bc10 := cK b bc10 bc1l
  replace bc11 := cK b bc11 bc1l
  replace bc1l := lK b bc1l
  replace bn10 := cK b bn10 bn1l
  replace bn11 := cK b bn11 bn1l
  replace bn1l := lK b bn1l
  replace ba0 := cK b ba0 bal
  replace ba1 := cK b ba1 bal
  replace bal := lK b bal
  replace bb0 := cK b bb0 bbl
  replace bb1 := cK b bb1 bbl
  replace bbl := lK b bbl
  replace cc := bK cc b
  clear b
  go_wp2_with fail
  refine (rtcmp_v cq h0 (s0.le (by omega)) h1 (s1.le (by omega)) EQ.out).mono ?_
  rintro e w28 ⟨rfl, b⟩
  replace h0 := h0.on b
  replace h1 := h1.on b
  replace hbf0 := hbf0.on b
  replace hbc0 := hbc0.on b
  replace hbn0 := hbn0.on b
  replace hbf1 := hbf1.on b
  replace hbc1 := hbc1.on b
  replace hbn1 := hbn1.on b
  replace hba := hba.on b
  replace hbb := hbb.on b
  replace hu := hu.on b
  replace hv := hv.on b
  replace pa0 := cK b pa0 pal
  replace pa1 := cK b pa1 pal
  replace pa2 := cK b pa2 pal
  replace pal := lK b pal
  replace pb0 := cK b pb0 pbl
  replace pb1 := cK b pb1 pbl
  replace pb2 := cK b pb2 pbl
  replace pbl := lK b pbl
  replace bf00 := cK b bf00 bf0l
  replace bf01 := cK b bf01 bf0l
  replace bf0l := lK b bf0l
  replace bc00 := cK b bc00 bc0l
  replace bc01 := cK b bc01 bc0l
  replace bc0l := lK b bc0l
  replace bn00 := cK b bn00 bn0l
  replace bn01 := cK b bn01 bn0l
  replace bn0l := lK b bn0l
  replace bf10 := cK b bf10 bf1l
  replace bf11 := cK b bf11 bf1l
  replace bf1l := lK b bf1l
  replace bc10 := cK b bc10 bc1l
  replace bc11 := cK b bc11 bc1l
  replace bc1l := lK b bc1l
  replace bn10 := cK b bn10 bn1l
  replace bn11 := cK b bn11 bn1l
  replace bn1l := lK b bn1l
  replace ba0 := cK b ba0 bal
  replace ba1 := cK b ba1 bal
  replace bal := lK b bal
  replace bb0 := cK b bb0 bbl
  replace bb1 := cK b bb1 bbl
  replace bbl := lK b bbl
  replace cc := bK cc b
  clear b
  go_wp2_with fail
  go_ret
  exact ⟨rfl, cc⟩

end Go.Proofs.Ytchbhmcaalkfdaa
