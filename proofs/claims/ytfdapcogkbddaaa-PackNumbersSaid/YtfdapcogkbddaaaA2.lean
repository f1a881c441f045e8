/-
  Several texts in one: C13b, JPm, JPa, JPb, JPc, JPd, JPe, JP, L13.
-/
import Derived.Test.YtfdapcogkbddaaaA1
import Derived.Laws.BitsAllLaws
import Derived.Lib.AppendZerosOnto
import Derived.Lib.SliceRun
import Derived.Lib.SlBytesConst
import Derived.Deep.WholeRow

/-
  The contracts of the thirteenth reference: Put, PutInt, PutRow.
-/
namespace Go.Proofs.Ytfdapcogkbddaaa
set_option maxRecDepth 100000
open Go.RowKit
set_option linter.unusedVariables false
set_option linter.unusedSimpArgs false

theorem one_new (w : World) (a : Value) (T : TypeId) : ∀ j u, [a][j]? = some u → (w.alloc (.cells #[a] T)).cell? ((⟨w.heap.size, 0, none⟩ : Addr).add j) = some u := by
  intro j u h
  rw [addr_add, Nat.zero_add, World.cell?_alloc_new]
  simpa using h
theorem vbk_small {k N : Nat} (h : N < 128) : vbk k N = [N] := by
  cases k with
  | zero => rfl
  | succ k => show (if N < 128 then [N] else _) = _; rw [if_pos h]
theorem vbk_big {k N : Nat} (h : ¬ N < 128) : vbk (k + 1) N = (N % 128 + 128) :: vbk k (N / 128) := by
  show (if N < 128 then [N] else _) = _; rw [if_neg h]

set_option maxRecDepth 100000 in
set_option maxHeartbeats 8000000 in
theorem rPut13_some {w : World} {A : Option Addr} {n c N : Nat} {l : List Nat} (hA : BR w A n c l) (hn : n ≤ 2000000) (hNs : N < 2 * 128 ^ 9) (hm : 0 < n) :
    Calls Try.prog 16 #[.slice A n c, .int .u64 (N : Int)] w (GotNew w (l ++ vb N)) := by
  obtain ⟨i0, hi, hz0, hz1, hz2⟩ := info_parts infoB
  obtain ⟨t, ht⟩ : ∃ t, w.heap.size = t := ⟨_, rfl⟩
  have HT := Lib.hid ht
  have tw : t ≤ w.heap.size := by omega
  have hE : (w.alloc (.cells #[] 5)).ownsRow t 5 1 (.slice (some ⟨w.heap.size, 0, none⟩) 0 0) 0 ([] : List Value) := World.ownsRow_lit w #[] 0 tw (by unfold maxLen; omega) rfl
  have b0 : Below t w (w.alloc (.cells #[] 5)) := (Below.refl t w).alloc tw _
  have HE := Lib.hid hE
  have HB0 := Lib.hid b0
  have HNS := Lib.hid hNs
  obtain ⟨F, eF⟩ : ∃ F, l ++ vb N = F := ⟨_, rfl⟩
  have HF : Hid (l ++ vbk 9 N = F) := Lib.hid eF
  rw [eF]
  have bw := (Below.refl w.heap.size w).alloc (Nat.le_refl _) (.cells #[] 5)
  clear ht hE b0 eF
  obtain ⟨bb, off, eA, hb0⟩ := hA.some hm
  subst eA
  have HL : Hid ((l.map encB).length = n * 1) := Lib.hid (by rw [List.length_map, ← hA.1]; omega)
  have HNW := Lib.hid (br_news hA bw)
  clear hA hb0 bw
  go_enter Try.func16, Try.ntmps16
  go_wp2_with (at_builtin; refine wpList_append_lies _ rfl _ _ 22 rfl t 5 i0 (.int .u8 0) 1 1 Try.underlying22 hi hz0 hz1 hz2 rfl (by decide) _ 0 [] rfl HE.out ⟨bb, off, none⟩ n c (l.map encB) rfl HL.out HNW.out (fun u hu => by obtain ⟨x, _, rfl⟩ := List.mem_map.1 hu; rfl) (by omega) (by unfold maxLen; omega) (by omega) (by first | omega | (simp; omega)) _ rfl ?_; intro g1 cap1 w3 hown1 hgrow1 hat1 hlt1)
  have b1 : Below t w w3 := HB0.out.grown hgrow1 (by simp; have := HT.out; omega) (fun q e => by injection (show some w.heap.size = some q from e) with e1; have := HT.out; omega)
  rw [List.nil_append] at hown1
  rw [Nat.zero_add] at hown1
  have HO := Lib.hid hown1
  have HB1 := Lib.hid b1
  clear hown1 b1 hgrow1 hat1 hlt1 HE HB0 HNW
  go_loopw [5, 1] (fun ov nv wr => ∃ (k i M g cap : Nat) (o : List Nat), i + k ≤ 2000010 ∧ ov = .slice (some ⟨g, 0, none⟩) i cap ∧ nv = .int .u64 (M : Int) ∧ wr.ownsRow t 5 1 (.slice (some ⟨g, 0, none⟩) i cap) i (o.map encB) ∧ Hid (o ++ vbk k M = F) ∧ Hid (M < 2 * 128 ^ k) ∧ Hid (M < 2 * 128 ^ 9) ∧ Below t w wr) (fun _ nv _ => (intOf nv).toNat)
  case atStart => exact ⟨9, n, N, g1, cap1, l, by omega, by first | rfl | simp, rfl, HO.out, HF, HNS, HNS, HB1.out⟩
  case round =>
    obtain ⟨k, i, M, g, cap, o, hik, rfl, rfl, hO, HV, HM, HM9, hbl⟩ := hrel
    have hgt := (hO.lt g rfl).1
    have hts : t ≤ wr.heap.size := by have := hbl.size; have := HT.out; omega
    have HO2 := Lib.hid hO
    have HBL := Lib.hid hbl
    have HIK := Lib.hid hik
    have i2 : i ≤ 2000010 := by omega
    clear hO hik
    by_cases hlt : M < 128
    · have t1 : decide (128 ≤ (M : Int)) = false := decide_eq_false (by omega)
      have k1 : IntKind.u8.wrap (M : Int) = (M : Int) := by rw [IntKind.wrap_u8]; omega
      have hF : o.map encB ++ [.int .u8 (M : Int)] = F.map encB := by rw [← HV.out, vbk_small hlt, List.map_append]; rfl
      have HF2 := Lib.hid hF
      clear hF hlt HV HM
      go_wp2_with (at_builtin; refine wpList_append_lies _ rfl _ _ 22 rfl t 5 i0 (.int .u8 0) 1 1 Try.underlying22 hi hz0 hz1 hz2 rfl (by decide) _ i (o.map encB) rfl (HO2.out.alloc _) ⟨wr.heap.size, 0, none⟩ 1 1 [.int .u8 (M : Int)] rfl (by simp) (one_new _ _ _) (by simp [Value.oneCell']) (by omega) (by unfold maxLen; omega) (by omega) (by first | omega | (simp; omega)) _ rfl ?_; intro g2 cap2 w4 hown2 hgrow2 hat2 hlt2)
      have b2 : Below t w w4 := (HBL.out.alloc hts _).grown hgrow2 (by simp; omega) (fun q e => by injection (show some g = some q from e) with e1; omega)
      rw [HF2.out] at hown2
      rw [← HT.out] at b2 hown2
      go_ret
      exact ⟨g2, _, cap2, rfl, hown2, b2⟩
    · obtain ⟨k, rfl⟩ : ∃ q, k = q + 1 := by
        cases k with
        | zero => have := HM.out; rw [Nat.pow_zero] at this; omega
        | succ q => exact ⟨q, rfl⟩
      have t1 : decide (128 ≤ (M : Int)) = true := decide_eq_true (by omega)
      have hMl : M < 2 * (128 ^ k * 128) := by have := HM.out; rwa [Nat.pow_succ] at this
      obtain ⟨x, ex⟩ : ∃ x, M % 128 + 128 = x := ⟨_, rfl⟩
      obtain ⟨M2, eM⟩ : ∃ x, M / 128 = x := ⟨_, rfl⟩
      have HM2 : Hid (M2 < 2 * 128 ^ k) := Lib.hid (by omega)
      have hV2 : (o ++ [x]) ++ vbk k M2 = F := by rw [← HV.out, vbk_big hlt, ex, eM, List.append_assoc]; rfl
      have HV2 := Lib.hid hV2
      have k1 : IntKind.u64.wrap ((M : Int) % 128) = (M : Int) % 128 := by rw [IntKind.wrap_u64]; omega
      have k2 : IntKind.u64.wrap ((M : Int) % 128 + 128) = (x : Int) := by rw [IntKind.wrap_u64]; omega
      have k3 : IntKind.u8.wrap (x : Int) = (x : Int) := by rw [IntKind.wrap_u8]; omega
      have k4 : (M : Int) / 128 = (M2 : Int) := by omega
      have k5 : IntKind.u64.wrap (M2 : Int) = (M2 : Int) := by have := HM9.out; rw [b64_9] at this; rw [IntKind.wrap_u64]; omega
      have HM92 : Hid (M2 < 2 * 128 ^ 9) := Lib.hid (by have := HM9.out; omega)
      have HLT : Hid (M2 < M) := Lib.hid (by omega)
      have hmap : o.map encB ++ [.int .u8 (x : Int)] = (o ++ [x]).map encB := by rw [List.map_append]; rfl
      have HMP := Lib.hid hmap
      clear hmap hV2 HV HM hMl ex eM hlt
      go_wp2_with (at_builtin; refine wpList_append_lies _ rfl _ _ 22 rfl t 5 i0 (.int .u8 0) 1 1 Try.underlying22 hi hz0 hz1 hz2 rfl (by decide) _ i (o.map encB) rfl (HO2.out.alloc _) ⟨wr.heap.size, 0, none⟩ 1 1 [.int .u8 (x : Int)] rfl (by simp) (one_new _ _ _) (by simp [Value.oneCell']) (by omega) (by unfold maxLen; omega) (by omega) (by first | omega | (simp; omega)) _ rfl ?_; intro g2 cap2 w4 hown2 hgrow2 hat2 hlt2)
      have b2 : Below t w w4 := (HBL.out.alloc hts _).grown hgrow2 (by simp; omega) (fun q e => by injection (show some g = some q from e) with e1; omega)
      rw [HMP.out] at hown2
      go_roundw
      case rel => exact ⟨k, i + 1, M2, g2, cap2, o ++ [x], by have := HIK.out; omega, rfl, rfl, hown2, HV2, HM2, HM92, b2⟩
      case measure => have := HLT.out; simp [intOf]; omega

set_option maxRecDepth 100000 in
set_option maxHeartbeats 8000000 in
theorem rPut13_none {w : World} {A : Option Addr} {n c N : Nat} {l : List Nat} (hA : BR w A n c l) (hn : n ≤ 2000000) (hNs : N < 2 * 128 ^ 9) (hm : n = 0) :
    Calls Try.prog 16 #[.slice A n c, .int .u64 (N : Int)] w (GotNew w (l ++ vb N)) := by
  obtain ⟨i0, hi, hz0, hz1, hz2⟩ := info_parts infoB
  obtain ⟨t, ht⟩ : ∃ t, w.heap.size = t := ⟨_, rfl⟩
  have HT := Lib.hid ht
  have tw : t ≤ w.heap.size := by omega
  have hE : (w.alloc (.cells #[] 5)).ownsRow t 5 1 (.slice (some ⟨w.heap.size, 0, none⟩) 0 0) 0 ([] : List Value) := World.ownsRow_lit w #[] 0 tw (by unfold maxLen; omega) rfl
  have b0 : Below t w (w.alloc (.cells #[] 5)) := (Below.refl t w).alloc tw _
  have HE := Lib.hid hE
  have HB0 := Lib.hid b0
  have HNS := Lib.hid hNs
  obtain ⟨F, eF⟩ : ∃ F, l ++ vb N = F := ⟨_, rfl⟩
  have HF : Hid (l ++ vbk 9 N = F) := Lib.hid eF
  rw [eF]
  have bw := (Below.refl w.heap.size w).alloc (Nat.le_refl _) (.cells #[] 5)
  clear ht hE b0 eF
  have hl0 : l = [] := List.eq_nil_of_length_eq_zero (by rw [← hA.1]; exact hm)
  subst hm
  subst hl0
  clear hA bw
  go_enter Try.func16, Try.ntmps16
  go_wp2_with (at_builtin; refine wpList_append_zero _ rfl _ _ 22 rfl 5 i0 Try.underlying22 hi _ _ _ _ _ rfl rfl (by omega) ?_)
  go_loopw [5, 1] (fun ov nv wr => ∃ (k i M g cap : Nat) (o : List Nat), i + k ≤ 2000010 ∧ ov = .slice (some ⟨g, 0, none⟩) i cap ∧ nv = .int .u64 (M : Int) ∧ wr.ownsRow t 5 1 (.slice (some ⟨g, 0, none⟩) i cap) i (o.map encB) ∧ Hid (o ++ vbk k M = F) ∧ Hid (M < 2 * 128 ^ k) ∧ Hid (M < 2 * 128 ^ 9) ∧ Below t w wr) (fun _ nv _ => (intOf nv).toNat)
  case atStart => exact ⟨9, 0, N, w.heap.size, 0, [], by omega, rfl, rfl, HE.out, HF, HNS, HNS, HB0.out⟩
  case round =>
    obtain ⟨k, i, M, g, cap, o, hik, rfl, rfl, hO, HV, HM, HM9, hbl⟩ := hrel
    have hgt := (hO.lt g rfl).1
    have hts : t ≤ wr.heap.size := by have := hbl.size; have := HT.out; omega
    have HO2 := Lib.hid hO
    have HBL := Lib.hid hbl
    have HIK := Lib.hid hik
    have i2 : i ≤ 2000010 := by omega
    clear hO hik
    by_cases hlt : M < 128
    · have t1 : decide (128 ≤ (M : Int)) = false := decide_eq_false (by omega)
      have k1 : IntKind.u8.wrap (M : Int) = (M : Int) := by rw [IntKind.wrap_u8]; omega
      have hF : o.map encB ++ [.int .u8 (M : Int)] = F.map encB := by rw [← HV.out, vbk_small hlt, List.map_append]; rfl
      have HF2 := Lib.hid hF
      clear hF hlt HV HM
      go_wp2_with (at_builtin; refine wpList_append_lies _ rfl _ _ 22 rfl t 5 i0 (.int .u8 0) 1 1 Try.underlying22 hi hz0 hz1 hz2 rfl (by decide) _ i (o.map encB) rfl (HO2.out.alloc _) ⟨wr.heap.size, 0, none⟩ 1 1 [.int .u8 (M : Int)] rfl (by simp) (one_new _ _ _) (by simp [Value.oneCell']) (by omega) (by unfold maxLen; omega) (by omega) (by first | omega | (simp; omega)) _ rfl ?_; intro g2 cap2 w4 hown2 hgrow2 hat2 hlt2)
      have b2 : Below t w w4 := (HBL.out.alloc hts _).grown hgrow2 (by simp; omega) (fun q e => by injection (show some g = some q from e) with e1; omega)
      rw [HF2.out] at hown2
      rw [← HT.out] at b2 hown2
      go_ret
      exact ⟨g2, _, cap2, rfl, hown2, b2⟩
    · obtain ⟨k, rfl⟩ : ∃ q, k = q + 1 := by
        cases k with
        | zero => have := HM.out; rw [Nat.pow_zero] at this; omega
        | succ q => exact ⟨q, rfl⟩
      have t1 : decide (128 ≤ (M : Int)) = true := decide_eq_true (by omega)
      have hMl : M < 2 * (128 ^ k * 128) := by have := HM.out; rwa [Nat.pow_succ] at this
      obtain ⟨x, ex⟩ : ∃ x, M % 128 + 128 = x := ⟨_, rfl⟩
      obtain ⟨M2, eM⟩ : ∃ x, M / 128 = x := ⟨_, rfl⟩
      have HM2 : Hid (M2 < 2 * 128 ^ k) := Lib.hid (by omega)
      have hV2 : (o ++ [x]) ++ vbk k M2 = F := by rw [← HV.out, vbk_big hlt, ex, eM, List.append_assoc]; rfl
      have HV2 := Lib.hid hV2
      have k1 : IntKind.u64.wrap ((M : Int) % 128) = (M : Int) % 128 := by rw [IntKind.wrap_u64]; omega
      have k2 : IntKind.u64.wrap ((M : Int) % 128 + 128) = (x : Int) := by rw [IntKind.wrap_u64]; omega
      have k3 : IntKind.u8.wrap (x : Int) = (x : Int) := by rw [IntKind.wrap_u8]; omega
      have k4 : (M : Int) / 128 = (M2 : Int) := by omega
      have k5 : IntKind.u64.wrap (M2 : Int) = (M2 : Int) := by have := HM9.out; rw [b64_9] at this; rw [IntKind.wrap_u64]; omega
      have HM92 : Hid (M2 < 2 * 128 ^ 9) := Lib.hid (by have := HM9.out; omega)
      have HLT : Hid (M2 < M) := Lib.hid (by omega)
      have hmap : o.map encB ++ [.int .u8 (x : Int)] = (o ++ [x]).map encB := by rw [List.map_append]; rfl
      have HMP := Lib.hid hmap
      clear hmap hV2 HV HM hMl ex eM hlt
      go_wp2_with (at_builtin; refine wpList_append_lies _ rfl _ _ 22 rfl t 5 i0 (.int .u8 0) 1 1 Try.underlying22 hi hz0 hz1 hz2 rfl (by decide) _ i (o.map encB) rfl (HO2.out.alloc _) ⟨wr.heap.size, 0, none⟩ 1 1 [.int .u8 (x : Int)] rfl (by simp) (one_new _ _ _) (by simp [Value.oneCell']) (by omega) (by unfold maxLen; omega) (by omega) (by first | omega | (simp; omega)) _ rfl ?_; intro g2 cap2 w4 hown2 hgrow2 hat2 hlt2)
      have b2 : Below t w w4 := (HBL.out.alloc hts _).grown hgrow2 (by simp; omega) (fun q e => by injection (show some g = some q from e) with e1; omega)
      rw [HMP.out] at hown2
      go_roundw
      case rel => exact ⟨k, i + 1, M2, g2, cap2, o ++ [x], by have := HIK.out; omega, rfl, rfl, hown2, HV2, HM2, HM92, b2⟩
      case measure => have := HLT.out; simp [intOf]; omega

theorem rPut13_N {w : World} {A : Option Addr} {n c N : Nat} {l : List Nat} (hA : BR w A n c l) (hn : n ≤ 2000000) (hNs : N < 2 * 128 ^ 9) : Calls Try.prog 16 #[.slice A n c, .int .u64 (N : Int)] w (GotNew w (l ++ vb N)) := by
  rcases Nat.eq_zero_or_pos n with h | h
  · exact rPut13_none hA hn hNs h
  · exact rPut13_some hA hn hNs h

set_option maxRecDepth 100000 in
set_option maxHeartbeats 8000000 in
theorem rPutInt13_pos {w : World} {A : Option Addr} {n c : Nat} {l : List Nat} (hA : BR w A n c l) (hn : n ≤ 2000000) {z : Int} (hz : -9223372036854775808 ≤ z ∧ z ≤ 9223372036854775807) (h : 0 ≤ z) :
    Calls Try.prog 18 #[.slice A n c, .int .i64 z] w (GotNew w (l ++ vb (zig z))) := by
  have CP := rPut13_N hA hn (zig_lt hz)
  have hz2 : -9223372036854775808 ≤ z ∧ z ≤ 9223372036854775807 := hz
  have hg : (zig z : Int) = 2 * z := by unfold zig; split <;> omega
  generalize zig z = q at *
  have t1 : decide (0 ≤ z) = true := decide_eq_true (by omega)
  have k1 : IntKind.u64.wrap z = z := by rw [IntKind.wrap_u64]; omega
  have k2 : IntKind.u64.wrap (z * 2) = (q : Int) := by rw [IntKind.wrap_u64]; omega
  clear hz hz2 hg hn h
  go_enter Try.func18, Try.ntmps18
  go_wp2_with fail
  refine CP.mono ?_
  rintro e w1 ⟨g, q_, d, rfl, hO, b⟩
  go_wp2_with fail
  go_ret
  exact ⟨g, q_, d, rfl, hO, b⟩

set_option maxRecDepth 100000 in
set_option maxHeartbeats 8000000 in
theorem rPutInt13_neg {w : World} {A : Option Addr} {n c : Nat} {l : List Nat} (hA : BR w A n c l) (hn : n ≤ 2000000) {z : Int} (hz : -9223372036854775808 ≤ z ∧ z ≤ 9223372036854775807) (h : ¬ 0 ≤ z) :
    Calls Try.prog 18 #[.slice A n c, .int .i64 z] w (GotNew w (l ++ vb (zig z))) := by
  have CP := rPut13_N hA hn (zig_lt hz)
  have hz2 : -9223372036854775808 ≤ z ∧ z ≤ 9223372036854775807 := hz
  have hg : (zig z : Int) = 2 * (-(z + 1)) + 1 := by unfold zig; split <;> omega
  generalize zig z = q at *
  have t1 : decide (0 ≤ z) = false := decide_eq_false (by omega)
  obtain ⟨y, hy⟩ : ∃ y, z + 1 = y := ⟨_, rfl⟩
  have k1 : IntKind.i64.wrap (z + 1) = y := by rw [IntWalk.i64_in _ (by omega)]; exact hy
  obtain ⟨x, hx⟩ : ∃ x, -y = x := ⟨_, rfl⟩
  have k2 : IntKind.i64.wrap (-y) = x := by rw [IntWalk.i64_in _ (by omega)]; exact hx
  have k3 : IntKind.u64.wrap x = x := by rw [IntKind.wrap_u64]; omega
  obtain ⟨v, hv⟩ : ∃ v, x * 2 = v := ⟨_, rfl⟩
  have k4 : IntKind.u64.wrap (x * 2) = v := by rw [IntKind.wrap_u64]; omega
  have k5 : IntKind.u64.wrap (v + 1) = (q : Int) := by rw [IntKind.wrap_u64]; omega
  clear hy hx hv
  clear hz hz2 hg hn h
  go_enter Try.func18, Try.ntmps18
  go_wp2_with fail
  refine CP.mono ?_
  rintro e w1 ⟨g, q_, d, rfl, hO, b⟩
  go_wp2_with fail
  go_ret
  exact ⟨g, q_, d, rfl, hO, b⟩

theorem rPutInt13_N {w : World} {A : Option Addr} {n c : Nat} {l : List Nat} (hA : BR w A n c l) (hn : n ≤ 2000000) {z : Int} (hz : -9223372036854775808 ≤ z ∧ z ≤ 9223372036854775807) : Calls Try.prog 18 #[.slice A n c, .int .i64 z] w (GotNew w (l ++ vb (zig z))) := by
  by_cases h : 0 ≤ z
  · exact rPutInt13_pos hA hn hz h
  · exact rPutInt13_neg hA hn hz h

set_option maxRecDepth 100000 in
set_option maxHeartbeats 8000000 in
theorem rPutRow13_some {w : World} {A B : Option Addr} {n c m e_ : Nat} {l r : List Nat} (hA : BR w A n c l) (hn : n ≤ 2000000) (hB : BR w B m e_ r) (hm : m ≤ 2000000) (h0 : 0 < m) :
    Calls Try.prog 22 #[.slice A n c, .slice B m e_] w (GotNew w (l ++ (vb r.length ++ r))) := by
  have m64 : m < 2 * 128 ^ 9 := by rw [b64_9]; omega
  have CP := rPut13_N (N := m) hA hn m64
  have k1 : IntKind.u64.wrap (m : Int) = (m : Int) := by rw [IntKind.wrap_u64]; omega
  have HLN := Lib.hid hB.1
  have hvl := (vb_len m).2
  obtain ⟨i0, hi, hz0, hz1, hz2⟩ := info_parts infoB
  have hll := hA.1
  obtain ⟨F, eF⟩ : ∃ F, l ++ vb m = F := ⟨_, rfl⟩
  have hFl : F.length ≤ n + 10 := by rw [← eF, List.length_append]; omega
  have hres : l ++ (vb r.length ++ r) = F ++ r := by rw [← eF, ← hB.1, List.append_assoc]
  rw [hres]
  rw [eF] at CP
  clear m64 hres eF hvl hll hA
  obtain ⟨t, ht⟩ : ∃ t, w.heap.size = t := ⟨_, rfl⟩
  have HT := Lib.hid ht
  clear ht
  obtain ⟨bb, off, eB, hb0⟩ := hB.some h0
  subst eB
  have HL : Hid ((r.map encB).length = m * 1) := Lib.hid (by rw [List.length_map, ← hB.1]; omega)
  go_enter Try.func22, Try.ntmps22
  go_wp2_with fail
  refine CP.mono ?_
  rintro e w1 ⟨g, q, d, rfl, hO, b⟩
  have hq : q = F.length := by have := hO.1; simp at this; omega
  have q2 : q ≤ 2000010 := by omega
  have hgt := (hO.lt g rfl).1
  have hsz := b.size
  have HNW := Lib.hid (br_news hB b)
  rw [HT.out] at hO b hgt hsz
  have HO := Lib.hid hO
  have HB := Lib.hid b
  clear hB hO b hq hFl CP
  go_wp2_with (at_builtin; refine wpList_append_lies _ rfl _ _ 22 rfl t 5 i0 (.int .u8 0) 1 1 Try.underlying22 hi hz0 hz1 hz2 rfl (by decide) _ q (F.map encB) rfl HO.out ⟨bb, off, none⟩ m e_ (r.map encB) rfl HL.out HNW.out (fun u hu => by obtain ⟨x, _, rfl⟩ := List.mem_map.1 hu; rfl) (by omega) (by unfold maxLen; omega) (by omega) (by first | omega | (simp; omega)) _ rfl ?_; intro g2 cap2 w4 hown2 hgrow2 hat2 hlt2)
  have b2 : Below t w w4 := HB.out.grown hgrow2 (by omega) (fun q e => by injection (show some g = some q from e) with e1; omega)
  rw [← List.map_append] at hown2
  rw [← HT.out] at b2 hown2
  go_ret
  exact ⟨g2, _, cap2, rfl, hown2, b2⟩

set_option maxRecDepth 100000 in
set_option maxHeartbeats 8000000 in
theorem rPutRow13_none {w : World} {A B : Option Addr} {n c m e_ : Nat} {l r : List Nat} (hA : BR w A n c l) (hn : n ≤ 2000000) (hB : BR w B m e_ r) (hm : m ≤ 2000000) (h0 : m = 0) :
    Calls Try.prog 22 #[.slice A n c, .slice B m e_] w (GotNew w (l ++ (vb r.length ++ r))) := by
  have m64 : m < 2 * 128 ^ 9 := by rw [b64_9]; omega
  have CP := rPut13_N (N := m) hA hn m64
  have k1 : IntKind.u64.wrap (m : Int) = (m : Int) := by rw [IntKind.wrap_u64]; omega
  have HLN := Lib.hid hB.1
  have hvl := (vb_len m).2
  obtain ⟨i0, hi, hz0, hz1, hz2⟩ := info_parts infoB
  have hll := hA.1
  obtain ⟨F, eF⟩ : ∃ F, l ++ vb m = F := ⟨_, rfl⟩
  have hFl : F.length ≤ n + 10 := by rw [← eF, List.length_append]; omega
  have hres : l ++ (vb r.length ++ r) = F ++ r := by rw [← eF, ← hB.1, List.append_assoc]
  rw [hres]
  rw [eF] at CP
  have hFlt : ∀ x ∈ F, x < 256 := by rw [← eF]; intro x hx; rcases List.mem_append.1 hx with e | e; exact hA.2.2.1 x e; exact vb_lt m64 x e
  clear m64 hres eF hvl hll hA
  obtain ⟨t, ht⟩ : ∃ t, w.heap.size = t := ⟨_, rfl⟩
  have HT := Lib.hid ht
  clear ht
  have hr0 : r = [] := List.eq_nil_of_length_eq_zero (by rw [← hB.1]; exact h0)
  subst h0
  subst hr0
  go_enter Try.func22, Try.ntmps22
  go_wp2_with fail
  refine CP.mono ?_
  rintro e w1 ⟨g, q, d, rfl, hO, b⟩
  have hq : q = F.length := by have := hO.1; simp at this; omega
  have q2 : q ≤ 2000010 := by omega
  have hgt := (hO.lt g rfl).1
  have hsz := b.size
  have hqd : q ≤ d := (BR.of_own (base := w.heap.size) (e := 5) hO (hFlt)).2.1
  clear hB hq hFl CP hgt hsz
  go_wp2_with (at_builtin; refine wpList_append_zero _ rfl _ _ 22 rfl 5 i0 Try.underlying22 hi _ _ _ _ _ rfl rfl hqd ?_)
  go_ret
  exact ⟨g, q, d, rfl, by rw [List.append_nil]; exact hO, b⟩

theorem rPutRow13_N {w : World} {A B : Option Addr} {n c m e_ : Nat} {l r : List Nat} (hA : BR w A n c l) (hn : n ≤ 2000000) (hB : BR w B m e_ r) (hm : m ≤ 2000000) : Calls Try.prog 22 #[.slice A n c, .slice B m e_] w (GotNew w (l ++ (vb r.length ++ r))) := by
  rcases Nat.eq_zero_or_pos m with h | h
  · exact rPutRow13_none hA hn hB hm h
  · exact rPutRow13_some hA hn hB hm h

end Go.Proofs.Ytfdapcogkbddaaa

/-
  What the landed pack reads: the number of bytes, seven bits by seven, as 64 bits hold it; it is right where its own bytes are those.
-/
namespace Go.Proofs.Ytfdapcogkbddaaa

/-- The number of bytes, the lowest first. -/
def vs7 : List Nat → Nat
  | [] => 0
  | c :: r => c % 128 + 128 * vs7 r
theorem vs7_vbk : ∀ (k n : Nat), n < 2 * 128 ^ k → vs7 (vbk k n) = n
  | 0, n, h => by
    rw [Nat.pow_zero] at h
    show n % 128 + 128 * 0 = n
    omega
  | k + 1, n, h => by
    rw [Nat.pow_succ] at h
    unfold vbk
    split
    · show n % 128 + 128 * 0 = n
      omega
    · show (n % 128 + 128) % 128 + 128 * vs7 (vbk k (n / 128)) = n
      rw [vs7_vbk k (n / 128) (by omega)]
      omega
theorem vs7_snoc : ∀ (l : List Nat) (c : Nat), vs7 (l ++ [c]) = vs7 l + c % 128 * 128 ^ l.length
  | [], c => by
    show c % 128 + 128 * 0 = 0 + c % 128 * 128 ^ 0
    rw [Nat.pow_zero]; omega
  | d :: l, c => by
    show d % 128 + 128 * vs7 (l ++ [c]) = d % 128 + 128 * vs7 l + c % 128 * 128 ^ (l.length + 1)
    rw [vs7_snoc l c, Nat.pow_succ, Nat.mul_add, Nat.mul_comm (128 ^ l.length) 128, Nat.mul_left_comm 128, Nat.add_assoc]
theorem vs7_lt : ∀ (l : List Nat), vs7 l < 128 ^ l.length
  | [] => by show 0 < 128 ^ 0; decide
  | c :: r => by
    show c % 128 + 128 * vs7 r < 128 ^ (r.length + 1)
    have := vs7_lt r
    rw [Nat.pow_succ]
    omega
theorem vbk_high : ∀ (k n j : Nat), n < 2 * 128 ^ k → j + 1 < (vbk k n).length → 128 ≤ (vbk k n)[j]?.getD 0
  | 0, n, j, h, hj => by simp [vbk] at hj
  | k + 1, n, j, h, hj => by
    rw [Nat.pow_succ] at h
    unfold vbk at hj ⊢
    split at hj
    · simp at hj
    · rename_i hn
      rw [if_neg hn]
      cases j with
      | zero => show 128 ≤ n % 128 + 128; omega
      | succ j =>
        show 128 ≤ (vbk k (n / 128))[j]?.getD 0
        exact vbk_high k (n / 128) j (by omega) (by simp at hj; omega)
theorem vbk_end : ∀ (k n : Nat), n < 2 * 128 ^ k → (vbk k n)[(vbk k n).length - 1]?.getD 0 < 128
  | 0, n, h => by
    rw [Nat.pow_zero] at h
    show n < 128
    omega
  | k + 1, n, h => by
    rw [Nat.pow_succ] at h
    unfold vbk
    split
    · assumption
    · have ih := vbk_end k (n / 128) (by omega)
      have hl := (vbk_len k (n / 128)).1
      rw [List.length_cons, Nat.add_sub_cancel, show (vbk k (n / 128)).length = ((vbk k (n / 128)).length - 1) + 1 by omega]
      exact ih
/-- All bytes ahead say that one more comes. -/
def hgh (l : List Nat) (i : Nat) : Prop := ∀ j, j < i → 128 ≤ l[j]?.getD 0
theorem hgh_zero (l : List Nat) : hgh l 0 := fun j h => by omega
theorem hgh_succ {l : List Nat} {i : Nat} (h : hgh l i) (hc : 128 ≤ l[i]?.getD 0) : hgh l (i + 1) := fun j hj => by
  rcases Nat.lt_or_ge j i with e | e
  · exact h j e
  · have : j = i := by omega
    rw [this]; exact hc
theorem hgh_own {l r : List Nat} {n i : Nat} (hn : n < 2 * 128 ^ 9) (h : hgh l i) (hl : l = vb n ++ r) : i < (vb n).length := by
  rcases Nat.lt_or_ge i (vb n).length with e | e
  · exact e
  · have h1 := (vb_len n).1
    have h2 := h ((vb n).length - 1) (by omega)
    rw [hl, List.getElem?_append_left (by omega)] at h2
    have := vbk_end 9 n hn
    unfold vb at h2
    omega
theorem hgh_at {l r : List Nat} {n i : Nat} (hn : n < 2 * 128 ^ 9) (h : hgh l i) (hc : l[i]?.getD 0 < 128) (hl : l = vb n ++ r) : l.take (i + 1) = vb n := by
  have h1 := hgh_own hn h hl
  have h2 : i + 1 = (vb n).length := by
    rcases Nat.lt_or_ge (i + 1) (vb n).length with e | e
    · have := vbk_high 9 n i hn e
      rw [hl, List.getElem?_append_left (by omega)] at hc
      unfold vb at hc
      omega
    · omega
  rw [hl, h2, List.take_left]
/-- The bytes are a number's own. -/
theorem num_hit {l : List Nat} {n i : Nat} (hn : n < 2 * 128 ^ 9) (hi : i < l.length) (h : vb n = l.take (i + 1)) : tkN l = n ∧ tkR l = l.drop (i + 1) ∧ tkE l = 0 ∧ (vb (tkN l)).length = i + 1 := by
  have e : l = vb n ++ l.drop (i + 1) := by rw [h, List.take_append_drop]
  obtain ⟨h1, h2, h3⟩ := vb_take (l.drop (i + 1)) hn
  rw [← e] at h1 h2 h3
  refine ⟨h1, h2, h3, ?_⟩
  rw [h1, h, List.length_take]
  omega
theorem num_miss {l : List Nat} {i : Nat} (hl : ∀ c ∈ l, c < 256) (hg : hgh l i) (hc : l[i]?.getD 0 < 128) (h : ¬ vb (vs7 (l.take (i + 1)) % 18446744073709551616) = l.take (i + 1)) : tkN l = 0 ∧ tkR l = [] ∧ tkE l = 3 := by
  rcases tk_ways hl with ⟨h1, h2, h3, _⟩ | ⟨h1, h2, _⟩
  · exact ⟨h1, h2, h3⟩
  · exfalso
    have h4 := hgh_at h2 hg hc h1
    apply h
    rw [h4]
    have h5 : vs7 (vb (tkN l)) = tkN l := vs7_vbk 9 _ h2
    rw [h5, Nat.mod_eq_of_lt (by rw [← b64_9]; exact h2)]
theorem num_none {l : List Nat} {i : Nat} (hl : ∀ c ∈ l, c < 256) (hg : hgh l i) (hi : i = l.length ∨ i = 10) : tkN l = 0 ∧ tkR l = [] ∧ tkE l = 3 := by
  rcases tk_ways hl with ⟨h1, h2, h3, _⟩ | ⟨h1, h2, _⟩
  · exact ⟨h1, h2, h3⟩
  · exfalso
    have h4 := hgh_own h2 hg h1
    have h5 := (vb_len (tkN l)).2
    have h6 := congrArg List.length h1
    rw [List.length_append] at h6
    omega
theorem pow_7 : ∀ i : Nat, (128 : Nat) ^ i = 2 ^ (7 * i)
  | 0 => rfl
  | i + 1 => by rw [Nat.pow_succ, pow_7 i, Nat.mul_add, Nat.pow_add]
/-- The next seven bits are put ahead of those there are. -/
theorem or_next {N c i : Nat} (hN : N < 128 ^ i) (hi : i ≤ 9) : N ||| (c % 128 * 2 ^ (7 * i)) % 18446744073709551616 = (N + c % 128 * 128 ^ i) % 18446744073709551616 := by
  rw [pow_7] at hN ⊢
  have key : ∀ x, N ||| x * 2 ^ (7 * i) = N + x * 2 ^ (7 * i) := fun x => by
    rw [Nat.or_comm, Nat.mul_comm, ← Nat.two_pow_add_eq_or_of_lt hN, Nat.add_comm]
  rcases Nat.lt_or_ge i 9 with h | h
  · have h1 : 2 ^ (7 * i) * 128 ≤ 9223372036854775808 := by
      have : 2 ^ (7 * i + 7) ≤ 2 ^ 63 := Nat.pow_le_pow_right (by omega) (by omega)
      rwa [Nat.pow_add] at this
    have h3 : c % 128 ≤ 127 := by omega
    generalize c % 128 = x at *
    generalize 2 ^ (7 * i) = P at *
    have h2 : x * P ≤ 127 * P := Nat.mul_le_mul_right _ h3
    rw [Nat.mod_eq_of_lt (show x * P < 18446744073709551616 by omega), key, Nat.mod_eq_of_lt (show N + x * P < 18446744073709551616 by omega)]
  · have h9 : i = 9 := by omega
    subst h9
    have h1 : c % 128 * 2 ^ (7 * 9) % 18446744073709551616 = c % 2 * 2 ^ (7 * 9) := by omega
    rw [h1, key]
    omega
theorem vs7_next {l : List Nat} {i : Nat} (hi : i < l.length) : vs7 (l.take (i + 1)) = vs7 (l.take i) + (l[i]?.getD 0) % 128 * 128 ^ i := by
  rw [List.take_add_one, List.getElem?_eq_getElem hi]
  show vs7 (l.take i ++ [l[i]]) = _
  rw [vs7_snoc, List.length_take, Nat.min_eq_left (by omega)]
  rfl
theorem vs7_take_lt (l : List Nat) {i : Nat} : vs7 (l.take i) < 128 ^ i := by
  refine Nat.lt_of_lt_of_le (vs7_lt _) ?_
  exact Nat.pow_le_pow_right (by omega) (by rw [List.length_take]; omega)
/-- How many bytes the number has. -/
def tkL (l : List Nat) : Nat := if tkE l = 0 then (vb (tkN l)).length else 0
theorem tkL_drop {l : List Nat} (hl : ∀ c ∈ l, c < 256) (h : tkE l = 0) : l.drop (tkL l) = tkR l ∧ tkL l ≤ l.length := by
  unfold tkL
  rw [if_pos h]
  rcases tk_ways hl with ⟨_, _, h3, _⟩ | ⟨h1, h2, _⟩
  · omega
  · have h6 := congrArg List.length h1
    rw [List.length_append] at h6
    refine ⟨?_, by omega⟩
    have := congrArg (List.drop (vb (tkN l)).length) h1
    rw [List.drop_left] at this
    exact this
/-- All bits of an integer turned. -/
theorem i64_turn (z : Int) (h : -9223372036854775808 ≤ z ∧ z ≤ 9223372036854775807) : bits .xor .i64 (-1) z = -1 - z := by
  show IntKind.i64.wrap ((BitVec.ofInt 64 (-1) ^^^ BitVec.ofInt 64 z).toNat : Int) = _
  have h1 : BitVec.ofInt 64 (-1) = BitVec.allOnes 64 := by decide
  rw [h1, BitVec.allOnes_xor, BitVec.toNat_not, BitVec.toNat_ofInt]
  simp [IntKind.wrap, IntKind.bits, IntKind.signed]
  omega
end Go.Proofs.Ytfdapcogkbddaaa

/-
  The contracts of the library's Equal, Clone, Grow and Concat, of rows of bytes.
-/
namespace Go.Proofs.Ytfdapcogkbddaaa
set_option maxRecDepth 100000
open Go.RowKit
set_option linter.unusedVariables false
set_option linter.unusedSimpArgs false

/-- The string of a row of bytes. -/
def strB (l : List Nat) : ByteArray := ⟨(l.map UInt8.ofNat).toArray⟩
theorem strB_inj {l r : List Nat} (hl : ∀ c ∈ l, c < 256) (hr : ∀ c ∈ r, c < 256) : strB l = strB r ↔ l = r := by
  refine ⟨fun h => ?_, fun h => by rw [h]⟩
  have h1 : (l.map UInt8.ofNat).toArray = (r.map UInt8.ofNat).toArray := congrArg ByteArray.data h
  have h2 : l.map UInt8.ofNat = r.map UInt8.ofNat := by injection h1
  have back : ∀ x : List Nat, (∀ c ∈ x, c < 256) → (x.map UInt8.ofNat).map UInt8.toNat = x := by
    intro x hx
    rw [List.map_map]
    calc x.map (UInt8.toNat ∘ UInt8.ofNat) = x.map id := List.map_congr_left (fun c hc => by
            show (UInt8.ofNat c).toNat = c
            rw [UInt8.toNat_ofNat']
            exact Nat.mod_eq_of_lt (hx c hc))
      _ = x := List.map_id x
  rw [← back l hl, ← back r hr, h2]
theorem strB_beq {l r : List Nat} (hl : ∀ c ∈ l, c < 256) (hr : ∀ c ∈ r, c < 256) : ((strB l).toList == (strB r).toList) = decide (l = r) := by
  rw [ByteArray.toList_eq, ByteArray.toList_eq]
  have h := strB_inj hl hr
  by_cases e : l = r
  · rw [decide_eq_true e, e]
    exact beq_self_eq_true _
  · rw [decide_eq_false e]
    refine beq_eq_false_iff_ne.2 (fun h2 => e (h.1 ?_))
    have h3 : (strB l).data = (strB r).data := Array.toList_inj.1 h2
    exact congrArg ByteArray.mk h3
theorem conv_br {w : World} {A : Option Addr} {n c : Nat} {l : List Nat} (h : BR w A n c l) : (convert 22 9 (.slice A n c)).run Try.prog w = .ok (.string (strB l)) w := by
  have hn := h.1
  rcases Nat.eq_zero_or_pos n with h0 | h0
  · have hl : l = [] := List.eq_nil_of_length_eq_zero (by omega)
    subst hl
    subst h0
    rcases A with _ | a
    · exact run_convert_bytes_nil (P := Try.prog) w 22 5 Try.underlying22 Try.underlying5 0 c 9 Try.underlying9
    · exact run_convert_bytes_back (P := Try.prog) w 22 9 5 a c [] Try.underlying22 Try.underlying5 Try.underlying9 (fun j hj => by simp at hj)
  · obtain ⟨bb, off, rfl, _⟩ := h.some h0
    have hc := run_convert_bytes_back (P := Try.prog) w 22 9 5 ⟨bb, off, none⟩ c (l.map UInt8.ofNat) Try.underlying22 Try.underlying5 Try.underlying9 (fun j hj => by
      rw [List.length_map] at hj
      rw [addr_add, h.cell (by omega), List.getElem_map, List.getElem?_eq_getElem hj]
      show some (Value.int .u8 ((l[j] : Nat) : Int)) = some (Value.int .u8 ((UInt8.ofNat l[j]).toNat : Int))
      rw [UInt8.toNat_ofNat', Nat.mod_eq_of_lt (h.2.2.1 _ (List.getElem_mem hj))])
    rw [List.length_map, ← hn] at hc
    exact hc

set_option maxRecDepth 100000 in
set_option maxHeartbeats 4000000 in
theorem bEqual_N {w : World} {A B : Option Addr} {n c m d : Nat} {l r : List Nat} (hA : BR w A n c l) (hB : BR w B m d r) :
    Calls Try.prog 33 #[.slice A n c, .slice B m d] w (GotV w (.bool (decide (l = r)))) := by
  have h1 := conv_br hA
  have h2 := conv_br hB
  have h3 : Hid (((strB l).toList == (strB r).toList) = decide (l = r)) := Lib.hid (strB_beq hA.2.2.1 hB.2.2.1)
  clear hA hB
  generalize strB l = S at *
  generalize strB r = T at *
  have cc := Below.refl w.heap.size w
  go_enter Try.func33, Try.ntmps33
  go_wp2_with fail

  go_ret
  exact ⟨by rw [← h3.out]; rfl, cc⟩

set_option maxRecDepth 100000 in
set_option maxHeartbeats 4000000 in
theorem bClone_N {w : World} {A : Option Addr} {n c : Nat} {l : List Nat} (hA : BR w A n c l) (hn : n ≤ 4000000) :
    Calls Try.prog 32 #[.slice A n c] w (GotB w l) := by
  obtain ⟨i0, hi, hz0, hz1, hz2⟩ := info_parts infoB
  have hc8 := hA.2.2.1
  have hll := hA.1
  have cc := Below.refl w.heap.size w
  rcases A with _ | a
  · have h0 : n = 0 := by
      rcases Nat.eq_zero_or_pos n with e | e
      · exact e
      · obtain ⟨_, _, e2, _⟩ := hA.some e; cases e2
    have hl0 : l = [] := List.eq_nil_of_length_eq_zero (by omega)
    subst hl0
    subst h0
    clear hA hll hn
    have hnl := fun W => Lib.run_eql_slice_nil (P := Try.prog) W 22 5 none 0 c 0 0 Try.underlying22
    simp only [Option.isNone_none] at hnl
    go_enter Try.func32, Try.ntmps32
    go_wp2_with fail
    go_ret
    exact ⟨_, _, _, rfl, BR.nil _ _ _, cc⟩
  · have hnl := fun W => Lib.run_eql_slice_nil (P := Try.prog) W 22 5 (some a) n c 0 0 Try.underlying22
    simp only [Option.isNone_some] at hnl
    have hE : (w.alloc (.cells #[] 5)).ownsRow w.heap.size 5 1 (.slice (some ⟨w.heap.size, 0, none⟩) 0 0) 0 ([] : List Value) := World.ownsRow_lit w #[] 0 (Nat.le_refl _) (by unfold maxLen; omega) rfl
    have b0 : Below w.heap.size w (w.alloc (.cells #[] 5)) := (Below.refl _ w).alloc (Nat.le_refl _) _
    have HE := Lib.hid hE
    have HB0 := Lib.hid b0
    clear hE
    rcases Nat.eq_zero_or_pos n with h0 | h0
    · have hl0 : l = [] := List.eq_nil_of_length_eq_zero (by omega)
      subst hl0
      subst h0
      clear hA hll hn b0
      go_enter Try.func32, Try.ntmps32
      go_wp2_with (at_builtin; refine wpList_append_zero _ rfl _ _ 22 rfl 5 i0 Try.underlying22 hi _ _ _ _ _ rfl rfl (by omega) ?_)
      go_ret
      exact ⟨_, _, _, rfl, BR.nil _ _ _, HB0.out⟩
    · obtain ⟨bb, off, eA, hb0⟩ := hA.some h0
      injection eA with eA
      subst eA
      have HL : Hid ((l.map encB).length = n * 1) := Lib.hid (by rw [List.length_map, ← hA.1]; omega)
      have HNW := Lib.hid (br_news hA b0)
      have H8 := Lib.hid hc8
      clear hA hb0 hll b0 hc8
      go_enter Try.func32, Try.ntmps32
      go_wp2_with (at_builtin; refine wpList_append_lies _ rfl _ _ 22 rfl w.heap.size 5 i0 (.int .u8 0) 1 1 Try.underlying22 hi hz0 hz1 hz2 rfl (by decide) _ 0 [] rfl HE.out ⟨bb, off, none⟩ n c (l.map encB) rfl HL.out HNW.out (fun u hu => by obtain ⟨x, _, rfl⟩ := List.mem_map.1 hu; rfl) (by omega) (by unfold maxLen; omega) (by omega) (by first | omega | (simp <;> omega)) _ rfl ?_; intro g1 cap1 w3 hown1 hgrow1 hat1 hlt1)
      have b1 : Below w.heap.size w w3 := HB0.out.grown hgrow1 (by simp) (fun q e => by injection (show some w.heap.size = some q from e) with e1; omega)
      rw [List.nil_append] at hown1
      rw [Nat.zero_add] at hown1
      go_ret
      exact ⟨_, _, _, by first | rfl | simp, BR.of_own hown1 H8.out, b1⟩

set_option maxHeartbeats 2000000 in
theorem growB_nil (n : Nat) (w : World) (h0 : 0 < n) (hn : n ≤ 2147483648) :
    Calls Try.prog 34 #[.slice none 0 0, .int .i64 (n : Int)] w fun e w' => ∃ cap, e = .returned (.slice (some ⟨w.heap.size, 0, none⟩) 0 cap) ∧ w'.ownsRow w.heap.size 5 1 (.slice (some ⟨w.heap.size, 0, none⟩) 0 cap) 0 [] ∧ Below w.heap.size w w' := by
  obtain ⟨i0, hi, hz0, hz1, hz2⟩ := info_parts infoB
  have hold : (Builtin.firstCells i0.size 0 (.slice none 0 0)).run Try.prog w.drew = .ok ([] : List Value).toArray w.drew := run_firstCells_none w.drew i0.size 0 0 0
  have hrz := fun ty => Lib.run_append_grow_zeros (P := Try.prog) w 22 3 ty 5 i0 (.int .u8 0) .i64 .i64 Try.underlying22 Try.underlying3 hi hz0 none 0 0 [] hold n h0 (by omega) (by omega) (by omega) (by rw [hz2]; omega) (growslice_fits (by omega) (by rw [hz2]; omega))
  obtain ⟨G, hG⟩ : ∃ G, G = grownCap w (0 + n) 0 5 := ⟨_, rfl⟩
  rw [← hG] at hrz
  have hGn : n ≤ G := by rw [hG]; have := grownCap_ge w (0 + n) 0 5; omega
  have hG63 : G ≤ maxLen := by
    rw [hG]; exact grownCap_le_maxLen w (0 + n) 0 5 (by unfold maxLen; omega)
  have hown : ∀ cur : Array Value, cur.size = G * 1 → (w.drew.alloc (.cells cur 5)).ownsRow w.heap.size 5 1 (.slice (some ⟨w.heap.size, 0, none⟩) 0 G) 0 [] := fun cur hc => World.ownsRow_made w.drew cur G (Nat.le_refl _) hG63 hc
  have HOW := Lib.hid hown
  have HG := Lib.hid hG63
  have HGG := Lib.hid hG
  have hG1 : G ≤ 9223372036854775807 := by unfold maxLen at hG63; omega
  clear hold hown hG63 hG
  go_enter Try.func34, Try.ntmps34
  go_wp2_with (at_builtin; refine Lib.wpList_append_run _ rfl _ _ _ _ rfl _ _ rfl rfl _ _ (hrz _) ?_)
  go_ret
  refine ⟨G, rfl, HOW.out _ ?_, below_drewN ((Below.refl _ w)) 1 |>.alloc (Nat.le_refl _) _⟩
  simp [size_zeroCells]
  omega

/-- Rows one behind the other. -/
def jn (G : Nat → List Nat) : Nat → List Nat
  | 0 => []
  | i + 1 => jn G i ++ G i
theorem jn_le (G : Nat → List Nat) {i k : Nat} (h : i ≤ k) : (jn G i).length ≤ (jn G k).length := by
  induction k with
  | zero => have : i = 0 := by omega
            rw [this]; exact Nat.le_refl _
  | succ k ih =>
    rcases Nat.lt_or_ge i (k + 1) with e | e
    · refine Nat.le_trans (ih (by omega)) ?_
      show _ ≤ (jn G k ++ G k).length
      rw [List.length_append]; omega
    · have : i = k + 1 := by omega
      rw [this]; exact Nat.le_refl _
set_option maxRecDepth 100000 in
set_option maxHeartbeats 8000000 in
theorem concatB_N {w : World} {s k : Nat} {A : Nat → Option Addr} {n c : Nat → Nat} {G : Nat → List Nat} (hR : ∀ j, j < k → w.cell? ⟨s, j, none⟩ = some (.slice (A j) (n j) (c j)) ∧ BR w (A j) (n j) (c j) (G j)) (hs : s < w.heap.size) (hk : k ≤ 100) (ht : (jn G k).length ≤ 5000000) (h0 : 0 < (jn G k).length) :
    Calls Try.prog 27 #[.slice (some ⟨s, 0, none⟩) k k] w (GotNew w (jn G k)) := by
  obtain ⟨i0, hi, hz0, hz1, hz2⟩ := info_parts infoB
  have HK := Lib.hid hk
  have HT := Lib.hid ht
  have HR := Lib.hid hR
  have H0 := Lib.hid h0
  have kl : k ≤ 9223372036854775807 := by omega
  clear hk ht hR h0
  go_enter Try.func27, Try.ntmps27
  go_wp2_with fail
  go_loop [3, 11] (fun sv iv => ∃ i, i ≤ k ∧ iv = .int .i64 (i : Int) ∧ sv = .int .i64 (((jn G i).length : Nat) : Int)) (fun _ iv => k - (intOf iv).toNat)
  case atStart => exact ⟨0, by omega, rfl, rfl⟩
  case round =>
    obtain ⟨i, hik, rfl, rfl⟩ := hrel
    have hk := HK.out
    by_cases hlt : i < k
    · obtain ⟨hc, hb⟩ := HR.out i hlt
      have h1 := jn_le G (i := i + 1) (k := k) (by omega)
      have h2 : (jn G (i + 1)).length = (jn G i).length + n i := by rw [hb.1]; exact List.length_append
      have h3 := HT.out
      obtain ⟨x, hx⟩ : ∃ x, (jn G i).length = x := ⟨_, rfl⟩
      obtain ⟨y, hy⟩ : ∃ y, (jn G (i + 1)).length = y := ⟨_, rfl⟩
      rw [hx] at h2 ⊢
      rw [hy] at h1 h2
      have k1 : IntKind.i64.wrap ((x : Int) + (n i : Int)) = (y : Int) := by rw [IntWalk.i64_in _ (by omega)]; omega
      have k3 : IntKind.i64.wrap ((i : Int) + 1) = ((i + 1 : Nat) : Int) := by rw [IntWalk.i64_in _ (by omega)]; omega
      have t1 : decide ((y : Int) < 0) = false := decide_eq_false (by omega)
      have HY := Lib.hid hy
      clear h1 h2 h3 hy hx hb
      go_wp2_with fail
      go_round
      case rel => exact ⟨i + 1, by omega, by go_num, by rw [HY.out]⟩
      case measure => simp [intOf] <;> omega
    · obtain rfl : i = k := by omega
      have h3 := HT.out
      have h4 := H0.out
      obtain ⟨x, hx⟩ : ∃ x, (jn G i).length = x := ⟨_, rfl⟩
      rw [hx] at h3 h4 ⊢
      have CG := growB_nil x w h4 (by omega)
      clear hx
      go_wp2_with fail
      refine (CG).mono ?_
      rintro e w1 ⟨cap, rfl, hown1, hb1⟩
      clear CG h3 h4
      go_wp2_with fail
      go_loopw [6, 27] (fun ov iv wr => ∃ (j g m cp : Nat), j ≤ i ∧ Hid (m = (jn G j).length) ∧ iv = .int .i64 (j : Int) ∧ ov = .slice (some ⟨g, 0, none⟩) m cp ∧ wr.ownsRow w.heap.size 5 1 (.slice (some ⟨g, 0, none⟩) m cp) m ((jn G j).map encB) ∧ Below w.heap.size w wr) (fun _ iv _ => i - (intOf iv).toNat)
      case atStart => exact ⟨0, _, 0, _, by omega, Lib.hid rfl, rfl, rfl, hown1, hb1⟩
      case round =>
        clear hown1 hb1
        obtain ⟨j, g, m, cp, hj, hm, rfl, rfl, hown, hbl⟩ := hrel
        have HO := Lib.hid hown
        have HBL := Lib.hid hbl
        clear hown
        by_cases hlt : j < i
        · obtain ⟨hc0, hb⟩ := HR.out j hlt
          have hc := cK hbl hc0 hs
          replace hb := hb.on hbl
          have h1 := jn_le G (i := j + 1) (k := i) (by omega)
          have h2 : (jn G (j + 1)).length = (jn G j).length + n j := by rw [hb.1]; exact List.length_append
          have h3 := HT.out
          rw [← hm.out] at h2
          have k3 : IntKind.i64.wrap ((j : Int) + 1) = ((j + 1 : Nat) : Int) := by rw [IntWalk.i64_in _ (by omega)]; omega
          have hmc : m ≤ cp := by
            rcases HO.out.2 with ⟨e1, e0⟩ | ⟨g', cap', cur, e1, _, _, hnc, _⟩
            · cases e1
            · injection e1 with _ _ e2; omega
          have hg0 := (HO.out.lt g rfl).1
          rcases Nat.eq_zero_or_pos (n j) with e0 | e0
          · have hG0 : G j = [] := List.eq_nil_of_length_eq_zero (by rw [← hb.1]; exact e0)
            have hJ : jn G (j + 1) = jn G j := by show jn G j ++ G j = _; rw [hG0, List.append_nil]
            rw [e0] at hc
            clear hb h1 h2 h3 hG0 e0 hbl hc0
            go_wp2_with (at_builtin; refine wpList_append_zero _ rfl _ _ 22 rfl 5 i0 Try.underlying22 hi _ _ _ _ _ rfl rfl (by omega) ?_)
            go_roundw
            case rel => exact ⟨j + 1, g, m, cp, by omega, by rw [hJ]; exact hm, by go_num, rfl, by rw [hJ]; exact HO.out, HBL.out⟩
            case measure => simp [intOf] <;> omega
          · obtain ⟨bb, off, eA, hb0⟩ := hb.some e0
            rw [eA] at hc hb
            have HL : Hid (((G j).map encB).length = n j * 1) := Lib.hid (by rw [List.length_map, ← hb.1]; omega)
            have HNW := Lib.hid (br_news hb (Below.refl _ _))
            obtain ⟨u, hu⟩ : ∃ u, n j = u := ⟨_, rfl⟩
            rw [hu] at hc HL h2 e0
            obtain ⟨v, hv⟩ : ∃ v, c j = v := ⟨_, rfl⟩
            rw [hv] at hc
            have hmu : m + u ≤ 5000000 := by omega
            have hmU := Lib.hid (show m + u = (jn G (j + 1)).length by omega)
            have hwr := hbl.size
            clear hb h1 h2 h3 hbl hc0 hb0 eA hu hv
            go_wp2_with (at_builtin; refine wpList_append_lies _ rfl _ _ 22 rfl w.heap.size 5 i0 (.int .u8 0) 1 1 Try.underlying22 hi hz0 hz1 hz2 rfl (by decide) _ m ((jn G j).map encB) rfl HO.out ⟨bb, off, none⟩ u v ((G j).map encB) rfl HL.out HNW.out (fun u hu => by obtain ⟨x, _, rfl⟩ := List.mem_map.1 hu; rfl) (by omega) (by unfold maxLen; omega) (by omega) (by first | omega | (simp <;> omega)) _ rfl ?_; intro g1 cap1 w3 hown1 hgrow1 hat1 hlt1)
            have b1 : Below w.heap.size w w3 := HBL.out.grown hgrow1 hwr (fun q e => by injection (show some g = some q from e) with e1; omega)
            rw [← List.map_append] at hown1
            go_roundw
            case rel => exact ⟨j + 1, g1, m + u, cap1, by omega, hmU, by go_num, rfl, hown1, b1⟩
            case measure => simp [intOf] <;> omega
        · obtain rfl : j = i := by omega
          go_wp2_with fail
          go_ret
          exact ⟨g, m, cp, rfl, HO.out, HBL.out⟩
end Go.Proofs.Ytfdapcogkbddaaa

/-
  The contracts of the landed pack: laid, number.
-/
namespace Go.Proofs.Ytfdapcogkbddaaa
set_option maxRecDepth 100000
open Go.RowKit
set_option linter.unusedVariables false
set_option linter.unusedSimpArgs false

set_option maxRecDepth 100000 in
set_option maxHeartbeats 8000000 in
theorem laid_N {w : World} {N : Nat} (hNs : N < 2 * 128 ^ 9) :
    Calls Try.prog 28 #[.int .u64 (N : Int)] w (GotNew w (vb N)) := by
  obtain ⟨i0, hi, hz0, hz1, hz2⟩ := info_parts infoB
  obtain ⟨F, eF⟩ : ∃ F, vb N = F := ⟨_, rfl⟩
  have HF : Hid ([] ++ vbk 9 N = F) := Lib.hid eF
  have HNS := Lib.hid hNs
  rw [eF]
  clear eF hNs
  go_enter Try.func28, Try.ntmps28
  go_wp2_with fail
  go_loopw [3, 0] (fun ov nv wr => ∃ (k i M : Nat) (v : Value) (o : List Nat), i + k ≤ 9 ∧ ov = v ∧ nv = .int .u64 (M : Int) ∧ wr.ownsRow w.heap.size 5 1 v i (o.map encB) ∧ Hid (o ++ vbk k M = F) ∧ Hid (M < 2 * 128 ^ k) ∧ Hid (M < 2 * 128 ^ 9) ∧ Below w.heap.size w wr) (fun _ nv _ => (intOf nv).toNat)
  case atStart => exact ⟨9, 0, N, .slice none 0 0, [], by omega, rfl, rfl, World.ownsRow_nil _ _ _ _, HF, HNS, HNS, Below.refl _ _⟩
  case round =>
    obtain ⟨k, i, M, v, o, hik, rfl, rfl, hO, HV, HM, HM9, hbl⟩ := hrel
    have hts := hbl.size
    have HO2 := Lib.hid hO
    have HBL := Lib.hid hbl
    have HIK := Lib.hid hik
    have i2 : i ≤ 9 := by omega
    clear hO hik
    by_cases hlt : M < 128
    · have t1 : decide (128 ≤ (M : Int)) = false := decide_eq_false (by omega)
      have k1 : IntKind.u8.wrap (M : Int) = (M : Int) := by rw [IntKind.wrap_u8]; omega
      have hF : o.map encB ++ [.int .u8 (M : Int)] = F.map encB := by rw [← HV.out, vbk_small hlt, List.map_append]; rfl
      have HF2 := Lib.hid hF
      clear hF hlt HV HM hbl
      go_wp2_with (at_builtin; refine wpList_append_lies _ rfl _ _ 22 rfl w.heap.size 5 i0 (.int .u8 0) 1 1 Try.underlying22 hi hz0 hz1 hz2 rfl (by decide) _ i (o.map encB) rfl (HO2.out.alloc _) ⟨wr.heap.size, 0, none⟩ 1 1 [.int .u8 (M : Int)] rfl (by simp) (one_new _ _ _) (by simp [Value.oneCell']) (by omega) (by unfold maxLen; omega) (by omega) (by first | omega | (simp <;> omega)) _ rfl ?_; intro g2 cap2 w4 hown2 hgrow2 hat2 hlt2)
      have b2 : Below w.heap.size w w4 := (HBL.out.alloc hts _).grown hgrow2 (by simp; omega) (fun q e => (HO2.out.lt q e).1)
      rw [HF2.out] at hown2
      go_ret
      exact ⟨g2, _, cap2, rfl, hown2, b2⟩
    · obtain ⟨k, rfl⟩ : ∃ q, k = q + 1 := by
        cases k with
        | zero => have := HM.out; rw [Nat.pow_zero] at this; omega
        | succ q => exact ⟨q, rfl⟩
      have t1 : decide (128 ≤ (M : Int)) = true := decide_eq_true (by omega)
      have hMl : M < 2 * (128 ^ k * 128) := by have := HM.out; rwa [Nat.pow_succ] at this
      obtain ⟨x, ex⟩ : ∃ x, M % 128 + 128 = x := ⟨_, rfl⟩
      obtain ⟨M2, eM⟩ : ∃ x, M / 128 = x := ⟨_, rfl⟩
      have HM2 : Hid (M2 < 2 * 128 ^ k) := Lib.hid (by omega)
      have hV2 : (o ++ [x]) ++ vbk k M2 = F := by rw [← HV.out, vbk_big hlt, ex, eM, List.append_assoc]; rfl
      have HV2 := Lib.hid hV2
      have k1 : IntKind.u64.wrap ((M : Int) % 128) = (M : Int) % 128 := by rw [IntKind.wrap_u64]; omega
      have k2 : IntKind.u8.wrap ((M : Int) % 128) = (M : Int) % 128 := by rw [IntKind.wrap_u8]; omega
      have k3 : IntKind.u8.wrap ((M : Int) % 128 + 128) = (x : Int) := by rw [IntKind.wrap_u8]; omega
      have k4 : (M : Int) / 128 = (M2 : Int) := by omega
      have k5 : IntKind.u64.wrap (M2 : Int) = (M2 : Int) := by have := HM9.out; rw [b64_9] at this; rw [IntKind.wrap_u64]; omega
      have HM92 : Hid (M2 < 2 * 128 ^ 9) := Lib.hid (by have := HM9.out; omega)
      have HLT : Hid (M2 < M) := Lib.hid (by omega)
      have hmap : o.map encB ++ [.int .u8 (x : Int)] = (o ++ [x]).map encB := by rw [List.map_append]; rfl
      have HMP := Lib.hid hmap
      clear hmap hV2 HV HM hMl ex eM hlt hbl
      go_wp2_with (at_builtin; refine wpList_append_lies _ rfl _ _ 22 rfl w.heap.size 5 i0 (.int .u8 0) 1 1 Try.underlying22 hi hz0 hz1 hz2 rfl (by decide) _ i (o.map encB) rfl (HO2.out.alloc _) ⟨wr.heap.size, 0, none⟩ 1 1 [.int .u8 (x : Int)] rfl (by simp) (one_new _ _ _) (by simp [Value.oneCell']) (by omega) (by unfold maxLen; omega) (by omega) (by first | omega | (simp <;> omega)) _ rfl ?_; intro g2 cap2 w4 hown2 hgrow2 hat2 hlt2)
      have b2 : Below w.heap.size w w4 := (HBL.out.alloc hts _).grown hgrow2 (by simp; omega) (fun q e => (HO2.out.lt q e).1)
      rw [HMP.out] at hown2
      go_roundw
      case rel => exact ⟨k, i + 1, M2, _, o ++ [x], by have := HIK.out; omega, rfl, rfl, hown2, HV2, HM2, HM92, b2⟩
      case measure => have := HLT.out; simp [intOf]; omega

/-- A number, how many bytes it has, and a code are answered. -/
def GotNm (w : World) (v : Value) (m : Nat) (E : Int) (e : Ending) (w' : World) : Prop := e = .returned (.tuple #[v, .int .i64 (m : Int), .int .i64 E]) ∧ Below w.heap.size w w'
set_option maxRecDepth 100000 in
set_option maxHeartbeats 8000000 in
theorem number_N {w : World} {A : Option Addr} {n c : Nat} {l : List Nat} (hA : BR w A n c l) (hn : n ≤ 4000000) :
    Calls Try.prog 24 #[.slice A n c] w (GotNm w (.int .u64 ((tkN l : Nat) : Int)) (tkL l) (tkE l)) := by
  obtain ⟨m, hm⟩ : ∃ m, m = min n 10 := ⟨_, rfl⟩
  have hmn : m ≤ n := by omega
  have hm10 : m ≤ 10 := by omega
  have HMX : Hid (m = n ∨ m = 10) := Lib.hid (by omega)
  have hmin : ∀ (W : World) (ts : Array TypeId) (t : TypeId), (Builtin.min_ ts t #[.int .i64 (n : Int), .int .i64 10]).run Try.prog W = .ok (.int .i64 (m : Int)) W := by
    intro W ts t
    rw [run_min_int2]
    congr 2
    rw [hm]
    split <;> omega
  have hnc := hA.2.1
  have j1 : (m : Int) ≤ (n : Int) := by omega
  have j2 : (m : Int) ≤ (c : Int) := by omega
  have j3 : (0 : Int) ≤ (m : Int) := by omega
  clear hm
  have HAV := Lib.hid hA
  have HN := Lib.hid hn
  have HMN := Lib.hid hmn
  have HM10 := Lib.hid hm10
  have nl : n ≤ 9223372036854775807 := by omega
  clear hA hn hmn hm10
  have cc := Below.refl w.heap.size w
  go_enter Try.func24, Try.ntmps24
  go_wp2_with fail
  go_loop [5, 14] (fun nv iv => ∃ i : Nat, i ≤ m ∧ iv = .int .i64 (i : Int) ∧ nv = .int .u64 ((vs7 (l.take i) % 18446744073709551616 : Nat) : Int) ∧ Hid (hgh l i)) (fun _ iv => m - (intOf iv).toNat)
  case atStart => exact ⟨0, by omega, rfl, rfl, Lib.hid (hgh_zero l)⟩
  case round =>
    obtain ⟨i, hi, rfl, rfl, hg⟩ := hrel
    have hA := HAV.out
    have hll := hA.1
    by_cases hlt : i < m
    · have hmn := HMN.out
      have hm10 := HM10.out
      have hin : i < n := by omega
      obtain ⟨bb, off, rfl, hb, hcell⟩ := hA.2.2.2 (by omega)
      have h1 := hcell i hin
      have hc6 := hA.at hin
      have hor := or_next (c := l[i]?.getD 0) (vs7_take_lt l (i := i)) (show i ≤ 9 by omega)
      rw [← vs7_next (show i < l.length by omega)] at hor
      have hNl : vs7 (l.take i) % 18446744073709551616 = vs7 (l.take i) := by
        refine Nat.mod_eq_of_lt (Nat.lt_of_lt_of_le (vs7_take_lt l) ?_)
        have : (128 : Nat) ^ i ≤ 128 ^ 9 := Nat.pow_le_pow_right (by omega) (by omega)
        have e9 : (128 : Nat) ^ 9 = 9223372036854775808 := by decide
        omega
      have hgs := fun h => hgh_succ hg.out (l := l) (i := i) h
      have hmi := fun h => num_miss (l := l) (i := i) hA.2.2.1 hg.out h
      have hhi := fun (N : Nat) (h : N < 2 * 128 ^ 9) (h2 : vb N = l.take (i + 1)) => num_hit h (show i < l.length by omega) h2
      have BT := hA.take (m := i + 1) (by omega)
      rw [hNl]
      obtain ⟨c0, hc0⟩ : ∃ c0, l[i]?.getD 0 = c0 := ⟨_, rfl⟩
      rw [hc0] at h1 hc6 hor hgs hmi
      obtain ⟨N, eN⟩ : ∃ N, vs7 (l.take i) = N := ⟨_, rfl⟩
      rw [eN] at hor ⊢
      obtain ⟨s, hs⟩ : ∃ s, 7 * i = s := ⟨_, rfl⟩
      rw [hs] at hor
      obtain ⟨y, hy⟩ : ∃ y, (c0 % 128 * 2 ^ s) % 18446744073709551616 = y := ⟨_, rfl⟩
      rw [hy] at hor
      have hyl : y < 18446744073709551616 := by rw [← hy]; exact Nat.mod_lt _ (by omega)
      have hNl2 : N < 18446744073709551616 := by rw [← eN, ← hNl]; exact Nat.mod_lt _ (by omega)
      obtain ⟨M, hM⟩ : ∃ M, vs7 (l.take (i + 1)) % 18446744073709551616 = M := ⟨_, rfl⟩
      rw [hM] at hor hmi
      have hMl : M < 18446744073709551616 := by rw [← hM]; exact Nat.mod_lt _ (by omega)
      have k0 : IntKind.u8.wrap ((c0 : Int) % 128) = (c0 : Int) % 128 := by rw [IntKind.wrap_u8]; omega
      have k1 : IntKind.u64.wrap ((c0 : Int) % 128) = (c0 : Int) % 128 := by rw [IntKind.wrap_u64]; omega
      have k2 : IntKind.i64.wrap (7 * (i : Int)) = (s : Int) := by rw [IntWalk.i64_in _ (by omega)]; omega
      have k3 : IntKind.i64.wrap ((i : Int) + 1) = ((i + 1 : Nat) : Int) := by rw [IntWalk.i64_in _ (by omega)]; omega
      have k4 : IntKind.u64.wrap ((c0 : Int) % 128 * 2 ^ s) = (y : Int) := by
        rw [IntKind.wrap_u64, ← hy]
        simp
      have k5 : bits .or .u64 (N : Int) (y : Int) = (M : Int) := by rw [u64_or_nat N y hNl2 hyl, hor]
      have hs64 : s ≤ 63 := by omega
      have him : (i : Int) < (m : Int) := by omega
      have HM := Lib.hid hM
      clear hcell hc0 hor hNl hs hy hyl hNl2 eN hM hll
      by_cases hc : 128 ≤ c0
      · have t1 : decide (128 ≤ (c0 : Int)) = true := decide_eq_true (by omega)
        have HG2 := Lib.hid (hgs hc)
        clear hgs hmi hhi BT hg hA hMl
        go_wp2_with fail
        go_round
        case rel => exact ⟨i + 1, by omega, by go_num, by rw [HM.out], HG2⟩
        case measure => simp [intOf] <;> omega
      · have t1 : decide (128 ≤ (c0 : Int)) = false := decide_eq_false (by omega)
        have CL := fun W => laid_N (w := W) (N := M) (by rw [b64_9]; exact hMl)
        have h8 := vb_lt (n := M) (by rw [b64_9]; exact hMl)
        have HMI := Lib.hid (hmi (by omega))
        have HHI := Lib.hid (hhi M (by rw [b64_9]; exact hMl))
        obtain ⟨i1, hi1⟩ : ∃ q, i + 1 = q := ⟨_, rfl⟩
        have ji0 : (0 : Int) ≤ (i1 : Int) := by omega
        have ji1 : (i1 : Int) ≤ (n : Int) := by omega
        have ji2 : (i1 : Int) ≤ (c : Int) := by omega
        have HI1 := Lib.hid hi1
        rw [hi1] at k3 HMI HHI BT
        obtain ⟨B, hBB⟩ : ∃ B, decide (vb M = l.take i1) = B := ⟨_, rfl⟩
        have CE : ∀ {W : World} {A' : Option Addr} {q d : Nat}, BR W A' q d (vb M) → BR W (some ⟨bb, off, none⟩) i1 c (l.take i1) → Calls Try.prog 33 #[.slice A' q d, .slice (some ⟨bb, off, none⟩) i1 c] W (GotV W (.bool B)) := by
          intro W A' q d h h'
          rw [← hBB]
          exact bEqual_N h h'
        have HBQ := Lib.hid hBB
        clear hgs hmi hhi hg hA hMl hi1 hBB
        go_wp2_with fail
        go_region_held3 (fun w' => True) (trivial)
          (first
            | (go_at_call 28; refine (CL _).mono ?_; rintro e w1 ⟨g, q, d, rfl, hO, b⟩; have hB := BR.of_own hO h8; have BT1 := BT.on (Below.trans (below_drewN (Below.refl _ w) 1) b); have cc1 := cc.trans ((Below.trans (below_drewN (Below.refl _ w) 1) b).mono cc.size); clear hO)
            | (go_at_call 33; refine (CE hB BT1).mono ?_; rintro e w2 ⟨rfl, b2⟩; have cc2 := cc1.trans (b2.mono cc1.size)))
        cases B with
        | true =>
          have hq := of_decide_eq_true HBQ.out
          go_wp2_with fail
          go_ret3
          obtain ⟨e1, _, e3, e4⟩ := HHI.out hq
          have e5 : tkL l = i1 := by unfold tkL; rw [if_pos e3, e4]
          exact ⟨by rw [e1, e3, e5]; rfl, cc2⟩
        | false =>
          have hq := of_decide_eq_false HBQ.out
          go_wp2_with fail
          go_ret3
          obtain ⟨e1, _, e3⟩ := HMI.out hq
          have e5 : tkL l = 0 := by unfold tkL; rw [if_neg (by omega)]
          exact ⟨by rw [e1, e3, e5]; rfl, cc2⟩
    · obtain rfl : i = m := by omega
      have hi1 : i = l.length ∨ i = 10 := by have := HMX.out; omega
      have HE := Lib.hid (num_none hA.2.2.1 hg.out hi1)
      clear hi1 hA hll
      go_wp2_with fail
      go_ret3
      obtain ⟨e1, _, e3⟩ := HE.out
      have e5 : tkL l = 0 := by unfold tkL; rw [if_neg (by omega)]
      exact ⟨by rw [e1, e3, e5]; rfl, cc⟩

end Go.Proofs.Ytfdapcogkbddaaa

/-
  The contracts of the landed pack: integer, taken.
-/
namespace Go.Proofs.Ytfdapcogkbddaaa
set_option maxRecDepth 100000
open Go.RowKit
set_option linter.unusedVariables false
set_option linter.unusedSimpArgs false

theorem br_dropG {w : World} {A : Option Addr} {n c m : Nat} {l : List Nat} (h : BR w A n c l) (hm : m ≤ n) : BR w (Option.map (fun x => x.add m) A) (n - m) (c - m) (l.drop m) := by
  rcases A with _ | a
  · have h0 : n = 0 := by
      rcases Nat.eq_zero_or_pos n with e | e
      · exact e
      · obtain ⟨_, _, e2, _⟩ := h.some e; cases e2
    have hl : l.drop m = [] := List.eq_nil_of_length_eq_zero (by rw [List.length_drop, ← h.1]; omega)
    rw [hl, show n - m = 0 by omega]
    exact BR.nil _ _ _
  · rcases Nat.eq_zero_or_pos n with e | e
    · have hl : l.drop m = [] := List.eq_nil_of_length_eq_zero (by rw [List.length_drop, ← h.1]; omega)
      rw [hl, show n - m = 0 by omega]
      exact BR.nil _ _ _
    · obtain ⟨bb, off, e2, _⟩ := h.some e
      injection e2 with e2
      subst e2
      show BR w (some (Addr.add ⟨bb, off, none⟩ m)) (n - m) (c - m) (l.drop m)
      rw [addr_add]
      exact br_drop h hm

set_option maxRecDepth 100000 in
set_option maxHeartbeats 8000000 in
theorem integer_even {w : World} {A : Option Addr} {n c : Nat} {l : List Nat} (hA : BR w A n c l) (hn : n ≤ 4000000) (hp : tkN l % 2 = 0) :
    Calls Try.prog 26 #[.slice A n c] w (GotNm w (.int .i64 (unz (tkN l))) (tkL l) (tkE l)) := by
  have CN := number_N hA hn
  have hl := tkN_lt hA.2.2.1
  obtain ⟨h, hh⟩ : ∃ h, tkN l / 2 = h := ⟨_, rfl⟩
  have hu : unz (tkN l) = ((h : Nat) : Int) := by unfold unz; rw [if_pos hp, hh]
  rw [hu]
  obtain ⟨a, ha⟩ : ∃ a, tkN l = a := ⟨_, rfl⟩
  rw [ha] at CN hl hp hh
  have k1 : IntKind.u64.wrap ((a : Int) / 2) = (h : Int) := by rw [IntKind.wrap_u64]; omega
  have k0 : (a : Int) / 2 = (h : Int) := by omega
  have k2 : IntKind.i64.wrap (h : Int) = (h : Int) := by rw [IntWalk.i64_in _ (by omega)]
  have k3 : IntKind.u64.wrap (h : Int) = (h : Int) := by rw [IntKind.wrap_u64]; omega
  have k4 : (a : Int) % 2 = 0 := by omega
  generalize tkL l = m at *
  generalize tkE l = E at *
  clear hl hp hh hu ha hn hA
  have cc := Below.refl w.heap.size w
  go_enter Try.func26, Try.ntmps26
  go_wp2_with fail
  refine (CN).mono ?_
  rintro e w1 ⟨rfl, b⟩
  replace cc := bK cc b
  clear b
  go_wp2_with fail
  go_ret3
  exact ⟨rfl, cc⟩

set_option maxRecDepth 100000 in
set_option maxHeartbeats 8000000 in
theorem integer_odd {w : World} {A : Option Addr} {n c : Nat} {l : List Nat} (hA : BR w A n c l) (hn : n ≤ 4000000) (hp : tkN l % 2 = 1) :
    Calls Try.prog 26 #[.slice A n c] w (GotNm w (.int .i64 (unz (tkN l))) (tkL l) (tkE l)) := by
  have CN := number_N hA hn
  have hl := tkN_lt hA.2.2.1
  obtain ⟨h, hh⟩ : ∃ h, tkN l / 2 = h := ⟨_, rfl⟩
  have hu : unz (tkN l) = -((h : Nat) : Int) - 1 := by unfold unz; rw [if_neg (by omega), hh]
  rw [hu]
  obtain ⟨a, ha⟩ : ∃ a, tkN l = a := ⟨_, rfl⟩
  rw [ha] at CN hl hp hh
  have k1 : IntKind.u64.wrap ((a : Int) / 2) = (h : Int) := by rw [IntKind.wrap_u64]; omega
  have k0 : (a : Int) / 2 = (h : Int) := by omega
  have k2 : IntKind.i64.wrap (h : Int) = (h : Int) := by rw [IntWalk.i64_in _ (by omega)]
  have k3 : IntKind.u64.wrap (h : Int) = (h : Int) := by rw [IntKind.wrap_u64]; omega
  have k4 : (a : Int) % 2 = 1 := by omega
  have k5 : bits .xor .i64 (-1) (h : Int) = -(h : Int) - 1 := by rw [i64_turn _ (by omega)]; omega
  generalize tkL l = m at *
  generalize tkE l = E at *
  clear hl hp hh hu ha hn hA
  have cc := Below.refl w.heap.size w
  go_enter Try.func26, Try.ntmps26
  go_wp2_with fail
  refine (CN).mono ?_
  rintro e w1 ⟨rfl, b⟩
  replace cc := bK cc b
  clear b
  go_wp2_with fail
  go_ret3
  exact ⟨rfl, cc⟩

theorem integer_N {w : World} {A : Option Addr} {n c : Nat} {l : List Nat} (hA : BR w A n c l) (hn : n ≤ 4000000) : Calls Try.prog 26 #[.slice A n c] w (GotNm w (.int .i64 (unz (tkN l))) (tkL l) (tkE l)) := by
  rcases Nat.mod_two_eq_zero_or_one (tkN l) with h | h
  · exact integer_even hA hn h
  · exact integer_odd hA hn h

set_option maxRecDepth 100000 in
set_option maxHeartbeats 8000000 in
theorem takenN_no {w : World} {A : Option Addr} {n c : Nat} {l : List Nat} (hA : BR w A n c l) (hn : n ≤ 4000000) (hE : tkE l ≠ 0) :
    Calls Try.prog 23 #[.slice A n c, .func (.func 24) #[] #[]] w (GotTk w (.int .u64 (((tkN l : Nat) : Int))) (tkR l) (tkE l)) := by
  have CN := number_N hA hn
  obtain ⟨e1, e2, e3⟩ : tkN l = 0 ∧ tkR l = [] ∧ tkE l = 3 := by
    rcases tk_ways hA.2.2.1 with h | h
    · exact ⟨h.1, h.2.1, h.2.2.1⟩
    · exact absurd h.2.2 hE
  rw [e3] at CN
  rw [e1, e2, e3]
  generalize tkL l = m at *
  clear e1 e2 e3 hE hn
  have cc := Below.refl w.heap.size w
  go_enter Try.func23, Try.ntmps23
  go_wp2_with fail
  refine (CN).mono ?_
  rintro e w1 ⟨rfl, b⟩
  replace cc := bK cc b
  clear b
  go_wp2_with fail
  go_ret3
  exact ⟨_, _, _, rfl, BR.nil _ _ _, cc⟩

set_option maxRecDepth 100000 in
set_option maxHeartbeats 8000000 in
theorem takenN_yes {w : World} {A : Option Addr} {n c : Nat} {l : List Nat} (hA : BR w A n c l) (hn : n ≤ 4000000) (hE : tkE l = 0) :
    Calls Try.prog 23 #[.slice A n c, .func (.func 24) #[] #[]] w (GotTk w (.int .u64 (((tkN l : Nat) : Int))) (tkR l) (tkE l)) := by
  have CN := number_N hA hn
  obtain ⟨hd, hm⟩ := tkL_drop hA.2.2.1 hE
  rw [hE] at CN
  rw [hE, ← hd]
  obtain ⟨x, hx⟩ : ∃ x, (((tkN l : Nat) : Int)) = x := ⟨_, rfl⟩
  rw [hx] at CN ⊢
  generalize tkL l = m at *
  have hnl := hA.1
  have hnc := hA.2.1
  have j0 : (0 : Int) ≤ (m : Int) := by omega
  have j1 : (m : Int) ≤ (n : Int) := by omega
  have j2 : (n : Int) ≤ (c : Int) := by omega
  have HM := Lib.hid (show m ≤ n by omega)
  have HN := Lib.hid hn
  have HL := Lib.hid hnl
  clear hE hd hm hx hn hnl hnc
  have cc := Below.refl w.heap.size w
  go_enter Try.func23, Try.ntmps23
  go_wp2_with fail
  refine (CN).mono ?_
  rintro e w1 ⟨rfl, b⟩
  replace cc := bK cc b
  have HA := Lib.hid (hA.on b)
  clear b hA
  go_wp2_with fail
  · refine (bClone_N (br_end HL.out (by omega)) (by have := HN.out; omega)).mono ?_
    rintro e w2 ⟨A', n', c', rfl, hR, b⟩
    replace cc := bK cc b
    clear b
    go_wp2_with fail
    go_ret3
    exact ⟨_, _, _, rfl, hR, cc⟩
  · refine (bClone_N (br_dropG HA.out HM.out) (by have := HN.out; omega)).mono ?_
    rintro e w2 ⟨A', n', c', rfl, hR, b⟩
    replace cc := bK cc b
    clear b
    go_wp2_with fail
    go_ret3
    exact ⟨_, _, _, rfl, hR, cc⟩

set_option maxRecDepth 100000 in
set_option maxHeartbeats 8000000 in
theorem takenZ_no {w : World} {A : Option Addr} {n c : Nat} {l : List Nat} (hA : BR w A n c l) (hn : n ≤ 4000000) (hE : tkE l ≠ 0) :
    Calls Try.prog 25 #[.slice A n c, .func (.func 26) #[] #[]] w (GotTk w (.int .i64 (unz (tkN l))) (tkR l) (tkE l)) := by
  have CN := integer_N hA hn
  obtain ⟨e1, e2, e3⟩ : tkN l = 0 ∧ tkR l = [] ∧ tkE l = 3 := by
    rcases tk_ways hA.2.2.1 with h | h
    · exact ⟨h.1, h.2.1, h.2.2.1⟩
    · exact absurd h.2.2 hE
  rw [e3] at CN
  rw [e1, e2, e3]
  generalize tkL l = m at *
  clear e1 e2 e3 hE hn
  have cc := Below.refl w.heap.size w
  go_enter Try.func25, Try.ntmps25
  go_wp2_with fail
  refine (CN).mono ?_
  rintro e w1 ⟨rfl, b⟩
  replace cc := bK cc b
  clear b
  go_wp2_with fail
  go_ret3
  exact ⟨_, _, _, rfl, BR.nil _ _ _, cc⟩

set_option maxRecDepth 100000 in
set_option maxHeartbeats 8000000 in
theorem takenZ_yes {w : World} {A : Option Addr} {n c : Nat} {l : List Nat} (hA : BR w A n c l) (hn : n ≤ 4000000) (hE : tkE l = 0) :
    Calls Try.prog 25 #[.slice A n c, .func (.func 26) #[] #[]] w (GotTk w (.int .i64 (unz (tkN l))) (tkR l) (tkE l)) := by
  have CN := integer_N hA hn
  obtain ⟨hd, hm⟩ := tkL_drop hA.2.2.1 hE
  rw [hE] at CN
  rw [hE, ← hd]
  obtain ⟨x, hx⟩ : ∃ x, (unz (tkN l)) = x := ⟨_, rfl⟩
  rw [hx] at CN ⊢
  generalize tkL l = m at *
  have hnl := hA.1
  have hnc := hA.2.1
  have j0 : (0 : Int) ≤ (m : Int) := by omega
  have j1 : (m : Int) ≤ (n : Int) := by omega
  have j2 : (n : Int) ≤ (c : Int) := by omega
  have HM := Lib.hid (show m ≤ n by omega)
  have HN := Lib.hid hn
  have HL := Lib.hid hnl
  clear hE hd hm hx hn hnl hnc
  have cc := Below.refl w.heap.size w
  go_enter Try.func25, Try.ntmps25
  go_wp2_with fail
  refine (CN).mono ?_
  rintro e w1 ⟨rfl, b⟩
  replace cc := bK cc b
  have HA := Lib.hid (hA.on b)
  clear b hA
  go_wp2_with fail
  · refine (bClone_N (br_end HL.out (by omega)) (by have := HN.out; omega)).mono ?_
    rintro e w2 ⟨A', n', c', rfl, hR, b⟩
    replace cc := bK cc b
    clear b
    go_wp2_with fail
    go_ret3
    exact ⟨_, _, _, rfl, hR, cc⟩
  · refine (bClone_N (br_dropG HA.out HM.out) (by have := HN.out; omega)).mono ?_
    rintro e w2 ⟨A', n', c', rfl, hR, b⟩
    replace cc := bK cc b
    clear b
    go_wp2_with fail
    go_ret3
    exact ⟨_, _, _, rfl, hR, cc⟩

end Go.Proofs.Ytfdapcogkbddaaa

/-
  The contracts of the landed pack: Put, PutInt, PutRow.
-/
namespace Go.Proofs.Ytfdapcogkbddaaa
set_option maxRecDepth 100000
open Go.RowKit
set_option linter.unusedVariables false
set_option linter.unusedSimpArgs false

theorem concatB_two {w : World} {s : Nat} {A B : Option Addr} {n c m d : Nat} {l r : List Nat} (h0 : w.cell? ⟨s, 0, none⟩ = some (.slice A n c)) (h1 : w.cell? ⟨s, 1, none⟩ = some (.slice B m d)) (hA : BR w A n c l) (hB : BR w B m d r) (hs : s < w.heap.size) (hl : l.length ≤ 2000000) (hr : r.length ≤ 2000100) (hp : 0 < r.length) : Calls Try.prog 27 #[.slice (some ⟨s, 0, none⟩) 2 2] w (GotNew w (l ++ r)) := by
  have h := concatB_N (w := w) (s := s) (k := 2) (A := fun j => match j with | 0 => A | _ => B) (n := fun j => match j with | 0 => n | _ => m) (c := fun j => match j with | 0 => c | _ => d) (G := fun j => match j with | 0 => l | _ => r) (fun j hj => by
    match j, hj with
    | 0, _ => exact ⟨h0, hA⟩
    | 1, _ => exact ⟨h1, hB⟩) hs (by omega) (by show (([] ++ l) ++ r).length ≤ _; rw [List.nil_append, List.length_append]; omega) (by show 0 < (([] ++ l) ++ r).length; rw [List.nil_append, List.length_append]; omega)
  exact h
theorem concatB_three {w : World} {s : Nat} {A B C : Option Addr} {n c m d p q : Nat} {l r t : List Nat} (h0 : w.cell? ⟨s, 0, none⟩ = some (.slice A n c)) (h1 : w.cell? ⟨s, 1, none⟩ = some (.slice B m d)) (h2 : w.cell? ⟨s, 2, none⟩ = some (.slice C p q)) (hA : BR w A n c l) (hB : BR w B m d r) (hC : BR w C p q t) (hs : s < w.heap.size) (hl : l.length ≤ 2000000) (hr : r.length ≤ 100) (hp : 0 < r.length) (ht : t.length ≤ 2000000) : Calls Try.prog 27 #[.slice (some ⟨s, 0, none⟩) 3 3] w (GotNew w (l ++ (r ++ t))) := by
  have h := concatB_N (w := w) (s := s) (k := 3) (A := fun j => match j with | 0 => A | 1 => B | _ => C) (n := fun j => match j with | 0 => n | 1 => m | _ => p) (c := fun j => match j with | 0 => c | 1 => d | _ => q) (G := fun j => match j with | 0 => l | 1 => r | _ => t) (fun j hj => by
    match j, hj with
    | 0, _ => exact ⟨h0, hA⟩
    | 1, _ => exact ⟨h1, hB⟩
    | 2, _ => exact ⟨h2, hC⟩) hs (by omega) (by show ((([] ++ l) ++ r) ++ t).length ≤ _; rw [List.nil_append, List.length_append, List.length_append]; omega) (by show 0 < ((([] ++ l) ++ r) ++ t).length; rw [List.nil_append, List.length_append, List.length_append]; omega)
  have e : jn (fun j => match j with | 0 => l | 1 => r | _ => t) 3 = l ++ (r ++ t) := List.append_assoc l r t
  rw [e] at h
  exact h
theorem GotNew.up {w w1 w' : World} {l : List Nat} {e : Ending} (h : GotNew w1 l e w') (b : Below w.heap.size w w1) : GotNew w l e w' := by
  obtain ⟨g, n, c, e1, ⟨h1, h2⟩, h3⟩ := h
  refine ⟨g, n, c, e1, ⟨h1, ?_⟩, b.trans (h3.mono b.size)⟩
  rcases h2 with h2 | ⟨g', cap, cur, e2, h4, h5⟩
  · exact .inl h2
  · exact .inr ⟨g', cap, cur, e2, Nat.le_trans b.size h4, h5⟩

set_option maxRecDepth 100000 in
set_option maxHeartbeats 8000000 in
theorem pPut_N {w : World} {A : Option Addr} {n c : Nat} {l : List Nat} (hA : BR w A n c l) (hn : n ≤ 2000000) {N : Nat} (hN : N < 2 * 128 ^ 9) :
    Calls Try.prog 15 #[.slice A n c, .int .u64 (N : Int)] w (GotNew w (l ++ vb N)) := by
  have CL := fun W => laid_N (w := W) hN
  have h8 := vb_lt hN
  have hv := vb_len N
  have HLL := Lib.hid hA.1
  generalize vb N = F at *
  have cc := Below.refl w.heap.size w
  go_enter Try.func15, Try.ntmps15
  go_wp2_with fail
  refine (CL _).mono ?_
  rintro e w1 ⟨g, m, d, rfl, hO, b⟩
  have hB := BR.of_own hO h8
  replace hA := hA.on b
  replace cc := bK cc b
  clear b
  go_wp2_with fail
  have bA : Below w1.heap.size w1 (w1.alloc (.cells #[.slice A n c, .slice (some ⟨g, 0, none⟩) m d] 22)) := (Below.refl _ w1).alloc (Nat.le_refl _) _
  have c0 : (w1.alloc (.cells #[.slice A n c, .slice (some ⟨g, 0, none⟩) m d] 22)).cell? ⟨w1.heap.size, 0, none⟩ = some (.slice A n c) := by simp [go_sem]
  have c1 : (w1.alloc (.cells #[.slice A n c, .slice (some ⟨g, 0, none⟩) m d] 22)).cell? ⟨w1.heap.size, 1, none⟩ = some (.slice (some ⟨g, 0, none⟩) m d) := by simp [go_sem]
  refine (concatB_two c0 c1 (hA.on bA) (hB.on bA) (by simp) (by have := HLL.out; omega) (by omega) (by omega)).mono ?_
  rintro e w2 hG
  replace hG := hG.up (cc.trans (bA.mono cc.size))
  obtain ⟨g2, n2, d2, rfl, hO2, b2⟩ := hG
  clear c0 c1 bA hA hB hO
  go_wp2_with fail
  go_ret
  exact ⟨g2, n2, d2, rfl, hO2, b2⟩

set_option maxRecDepth 100000 in
set_option maxHeartbeats 8000000 in
theorem pPutInt_pos {w : World} {A : Option Addr} {n c : Nat} {l : List Nat} (hA : BR w A n c l) (hn : n ≤ 2000000) {z : Int} (hz : -9223372036854775808 ≤ z ∧ z ≤ 9223372036854775807) (hs : 0 ≤ z) :
    Calls Try.prog 17 #[.slice A n c, .int .i64 z] w (GotNew w (l ++ vb (zig z))) := by
  have hN := zig_lt hz
  obtain ⟨N, eN⟩ : ∃ N, zig z = N := ⟨_, rfl⟩
  have eZ : zig z = 2 * z.toNat := by unfold zig; rw [if_pos hs]
  rw [eN] at hN eZ ⊢
  have CP := pPut_N hA hn hN
  have t0 : decide (0 ≤ z) = true := decide_eq_true hs
  have k1 : IntKind.u64.wrap z = z := by rw [IntKind.wrap_u64]; omega
  have k2 : IntKind.u64.wrap (2 * z) = (N : Int) := by rw [IntKind.wrap_u64]; omega
  clear eN eZ hs hz hN hn hA
  go_enter Try.func17, Try.ntmps17
  go_wp2_with fail
  refine (CP).mono ?_
  rintro e w1 ⟨g2, n2, d2, rfl, hO2, b2⟩
  go_wp2_with fail
  go_ret
  exact ⟨g2, n2, d2, rfl, hO2, b2⟩

set_option maxRecDepth 100000 in
set_option maxHeartbeats 8000000 in
theorem pPutInt_neg {w : World} {A : Option Addr} {n c : Nat} {l : List Nat} (hA : BR w A n c l) (hn : n ≤ 2000000) {z : Int} (hz : -9223372036854775808 ≤ z ∧ z ≤ 9223372036854775807) (hs : ¬ 0 ≤ z) :
    Calls Try.prog 17 #[.slice A n c, .int .i64 z] w (GotNew w (l ++ vb (zig z))) := by
  have hN := zig_lt hz
  obtain ⟨N, eN⟩ : ∃ N, zig z = N := ⟨_, rfl⟩
  have eZ : zig z = 2 * (-(z + 1)).toNat + 1 := by unfold zig; rw [if_neg hs]
  rw [eN] at hN eZ ⊢
  have CP := pPut_N hA hn hN
  have t0 : decide (0 ≤ z) = false := decide_eq_false hs
  obtain ⟨y, hy⟩ : ∃ y, -1 - z = y := ⟨_, rfl⟩
  have k0 : bits .xor .i64 (-1) z = y := by rw [i64_turn z hz, hy]
  have k1 : IntKind.u64.wrap y = y := by rw [IntKind.wrap_u64]; omega
  have k2 : IntKind.u64.wrap (2 * y) = 2 * y := by rw [IntKind.wrap_u64]; omega
  have k3 : IntKind.u64.wrap (2 * y + 1) = (N : Int) := by rw [IntKind.wrap_u64]; omega
  clear hy
  clear eN eZ hs hz hN hn hA
  go_enter Try.func17, Try.ntmps17
  go_wp2_with fail
  refine (CP).mono ?_
  rintro e w1 ⟨g2, n2, d2, rfl, hO2, b2⟩
  go_wp2_with fail
  go_ret
  exact ⟨g2, n2, d2, rfl, hO2, b2⟩

theorem pPutInt_N {w : World} {A : Option Addr} {n c : Nat} {l : List Nat} (hA : BR w A n c l) (hn : n ≤ 2000000) {z : Int} (hz : -9223372036854775808 ≤ z ∧ z ≤ 9223372036854775807) : Calls Try.prog 17 #[.slice A n c, .int .i64 z] w (GotNew w (l ++ vb (zig z))) := by
  by_cases hs : 0 ≤ z
  · exact pPutInt_pos hA hn hz hs
  · exact pPutInt_neg hA hn hz hs

set_option maxRecDepth 100000 in
set_option maxHeartbeats 8000000 in
theorem pPutRow_N {w : World} {A : Option Addr} {n c : Nat} {l : List Nat} (hA : BR w A n c l) (hn : n ≤ 2000000) {B : Option Addr} {m e_ : Nat} {r : List Nat} (hB : BR w B m e_ r) (hm : m ≤ 2000000) :
    Calls Try.prog 21 #[.slice A n c, .slice B m e_] w (GotNew w (l ++ (vb r.length ++ r))) := by
  have hN : m < 2 * 128 ^ 9 := by rw [b64_9]; omega
  have CL := fun W => laid_N (w := W) hN
  have h8 := vb_lt hN
  have hv := vb_len m
  rw [← hB.1]
  have HLL := Lib.hid hA.1
  have HRR := Lib.hid hB.1
  have k1 : IntKind.u64.wrap (m : Int) = (m : Int) := by rw [IntKind.wrap_u64]; omega
  clear hN
  generalize vb m = F at *
  have cc := Below.refl w.heap.size w
  go_enter Try.func21, Try.ntmps21
  go_wp2_with fail
  refine (CL _).mono ?_
  rintro e w1 ⟨g, p, d, rfl, hO, b⟩
  have hC := BR.of_own hO h8
  replace hA := hA.on b
  replace hB := hB.on b
  replace cc := bK cc b
  clear b
  go_wp2_with fail
  have bA : Below w1.heap.size w1 (w1.alloc (.cells #[.slice A n c, .slice (some ⟨g, 0, none⟩) p d, .slice B m e_] 22)) := (Below.refl _ w1).alloc (Nat.le_refl _) _
  have c0 : (w1.alloc (.cells #[.slice A n c, .slice (some ⟨g, 0, none⟩) p d, .slice B m e_] 22)).cell? ⟨w1.heap.size, 0, none⟩ = some (.slice A n c) := by simp [go_sem]
  have c1 : (w1.alloc (.cells #[.slice A n c, .slice (some ⟨g, 0, none⟩) p d, .slice B m e_] 22)).cell? ⟨w1.heap.size, 1, none⟩ = some (.slice (some ⟨g, 0, none⟩) p d) := by simp [go_sem]
  have c2 : (w1.alloc (.cells #[.slice A n c, .slice (some ⟨g, 0, none⟩) p d, .slice B m e_] 22)).cell? ⟨w1.heap.size, 2, none⟩ = some (.slice B m e_) := by simp [go_sem]
  refine (concatB_three c0 c1 c2 (hA.on bA) (hC.on bA) (hB.on bA) (by simp) (by have := HLL.out; omega) (by omega) (by omega) (by have := HRR.out; omega)).mono ?_
  rintro e w2 hG
  replace hG := hG.up (cc.trans (bA.mono cc.size))
  obtain ⟨g2, n2, d2, rfl, hO2, b2⟩ := hG
  clear c0 c1 c2 bA hA hB hC hO
  go_wp2_with fail
  go_ret
  exact ⟨g2, n2, d2, rfl, hO2, b2⟩

end Go.Proofs.Ytfdapcogkbddaaa

/-
  The contracts of the landed pack: Take, TakeInt, TakeRow.
-/
namespace Go.Proofs.Ytfdapcogkbddaaa
set_option maxRecDepth 100000
open Go.RowKit
set_option linter.unusedVariables false
set_option linter.unusedSimpArgs false

set_option maxRecDepth 100000 in
set_option maxHeartbeats 8000000 in
theorem pTake_N {w : World} {A : Option Addr} {n c : Nat} {l : List Nat} (hA : BR w A n c l) (hn : n ≤ 2000000) :
    Calls Try.prog 10 #[.slice A n c] w (GotTk w (.int .u64 (((tkN l : Nat) : Int))) (tkR l) (tkE l)) := by
  have CT : Calls Try.prog 23 #[.slice A n c, .func (.func 24) #[] #[]] w (GotTk w (.int .u64 (((tkN l : Nat) : Int))) (tkR l) (tkE l)) := by
    by_cases h : tkE l = 0
    · exact takenN_yes hA (by omega) h
    · exact takenN_no hA (by omega) h
  clear hA hn
  obtain ⟨x, hx⟩ : ∃ x, (((tkN l : Nat) : Int)) = x := ⟨_, rfl⟩
  rw [hx] at CT ⊢
  clear hx
  generalize tkR l = R at *
  generalize tkE l = E at *
  have cc := Below.refl w.heap.size w
  go_enter Try.func10, Try.ntmps10
  go_wp2_with fail
  refine (CT).mono ?_
  rintro e w1 ⟨A', n', c', rfl, hR, b⟩
  replace cc := bK cc b
  clear b
  go_wp2_with fail
  go_ret3
  exact ⟨_, _, _, rfl, hR, cc⟩

set_option maxRecDepth 100000 in
set_option maxHeartbeats 8000000 in
theorem pTakeInt_N {w : World} {A : Option Addr} {n c : Nat} {l : List Nat} (hA : BR w A n c l) (hn : n ≤ 2000000) :
    Calls Try.prog 12 #[.slice A n c] w (GotTk w (.int .i64 (unz (tkN l))) (tkR l) (tkE l)) := by
  have CT : Calls Try.prog 25 #[.slice A n c, .func (.func 26) #[] #[]] w (GotTk w (.int .i64 (unz (tkN l))) (tkR l) (tkE l)) := by
    by_cases h : tkE l = 0
    · exact takenZ_yes hA (by omega) h
    · exact takenZ_no hA (by omega) h
  clear hA hn
  obtain ⟨x, hx⟩ : ∃ x, (unz (tkN l)) = x := ⟨_, rfl⟩
  rw [hx] at CT ⊢
  clear hx
  generalize tkR l = R at *
  generalize tkE l = E at *
  have cc := Below.refl w.heap.size w
  go_enter Try.func12, Try.ntmps12
  go_wp2_with fail
  refine (CT).mono ?_
  rintro e w1 ⟨A', n', c', rfl, hR, b⟩
  replace cc := bK cc b
  clear b
  go_wp2_with fail
  go_ret3
  exact ⟨_, _, _, rfl, hR, cc⟩

/-- A row, how many bytes it had, and a code are answered. -/
def GotRw (w : World) (L : List Nat) (m : Nat) (E : Int) (e : Ending) (w' : World) : Prop := ∃ A n c, e = .returned (.tuple #[.slice A n c, .int .i64 (m : Int), .int .i64 E]) ∧ BR w' A n c L ∧ Below w.heap.size w w'
def rwM (most : Int) (l : List Nat) : Nat := if tkE l = 0 ∧ (tkN l : Int) ≤ most ∧ tkN l ≤ (tkR l).length then tkL l + tkN l else 0

set_option maxRecDepth 100000 in
set_option maxHeartbeats 8000000 in
theorem row_no {w : World} {A : Option Addr} {n c : Nat} {l : List Nat} (hA : BR w A n c l) (hn : n ≤ 2000000) {most : Int} (hmo : -9223372036854775808 ≤ most ∧ most ≤ 9223372036854775807) (q0 : tkE l ≠ 0) :
    Calls Try.prog 31 #[.slice A n c, .int .i64 most] w (GotRw w [] 0 3) := by
  have CN := number_N hA (by omega)
  obtain ⟨_, _, e3, _⟩ : tkN l = 0 ∧ tkR l = [] ∧ tkE l = 3 ∧ tkk 9 true l = none := by rcases tk_ways hA.2.2.1 with h1 | h1; exact h1; exact absurd h1.2.2 q0
  rw [e3] at CN
  generalize tkN l = a at *
  generalize tkL l = m at *
  clear q0 e3 hn hmo
  have cc := Below.refl w.heap.size w
  go_enter Try.func31, Try.ntmps31
  go_wp2_with fail
  refine (CN).mono ?_
  rintro e w1 ⟨rfl, b⟩
  replace cc := bK cc b
  clear b
  go_wp2_with fail
  go_ret3
  exact ⟨_, _, _, rfl, BR.nil _ _ _, cc⟩

set_option maxRecDepth 100000 in
set_option maxHeartbeats 8000000 in
theorem row_neg {w : World} {A : Option Addr} {n c : Nat} {l : List Nat} (hA : BR w A n c l) (hn : n ≤ 2000000) {most : Int} (hmo : -9223372036854775808 ≤ most ∧ most ≤ 9223372036854775807) (q0 : tkE l = 0) (q1 : most < 0) :
    Calls Try.prog 31 #[.slice A n c, .int .i64 most] w (GotRw w [] 0 6) := by
  have CN := number_N hA (by omega)
  obtain ⟨hd, hm⟩ := tkL_drop hA.2.2.1 q0
  have ha := tkN_lt hA.2.2.1
  have hrl := congrArg List.length hd
  rw [List.length_drop, ← hA.1] at hrl
  rw [← hA.1] at hm
  rw [q0] at CN
  clear hd
  generalize tkN l = a at *
  generalize tkL l = m at *
  generalize (tkR l).length = q at *
  have t0 : decide (most < 0) = true := decide_eq_true (by omega)
  clear q0 q1 ha hn hmo hrl hm
  have cc := Below.refl w.heap.size w
  go_enter Try.func31, Try.ntmps31
  go_wp2_with fail
  refine (CN).mono ?_
  rintro e w1 ⟨rfl, b⟩
  replace cc := bK cc b
  clear b
  go_wp2_with fail
  go_ret3
  exact ⟨_, _, _, rfl, BR.nil _ _ _, cc⟩

set_option maxRecDepth 100000 in
set_option maxHeartbeats 8000000 in
theorem row_big {w : World} {A : Option Addr} {n c : Nat} {l : List Nat} (hA : BR w A n c l) (hn : n ≤ 2000000) {most : Int} (hmo : -9223372036854775808 ≤ most ∧ most ≤ 9223372036854775807) (q0 : tkE l = 0) (q1 : ¬ most < 0) (q2 : most < tkN l) :
    Calls Try.prog 31 #[.slice A n c, .int .i64 most] w (GotRw w [] 0 6) := by
  have CN := number_N hA (by omega)
  obtain ⟨hd, hm⟩ := tkL_drop hA.2.2.1 q0
  have ha := tkN_lt hA.2.2.1
  have hrl := congrArg List.length hd
  rw [List.length_drop, ← hA.1] at hrl
  rw [← hA.1] at hm
  rw [q0] at CN
  clear hd
  generalize tkN l = a at *
  generalize tkL l = m at *
  generalize (tkR l).length = q at *
  have t0 : decide (most < 0) = false := decide_eq_false (by omega)
  have k1 : IntKind.u64.wrap most = most := by rw [IntKind.wrap_u64]; omega
  have t1 : decide (most < (a : Int)) = true := decide_eq_true (by omega)
  clear q0 q1 q2 ha hn hmo hrl hm
  have cc := Below.refl w.heap.size w
  go_enter Try.func31, Try.ntmps31
  go_wp2_with fail
  refine (CN).mono ?_
  rintro e w1 ⟨rfl, b⟩
  replace cc := bK cc b
  clear b
  go_wp2_with fail
  go_ret3
  exact ⟨_, _, _, rfl, BR.nil _ _ _, cc⟩

set_option maxRecDepth 100000 in
set_option maxHeartbeats 8000000 in
theorem row_end {w : World} {A : Option Addr} {n c : Nat} {l : List Nat} (hA : BR w A n c l) (hn : n ≤ 2000000) {most : Int} (hmo : -9223372036854775808 ≤ most ∧ most ≤ 9223372036854775807) (q0 : tkE l = 0) (q1 : ¬ most < 0) (q2 : ¬ most < tkN l) (q3 : (tkR l).length < tkN l) :
    Calls Try.prog 31 #[.slice A n c, .int .i64 most] w (GotRw w [] 0 3) := by
  have CN := number_N hA (by omega)
  obtain ⟨hd, hm⟩ := tkL_drop hA.2.2.1 q0
  have ha := tkN_lt hA.2.2.1
  have hrl := congrArg List.length hd
  rw [List.length_drop, ← hA.1] at hrl
  rw [← hA.1] at hm
  rw [q0] at CN
  clear hd
  generalize tkN l = a at *
  generalize tkL l = m at *
  generalize (tkR l).length = q at *
  have t0 : decide (most < 0) = false := decide_eq_false (by omega)
  have k1 : IntKind.u64.wrap most = most := by rw [IntKind.wrap_u64]; omega
  have t1 : decide (most < (a : Int)) = false := decide_eq_false (by omega)
  have k2 : IntKind.i64.wrap ((n : Int) - (m : Int)) = (q : Int) := by rw [IntWalk.i64_in _ (by omega)]; omega
  have k3 : IntKind.u64.wrap (q : Int) = (q : Int) := by rw [IntKind.wrap_u64]; omega
  have t2 : decide ((q : Int) < (a : Int)) = true := decide_eq_true (by omega)
  have t2b : decide (q < a) = true := decide_eq_true (by omega)
  clear q0 q1 q2 q3 ha hn hmo hrl hm
  have cc := Below.refl w.heap.size w
  go_enter Try.func31, Try.ntmps31
  go_wp2_with fail
  refine (CN).mono ?_
  rintro e w1 ⟨rfl, b⟩
  replace cc := bK cc b
  clear b
  go_wp2_with fail
  go_ret3
  exact ⟨_, _, _, rfl, BR.nil _ _ _, cc⟩

set_option maxRecDepth 100000 in
set_option maxHeartbeats 8000000 in
theorem row_yes {w : World} {A : Option Addr} {n c : Nat} {l : List Nat} (hA : BR w A n c l) (hn : n ≤ 2000000) {most : Int} (hmo : -9223372036854775808 ≤ most ∧ most ≤ 9223372036854775807) (q0 : tkE l = 0) (q1 : ¬ most < 0) (q2 : ¬ most < tkN l) (q3 : ¬ (tkR l).length < tkN l) :
    Calls Try.prog 31 #[.slice A n c, .int .i64 most] w (GotRw w ((tkR l).take (tkN l)) (tkL l + tkN l) 0) := by
  rw [← (tkL_drop hA.2.2.1 q0).1]
  have CN := number_N hA (by omega)
  obtain ⟨hd, hm⟩ := tkL_drop hA.2.2.1 q0
  have ha := tkN_lt hA.2.2.1
  have hrl := congrArg List.length hd
  rw [List.length_drop, ← hA.1] at hrl
  rw [← hA.1] at hm
  rw [q0] at CN
  clear hd
  generalize tkN l = a at *
  generalize tkL l = m at *
  generalize (tkR l).length = q at *
  have t0 : decide (most < 0) = false := decide_eq_false (by omega)
  have k1 : IntKind.u64.wrap most = most := by rw [IntKind.wrap_u64]; omega
  have t1 : decide (most < (a : Int)) = false := decide_eq_false (by omega)
  have k2 : IntKind.i64.wrap ((n : Int) - (m : Int)) = (q : Int) := by rw [IntWalk.i64_in _ (by omega)]; omega
  have k3 : IntKind.u64.wrap (q : Int) = (q : Int) := by rw [IntKind.wrap_u64]; omega
  have t2 : decide ((q : Int) < (a : Int)) = false := decide_eq_false (by omega)
  have t2b : decide (q < a) = false := decide_eq_false (by omega)
  obtain ⟨en, hen⟩ : ∃ en, m + a = en := ⟨_, rfl⟩
  have k4 : IntKind.i64.wrap (a : Int) = (a : Int) := by rw [IntWalk.i64_in _ (by omega)]
  have k5 : IntKind.i64.wrap ((m : Int) + (a : Int)) = (en : Int) := by rw [IntWalk.i64_in _ (by omega)]; omega
  have hnc := hA.2.1
  have j0 : (0 : Int) ≤ (m : Int) := by omega
  have j1 : (m : Int) ≤ (en : Int) := by omega
  have j2 : (en : Int) ≤ (c : Int) := by omega
  have j3 : (n : Int) ≤ (c : Int) := by omega
  have j4 : (m : Int) ≤ (c : Int) := by omega
  have HEN := Lib.hid (show en - m = a by omega)
  have HSM := Lib.hid (show en ≤ 4000000 by omega)
  have HN := Lib.hid (show a ≤ n - m by omega)
  have HMN := Lib.hid hm
  have HNC := Lib.hid hnc
  rw [hen]
  clear q0 q1 q2 q3 ha hn hmo hrl hm hnc hen
  have cc := Below.refl w.heap.size w
  go_enter Try.func31, Try.ntmps31
  go_wp2_with fail
  refine (CN).mono ?_
  rintro e w1 ⟨rfl, b⟩
  have HA := Lib.hid (hA.on b)
  clear hA
  replace cc := bK cc b
  clear b
  go_wp2_with fail
  · have hB : BR w1 A (en - m) 0 ((l.drop m).take a) := by
      have h1 := HEN.out
      have h2 := HN.out
      have h3 := HNC.out
      have h4 : a = 0 := by omega
      rw [h1, h4, List.take_zero]
      exact BR.nil _ _ _
    refine (bClone_N hB (by have := HSM.out; omega)).mono ?_
    rintro e w2 ⟨A', n', c', rfl, hR, b⟩
    replace cc := bK cc b
    clear b hB
    go_wp2_with fail
    go_ret3
    exact ⟨_, _, _, rfl, hR, cc⟩
  · have hB : BR w1 (Option.map (fun x => x.add m) A) (en - m) (c - m) ((l.drop m).take a) := by
      rw [HEN.out]
      exact (br_dropG HA.out HMN.out).take HN.out
    refine (bClone_N hB (by have := HSM.out; omega)).mono ?_
    rintro e w2 ⟨A', n', c', rfl, hR, b⟩
    replace cc := bK cc b
    clear b hB
    go_wp2_with fail
    go_ret3
    exact ⟨_, _, _, rfl, hR, cc⟩

theorem row_N {w : World} {A : Option Addr} {n c : Nat} {l : List Nat} (hA : BR w A n c l) (hn : n ≤ 2000000) {most : Int} (hmo : -9223372036854775808 ≤ most ∧ most ≤ 9223372036854775807) : Calls Try.prog 31 #[.slice A n c, .int .i64 most] w (GotRw w (rwL most l) (rwM most l) (rwE most l)) := by
  unfold rwL rwM rwE
  by_cases q0 : tkE l = 0
  · by_cases q1 : most < 0
    · have h1 : ¬ ((tkN l : Nat) : Int) ≤ most := by omega
      rw [if_neg (fun e => h1 e.2.1), if_neg (fun e => h1 e.2.1), if_pos q0, if_neg h1]
      exact row_neg hA hn hmo q0 q1
    · by_cases q2 : most < tkN l
      · have h1 : ¬ ((tkN l : Nat) : Int) ≤ most := by omega
        rw [if_neg (fun e => h1 e.2.1), if_neg (fun e => h1 e.2.1), if_pos q0, if_neg h1]
        exact row_big hA hn hmo q0 q1 q2
      · have h1 : ((tkN l : Nat) : Int) ≤ most := by omega
        by_cases q3 : (tkR l).length < tkN l
        · have h2 : ¬ tkN l ≤ (tkR l).length := by omega
          rw [if_neg (fun e => h2 e.2.2), if_neg (fun e => h2 e.2.2), if_pos q0, if_pos h1, if_neg h2]
          exact row_end hA hn hmo q0 q1 q2 q3
        · have h2 : tkN l ≤ (tkR l).length := by omega
          rw [if_pos ⟨q0, h1, h2⟩, if_pos ⟨q0, h1, h2⟩, if_pos q0, if_pos h1, if_pos h2]
          exact row_yes hA hn hmo q0 q1 q2 q3
  · rw [if_neg (fun e => q0 e.1), if_neg (fun e => q0 e.1), if_neg q0]
    exact row_no hA hn hmo q0

/-- Where a row is taken, the rest stands behind it. -/
theorem rwM_drop {most : Int} {l : List Nat} (hl : ∀ c ∈ l, c < 256) (h : rwE most l = 0) : l.drop (rwM most l) = rwR most l ∧ rwM most l ≤ l.length := by
  have h1 : tkE l = 0 ∧ (tkN l : Int) ≤ most ∧ tkN l ≤ (tkR l).length := by
    unfold rwE at h
    split at h
    · split at h
      · split at h
        · refine ⟨?_, ?_, ?_⟩ <;> assumption
        · omega
      · omega
    · omega
  obtain ⟨h2, h3⟩ := tkL_drop hl h1.1
  unfold rwM rwR
  rw [if_pos h1, if_pos h1, ← h2, List.drop_drop]
  refine ⟨rfl, ?_⟩
  have h4 := h1.2.2
  rw [← h2, List.length_drop] at h4
  omega
theorem rwR_none {most : Int} {l : List Nat} (hl : ∀ c ∈ l, c < 256) (h : rwE most l ≠ 0) : rwL most l = [] ∧ rwR most l = [] := by
  rcases rw_ways hl most with h1 | h1
  · exact ⟨h1.1, h1.2.1⟩
  · exact absurd h1.2.2 h

set_option maxRecDepth 100000 in
set_option maxHeartbeats 8000000 in
theorem rowc_N {w : World} {A : Option Addr} {n c gb : Nat} {l : List Nat} (hA : BR w A n c l) (hn : n ≤ 2000000) {most : Int} (hmo : -9223372036854775808 ≤ most ∧ most ≤ 9223372036854775807) (hb : w.cell? ⟨gb, 0, none⟩ = some (.int .i64 most)) :
    Calls Try.prog 30 #[.slice A n c, .pointer (some ⟨gb, 0, none⟩)] w (GotRw w (rwL most l) (rwM most l) (rwE most l)) := by
  have CR := row_N hA hn hmo
  generalize rwL most l = L at *
  generalize rwM most l = m at *
  generalize rwE most l = E at *
  clear hA hn hmo
  have cc := Below.refl w.heap.size w
  go_enter Try.func30, Try.ntmps30
  go_wp2_with fail
  refine (CR).mono ?_
  rintro e w1 ⟨A', n', c', rfl, hR, b⟩
  replace cc := bK cc b
  clear b
  go_wp2_with fail
  go_ret3
  exact ⟨_, _, _, rfl, hR, cc⟩

set_option maxRecDepth 100000 in
set_option maxHeartbeats 8000000 in
theorem takenR_no {w : World} {A : Option Addr} {n c gb : Nat} {l : List Nat} (hA : BR w A n c l) (hn : n ≤ 2000000) {most : Int} (hmo : -9223372036854775808 ≤ most ∧ most ≤ 9223372036854775807) (hb : w.cell? ⟨gb, 0, none⟩ = some (.int .i64 most)) (hE : rwE most l ≠ 0) :
    Calls Try.prog 29 #[.slice A n c, .func (.func 30) #[] #[.pointer (some ⟨gb, 0, none⟩)]] w (GotTr w (rwL most l) (rwR most l) (rwE most l)) := by
  have CR := rowc_N hA hn hmo hb
  obtain ⟨e1, e2⟩ := rwR_none hA.2.2.1 hE
  rw [e2]
  have t1 : (rwE most l == 0) = false := beq_eq_false_iff_ne.2 hE
  have t2 : (rwE most l != 0) = true := by simp [hE]
  rw [e1] at CR ⊢
  generalize rwM most l = m at *
  generalize rwE most l = E at *
  clear hA hn hmo hE e1 e2
  have cc := Below.refl w.heap.size w
  go_enter Try.func29, Try.ntmps29
  go_wp2_with fail
  refine (CR).mono ?_
  rintro e w1 ⟨A', n', c', rfl, hR, b⟩
  replace cc := bK cc b
  clear b
  go_wp2_with fail
  go_ret3
  exact ⟨_, _, _, _, _, _, rfl, BR.nil _ _ _, BR.nil _ _ _, cc⟩

set_option maxRecDepth 100000 in
set_option maxHeartbeats 8000000 in
theorem takenR_yes {w : World} {A : Option Addr} {n c gb : Nat} {l : List Nat} (hA : BR w A n c l) (hn : n ≤ 2000000) {most : Int} (hmo : -9223372036854775808 ≤ most ∧ most ≤ 9223372036854775807) (hb : w.cell? ⟨gb, 0, none⟩ = some (.int .i64 most)) (hE : rwE most l = 0) :
    Calls Try.prog 29 #[.slice A n c, .func (.func 30) #[] #[.pointer (some ⟨gb, 0, none⟩)]] w (GotTr w (rwL most l) (rwR most l) (rwE most l)) := by
  have CR := rowc_N hA hn hmo hb
  obtain ⟨hd, hm⟩ := rwM_drop hA.2.2.1 hE
  rw [hE] at CR
  rw [hE, ← hd]
  generalize rwL most l = L at *
  generalize rwM most l = m at *
  have hnl := hA.1
  have hnc := hA.2.1
  have j0 : (0 : Int) ≤ (m : Int) := by omega
  have j1 : (m : Int) ≤ (n : Int) := by omega
  have j2 : (n : Int) ≤ (c : Int) := by omega
  have HM := Lib.hid (show m ≤ n by omega)
  have HN := Lib.hid hn
  have HL := Lib.hid hnl
  clear hE hd hm hn hnl hnc hmo
  have cc := Below.refl w.heap.size w
  go_enter Try.func29, Try.ntmps29
  go_wp2_with fail
  refine (CR).mono ?_
  rintro e w1 ⟨A1, n1, c1, rfl, hL, b⟩
  replace cc := bK cc b
  have HA := Lib.hid (hA.on b)
  clear b hA
  go_wp2_with fail
  · refine (bClone_N (br_end HL.out (by omega)) (by have := HN.out; omega)).mono ?_
    rintro e w2 ⟨A', n', c', rfl, hR, b⟩
    replace cc := bK cc b
    replace hL := hL.on b
    clear b
    go_wp2_with fail
    go_ret3
    exact ⟨_, _, _, _, _, _, rfl, hL, hR, cc⟩
  · refine (bClone_N (br_dropG HA.out HM.out) (by have := HN.out; omega)).mono ?_
    rintro e w2 ⟨A', n', c', rfl, hR, b⟩
    replace cc := bK cc b
    replace hL := hL.on b
    clear b
    go_wp2_with fail
    go_ret3
    exact ⟨_, _, _, _, _, _, rfl, hL, hR, cc⟩

set_option maxRecDepth 100000 in
set_option maxHeartbeats 8000000 in
theorem pTakeRow_N {w : World} {A : Option Addr} {n c : Nat} {l : List Nat} (hA : BR w A n c l) (hn : n ≤ 2000000) {most : Int} (hmo : -9223372036854775808 ≤ most ∧ most ≤ 9223372036854775807) :
    Calls Try.prog 19 #[.slice A n c, .int .i64 most] w (GotTr w (rwL most l) (rwR most l) (rwE most l)) := by
  have CT : ∀ {W : World} {gb : Nat}, BR W A n c l → W.cell? ⟨gb, 0, none⟩ = some (.int .i64 most) → Calls Try.prog 29 #[.slice A n c, .func (.func 30) #[] #[.pointer (some ⟨gb, 0, none⟩)]] W (GotTr W (rwL most l) (rwR most l) (rwE most l)) := by
    intro W gb h hb
    by_cases hE : rwE most l = 0
    · exact takenR_yes h hn hmo hb hE
    · exact takenR_no h hn hmo hb hE
  generalize rwL most l = L at *
  generalize rwR most l = R at *
  generalize rwE most l = E at *
  clear hn hmo
  have cc := Below.refl w.heap.size w
  go_enter Try.func19, Try.ntmps19
  go_wp2_with fail
  have bA : Below w.heap.size w (w.alloc (.cells #[.int .i64 most] 3)) := (Below.refl _ w).alloc (Nat.le_refl _) _
  have c0 : (w.alloc (.cells #[.int .i64 most] 3)).cell? ⟨w.heap.size, 0, none⟩ = some (.int .i64 most) := by simp [go_sem]
  refine (CT (hA.on bA) c0).mono ?_
  rintro e w1 ⟨A1, n1, c1, A2, n2, c2, rfl, hL, hR, b⟩
  replace cc := bA.trans (b.mono bA.size)
  clear b c0 bA hA CT
  go_wp2_with fail
  go_ret3
  exact ⟨_, _, _, _, _, _, rfl, hL, hR, cc⟩

end Go.Proofs.Ytfdapcogkbddaaa

/-
  The contracts of the landed pack, put together.
-/

/-
  What the laws of pack lean on: alive.
-/
namespace Go.Proofs.Ytfdapcogkbddaaa
set_option maxRecDepth 100000
open Go.RowKit
set_option linter.unusedVariables false
set_option linter.unusedSimpArgs false

theorem vb_300 : vb 300 = [172, 2] := by decide
theorem vb_m1 : vb (zig (-1)) = [1] := by decide
theorem two_lt : ∀ x ∈ [172, 2], x < 256 := by decide
theorem three_lt : ∀ x ∈ [172, 2, 1], x < 256 := by decide
theorem tk_300 : tkN [172, 2, 1] = 300 ∧ tkR [172, 2, 1] = [1] ∧ tkE [172, 2, 1] = 0 := by decide
theorem tk_m1 : unz (tkN [1]) = -1 ∧ tkR [1] = [] ∧ tkE [1] = 0 := by decide
theorem rw_51 : rwL 9 [5, 1] = [] ∧ rwR 9 [5, 1] = [] ∧ rwE 9 [5, 1] = 3 := by decide
theorem put_ab : ([] : List Nat) ++ (vb ([97, 98] : List Nat).length ++ [97, 98]) = [2, 97, 98] := by decide
theorem n300 : 300 < 2 * 128 ^ 9 := by decide
theorem row51 (W : World) : BR (W.alloc (.cells #[.int .u8 5, .int .u8 1] 5)) (some ⟨W.heap.size, 0, none⟩) 2 2 [5, 1] := by
  refine ⟨rfl, Nat.le_refl _, by decide, fun _ => ⟨W.heap.size, 0, rfl, by simp, fun j hj => ?_⟩⟩
  rw [Nat.zero_add, World.cell?_alloc_new]
  match j, hj with
  | 0, _ => rfl
  | 1, _ => rfl
theorem rowab (W : World) (T : TypeId) (fr : Nat × Nat) : BR (W.alloc (.cells #[.int .u8 97, .int .u8 98] T fr)) (some ⟨W.heap.size, 0, none⟩) 2 2 [97, 98] := by
  refine ⟨rfl, Nat.le_refl _, by decide, fun _ => ⟨W.heap.size, 0, rfl, by simp, fun j hj => ?_⟩⟩
  rw [Nat.zero_add, World.cell?_alloc_mark]
  match j, hj with
  | 0, _ => rfl
  | 1, _ => rfl
theorem wpList_append_liesG {P : Program} (w : World) {ops : Array Oper} {rest : List Oper} {o : Oper} {a : Act} {Q : Exit → Act → World → Prop} (hw : Region.wanted o (yielded ops a.tmps) = true) (s x : Operand) (t : TypeId)
    (ho : o.op = .call { callee := .builtin .append, args := #[s, x], argTypes := #[t, t] })
    (base : Nat) (e : TypeId) (i : TypeInfo) (z : Value) (size bytes : Nat) (ht : P.underlying t = some (.slice e)) (hi : P.info? e = some i) (hz : i.zero = some z)
    (hsize : i.size = size) (hby : i.bytes = bytes) (hzs : z.cells.size = size) (hsz : 0 < size)
    (v : Value) (n : Nat) (xs : List Value) (hs : a.eval s = v) (hown : w.ownsRow base e size v n xs)
    (ad : Addr) (m c : Nat) (news : List Value) (hx : a.eval x = .slice (some ad) m c) (hl : news.length = m * size) (hnews : ∀ j u, news[j]? = some u → w.cell? (ad.add j) = some u) (h1 : ∀ u ∈ news, u.oneCell' = true)
    (hm : 0 < m) (h63 : n + m ≤ maxLen) (hbytes : (n + m) * bytes ≤ 140737488355328) (hbase : base ≤ w.heap.size) (H : Nat) (hH : w.heap.size = H)
    (h : ∀ g cap w', w'.ownsRow base e size (.slice (some ⟨g, 0, none⟩) (n + m) cap) (n + m) (xs ++ news) → w.grownBy w' v.ownBlock → (v.ownBlock = some g ∨ g = H) → g < w'.heap.size → wpList P ops Q rest (a.put o.dst (.slice (some ⟨g, 0, none⟩) (n + m) cap)) w') : wpList P ops Q (o :: rest) a w :=
  wpList_step fun K hK => by
    rw [if_pos hw]
    exact wp_append_lies w s x t ho base e i z size bytes ht hi hz hsize hby hzs hsz v n xs hs hown ad m c news hx hl hnews h1 hm h63 hbytes hbase H hH fun g cap w' h2 h3 h4 h5 => hK _ _ (h g cap w' h2 h3 h4 h5)
theorem wpList_append_zeroG {P : Program} (w : World) {ops : Array Oper} {rest : List Oper} {o : Oper} {a : Act} {Q : Exit → Act → World → Prop} (hw : Region.wanted o (yielded ops a.tmps) = true) (s x : Operand) (t : TypeId)
    (ho : o.op = .call { callee := .builtin .append, args := #[s, x], argTypes := #[t, t] }) (e : TypeId) (i : TypeInfo) (ht : P.underlying t = some (.slice e)) (hi : P.info? e = some i)
    (A B : Option Addr) (n c d : Nat) (hs : a.eval s = .slice A n c) (hx : a.eval x = .slice B 0 d) (hn : n ≤ c)
    (h : wpList P ops Q rest (a.put o.dst (.slice A n c)) w) : wpList P ops Q (o :: rest) a w :=
  wpList_step fun K hK => by
    rw [if_pos hw]
    have hr := run_append_zero (P := P) w t o.type e i ht hi A B n c d hn
    unfold Oper.wp execOp
    simp only [ho, resolve, invoke, builtin, Sem.run_bind, Sem.run_pure, Result.andThen_ok, List.map_toArray, List.map_cons, List.map_nil, hs, hx, hr]
    exact hK _ _ h
theorem GotNew.nil {w w' : World} {l : List Nat} {e : Ending} (h : GotNew w ([] ++ l) e w') : GotNew w l e w' := h
theorem rsameB_self {w : World} {A B : Option Addr} {n c m d : Nat} {L : List Nat} (hA : BR w A n c L) (hB : BR w B m d L) (hn : n ≤ 9223372036854775807) : Calls Try.prog 14 #[.slice A n c, .slice B m d] w (GotV w (.bool true)) := by
  have h := rsameB_any hA hB hn
  rw [decide_eq_true rfl] at h
  exact h

set_option maxRecDepth 100000 in
set_option maxHeartbeats 8000000 in
theorem alive13_any (w : World) :
    Calls Try.prog 9 #[] w (GotV w (.bool true)) := by
  have cc := Below.refl w.heap.size w
  go_enter Try.func9, Try.ntmps9
  go_wp2_with fail
  refine (pPut_N (BR.nil w none 0) (by omega) n300).mono ?_
  rintro e w1 ⟨g, q, d, rfl, hO, b⟩
  rw [List.nil_append, vb_300] at hO
  replace cc := bK cc b
  clear b
  have h1 := BR.of_own hO (two_lt)
  clear hO
  have e1 : q = 2 := h1.1
  subst e1
  go_wp2_with fail
  refine (pPutInt_N h1 (by omega) (z := -1) (by omega)).mono ?_
  rintro e w2 ⟨g2, q2, d2, rfl, hO, b⟩
  replace h1 := h1.on b
  replace cc := bK cc b
  clear b
  rw [vb_m1] at hO
  have hO2 := hO
  clear hO
  have h2 := BR.of_own (l := [172, 2, 1]) hO2 three_lt
  have e2 : q2 = 3 := h2.1
  subst e2
  clear hO2 h1
  go_wp2_with fail
  refine (pTake_N h2 (by omega)).mono ?_
  rintro e w3 ⟨A3, n3, c3, rfl, h3, b⟩
  replace h2 := h2.on b
  replace cc := bK cc b
  clear b
  rw [tk_300.2.1] at h3
  rw [tk_300.1, tk_300.2.2]
  have e3 : n3 = 1 := h3.1
  subst e3
  go_wp2_with fail
  refine (pTakeInt_N h3 (by omega)).mono ?_
  rintro e w4 ⟨A4, n4, c4, rfl, h4, b⟩
  replace h2 := h2.on b
  replace h3 := h3.on b
  replace cc := bK cc b
  clear b
  rw [tk_m1.2.1] at h4
  rw [tk_m1.1, tk_m1.2.2]
  have e4 : n4 = 0 := h4.1
  subst e4
  clear h3 h4
  go_wp2_with fail
  have h5 := row51 w4
  have bA : Below w4.heap.size w4 (w4.alloc (.cells #[.int .u8 5, .int .u8 1] 5)) := (Below.refl _ w4).alloc (Nat.le_refl _) _
  replace h2 := h2.on bA
  replace cc := bK cc bA
  clear bA
  generalize w4.alloc (.cells #[.int .u8 5, .int .u8 1] 5) = v5 at *
  refine (pTakeRow_N h5 (by omega) (most := 9) (by omega)).mono ?_
  rintro e w6 ⟨A6, n6, c6, B6, p6, d6, rfl, h6, h7, b⟩
  replace h2 := h2.on b
  replace h5 := h5.on b
  replace cc := bK cc b
  clear b
  rw [rw_51.2.2]
  clear h5 h6 h7
  obtain ⟨bb, ob, e8, hbb⟩ := h2.some (by omega)
  injection e8 with e8
  injection e8 with e8 e9
  subst e8 e9
  have hcv : ∀ W : World, Below w6.heap.size w6 W → (convert 22 9 (.slice (some ⟨g2, 0, none⟩) 3 d2)).run Try.prog W = .ok (.string ⟨#[172, 2, 1]⟩) W := fun W bw => run_convert_bytes_back (P := Try.prog) W 22 9 5 ⟨g2, 0, none⟩ d2 [172, 2, 1] Try.underlying22 Try.underlying5 Try.underlying9 (fun j hj => by
    have h := (h2.on bw).cell (j := j) (by simpa using hj)
    rw [addr_add]
    match j, hj with
    | 0, _ => exact h
    | 1, _ => exact h
    | 2, _ => exact h)
  have hcv0 := hcv _ (Below.refl _ _)
  have hcb := fun W : World => Lib.run_convert_bytes_const (P := Try.prog) W 22 5 #[.int .u8 97, .int .u8 98] 2 2 Try.underlying22 Try.underlying5
  clear hcv
  go_wp2_with fail
  have h9 := rowab w6 5 (2, 3)
  have bA : Below w6.heap.size w6 (w6.alloc (.cells #[.int .u8 97, .int .u8 98] 5 (2, 3))) := (Below.refl _ w6).alloc (Nat.le_refl _) _
  replace cc := bK cc bA
  clear bA
  generalize w6.alloc (.cells #[.int .u8 97, .int .u8 98] 5 (2, 3)) = v7 at *
  refine (pPutRow_N (BR.nil _ none 0) (by omega) h9 (by omega)).mono ?_
  rintro e wq ⟨g9, q9, d9, rfl, hO, b⟩
  rw [put_ab] at hO
  have ha := BR.of_own (l := [2, 97, 98]) hO (by decide)
  have e9 : q9 = 3 := ha.1
  subst e9
  replace cc := bK cc b
  clear b hO hcv0 hcb h9
  have hcw : (convert 22 9 (.slice (some ⟨g9, 0, none⟩) 3 d9)).run Try.prog wq = .ok (.string ⟨#[2, 97, 98]⟩) wq := run_convert_bytes_back (P := Try.prog) wq 22 9 5 ⟨g9, 0, none⟩ d9 [2, 97, 98] Try.underlying22 Try.underlying5 Try.underlying9 (fun j hj => by
    have h := ha.cell (j := j) (by simpa using hj)
    rw [addr_add]
    match j, hj with
    | 0, _ => exact h
    | 1, _ => exact h
    | 2, _ => exact h)
  go_wp2_with fail
  go_ret
  exact ⟨rfl, cc⟩

end Go.Proofs.Ytfdapcogkbddaaa
