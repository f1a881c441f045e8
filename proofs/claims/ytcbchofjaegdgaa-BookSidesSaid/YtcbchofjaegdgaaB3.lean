/-
  The contract of the ninth reference: tree.
-/
import Derived.Test.YtcbchofjaegdgaaB2
namespace Go.Proofs.Ytcbchofjaegdgaa
set_option maxRecDepth 100000
open Go.RowKit
set_option linter.unusedVariables false
set_option linter.unusedSimpArgs false

/-- The first m of a decade's numbers below nought, and above it. -/
def dnk (n i m : Nat) : List Int := (List.range m).map fun r => -(p9 n i (n - 1 - r) : Int)
def upk (n i m : Nat) : List Int := (List.range m).map fun r => (p9 n i r : Int)
/-- The first k decades, from above; from below. -/
def downs (s : Bool) (k : Nat) : List Int := (List.range k).flatMap fun r => dnk (many9 s (6 - r)) (6 - r) (many9 s (6 - r))
def ups (s : Bool) (k : Nat) : List Int := (List.range k).flatMap fun r => upk (many9 s r) r (many9 s r)
def low9 (s : Bool) : List Int := if s then downs s 7 else []
def tree9 (s : Bool) : List Int := low9 s ++ [0] ++ ups s 7 ++ [2560000000]
theorem dnk_succ (n i m : Nat) : dnk n i (m + 1) = dnk n i m ++ [-(p9 n i (n - 1 - m) : Int)] := by unfold dnk; rw [List.range_succ, List.map_append]; rfl
theorem upk_succ (n i m : Nat) : upk n i (m + 1) = upk n i m ++ [(p9 n i m : Int)] := by unfold upk; rw [List.range_succ, List.map_append]; rfl
theorem dnk_len (n i m : Nat) : (dnk n i m).length = m := by unfold dnk; simp
theorem upk_len (n i m : Nat) : (upk n i m).length = m := by unfold upk; simp
theorem downs_succ (s : Bool) (k : Nat) : downs s (k + 1) = downs s k ++ dnk (many9 s (6 - k)) (6 - k) (many9 s (6 - k)) := by unfold downs; rw [List.range_succ, List.flatMap_append]; simp
theorem ups_succ (s : Bool) (k : Nat) : ups s (k + 1) = ups s k ++ upk (many9 s k) k (many9 s k) := by unfold ups; rw [List.range_succ, List.flatMap_append]; simp
theorem downs_len (s : Bool) : ∀ k, k ≤ 7 → (downs s k).length ≤ 128 * k
  | 0, _ => by simp [downs]
  | k + 1, h => by
    rw [downs_succ, List.length_append, dnk_len]
    have := downs_len s k (by omega)
    have := (many9_le s (i := 6 - k) (by omega)).2
    omega
theorem ups_len (s : Bool) : ∀ k, k ≤ 7 → (ups s k).length ≤ 128 * k
  | 0, _ => by simp [ups]
  | k + 1, h => by
    rw [ups_succ, List.length_append, upk_len]
    have := ups_len s k (by omega)
    have := (many9_le s (i := k) (by omega)).2
    omega

/-- A value that is a row of the call's own (its blocks from t on), which holds l; below t all is as it was. -/
def Grown (t : Nat) (w W : World) (v : Value) (l : List Int) : Prop :=
  ∃ g cap N, v = .slice (some ⟨g, 0, none⟩) N cap ∧ W.ownsRow t 2 1 (.slice (some ⟨g, 0, none⟩) N cap) N (l.map encI) ∧ Below t w W ∧ t ≤ W.heap.size
theorem own_len {t : Nat} {W : World} {v : Value} {N : Nat} {l : List Int} (h : W.ownsRow t 2 1 v N (l.map encI)) : N = l.length := by have := h.1; simp at this; omega
theorem Grown.push {t : Nat} {w W w1 : World} {g N g1 cap1 : Nat} {l : List Int} {z : Int} {o : Obj} (hbl : Below t w W) (hts : t ≤ W.heap.size) (hwt : w.heap.size = t) (hg : t ≤ g)
    (hown1 : w1.ownsRow t 2 1 (.slice (some ⟨g1, 0, none⟩) (N + 1) cap1) (N + 1) (l.map encI ++ [.int .i64 z])) (hgrow1 : (W.alloc o).grownBy w1 (some g)) :
    Grown t w w1 (.slice (some ⟨g1, 0, none⟩) (N + 1) cap1) (l ++ [z]) := by
  have h1 : Below t w w1 := (hbl.alloc (by omega) _).grown hgrow1 (by simp; omega) (fun q e => by injection (show some g = some q from e) with e1; omega)
  refine ⟨g1, cap1, N + 1, rfl, ?_, h1, ?_⟩
  · rw [List.map_append]; exact hown1
  · have := h1.size; omega
theorem Grown.ir {t : Nat} {w W : World} {A : Option Addr} {n c : Nat} {l : List Int} (h : Grown t w W (.slice A n c) l) : IR W A n c l ∧ Below t w W := by
  obtain ⟨g, cap, N, e, hO, hb, hs⟩ := h
  injection e with e1 e2 e3
  subst e1
  subst e2
  subst e3
  exact ⟨IR.of_own hO, hb⟩
theorem own_after {t : Nat} {w W W' : World} {g cap n : Nat} {xs : List Value} (hO : W.ownsRow t 2 1 (.slice (some ⟨g, 0, none⟩) n cap) n xs) (hbl : Below t w W) (hts : t ≤ W.heap.size) (b : Below W.heap.size W W') :
    W'.ownsRow t 2 1 (.slice (some ⟨g, 0, none⟩) n cap) n xs ∧ Below t w W' ∧ t ≤ W'.heap.size ∧ t ≤ g := by
  have hl := hO.lt g rfl
  refine ⟨?_, hbl.trans (b.mono hts), Nat.le_trans hts b.size, hl.1⟩
  obtain ⟨h1, h2⟩ := hO
  refine ⟨h1, ?_⟩
  rcases h2 with h2 | ⟨g', cap', cur, hv, hg, hh, r⟩
  · exact Or.inl h2
  · refine Or.inr ⟨g', cap', cur, hv, hg, ?_, r⟩
    have : g' = g := by injection hv with e; injection e with e2; injection e2 with e3; exact e3.symm
    subst this
    rw [b.block g' hl.2]; exact hh

set_option maxRecDepth 100000 in
set_option maxHeartbeats 8000000 in
theorem rtree9_t (w : World) :
    Calls Try.prog 21 #[.bool true] w (GotI w (tree9 true)) := by
  obtain ⟨i0, hi, hz0, hz1, hz2⟩ := info_parts infoI
  obtain ⟨t, ht⟩ : ∃ t, w.heap.size = t := ⟨_, rfl⟩
  have HT := Lib.hid ht
  have hB0 : Below t w w := Below.refl _ _
  have hown : ∀ W : World, t ≤ W.heap.size → (W.alloc (.cells #[] 2)).ownsRow t 2 1 (.slice (some ⟨W.heap.size, 0, none⟩) 0 0) 0 ([] : List Value) := fun W h => World.ownsRow_lit W #[] 0 h (by unfold maxLen; omega) rfl
  clear ht
  go_enter Try.func21, Try.ntmps21
  go_upto_block 0 with fail
  go_cut [3] (fun ov wx => Grown t w wx ov (low9 true))
  case first =>
    go_wp2_with fail
    go_loopw [3, 4] (fun ov iv wr => ∃ k : Nat, k ≤ 7 ∧ iv = .int .i64 (6 - (k : Int)) ∧ Grown t w wr ov (downs true k)) (fun _ iv _ => (intOf iv + 1).toNat)
    case atStart => exact ⟨0, by omega, rfl, w.heap.size, 0, 0, rfl, hown w (by rw [HT.out]; omega), hB0.alloc (by rw [HT.out]; omega) _, by simp; rw [HT.out]; omega⟩
    case round =>
      obtain ⟨k, hk, rfl, g, cap, N, rfl, hO, hbl, hts⟩ := hrel
      by_cases hlt : k < 7
      · obtain ⟨i, hik⟩ : ∃ i : Nat, 6 - k = i := ⟨_, rfl⟩
        have ek : (6 : Int) - (k : Int) = (i : Int) := by omega
        have i6 : i ≤ 6 := by omega
        rw [ek]
        have hn := many9_le true i6
        have CM : ∀ W : World, Calls Try.prog 23 #[.bool true, .int .i64 (i : Int)] W fun e w' => e = .returned (.int .i64 ((many9 true i : Nat) : Int)) ∧ W = w' := fun W => rmany9 true i W i6
        have hD := downs_succ true k
        rw [hik] at hD
        obtain ⟨n, en⟩ : ∃ n, many9 true i = n := ⟨_, rfl⟩
        rw [en] at hn CM hD
        have HD := Lib.hid hD
        have HO := Lib.hid hO
        clear hD hO
        go_wp2_with fail
        refine (CM _).mono ?_
        rintro e w' ⟨rfl, rfl⟩
        have en1 : IntKind.i64.wrap ((n : Int) - 1) = (n : Int) - 1 := IntWalk.i64_in _ (by omega)
        go_wp2_with fail
        go_loopw [3, 6] (fun ov jv wr => ∃ m : Nat, m ≤ n ∧ jv = .int .i64 ((n : Int) - 1 - (m : Int)) ∧ Grown t w wr ov (downs true k ++ dnk n i m)) (fun _ jv _ => (intOf jv + 1).toNat)
        case atStart => exact ⟨0, by omega, by simp, g, cap, N, rfl, by simpa [dnk] using HO.out, hbl, hts⟩
        case round =>
          clear HO hbl hts
          obtain ⟨m, hm, rfl, g, cap, N, rfl, hO, hbl, hts⟩ := hrel
          by_cases hlt2 : m < n
          · obtain ⟨j, ej⟩ : ∃ j : Nat, n - 1 - m = j := ⟨_, rfl⟩
            have ej' : (n : Int) - 1 - (m : Int) = (j : Int) := by omega
            rw [ej']
            have CP : ∀ W : World, Calls Try.prog 24 #[.int .i64 (n : Int), .int .i64 (i : Int), .int .i64 (j : Int)] W fun e w' => e = .returned (.int .i64 ((p9 n i j : Nat) : Int)) ∧ Below W.heap.size W w' := fun W => rpart9 n i j W (by omega) (by omega) i6 (by omega)
            have hp := (p9_le (n := n) (i := i) (j := j) (by omega) (by omega) i6 (by omega)).2.2
            have hS := dnk_succ n i m
            rw [ej] at hS
            obtain ⟨x, ex⟩ : ∃ x, p9 n i j = x := ⟨_, rfl⟩
            rw [ex] at CP hp hS
            have HS := Lib.hid hS
            have HO := Lib.hid hO
            have hll : N ≤ 2000 := by have e := own_len hO; rw [List.length_append, dnk_len] at e; have := downs_len true k (by omega); omega
            clear hS hO ex
            go_wp2_with fail
            refine (CP _).mono ?_
            rintro e w2 ⟨rfl, b⟩
            obtain ⟨hO2, hbl2, hts2, hg⟩ := own_after HO.out hbl hts b
            have HO2 := Lib.hid hO2
            have kx : IntKind.i64.wrap (-(x : Int)) = -(x : Int) := IntWalk.i64_in _ (by omega)
            have kj : IntKind.i64.wrap ((j : Int) - 1) = (j : Int) - 1 := IntWalk.i64_in _ (by omega)
            clear hO2 HO hbl hts b CP hp
            go_wp2_with (at_builtin; refine wpList_append_lies _ rfl _ _ 22 rfl t 2 i0 (.int .i64 0) 1 8 Try.underlying22 hi hz0 hz1 hz2 rfl (by decide) _ _ _ rfl (HO2.out.alloc _) ⟨w2.heap.size, 0, none⟩ 1 1 [.int .i64 (-(x : Int))] rfl rfl (cell_one_new _ _ _) (by simp [Value.oneCell']) (by omega) (by unfold maxLen; omega) (by omega) (by simp; omega) _ rfl ?_; intro g1 cap1 w3 hown1 hgrow1 hat hlt1)
            go_roundw
            case rel =>
              refine ⟨m + 1, by omega, by rw [show (n : Int) - 1 - ((m + 1 : Nat) : Int) = (j : Int) - 1 by omega], ?_⟩
              have hG := Grown.push hbl2 hts2 HT.out hg hown1 hgrow1
              rw [HS.out, ← List.append_assoc]
              exact hG
            case measure => simp [intOf] <;> omega
          · obtain rfl : m = n := by omega
            have ki : IntKind.i64.wrap ((i : Int) - 1) = (i : Int) - 1 := IntWalk.i64_in _ (by omega)
            have HO := Lib.hid hO
            clear hO
            go_wp2_with fail
            go_roundw
            case rel => exact ⟨k + 1, by omega, by rw [show (6 : Int) - ((k + 1 : Nat) : Int) = (i : Int) - 1 by omega], g, cap, N, rfl, by rw [HD.out]; exact HO.out, hbl, hts⟩
            case measure => simp [intOf] <;> omega
      · obtain rfl : k = 7 := by omega
        go_wp2_with fail
        go_meet
        exact ⟨g, cap, N, rfl, hO, hbl, hts⟩
  case rest =>
    obtain ⟨l0, el0⟩ : ∃ l, low9 true = l := ⟨_, rfl⟩
    have hl0 : l0.length ≤ 900 := by rw [← el0]; have := downs_len true 7 (by omega); show (downs true 7).length ≤ 900; omega
    rw [el0] at hcut
    have EL0 := Lib.hid el0
    obtain ⟨g, cap, N, rfl, hO, hbl, hts⟩ := hcut
    have hg := (hO.lt g rfl).1
    have hN : N ≤ 900 := by have := own_len hO; omega
    have HO := Lib.hid hO
    clear hO hown el0
    go_upto_block 4 with (at_builtin; refine wpList_append_lies _ rfl _ _ 22 rfl t 2 i0 (.int .i64 0) 1 8 Try.underlying22 hi hz0 hz1 hz2 rfl (by decide) _ _ _ rfl (HO.out.alloc _) ⟨wc.heap.size, 0, none⟩ 1 1 [.int .i64 0] rfl rfl (cell_one_new _ _ _) (by simp [Value.oneCell']) (by omega) (by unfold maxLen; omega) (by omega) (by simp; omega) _ rfl ?_; intro g1 cap1 w3 hown1 hgrow1 hat hlt1)
    have hG := Grown.push hbl hts HT.out hg hown1 hgrow1
    clear hown1 hgrow1 hat HO hbl hts hg
    go_cut [3] (fun ov wx => Grown t w wx ov (l0 ++ [0] ++ ups true 7))
    case first =>
      go_wp2_with fail
      go_loopw [3, 7] (fun ov iv wr => ∃ i : Nat, i ≤ 7 ∧ iv = .int .i64 (i : Int) ∧ Grown t w wr ov (l0 ++ [0] ++ ups true i)) (fun _ iv _ => 7 - (intOf iv).toNat)
      case atStart => exact ⟨0, by omega, rfl, by simpa [ups] using hG⟩
      case round =>
        clear hG
        obtain ⟨i, hik, rfl, g, cap, N, rfl, hO, hbl, hts⟩ := hrel
        by_cases hlt : i < 7
        · have i6 : i ≤ 6 := by omega
          have hn := many9_le true i6
          have CM : ∀ W : World, Calls Try.prog 23 #[.bool true, .int .i64 (i : Int)] W fun e w' => e = .returned (.int .i64 ((many9 true i : Nat) : Int)) ∧ W = w' := fun W => rmany9 true i W i6
          have hD := ups_succ true i
          obtain ⟨n, en⟩ : ∃ n, many9 true i = n := ⟨_, rfl⟩
          rw [en] at hn CM hD
          have HD := Lib.hid hD
          have HO := Lib.hid hO
          clear hD hO
          go_wp2_with fail
          refine (CM _).mono ?_
          rintro e w' ⟨rfl, rfl⟩
          go_wp2_with fail
          go_loopw [3, 9] (fun ov jv wr => ∃ j : Nat, j ≤ n ∧ jv = .int .i64 (j : Int) ∧ Grown t w wr ov (l0 ++ [0] ++ ups true i ++ upk n i j)) (fun _ jv _ => n - (intOf jv).toNat)
          case atStart => exact ⟨0, by omega, rfl, g, cap, N, rfl, by simpa [upk] using HO.out, hbl, hts⟩
          case round =>
            clear HO hbl hts
            obtain ⟨j, hm, rfl, g, cap, N, rfl, hO, hbl, hts⟩ := hrel
            by_cases hlt2 : j < n
            · have CP : ∀ W : World, Calls Try.prog 24 #[.int .i64 (n : Int), .int .i64 (i : Int), .int .i64 (j : Int)] W fun e w' => e = .returned (.int .i64 ((p9 n i j : Nat) : Int)) ∧ Below W.heap.size W w' := fun W => rpart9 n i j W (by omega) (by omega) i6 (by omega)
              have hp := (p9_le (n := n) (i := i) (j := j) (by omega) (by omega) i6 (by omega)).2.2
              have hS := upk_succ n i j
              obtain ⟨x, ex⟩ : ∃ x, p9 n i j = x := ⟨_, rfl⟩
              rw [ex] at CP hp hS
              have HS := Lib.hid hS
              have HO := Lib.hid hO
              have hll : N ≤ 3000 := by have e := own_len hO; simp only [List.length_append, upk_len, List.length_cons, List.length_nil] at e; have := ups_len true i (by omega); omega
              clear hS hO ex
              go_wp2_with fail
              refine (CP _).mono ?_
              rintro e w2 ⟨rfl, b⟩
              obtain ⟨hO2, hbl2, hts2, hg⟩ := own_after HO.out hbl hts b
              have HO2 := Lib.hid hO2
              clear hO2 HO hbl hts b CP hp
              go_wp2_with (at_builtin; refine wpList_append_lies _ rfl _ _ 22 rfl t 2 i0 (.int .i64 0) 1 8 Try.underlying22 hi hz0 hz1 hz2 rfl (by decide) _ _ _ rfl (HO2.out.alloc _) ⟨w2.heap.size, 0, none⟩ 1 1 [.int .i64 (x : Int)] rfl rfl (cell_one_new _ _ _) (by simp [Value.oneCell']) (by omega) (by unfold maxLen; omega) (by omega) (by simp; omega) _ rfl ?_; intro g1 cap1 w3 hown1 hgrow1 hat hlt1)
              go_roundw
              case rel =>
                refine ⟨j + 1, by omega, by go_num, ?_⟩
                have hG := Grown.push hbl2 hts2 HT.out hg hown1 hgrow1
                rw [HS.out, ← List.append_assoc]
                exact hG
              case measure => simp [intOf] <;> omega
            · obtain rfl : j = n := by omega
              have HO := Lib.hid hO
              clear hO
              go_wp2_with fail
              go_roundw
              case rel => exact ⟨i + 1, by omega, by go_num, g, cap, N, rfl, by rw [HD.out, ← List.append_assoc]; exact HO.out, hbl, hts⟩
              case measure => simp [intOf] <;> omega
        · obtain rfl : i = 7 := by omega
          go_wp2_with fail
          go_meet
          exact ⟨g, cap, N, rfl, hO, hbl, hts⟩
    case rest =>
      clear hG
      obtain ⟨g, cap, N, rfl, hO, hbl, hts⟩ := hcut
      have hg := (hO.lt g rfl).1
      have hll : N ≤ 3000 := by have e := own_len hO; simp only [List.length_append, List.length_cons, List.length_nil] at e; have := ups_len true 7 (by omega); omega
      have HO := Lib.hid hO
      clear hO
      go_wp2_with (at_builtin; refine wpList_append_lies _ rfl _ _ 22 rfl t 2 i0 (.int .i64 0) 1 8 Try.underlying22 hi hz0 hz1 hz2 rfl (by decide) _ _ _ rfl (HO.out.alloc _) ⟨wc.heap.size, 0, none⟩ 1 1 [.int .i64 2560000000] rfl rfl (cell_one_new _ _ _) (by simp [Value.oneCell']) (by omega) (by unfold maxLen; omega) (by omega) (by simp; omega) _ rfl ?_; intro g1 cap1 w4 hown1 hgrow1 hat hlt1)
      go_ret
      have hG := Grown.push hbl hts HT.out hg hown1 hgrow1
      exact ⟨_, _, _, rfl, by unfold tree9; rw [EL0.out]; exact hG.ir.1, by rw [HT.out]; exact hG.ir.2⟩

set_option maxRecDepth 100000 in
set_option maxHeartbeats 8000000 in
theorem rtree9_f (w : World) :
    Calls Try.prog 21 #[.bool false] w (GotI w (tree9 false)) := by
  obtain ⟨i0, hi, hz0, hz1, hz2⟩ := info_parts infoI
  obtain ⟨t, ht⟩ : ∃ t, w.heap.size = t := ⟨_, rfl⟩
  have HT := Lib.hid ht
  have hB0 : Below t w w := Below.refl _ _
  have hown : ∀ W : World, t ≤ W.heap.size → (W.alloc (.cells #[] 2)).ownsRow t 2 1 (.slice (some ⟨W.heap.size, 0, none⟩) 0 0) 0 ([] : List Value) := fun W h => World.ownsRow_lit W #[] 0 h (by unfold maxLen; omega) rfl
  clear ht
  go_enter Try.func21, Try.ntmps21
  go_upto_block 0 with fail
  go_cut [3] (fun ov wx => Grown t w wx ov (low9 false))
  case first =>
    go_wp2_with fail
    go_loopw [3, 4] (fun ov iv wr => iv = .int .i64 6 ∧ Grown t w wr ov []) (fun _ iv _ => (intOf iv + 1).toNat)
    case atStart => exact ⟨rfl, w.heap.size, 0, 0, rfl, hown w (by rw [HT.out]; omega), hB0.alloc (by rw [HT.out]; omega) _, by simp; rw [HT.out]; omega⟩
    case round =>
      obtain ⟨rfl, g, cap, N, rfl, hO, hbl, hts⟩ := hrel
      go_wp2_with fail
      go_meet
      exact ⟨g, cap, N, rfl, hO, hbl, hts⟩
  case rest =>
    obtain ⟨l0, el0⟩ : ∃ l, low9 false = l := ⟨_, rfl⟩
    have hl0 : l0.length ≤ 900 := by rw [← el0]; show ([] : List Int).length ≤ 900; simp
    rw [el0] at hcut
    have EL0 := Lib.hid el0
    obtain ⟨g, cap, N, rfl, hO, hbl, hts⟩ := hcut
    have hg := (hO.lt g rfl).1
    have hN : N ≤ 900 := by have := own_len hO; omega
    have HO := Lib.hid hO
    clear hO hown el0
    go_upto_block 4 with (at_builtin; refine wpList_append_lies _ rfl _ _ 22 rfl t 2 i0 (.int .i64 0) 1 8 Try.underlying22 hi hz0 hz1 hz2 rfl (by decide) _ _ _ rfl (HO.out.alloc _) ⟨wc.heap.size, 0, none⟩ 1 1 [.int .i64 0] rfl rfl (cell_one_new _ _ _) (by simp [Value.oneCell']) (by omega) (by unfold maxLen; omega) (by omega) (by simp; omega) _ rfl ?_; intro g1 cap1 w3 hown1 hgrow1 hat hlt1)
    have hG := Grown.push hbl hts HT.out hg hown1 hgrow1
    clear hown1 hgrow1 hat HO hbl hts hg
    go_cut [3] (fun ov wx => Grown t w wx ov (l0 ++ [0] ++ ups false 7))
    case first =>
      go_wp2_with fail
      go_loopw [3, 7] (fun ov iv wr => ∃ i : Nat, i ≤ 7 ∧ iv = .int .i64 (i : Int) ∧ Grown t w wr ov (l0 ++ [0] ++ ups false i)) (fun _ iv _ => 7 - (intOf iv).toNat)
      case atStart => exact ⟨0, by omega, rfl, by simpa [ups] using hG⟩
      case round =>
        clear hG
        obtain ⟨i, hik, rfl, g, cap, N, rfl, hO, hbl, hts⟩ := hrel
        by_cases hlt : i < 7
        · have i6 : i ≤ 6 := by omega
          have hn := many9_le false i6
          have CM : ∀ W : World, Calls Try.prog 23 #[.bool false, .int .i64 (i : Int)] W fun e w' => e = .returned (.int .i64 ((many9 false i : Nat) : Int)) ∧ W = w' := fun W => rmany9 false i W i6
          have hD := ups_succ false i
          obtain ⟨n, en⟩ : ∃ n, many9 false i = n := ⟨_, rfl⟩
          rw [en] at hn CM hD
          have HD := Lib.hid hD
          have HO := Lib.hid hO
          clear hD hO
          go_wp2_with fail
          refine (CM _).mono ?_
          rintro e w' ⟨rfl, rfl⟩
          go_wp2_with fail
          go_loopw [3, 9] (fun ov jv wr => ∃ j : Nat, j ≤ n ∧ jv = .int .i64 (j : Int) ∧ Grown t w wr ov (l0 ++ [0] ++ ups false i ++ upk n i j)) (fun _ jv _ => n - (intOf jv).toNat)
          case atStart => exact ⟨0, by omega, rfl, g, cap, N, rfl, by simpa [upk] using HO.out, hbl, hts⟩
          case round =>
            clear HO hbl hts
            obtain ⟨j, hm, rfl, g, cap, N, rfl, hO, hbl, hts⟩ := hrel
            by_cases hlt2 : j < n
            · have CP : ∀ W : World, Calls Try.prog 24 #[.int .i64 (n : Int), .int .i64 (i : Int), .int .i64 (j : Int)] W fun e w' => e = .returned (.int .i64 ((p9 n i j : Nat) : Int)) ∧ Below W.heap.size W w' := fun W => rpart9 n i j W (by omega) (by omega) i6 (by omega)
              have hp := (p9_le (n := n) (i := i) (j := j) (by omega) (by omega) i6 (by omega)).2.2
              have hS := upk_succ n i j
              obtain ⟨x, ex⟩ : ∃ x, p9 n i j = x := ⟨_, rfl⟩
              rw [ex] at CP hp hS
              have HS := Lib.hid hS
              have HO := Lib.hid hO
              have hll : N ≤ 3000 := by have e := own_len hO; simp only [List.length_append, upk_len, List.length_cons, List.length_nil] at e; have := ups_len false i (by omega); omega
              clear hS hO ex
              go_wp2_with fail
              refine (CP _).mono ?_
              rintro e w2 ⟨rfl, b⟩
              obtain ⟨hO2, hbl2, hts2, hg⟩ := own_after HO.out hbl hts b
              have HO2 := Lib.hid hO2
              clear hO2 HO hbl hts b CP hp
              go_wp2_with (at_builtin; refine wpList_append_lies _ rfl _ _ 22 rfl t 2 i0 (.int .i64 0) 1 8 Try.underlying22 hi hz0 hz1 hz2 rfl (by decide) _ _ _ rfl (HO2.out.alloc _) ⟨w2.heap.size, 0, none⟩ 1 1 [.int .i64 (x : Int)] rfl rfl (cell_one_new _ _ _) (by simp [Value.oneCell']) (by omega) (by unfold maxLen; omega) (by omega) (by simp; omega) _ rfl ?_; intro g1 cap1 w3 hown1 hgrow1 hat hlt1)
              go_roundw
              case rel =>
                refine ⟨j + 1, by omega, by go_num, ?_⟩
                have hG := Grown.push hbl2 hts2 HT.out hg hown1 hgrow1
                rw [HS.out, ← List.append_assoc]
                exact hG
              case measure => simp [intOf] <;> omega
            · obtain rfl : j = n := by omega
              have HO := Lib.hid hO
              clear hO
              go_wp2_with fail
              go_roundw
              case rel => exact ⟨i + 1, by omega, by go_num, g, cap, N, rfl, by rw [HD.out, ← List.append_assoc]; exact HO.out, hbl, hts⟩
              case measure => simp [intOf] <;> omega
        · obtain rfl : i = 7 := by omega
          go_wp2_with fail
          go_meet
          exact ⟨g, cap, N, rfl, hO, hbl, hts⟩
    case rest =>
      clear hG
      obtain ⟨g, cap, N, rfl, hO, hbl, hts⟩ := hcut
      have hg := (hO.lt g rfl).1
      have hll : N ≤ 3000 := by have e := own_len hO; simp only [List.length_append, List.length_cons, List.length_nil] at e; have := ups_len false 7 (by omega); omega
      have HO := Lib.hid hO
      clear hO
      go_wp2_with (at_builtin; refine wpList_append_lies _ rfl _ _ 22 rfl t 2 i0 (.int .i64 0) 1 8 Try.underlying22 hi hz0 hz1 hz2 rfl (by decide) _ _ _ rfl (HO.out.alloc _) ⟨wc.heap.size, 0, none⟩ 1 1 [.int .i64 2560000000] rfl rfl (cell_one_new _ _ _) (by simp [Value.oneCell']) (by omega) (by unfold maxLen; omega) (by omega) (by simp; omega) _ rfl ?_; intro g1 cap1 w4 hown1 hgrow1 hat hlt1)
      go_ret
      have hG := Grown.push hbl hts HT.out hg hown1 hgrow1
      exact ⟨_, _, _, rfl, by unfold tree9; rw [EL0.out]; exact hG.ir.1, by rw [HT.out]; exact hG.ir.2⟩
end Go.Proofs.Ytcbchofjaegdgaa
