/-
  Several texts in one: B2, B3, B4, B5, M10, C10.
-/
import Derived.Test.YtgglcgkgeilblaaA2

/-
  The contracts of the ninth reference: Signed, Den, power, part, many.
-/
namespace Go.Proofs.Ytgglcgkgeilblaa
set_option maxRecDepth 100000
open Go.RowKit
set_option linter.unusedVariables false
set_option linter.unusedSimpArgs false

set_option maxHeartbeats 1000000 in
theorem rpow9 (n k : Nat) (w : World) (h1 : 1 ≤ n) (hn : n ≤ 1000) (hk : k ≤ 20) (hp : n ^ k ≤ 4611686018427387904) :
    Calls Try.prog 66 #[.int .i64 (n : Int), .int .i64 (k : Int)] w fun e w' => e = .returned (.int .i64 ((n ^ k : Nat) : Int)) ∧ w = w' := by
  have key : ∀ j, j < k → n ^ j * n ≤ 4611686018427387904 := fun j hj => by rw [← Nat.pow_succ]; exact Nat.le_trans (Nat.pow_le_pow_right h1 hj) hp
  go_enter Try.func66, Try.ntmps66
  go_wp2_with fail
  go_loop [5, 6] (fun ov iv => ∃ (j : Nat), j ≤ k ∧ iv = .int .i64 (j : Int) ∧ ov = .int .i64 ((n ^ j : Nat) : Int)) (fun _ iv => k - (intOf iv).toNat)
  case atStart => exact ⟨0, Nat.zero_le _, rfl, rfl⟩
  case round =>
    obtain ⟨j, hj, rfl, rfl⟩ := hrel
    by_cases hlt : j < k
    · obtain ⟨m, hm⟩ : ∃ m, n ^ j = m := ⟨_, rfl⟩
      have k1 := key j hlt
      obtain ⟨q, hq⟩ : ∃ q, m * n = q := ⟨_, rfl⟩
      have hnext : n ^ (j + 1) = q := by rw [Nat.pow_succ, hm, hq]
      rw [hm] at k1 ⊢
      rw [hq] at k1
      have k2 : IntKind.i64.wrap ((m : Int) * (n : Int)) = (q : Int) := by rw [← Int.natCast_mul, hq]; exact IntWalk.i64_in _ (by omega)
      have HN := Lib.hid hnext
      clear key hp hm hq hnext
      go_wp2_with fail
      go_round
      case rel => exact ⟨j + 1, by omega, by go_num, by rw [HN.out]⟩
      case measure => simp [intOf]; omega
    · obtain rfl : j = k := by omega
      go_wp2_with fail
      go_ret
      exact ⟨rfl, rfl⟩

/-- A tree's number of a decade. -/
def p9 (n i j : Nat) : Nat := (2 * n + 9 * (2 * j + 1)) * (128 / n) * 10 ^ i
theorem p9_le {n i j : Nat} (h1 : 1 ≤ n) (hn : n ≤ 128) (hi : i ≤ 6) (hj : j < n) : (2 * n + 9 * (2 * j + 1)) * (128 / n) ≤ 400000 ∧ 10 ^ i ≤ 1000000 ∧ p9 n i j ≤ 400000000000 := by
  have a1 : 128 / n ≤ 128 := Nat.div_le_self _ _
  have a2 : (2 * n + 9 * (2 * j + 1)) * (128 / n) ≤ 2570 * 128 := Nat.mul_le_mul (by omega) a1
  have a3 : 10 ^ i ≤ 10 ^ 6 := Nat.pow_le_pow_right (by omega) hi
  have a4 : p9 n i j ≤ 2570 * 128 * 10 ^ 6 := Nat.mul_le_mul a2 a3
  refine ⟨Nat.le_trans a2 (by decide), Nat.le_trans a3 (by decide), Nat.le_trans a4 (by decide)⟩
set_option maxHeartbeats 1000000 in
theorem rpart9 (n i j : Nat) (w : World) (h1 : 1 ≤ n) (hn : n ≤ 128) (hi : i ≤ 6) (hj : j < n) :
    Calls Try.prog 59 #[.int .i64 (n : Int), .int .i64 (i : Int), .int .i64 (j : Int)] w fun e w' => e = .returned (.int .i64 ((p9 n i j : Nat) : Int)) ∧ Below w.heap.size w w' := by
  obtain ⟨b1, b2, b3⟩ := p9_le h1 hn hi hj
  have CP : ∀ W : World, Calls Try.prog 66 #[.int .i64 10, .int .i64 (i : Int)] W fun e w' => e = .returned (.int .i64 ((10 ^ i : Nat) : Int)) ∧ W = w' := fun W => rpow9 10 i W (by omega) (by omega) (by omega) (by omega)
  have hq : ((128 : Int)).tdiv (n : Int) = ((128 / n : Nat) : Int) := by rw [Int.tdiv_eq_ediv_of_nonneg (by omega)]; simp
  have hq' : ((128 : Int)) / (n : Int) = ((128 / n : Nat) : Int) := by simp
  have q1 : 128 / n ≤ 128 := Nat.div_le_self _ _
  unfold p9 at b3 ⊢
  obtain ⟨q, eq⟩ : ∃ q, 128 / n = q := ⟨_, rfl⟩
  obtain ⟨t, et⟩ : ∃ t, 10 ^ i = t := ⟨_, rfl⟩
  rw [eq] at b1 b3 hq hq' q1 ⊢
  rw [et] at b2 b3 CP ⊢
  obtain ⟨u, eu⟩ : ∃ u, 2 * n + 9 * (2 * j + 1) = u := ⟨_, rfl⟩
  have ul : u ≤ 2570 := by omega
  rw [eu] at b1 b3 ⊢
  obtain ⟨v, ev⟩ : ∃ v, u * q = v := ⟨_, rfl⟩
  rw [ev] at b1 b3 ⊢
  obtain ⟨x, ex⟩ : ∃ x, v * t = x := ⟨_, rfl⟩
  rw [ex] at b3 ⊢
  have n1 : ¬ n = 0 := by omega
  have n0 : ((n : Int) == 0) = false := by simp; omega
  obtain ⟨a, ea⟩ : ∃ a, 2 * n = a := ⟨_, rfl⟩
  obtain ⟨c, ec⟩ : ∃ c, 2 * j = c := ⟨_, rfl⟩
  obtain ⟨d, ed⟩ : ∃ d, c + 1 = d := ⟨_, rfl⟩
  obtain ⟨o, eo⟩ : ∃ o, 9 * d = o := ⟨_, rfl⟩
  have k1 : IntKind.i64.wrap ((2 : Int) * (n : Int)) = (a : Int) := by rw [IntWalk.i64_in _ (by omega)]; omega
  have k2 : IntKind.i64.wrap ((2 : Int) * (j : Int)) = (c : Int) := by rw [IntWalk.i64_in _ (by omega)]; omega
  have k3 : IntKind.i64.wrap ((c : Int) + 1) = (d : Int) := by rw [IntWalk.i64_in _ (by omega)]; omega
  have k4 : IntKind.i64.wrap ((9 : Int) * (d : Int)) = (o : Int) := by rw [IntWalk.i64_in _ (by omega)]; omega
  have k5 : IntKind.i64.wrap ((a : Int) + (o : Int)) = (u : Int) := by rw [IntWalk.i64_in _ (by omega)]; omega
  have kq : IntKind.i64.wrap (q : Int) = (q : Int) := IntWalk.i64_in _ (by omega)
  have KV : IntKind.i64.wrap ((u : Int) * (q : Int)) = (v : Int) := by rw [← Int.natCast_mul, ev]; exact IntWalk.i64_in _ (by omega)
  have KX : IntKind.i64.wrap ((v : Int) * (t : Int)) = (x : Int) := by rw [← Int.natCast_mul, ex]; exact IntWalk.i64_in _ (by omega)
  have cc := Below.refl w.heap.size w
  clear et ev ex ea ec ed eo eu eq
  go_enter Try.func59, Try.ntmps59
  go_wp2_with fail
  go_region_held3 (fun w' => True) (trivial) (first | (go_at_call 66; refine (CP _).mono ?_; rintro e w' ⟨rfl, rfl⟩))
  go_wp2_with fail
  go_ret
  exact ⟨rfl, below_drewN cc 1⟩

/-- How many numbers a decade has, on a side. -/
def many9 (s : Bool) (i : Nat) : Nat := if s then 2 ^ i else 2 ^ (i + 1)
theorem many9_le (s : Bool) {i : Nat} (hi : i ≤ 6) : 1 ≤ many9 s i ∧ many9 s i ≤ 128 := by
  have a : 1 ≤ 2 ^ i := Nat.pow_pos (by omega)
  have b : 2 ^ i ≤ 2 ^ 6 := Nat.pow_le_pow_right (by omega) hi
  unfold many9
  cases s
  · rw [if_neg (by decide), Nat.pow_succ]; omega
  · rw [if_pos rfl]; omega
set_option maxHeartbeats 1000000 in
theorem rmany9 (s : Bool) (i : Nat) (w : World) (hi : i ≤ 6) :
    Calls Try.prog 58 #[.bool s, .int .i64 (i : Int)] w fun e w' => e = .returned (.int .i64 ((many9 s i : Nat) : Int)) ∧ w = w' := by
  have b1 : 2 ^ i ≤ 2 ^ 6 := Nat.pow_le_pow_right (by omega) hi
  have b2 : 2 ^ (i + 1) ≤ 2 ^ 7 := Nat.pow_le_pow_right (by omega) (by omega)
  have C1 : ∀ W : World, Calls Try.prog 66 #[.int .i64 2, .int .i64 (i : Int)] W fun e w' => e = .returned (.int .i64 ((2 ^ i : Nat) : Int)) ∧ W = w' := fun W => rpow9 2 i W (by omega) (by omega) (by omega) (by omega)
  have C2 : ∀ W : World, Calls Try.prog 66 #[.int .i64 2, .int .i64 ((i : Int) + 1)] W fun e w' => e = .returned (.int .i64 ((2 ^ (i + 1) : Nat) : Int)) ∧ W = w' := fun W => rpow9 2 (i + 1) W (by omega) (by omega) (by omega) (by omega)
  obtain ⟨x, ex⟩ : ∃ x, 2 ^ i = x := ⟨_, rfl⟩
  obtain ⟨y, ey⟩ : ∃ y, 2 ^ (i + 1) = y := ⟨_, rfl⟩
  unfold many9
  rw [ex] at C1 ⊢
  rw [ey] at C2 ⊢
  clear ex ey b1 b2
  cases s
  · go_enter Try.func58, Try.ntmps58
    go_wp2_with fail
    refine (C2 _).mono ?_
    rintro e w' ⟨rfl, rfl⟩
    go_wp2_with fail
    go_ret
    exact ⟨rfl, rfl⟩
  · go_enter Try.func58, Try.ntmps58
    go_wp2_with fail
    refine (C1 _).mono ?_
    rintro e w' ⟨rfl, rfl⟩
    go_wp2_with fail
    go_ret
    exact ⟨rfl, rfl⟩

/-- The denominator of a kind; of none 0. -/
def den9 (k : Int) : Int := if k = 0 ∨ k = 1 then 2560000000 else if k = 2 ∨ k = 3 then 255 else 0
end Go.Proofs.Ytgglcgkgeilblaa

/-
  The contract of the ninth reference: tree.
-/
namespace Go.Proofs.Ytgglcgkgeilblaa
set_option maxRecDepth 100000
open Go.RowKit
set_option linter.unusedVariables false
set_option linter.unusedSimpArgs false

/-- The first m of a decade's numbers below nought, and above it. -/
def dnk (n i m : Nat) : List Int := (List.range m).map fun r => -(p9 n i (n - 1 - r) : Int)
def upk (n i m : Nat) : List Int := (List.range m).map fun r => (p9 n i r : Int)
/-- The first k decades, from above; from below. -/
def downs (s : Bool) (k : Nat) : List Int := (List.range k).flatMap fun r => dnk (many9 s (6 - r)) (6 - r) (many9 s (6 - r))
def ups (s : Bool) (k : Nat) : List Int := (List.range k).flatMap fun r => upk (many9 s r) r (many9 s r)
def low9 (s : Bool) : List Int := if s then downs s 7 else []
def tree9 (s : Bool) : List Int := low9 s ++ [0] ++ ups s 7 ++ [2560000000]
theorem dnk_succ (n i m : Nat) : dnk n i (m + 1) = dnk n i m ++ [-(p9 n i (n - 1 - m) : Int)] := by unfold dnk; rw [List.range_succ, List.map_append]; rfl
theorem upk_succ (n i m : Nat) : upk n i (m + 1) = upk n i m ++ [(p9 n i m : Int)] := by unfold upk; rw [List.range_succ, List.map_append]; rfl
theorem dnk_len (n i m : Nat) : (dnk n i m).length = m := by unfold dnk; simp
theorem upk_len (n i m : Nat) : (upk n i m).length = m := by unfold upk; simp
theorem downs_succ (s : Bool) (k : Nat) : downs s (k + 1) = downs s k ++ dnk (many9 s (6 - k)) (6 - k) (many9 s (6 - k)) := by unfold downs; rw [List.range_succ, List.flatMap_append]; simp
theorem ups_succ (s : Bool) (k : Nat) : ups s (k + 1) = ups s k ++ upk (many9 s k) k (many9 s k) := by unfold ups; rw [List.range_succ, List.flatMap_append]; simp
theorem downs_len (s : Bool) : ∀ k, k ≤ 7 → (downs s k).length ≤ 128 * k
  | 0, _ => by simp [downs]
  | k + 1, h => by
    rw [downs_succ, List.length_append, dnk_len]
    have := downs_len s k (by omega)
    have := (many9_le s (i := 6 - k) (by omega)).2
    omega
theorem ups_len (s : Bool) : ∀ k, k ≤ 7 → (ups s k).length ≤ 128 * k
  | 0, _ => by simp [ups]
  | k + 1, h => by
    rw [ups_succ, List.length_append, upk_len]
    have := ups_len s k (by omega)
    have := (many9_le s (i := k) (by omega)).2
    omega

/-- A value that is a row of the call's own (its blocks from t on), which holds l; below t all is as it was. -/
def Grown (t : Nat) (w W : World) (v : Value) (l : List Int) : Prop :=
  ∃ g cap N, v = .slice (some ⟨g, 0, none⟩) N cap ∧ W.ownsRow t 2 1 (.slice (some ⟨g, 0, none⟩) N cap) N (l.map encI) ∧ Below t w W ∧ t ≤ W.heap.size
theorem own_len {t : Nat} {W : World} {v : Value} {N : Nat} {l : List Int} (h : W.ownsRow t 2 1 v N (l.map encI)) : N = l.length := by have := h.1; simp at this; omega
theorem Grown.push {t : Nat} {w W w1 : World} {g N g1 cap1 : Nat} {l : List Int} {z : Int} {o : Obj} (hbl : Below t w W) (hts : t ≤ W.heap.size) (hwt : w.heap.size = t) (hg : t ≤ g)
    (hown1 : w1.ownsRow t 2 1 (.slice (some ⟨g1, 0, none⟩) (N + 1) cap1) (N + 1) (l.map encI ++ [.int .i64 z])) (hgrow1 : (W.alloc o).grownBy w1 (some g)) :
    Grown t w w1 (.slice (some ⟨g1, 0, none⟩) (N + 1) cap1) (l ++ [z]) := by
  have h1 : Below t w w1 := (hbl.alloc (by omega) _).grown hgrow1 (by simp; omega) (fun q e => by injection (show some g = some q from e) with e1; omega)
  refine ⟨g1, cap1, N + 1, rfl, ?_, h1, ?_⟩
  · rw [List.map_append]; exact hown1
  · have := h1.size; omega
theorem Grown.ir {t : Nat} {w W : World} {A : Option Addr} {n c : Nat} {l : List Int} (h : Grown t w W (.slice A n c) l) : IR W A n c l ∧ Below t w W := by
  obtain ⟨g, cap, N, e, hO, hb, hs⟩ := h
  injection e with e1 e2 e3
  subst e1
  subst e2
  subst e3
  exact ⟨IR.of_own hO, hb⟩
theorem own_after {t : Nat} {w W W' : World} {g cap n : Nat} {xs : List Value} (hO : W.ownsRow t 2 1 (.slice (some ⟨g, 0, none⟩) n cap) n xs) (hbl : Below t w W) (hts : t ≤ W.heap.size) (b : Below W.heap.size W W') :
    W'.ownsRow t 2 1 (.slice (some ⟨g, 0, none⟩) n cap) n xs ∧ Below t w W' ∧ t ≤ W'.heap.size ∧ t ≤ g := by
  have hl := hO.lt g rfl
  refine ⟨?_, hbl.trans (b.mono hts), Nat.le_trans hts b.size, hl.1⟩
  obtain ⟨h1, h2⟩ := hO
  refine ⟨h1, ?_⟩
  rcases h2 with h2 | ⟨g', cap', cur, hv, hg, hh, r⟩
  · exact Or.inl h2
  · refine Or.inr ⟨g', cap', cur, hv, hg, ?_, r⟩
    have : g' = g := by injection hv with e; injection e with e2; injection e2 with e3; exact e3.symm
    subst this
    rw [b.block g' hl.2]; exact hh

set_option maxRecDepth 100000 in
set_option maxHeartbeats 8000000 in
theorem rtree9_t (w : World) :
    Calls Try.prog 47 #[.bool true] w (GotI w (tree9 true)) := by
  obtain ⟨i0, hi, hz0, hz1, hz2⟩ := info_parts infoI
  obtain ⟨t, ht⟩ : ∃ t, w.heap.size = t := ⟨_, rfl⟩
  have HT := Lib.hid ht
  have hB0 : Below t w w := Below.refl _ _
  have hown : ∀ W : World, t ≤ W.heap.size → (W.alloc (.cells #[] 2)).ownsRow t 2 1 (.slice (some ⟨W.heap.size, 0, none⟩) 0 0) 0 ([] : List Value) := fun W h => World.ownsRow_lit W #[] 0 h (by unfold maxLen; omega) rfl
  clear ht
  go_enter Try.func47, Try.ntmps47
  go_upto_block 0 with fail
  go_cut [3] (fun ov wx => Grown t w wx ov (low9 true))
  case first =>
    go_wp2_with fail
    go_loopw [3, 4] (fun ov iv wr => ∃ k : Nat, k ≤ 7 ∧ iv = .int .i64 (6 - (k : Int)) ∧ Grown t w wr ov (downs true k)) (fun _ iv _ => (intOf iv + 1).toNat)
    case atStart => exact ⟨0, by omega, rfl, w.heap.size, 0, 0, rfl, hown w (by rw [HT.out]; omega), hB0.alloc (by rw [HT.out]; omega) _, by simp; rw [HT.out]; omega⟩
    case round =>
      obtain ⟨k, hk, rfl, g, cap, N, rfl, hO, hbl, hts⟩ := hrel
      by_cases hlt : k < 7
      · obtain ⟨i, hik⟩ : ∃ i : Nat, 6 - k = i := ⟨_, rfl⟩
        have ek : (6 : Int) - (k : Int) = (i : Int) := by omega
        have i6 : i ≤ 6 := by omega
        rw [ek]
        have hn := many9_le true i6
        have CM : ∀ W : World, Calls Try.prog 58 #[.bool true, .int .i64 (i : Int)] W fun e w' => e = .returned (.int .i64 ((many9 true i : Nat) : Int)) ∧ W = w' := fun W => rmany9 true i W i6
        have hD := downs_succ true k
        rw [hik] at hD
        obtain ⟨n, en⟩ : ∃ n, many9 true i = n := ⟨_, rfl⟩
        rw [en] at hn CM hD
        have HD := Lib.hid hD
        have HO := Lib.hid hO
        clear hD hO
        go_wp2_with fail
        refine (CM _).mono ?_
        rintro e w' ⟨rfl, rfl⟩
        have en1 : IntKind.i64.wrap ((n : Int) - 1) = (n : Int) - 1 := IntWalk.i64_in _ (by omega)
        go_wp2_with fail
        go_loopw [3, 6] (fun ov jv wr => ∃ m : Nat, m ≤ n ∧ jv = .int .i64 ((n : Int) - 1 - (m : Int)) ∧ Grown t w wr ov (downs true k ++ dnk n i m)) (fun _ jv _ => (intOf jv + 1).toNat)
        case atStart => exact ⟨0, by omega, by simp, g, cap, N, rfl, by simpa [dnk] using HO.out, hbl, hts⟩
        case round =>
          clear HO hbl hts
          obtain ⟨m, hm, rfl, g, cap, N, rfl, hO, hbl, hts⟩ := hrel
          by_cases hlt2 : m < n
          · obtain ⟨j, ej⟩ : ∃ j : Nat, n - 1 - m = j := ⟨_, rfl⟩
            have ej' : (n : Int) - 1 - (m : Int) = (j : Int) := by omega
            rw [ej']
            have CP : ∀ W : World, Calls Try.prog 59 #[.int .i64 (n : Int), .int .i64 (i : Int), .int .i64 (j : Int)] W fun e w' => e = .returned (.int .i64 ((p9 n i j : Nat) : Int)) ∧ Below W.heap.size W w' := fun W => rpart9 n i j W (by omega) (by omega) i6 (by omega)
            have hp := (p9_le (n := n) (i := i) (j := j) (by omega) (by omega) i6 (by omega)).2.2
            have hS := dnk_succ n i m
            rw [ej] at hS
            obtain ⟨x, ex⟩ : ∃ x, p9 n i j = x := ⟨_, rfl⟩
            rw [ex] at CP hp hS
            have HS := Lib.hid hS
            have HO := Lib.hid hO
            have hll : N ≤ 2000 := by have e := own_len hO; rw [List.length_append, dnk_len] at e; have := downs_len true k (by omega); omega
            clear hS hO ex
            go_wp2_with fail
            refine (CP _).mono ?_
            rintro e w2 ⟨rfl, b⟩
            obtain ⟨hO2, hbl2, hts2, hg⟩ := own_after HO.out hbl hts b
            have HO2 := Lib.hid hO2
            have kx : IntKind.i64.wrap (-(x : Int)) = -(x : Int) := IntWalk.i64_in _ (by omega)
            have kj : IntKind.i64.wrap ((j : Int) - 1) = (j : Int) - 1 := IntWalk.i64_in _ (by omega)
            clear hO2 HO hbl hts b CP hp
            go_wp2_with (at_builtin; refine wpList_append_lies _ rfl _ _ 45 rfl t 2 i0 (.int .i64 0) 1 8 Try.underlying45 hi hz0 hz1 hz2 rfl (by decide) _ _ _ rfl (HO2.out.alloc _) ⟨w2.heap.size, 0, none⟩ 1 1 [.int .i64 (-(x : Int))] rfl rfl (cell_one_new _ _ _) (by simp [Value.oneCell']) (by omega) (by unfold maxLen; omega) (by omega) (by simp; omega) _ rfl ?_; intro g1 cap1 w3 hown1 hgrow1 hat hlt1)
            go_roundw
            case rel =>
              refine ⟨m + 1, by omega, by rw [show (n : Int) - 1 - ((m + 1 : Nat) : Int) = (j : Int) - 1 by omega], ?_⟩
              have hG := Grown.push hbl2 hts2 HT.out hg hown1 hgrow1
              rw [HS.out, ← List.append_assoc]
              exact hG
            case measure => simp [intOf] <;> omega
          · obtain rfl : m = n := by omega
            have ki : IntKind.i64.wrap ((i : Int) - 1) = (i : Int) - 1 := IntWalk.i64_in _ (by omega)
            have HO := Lib.hid hO
            clear hO
            go_wp2_with fail
            go_roundw
            case rel => exact ⟨k + 1, by omega, by rw [show (6 : Int) - ((k + 1 : Nat) : Int) = (i : Int) - 1 by omega], g, cap, N, rfl, by rw [HD.out]; exact HO.out, hbl, hts⟩
            case measure => simp [intOf] <;> omega
      · obtain rfl : k = 7 := by omega
        go_wp2_with fail
        go_meet
        exact ⟨g, cap, N, rfl, hO, hbl, hts⟩
  case rest =>
    obtain ⟨l0, el0⟩ : ∃ l, low9 true = l := ⟨_, rfl⟩
    have hl0 : l0.length ≤ 900 := by rw [← el0]; have := downs_len true 7 (by omega); show (downs true 7).length ≤ 900; omega
    rw [el0] at hcut
    have EL0 := Lib.hid el0
    obtain ⟨g, cap, N, rfl, hO, hbl, hts⟩ := hcut
    have hg := (hO.lt g rfl).1
    have hN : N ≤ 900 := by have := own_len hO; omega
    have HO := Lib.hid hO
    clear hO hown el0
    go_upto_block 4 with (at_builtin; refine wpList_append_lies _ rfl _ _ 45 rfl t 2 i0 (.int .i64 0) 1 8 Try.underlying45 hi hz0 hz1 hz2 rfl (by decide) _ _ _ rfl (HO.out.alloc _) ⟨wc.heap.size, 0, none⟩ 1 1 [.int .i64 0] rfl rfl (cell_one_new _ _ _) (by simp [Value.oneCell']) (by omega) (by unfold maxLen; omega) (by omega) (by simp; omega) _ rfl ?_; intro g1 cap1 w3 hown1 hgrow1 hat hlt1)
    have hG := Grown.push hbl hts HT.out hg hown1 hgrow1
    clear hown1 hgrow1 hat HO hbl hts hg
    go_cut [3] (fun ov wx => Grown t w wx ov (l0 ++ [0] ++ ups true 7))
    case first =>
      go_wp2_with fail
      go_loopw [3, 7] (fun ov iv wr => ∃ i : Nat, i ≤ 7 ∧ iv = .int .i64 (i : Int) ∧ Grown t w wr ov (l0 ++ [0] ++ ups true i)) (fun _ iv _ => 7 - (intOf iv).toNat)
      case atStart => exact ⟨0, by omega, rfl, by simpa [ups] using hG⟩
      case round =>
        clear hG
        obtain ⟨i, hik, rfl, g, cap, N, rfl, hO, hbl, hts⟩ := hrel
        by_cases hlt : i < 7
        · have i6 : i ≤ 6 := by omega
          have hn := many9_le true i6
          have CM : ∀ W : World, Calls Try.prog 58 #[.bool true, .int .i64 (i : Int)] W fun e w' => e = .returned (.int .i64 ((many9 true i : Nat) : Int)) ∧ W = w' := fun W => rmany9 true i W i6
          have hD := ups_succ true i
          obtain ⟨n, en⟩ : ∃ n, many9 true i = n := ⟨_, rfl⟩
          rw [en] at hn CM hD
          have HD := Lib.hid hD
          have HO := Lib.hid hO
          clear hD hO
          go_wp2_with fail
          refine (CM _).mono ?_
          rintro e w' ⟨rfl, rfl⟩
          go_wp2_with fail
          go_loopw [3, 9] (fun ov jv wr => ∃ j : Nat, j ≤ n ∧ jv = .int .i64 (j : Int) ∧ Grown t w wr ov (l0 ++ [0] ++ ups true i ++ upk n i j)) (fun _ jv _ => n - (intOf jv).toNat)
          case atStart => exact ⟨0, by omega, rfl, g, cap, N, rfl, by simpa [upk] using HO.out, hbl, hts⟩
          case round =>
            clear HO hbl hts
            obtain ⟨j, hm, rfl, g, cap, N, rfl, hO, hbl, hts⟩ := hrel
            by_cases hlt2 : j < n
            · have CP : ∀ W : World, Calls Try.prog 59 #[.int .i64 (n : Int), .int .i64 (i : Int), .int .i64 (j : Int)] W fun e w' => e = .returned (.int .i64 ((p9 n i j : Nat) : Int)) ∧ Below W.heap.size W w' := fun W => rpart9 n i j W (by omega) (by omega) i6 (by omega)
              have hp := (p9_le (n := n) (i := i) (j := j) (by omega) (by omega) i6 (by omega)).2.2
              have hS := upk_succ n i j
              obtain ⟨x, ex⟩ : ∃ x, p9 n i j = x := ⟨_, rfl⟩
              rw [ex] at CP hp hS
              have HS := Lib.hid hS
              have HO := Lib.hid hO
              have hll : N ≤ 3000 := by have e := own_len hO; simp only [List.length_append, upk_len, List.length_cons, List.length_nil] at e; have := ups_len true i (by omega); omega
              clear hS hO ex
              go_wp2_with fail
              refine (CP _).mono ?_
              rintro e w2 ⟨rfl, b⟩
              obtain ⟨hO2, hbl2, hts2, hg⟩ := own_after HO.out hbl hts b
              have HO2 := Lib.hid hO2
              clear hO2 HO hbl hts b CP hp
              go_wp2_with (at_builtin; refine wpList_append_lies _ rfl _ _ 45 rfl t 2 i0 (.int .i64 0) 1 8 Try.underlying45 hi hz0 hz1 hz2 rfl (by decide) _ _ _ rfl (HO2.out.alloc _) ⟨w2.heap.size, 0, none⟩ 1 1 [.int .i64 (x : Int)] rfl rfl (cell_one_new _ _ _) (by simp [Value.oneCell']) (by omega) (by unfold maxLen; omega) (by omega) (by simp; omega) _ rfl ?_; intro g1 cap1 w3 hown1 hgrow1 hat hlt1)
              go_roundw
              case rel =>
                refine ⟨j + 1, by omega, by go_num, ?_⟩
                have hG := Grown.push hbl2 hts2 HT.out hg hown1 hgrow1
                rw [HS.out, ← List.append_assoc]
                exact hG
              case measure => simp [intOf] <;> omega
            · obtain rfl : j = n := by omega
              have HO := Lib.hid hO
              clear hO
              go_wp2_with fail
              go_roundw
              case rel => exact ⟨i + 1, by omega, by go_num, g, cap, N, rfl, by rw [HD.out, ← List.append_assoc]; exact HO.out, hbl, hts⟩
              case measure => simp [intOf] <;> omega
        · obtain rfl : i = 7 := by omega
          go_wp2_with fail
          go_meet
          exact ⟨g, cap, N, rfl, hO, hbl, hts⟩
    case rest =>
      clear hG
      obtain ⟨g, cap, N, rfl, hO, hbl, hts⟩ := hcut
      have hg := (hO.lt g rfl).1
      have hll : N ≤ 3000 := by have e := own_len hO; simp only [List.length_append, List.length_cons, List.length_nil] at e; have := ups_len true 7 (by omega); omega
      have HO := Lib.hid hO
      clear hO
      go_wp2_with (at_builtin; refine wpList_append_lies _ rfl _ _ 45 rfl t 2 i0 (.int .i64 0) 1 8 Try.underlying45 hi hz0 hz1 hz2 rfl (by decide) _ _ _ rfl (HO.out.alloc _) ⟨wc.heap.size, 0, none⟩ 1 1 [.int .i64 2560000000] rfl rfl (cell_one_new _ _ _) (by simp [Value.oneCell']) (by omega) (by unfold maxLen; omega) (by omega) (by simp; omega) _ rfl ?_; intro g1 cap1 w4 hown1 hgrow1 hat hlt1)
      go_ret
      have hG := Grown.push hbl hts HT.out hg hown1 hgrow1
      exact ⟨_, _, _, rfl, by unfold tree9; rw [EL0.out]; exact hG.ir.1, by rw [HT.out]; exact hG.ir.2⟩

set_option maxRecDepth 100000 in
set_option maxHeartbeats 8000000 in
theorem rtree9_f (w : World) :
    Calls Try.prog 47 #[.bool false] w (GotI w (tree9 false)) := by
  obtain ⟨i0, hi, hz0, hz1, hz2⟩ := info_parts infoI
  obtain ⟨t, ht⟩ : ∃ t, w.heap.size = t := ⟨_, rfl⟩
  have HT := Lib.hid ht
  have hB0 : Below t w w := Below.refl _ _
  have hown : ∀ W : World, t ≤ W.heap.size → (W.alloc (.cells #[] 2)).ownsRow t 2 1 (.slice (some ⟨W.heap.size, 0, none⟩) 0 0) 0 ([] : List Value) := fun W h => World.ownsRow_lit W #[] 0 h (by unfold maxLen; omega) rfl
  clear ht
  go_enter Try.func47, Try.ntmps47
  go_upto_block 0 with fail
  go_cut [3] (fun ov wx => Grown t w wx ov (low9 false))
  case first =>
    go_wp2_with fail
    go_loopw [3, 4] (fun ov iv wr => iv = .int .i64 6 ∧ Grown t w wr ov []) (fun _ iv _ => (intOf iv + 1).toNat)
    case atStart => exact ⟨rfl, w.heap.size, 0, 0, rfl, hown w (by rw [HT.out]; omega), hB0.alloc (by rw [HT.out]; omega) _, by simp; rw [HT.out]; omega⟩
    case round =>
      obtain ⟨rfl, g, cap, N, rfl, hO, hbl, hts⟩ := hrel
      go_wp2_with fail
      go_meet
      exact ⟨g, cap, N, rfl, hO, hbl, hts⟩
  case rest =>
    obtain ⟨l0, el0⟩ : ∃ l, low9 false = l := ⟨_, rfl⟩
    have hl0 : l0.length ≤ 900 := by rw [← el0]; show ([] : List Int).length ≤ 900; simp
    rw [el0] at hcut
    have EL0 := Lib.hid el0
    obtain ⟨g, cap, N, rfl, hO, hbl, hts⟩ := hcut
    have hg := (hO.lt g rfl).1
    have hN : N ≤ 900 := by have := own_len hO; omega
    have HO := Lib.hid hO
    clear hO hown el0
    go_upto_block 4 with (at_builtin; refine wpList_append_lies _ rfl _ _ 45 rfl t 2 i0 (.int .i64 0) 1 8 Try.underlying45 hi hz0 hz1 hz2 rfl (by decide) _ _ _ rfl (HO.out.alloc _) ⟨wc.heap.size, 0, none⟩ 1 1 [.int .i64 0] rfl rfl (cell_one_new _ _ _) (by simp [Value.oneCell']) (by omega) (by unfold maxLen; omega) (by omega) (by simp; omega) _ rfl ?_; intro g1 cap1 w3 hown1 hgrow1 hat hlt1)
    have hG := Grown.push hbl hts HT.out hg hown1 hgrow1
    clear hown1 hgrow1 hat HO hbl hts hg
    go_cut [3] (fun ov wx => Grown t w wx ov (l0 ++ [0] ++ ups false 7))
    case first =>
      go_wp2_with fail
      go_loopw [3, 7] (fun ov iv wr => ∃ i : Nat, i ≤ 7 ∧ iv = .int .i64 (i : Int) ∧ Grown t w wr ov (l0 ++ [0] ++ ups false i)) (fun _ iv _ => 7 - (intOf iv).toNat)
      case atStart => exact ⟨0, by omega, rfl, by simpa [ups] using hG⟩
      case round =>
        clear hG
        obtain ⟨i, hik, rfl, g, cap, N, rfl, hO, hbl, hts⟩ := hrel
        by_cases hlt : i < 7
        · have i6 : i ≤ 6 := by omega
          have hn := many9_le false i6
          have CM : ∀ W : World, Calls Try.prog 58 #[.bool false, .int .i64 (i : Int)] W fun e w' => e = .returned (.int .i64 ((many9 false i : Nat) : Int)) ∧ W = w' := fun W => rmany9 false i W i6
          have hD := ups_succ false i
          obtain ⟨n, en⟩ : ∃ n, many9 false i = n := ⟨_, rfl⟩
          rw [en] at hn CM hD
          have HD := Lib.hid hD
          have HO := Lib.hid hO
          clear hD hO
          go_wp2_with fail
          refine (CM _).mono ?_
          rintro e w' ⟨rfl, rfl⟩
          go_wp2_with fail
          go_loopw [3, 9] (fun ov jv wr => ∃ j : Nat, j ≤ n ∧ jv = .int .i64 (j : Int) ∧ Grown t w wr ov (l0 ++ [0] ++ ups false i ++ upk n i j)) (fun _ jv _ => n - (intOf jv).toNat)
          case atStart => exact ⟨0, by omega, rfl, g, cap, N, rfl, by simpa [upk] using HO.out, hbl, hts⟩
          case round =>
            clear HO hbl hts
            obtain ⟨j, hm, rfl, g, cap, N, rfl, hO, hbl, hts⟩ := hrel
            by_cases hlt2 : j < n
            · have CP : ∀ W : World, Calls Try.prog 59 #[.int .i64 (n : Int), .int .i64 (i : Int), .int .i64 (j : Int)] W fun e w' => e = .returned (.int .i64 ((p9 n i j : Nat) : Int)) ∧ Below W.heap.size W w' := fun W => rpart9 n i j W (by omega) (by omega) i6 (by omega)
              have hp := (p9_le (n := n) (i := i) (j := j) (by omega) (by omega) i6 (by omega)).2.2
              have hS := upk_succ n i j
              obtain ⟨x, ex⟩ : ∃ x, p9 n i j = x := ⟨_, rfl⟩
              rw [ex] at CP hp hS
              have HS := Lib.hid hS
              have HO := Lib.hid hO
              have hll : N ≤ 3000 := by have e := own_len hO; simp only [List.length_append, upk_len, List.length_cons, List.length_nil] at e; have := ups_len false i (by omega); omega
              clear hS hO ex
              go_wp2_with fail
              refine (CP _).mono ?_
              rintro e w2 ⟨rfl, b⟩
              obtain ⟨hO2, hbl2, hts2, hg⟩ := own_after HO.out hbl hts b
              have HO2 := Lib.hid hO2
              clear hO2 HO hbl hts b CP hp
              go_wp2_with (at_builtin; refine wpList_append_lies _ rfl _ _ 45 rfl t 2 i0 (.int .i64 0) 1 8 Try.underlying45 hi hz0 hz1 hz2 rfl (by decide) _ _ _ rfl (HO2.out.alloc _) ⟨w2.heap.size, 0, none⟩ 1 1 [.int .i64 (x : Int)] rfl rfl (cell_one_new _ _ _) (by simp [Value.oneCell']) (by omega) (by unfold maxLen; omega) (by omega) (by simp; omega) _ rfl ?_; intro g1 cap1 w3 hown1 hgrow1 hat hlt1)
              go_roundw
              case rel =>
                refine ⟨j + 1, by omega, by go_num, ?_⟩
                have hG := Grown.push hbl2 hts2 HT.out hg hown1 hgrow1
                rw [HS.out, ← List.append_assoc]
                exact hG
              case measure => simp [intOf] <;> omega
            · obtain rfl : j = n := by omega
              have HO := Lib.hid hO
              clear hO
              go_wp2_with fail
              go_roundw
              case rel => exact ⟨i + 1, by omega, by go_num, g, cap, N, rfl, by rw [HD.out, ← List.append_assoc]; exact HO.out, hbl, hts⟩
              case measure => simp [intOf] <;> omega
        · obtain rfl : i = 7 := by omega
          go_wp2_with fail
          go_meet
          exact ⟨g, cap, N, rfl, hO, hbl, hts⟩
    case rest =>
      clear hG
      obtain ⟨g, cap, N, rfl, hO, hbl, hts⟩ := hcut
      have hg := (hO.lt g rfl).1
      have hll : N ≤ 3000 := by have e := own_len hO; simp only [List.length_append, List.length_cons, List.length_nil] at e; have := ups_len false 7 (by omega); omega
      have HO := Lib.hid hO
      clear hO
      go_wp2_with (at_builtin; refine wpList_append_lies _ rfl _ _ 45 rfl t 2 i0 (.int .i64 0) 1 8 Try.underlying45 hi hz0 hz1 hz2 rfl (by decide) _ _ _ rfl (HO.out.alloc _) ⟨wc.heap.size, 0, none⟩ 1 1 [.int .i64 2560000000] rfl rfl (cell_one_new _ _ _) (by simp [Value.oneCell']) (by omega) (by unfold maxLen; omega) (by omega) (by simp; omega) _ rfl ?_; intro g1 cap1 w4 hown1 hgrow1 hat hlt1)
      go_ret
      have hG := Grown.push hbl hts HT.out hg hown1 hgrow1
      exact ⟨_, _, _, rfl, by unfold tree9; rw [EL0.out]; exact hG.ir.1, by rw [HT.out]; exact hG.ir.2⟩
end Go.Proofs.Ytgglcgkgeilblaa

/-
  The contracts of the ninth reference: Book.
-/
namespace Go.Proofs.Ytgglcgkgeilblaa
set_option maxRecDepth 100000
open Go.RowKit
set_option linter.unusedVariables false
set_option linter.unusedSimpArgs false

def linek (m : Nat) : List Int := (List.range m).map fun (c : Nat) => 2 * (c : Int) - 255
def ulinek (m : Nat) : List Int := (List.range m).map fun (c : Nat) => (c : Int)
theorem linek_succ (m : Nat) : linek (m + 1) = linek m ++ [2 * (m : Int) - 255] := by unfold linek; rw [List.range_succ, List.map_append]; rfl
theorem ulinek_succ (m : Nat) : ulinek (m + 1) = ulinek m ++ [(m : Int)] := by unfold ulinek; rw [List.range_succ, List.map_append]; rfl
theorem linek_len (m : Nat) : (linek m).length = m := by unfold linek; simp
theorem ulinek_len (m : Nat) : (ulinek m).length = m := by unfold ulinek; simp
/-- A kind's numbers. -/
def book9 (k : Int) : List Int := if k = 0 then tree9 true else if k = 1 then tree9 false else if k = 2 then linek 256 else if k = 3 then ulinek 256 else []
/-- Is there such a kind? -/
def Kind9 (k : Int) : Prop := k = 0 ∨ k = 1 ∨ k = 2 ∨ k = 3
instance (k : Int) : Decidable (Kind9 k) := by unfold Kind9; infer_instance
def code9 (k : Int) : Int := if Kind9 k then 0 else 1

set_option maxRecDepth 100000 in
set_option maxHeartbeats 4000000 in
theorem rbook9_0 (w : World) :
    Calls Try.prog 29 #[.int .i64 0] w (GotIp w (tree9 true) 0) := by
  go_enter Try.func29, Try.ntmps29
  go_wp2_with fail
  refine (rtree9_t _).mono ?_
  rintro e w' ⟨A, n, c, rfl, h, b⟩
  go_wp2_with fail
  go_ret2
  exact ⟨A, n, c, rfl, h, b⟩
set_option maxRecDepth 100000 in
set_option maxHeartbeats 4000000 in
theorem rbook9_1 (w : World) :
    Calls Try.prog 29 #[.int .i64 1] w (GotIp w (tree9 false) 0) := by
  go_enter Try.func29, Try.ntmps29
  go_wp2_with fail
  refine (rtree9_f _).mono ?_
  rintro e w' ⟨A, n, c, rfl, h, b⟩
  go_wp2_with fail
  go_ret2
  exact ⟨A, n, c, rfl, h, b⟩
set_option maxRecDepth 100000 in
set_option maxHeartbeats 4000000 in
theorem rbook9_no (w : World) {k : Int} (h : ¬ Kind9 k) :
    Calls Try.prog 29 #[.int .i64 k] w (GotIp w [] 1) := by
  have k0 : (k == 0) = false := by simp; exact fun e => h (.inl e)
  have k1 : (k == 1) = false := by simp; exact fun e => h (.inr (.inl e))
  have k2 : (k == 2) = false := by simp; exact fun e => h (.inr (.inr (.inl e)))
  have k3 : (k == 3) = false := by simp; exact fun e => h (.inr (.inr (.inr e)))
  have k4 : (k != 2) = true := by simp; exact fun e => h (.inr (.inr (.inl e)))
  have k5 : (k != 3) = true := by simp; exact fun e => h (.inr (.inr (.inr e)))
  clear h
  go_enter Try.func29, Try.ntmps29
  go_wp2_with fail
  go_ret2
  exact ⟨none, 0, 0, rfl, IR.nil _ _ _, Below.refl _ _⟩
set_option maxRecDepth 100000 in
set_option maxHeartbeats 4000000 in
theorem rbook9_2 (w : World) :
    Calls Try.prog 29 #[.int .i64 2] w (GotIp w (linek 256) 0) := by
  obtain ⟨i0, hi, hz0, hz1, hz2⟩ := info_parts infoI
  obtain ⟨t, ht⟩ : ∃ t, w.heap.size = t := ⟨_, rfl⟩
  have HT := Lib.hid ht
  have hB0 : Below t w w := Below.refl _ _
  have hown : ∀ W : World, t ≤ W.heap.size → (W.alloc (.cells #[] 2)).ownsRow t 2 1 (.slice (some ⟨W.heap.size, 0, none⟩) 0 0) 0 ([] : List Value) := fun W h => World.ownsRow_lit W #[] 0 h (by unfold maxLen; omega) rfl
  clear ht
  go_enter Try.func29, Try.ntmps29
  go_wp2_with fail
  go_loopw [4, 5] (fun ov cv wr => ∃ c : Nat, c ≤ 256 ∧ cv = .int .i64 (c : Int) ∧ Grown t w wr ov (linek c)) (fun _ cv _ => 256 - (intOf cv).toNat)
  case atStart => exact ⟨0, by omega, rfl, w.heap.size, 0, 0, rfl, hown w (by rw [HT.out]; omega), hB0.alloc (by rw [HT.out]; omega) _, by simp; rw [HT.out]; omega⟩
  case round =>
    obtain ⟨c, hc, rfl, g, cap, N, rfl, hO, hbl, hts⟩ := hrel
    by_cases hlt : c < 256
    · have hS := linek_succ c
      have HS := Lib.hid hS
      have HO := Lib.hid hO
      have hg := (hO.lt g rfl).1
      have hll : N ≤ 256 := by have e := own_len hO; rw [linek_len] at e; omega
      clear hS hO
      obtain ⟨x, ex⟩ : ∃ x, 2 * (c : Int) - 255 = x := ⟨_, rfl⟩
      have k1 : IntKind.i64.wrap (2 * (c : Int)) = 2 * (c : Int) := IntWalk.i64_in _ (by omega)
      have k2 : IntKind.i64.wrap (2 * (c : Int) - 255) = x := by rw [← ex]; exact IntWalk.i64_in _ (by omega)
      rw [ex] at HS
      clear ex
      go_wp2_with (at_builtin; refine wpList_append_lies _ rfl _ _ 45 rfl t 2 i0 (.int .i64 0) 1 8 Try.underlying45 hi hz0 hz1 hz2 rfl (by decide) _ _ _ rfl (HO.out.alloc _) ⟨wr.heap.size, 0, none⟩ 1 1 [.int .i64 x] rfl rfl (cell_one_new _ _ _) (by simp [Value.oneCell']) (by omega) (by unfold maxLen; omega) (by omega) (by simp; omega) _ rfl ?_; intro g1 cap1 w3 hown1 hgrow1 hat hlt1)
      go_roundw
      case rel =>
        refine ⟨c + 1, by omega, by go_num, ?_⟩
        have hG := Grown.push hbl hts HT.out hg hown1 hgrow1
        rw [HS.out]
        exact hG
      case measure => simp [intOf] <;> omega
    · obtain rfl : c = 256 := by omega
      have HO := Lib.hid hO
      clear hO hown
      go_wp2_with fail
      go_ret2
      exact ⟨_, _, _, rfl, IR.of_own HO.out, by rw [HT.out]; exact hbl⟩
set_option maxRecDepth 100000 in
set_option maxHeartbeats 4000000 in
theorem rbook9_3 (w : World) :
    Calls Try.prog 29 #[.int .i64 3] w (GotIp w (ulinek 256) 0) := by
  obtain ⟨i0, hi, hz0, hz1, hz2⟩ := info_parts infoI
  obtain ⟨t, ht⟩ : ∃ t, w.heap.size = t := ⟨_, rfl⟩
  have HT := Lib.hid ht
  have hB0 : Below t w w := Below.refl _ _
  have hown : ∀ W : World, t ≤ W.heap.size → (W.alloc (.cells #[] 2)).ownsRow t 2 1 (.slice (some ⟨W.heap.size, 0, none⟩) 0 0) 0 ([] : List Value) := fun W h => World.ownsRow_lit W #[] 0 h (by unfold maxLen; omega) rfl
  clear ht
  go_enter Try.func29, Try.ntmps29
  go_wp2_with fail
  go_loopw [4, 5] (fun ov cv wr => ∃ c : Nat, c ≤ 256 ∧ cv = .int .i64 (c : Int) ∧ Grown t w wr ov (ulinek c)) (fun _ cv _ => 256 - (intOf cv).toNat)
  case atStart => exact ⟨0, by omega, rfl, w.heap.size, 0, 0, rfl, hown w (by rw [HT.out]; omega), hB0.alloc (by rw [HT.out]; omega) _, by simp; rw [HT.out]; omega⟩
  case round =>
    obtain ⟨c, hc, rfl, g, cap, N, rfl, hO, hbl, hts⟩ := hrel
    by_cases hlt : c < 256
    · have hS := ulinek_succ c
      have HS := Lib.hid hS
      have HO := Lib.hid hO
      have hg := (hO.lt g rfl).1
      have hll : N ≤ 256 := by have e := own_len hO; rw [ulinek_len] at e; omega
      clear hS hO
      go_wp2_with (at_builtin; refine wpList_append_lies _ rfl _ _ 45 rfl t 2 i0 (.int .i64 0) 1 8 Try.underlying45 hi hz0 hz1 hz2 rfl (by decide) _ _ _ rfl (HO.out.alloc _) ⟨wr.heap.size, 0, none⟩ 1 1 [.int .i64 (c : Int)] rfl rfl (cell_one_new _ _ _) (by simp [Value.oneCell']) (by omega) (by unfold maxLen; omega) (by omega) (by simp; omega) _ rfl ?_; intro g1 cap1 w3 hown1 hgrow1 hat hlt1)
      go_roundw
      case rel =>
        refine ⟨c + 1, by omega, by go_num, ?_⟩
        have hG := Grown.push hbl hts HT.out hg hown1 hgrow1
        rw [HS.out]
        exact hG
      case measure => simp [intOf] <;> omega
    · obtain rfl : c = 256 := by omega
      have HO := Lib.hid hO
      clear hO hown
      go_wp2_with fail
      go_ret2
      exact ⟨_, _, _, rfl, IR.of_own HO.out, by rw [HT.out]; exact hbl⟩
theorem rbook9_N (w : World) (k : Int) :
    Calls Try.prog 29 #[.int .i64 k] w (GotIp w (book9 k) (code9 k)) := by
  by_cases h : Kind9 k
  · rcases h with rfl | rfl | rfl | rfl
    · exact rbook9_0 w
    · exact rbook9_1 w
    · exact rbook9_2 w
    · exact rbook9_3 w
  · have e1 : book9 k = [] := by unfold book9; unfold Kind9 at h; rw [if_neg (fun e => h (.inl e)), if_neg (fun e => h (.inr (.inl e))), if_neg (fun e => h (.inr (.inr (.inl e)))), if_neg (fun e => h (.inr (.inr (.inr e))))]
    have e2 : code9 k = 1 := if_neg h
    rw [e1, e2]
    exact rbook9_no w h
end Go.Proofs.Ytgglcgkgeilblaa

/-
  The contracts of the ninth reference: Signed, Den, Gap, Same.
-/
namespace Go.Proofs.Ytgglcgkgeilblaa
set_option maxRecDepth 100000
open Go.RowKit
set_option linter.unusedVariables false
set_option linter.unusedSimpArgs false

/-- The greater of two, behind a name. -/
def mxI (a b : Int) : Int := max a b
theorem mxI_run {P : Program} (w : World) (ts : Array TypeId) (t : TypeId) (x y : Int) : (Builtin.max_ ts t #[.int .i64 x, .int .i64 y]).run P w = .ok (.int .i64 (mxI x y)) w := by
  rw [run_max_int2]
  congr 2
  unfold mxI
  split <;> omega
/-- The greatest of the first m gaps. -/
def gk (L : List Int) : Nat → Int
  | 0 => 0
  | m + 1 => mxI (gk L m) (L[m + 1]?.getD 0 - L[m]?.getD 0)
def gap9 (k : Int) : Int := gk (book9 k) ((book9 k).length - 1)
def sig9 (k : Int) : Bool := decide (k = 0 ∨ k = 2)
theorem book9_small : ∀ k : Int, ∀ x ∈ book9 k, -400000000000 ≤ x ∧ x ≤ 400000000000 := by
  intro k x hx
  have h : ∀ L : List Int, L.all (fun x => decide (-400000000000 ≤ x ∧ x ≤ 400000000000)) = true → x ∈ L → -400000000000 ≤ x ∧ x ≤ 400000000000 := fun L a b => of_decide_eq_true (List.all_eq_true.1 a x b)
  unfold book9 at hx
  split at hx
  · exact h _ (by decide +kernel) hx
  split at hx
  · exact h _ (by decide +kernel) hx
  split at hx
  · exact h _ (by decide +kernel) hx
  split at hx
  · exact h _ (by decide +kernel) hx
  · cases hx
theorem book9_len (k : Int) : (book9 k).length ≤ 256 := by
  unfold book9
  split
  · decide +kernel
  split
  · decide +kernel
  split
  · decide +kernel
  split
  · decide +kernel
  · simp
theorem book9_at (k : Int) (j : Nat) : -400000000000 ≤ (book9 k)[j]?.getD 0 ∧ (book9 k)[j]?.getD 0 ≤ 400000000000 := by
  rcases Nat.lt_or_ge j (book9 k).length with h | h
  · rw [List.getElem?_eq_getElem h]
    exact book9_small k _ (List.getElem_mem h)
  · rw [List.getElem?_eq_none h]; decide

set_option maxHeartbeats 1000000 in
theorem rden9_N (w : World) (k : Int) :
    Calls Try.prog 20 #[.int .i64 k] w (GotV w (.int .i64 (den9 k))) := by
  by_cases h : Kind9 k
  · rcases h with rfl | rfl | rfl | rfl
    · go_enter Try.func20, Try.ntmps20
      go_wp2_with fail
      go_ret
      exact ⟨rfl, Below.refl _ _⟩
    · go_enter Try.func20, Try.ntmps20
      go_wp2_with fail
      go_ret
      exact ⟨rfl, Below.refl _ _⟩
    · go_enter Try.func20, Try.ntmps20
      go_wp2_with fail
      go_ret
      exact ⟨rfl, Below.refl _ _⟩
    · go_enter Try.func20, Try.ntmps20
      go_wp2_with fail
      go_ret
      exact ⟨rfl, Below.refl _ _⟩
  · have k0 : (k == 0) = false := by simp; exact fun e => h (.inl e)
    have k1 : (k == 1) = false := by simp; exact fun e => h (.inr (.inl e))
    have k2 : (k == 2) = false := by simp; exact fun e => h (.inr (.inr (.inl e)))
    have k3 : (k == 3) = false := by simp; exact fun e => h (.inr (.inr (.inr e)))
    have e1 : den9 k = 0 := by unfold den9; simp at k0 k1 k2 k3; simp [k0, k1, k2, k3]
    rw [e1]
    clear h
    go_enter Try.func20, Try.ntmps20
    go_wp2_with fail
    go_ret
    exact ⟨rfl, Below.refl _ _⟩

set_option maxHeartbeats 1000000 in
theorem rsig9_N (w : World) (k : Int) :
    Calls Try.prog 32 #[.int .i64 k] w (GotV w (.bool (sig9 k))) := by
  by_cases h : Kind9 k
  · rcases h with rfl | rfl | rfl | rfl
    · go_enter Try.func32, Try.ntmps32
      go_wp2_with fail
      go_ret
      exact ⟨rfl, Below.refl _ _⟩
    · go_enter Try.func32, Try.ntmps32
      go_wp2_with fail
      go_ret
      exact ⟨rfl, Below.refl _ _⟩
    · go_enter Try.func32, Try.ntmps32
      go_wp2_with fail
      go_ret
      exact ⟨rfl, Below.refl _ _⟩
    · go_enter Try.func32, Try.ntmps32
      go_wp2_with fail
      go_ret
      exact ⟨rfl, Below.refl _ _⟩
  · have k0 : (k == 0) = false := by simp; exact fun e => h (.inl e)
    have k1 : (k == 1) = false := by simp; exact fun e => h (.inr (.inl e))
    have k2 : (k == 2) = false := by simp; exact fun e => h (.inr (.inr (.inl e)))
    have k3 : (k == 3) = false := by simp; exact fun e => h (.inr (.inr (.inr e)))
    have e1 : sig9 k = false := by unfold sig9; simp at k0 k1 k2 k3; simp [k0, k2]
    rw [e1]
    clear h
    go_enter Try.func32, Try.ntmps32
    go_wp2_with fail
    go_ret
    exact ⟨rfl, Below.refl _ _⟩

attribute [local go_sem ↓] mxI_run
set_option maxRecDepth 100000 in
set_option maxHeartbeats 4000000 in
theorem rgap9_N (w : World) (k : Int) :
    Calls Try.prog 18 #[.int .i64 k] w (GotV w (.int .i64 (gap9 k))) := by
  have CB := rbook9_N w k
  have hlen := book9_len k
  have hat := book9_at k
  unfold gap9
  obtain ⟨L, eL⟩ : ∃ L, book9 k = L := ⟨_, rfl⟩
  obtain ⟨r, er⟩ : ∃ r, code9 k = r := ⟨_, rfl⟩
  rw [eL] at CB hlen hat ⊢
  rw [er] at CB
  clear eL er
  go_enter Try.func18, Try.ntmps18
  go_wp2_with fail
  refine CB.mono ?_
  rintro e w1 ⟨A, n, c, rfl, hL, b⟩
  have hn := hL.1
  have HN := Lib.hid hn
  have hn2 : n ≤ 256 := by omega
  rw [← hn]
  clear hn hlen CB
  go_wp2_with fail
  go_loopw [5, 6] (fun ov iv wr => ∃ m i : Nat, i = m + 1 ∧ (i ≤ n ∨ m = 0) ∧ iv = .int .i64 (i : Int) ∧ ov = .int .i64 (gk L m) ∧ Below w1.heap.size w1 wr) (fun _ iv _ => 257 - (intOf iv).toNat)
  case atStart => exact ⟨0, 1, rfl, .inr rfl, rfl, rfl, Below.refl _ _⟩
  case round =>
    obtain ⟨m, i, hi, hor, rfl, rfl, hbl⟩ := hrel
    by_cases hlt : i < n
    · obtain ⟨bb, off, rfl, hb, hcell⟩ := (hL.on hbl).2.2 (by omega)
      have h1 := hcell i hlt
      have h0 := hcell m (by omega)
      have a1 := hat i
      have a0 := hat m
      have hG : gk L i = mxI (gk L m) (L[i]?.getD 0 - L[m]?.getD 0) := by rw [hi]; rfl
      obtain ⟨x, ex⟩ : ∃ x, L[i]?.getD 0 = x := ⟨_, rfl⟩
      obtain ⟨y, ey⟩ : ∃ y, L[m]?.getD 0 = y := ⟨_, rfl⟩
      rw [ex] at h1 a1 hG
      rw [ey] at h0 a0 hG
      obtain ⟨v, ev⟩ : ∃ v, x - y = v := ⟨_, rfl⟩
      rw [ev] at hG
      have k1 : IntKind.i64.wrap (x - y) = v := by rw [← ev]; exact IntWalk.i64_in _ (by omega)
      have k2 : IntKind.i64.wrap ((i : Int) - 1) = (m : Int) := by rw [IntWalk.i64_in _ (by omega)]; omega
      have k3 : IntKind.i64.wrap ((i : Int) + 1) = ((i + 1 : Nat) : Int) := by rw [IntWalk.i64_in _ (by omega)]; omega
      have hm : m < n := by omega
      have HG := Lib.hid hG
      have HI := Lib.hid hi
      clear hcell ex ey ev hG hi hat hor a1 a0
      generalize gk L m = g at *
      go_wp2_with fail
      go_region_held3 (fun w' => w'.cell? ⟨bb, off + i, none⟩ = some (.int .i64 x) ∧ w'.cell? ⟨bb, off + m, none⟩ = some (.int .i64 y)) (exact ⟨h1, h0⟩) (fail)
      go_wp2_with fail
      go_roundw
      case rel => exact ⟨i, i + 1, rfl, .inl (by omega), rfl, by rw [HG.out], below_drewN hbl 1⟩
      case measure => simp [intOf] <;> omega
    · have hm : m = n - 1 := by omega
      go_wp2_with fail
      go_ret
      exact ⟨by rw [hm, HN.out]; rfl, b.trans (hbl.mono b.size)⟩

end Go.Proofs.Ytgglcgkgeilblaa

/-
  The place of the nearest number of a codebook: what it is, that there is one alone, how far it is, how it rises.
-/
namespace Go.Proofs.Ytgglcgkgeilblaa

/-- The place of the least of d 0 to d m, the lowest of these. -/
def lpl (d : Nat → Int) : Nat → Nat
  | 0 => 0
  | m + 1 => if d (m + 1) < d (lpl d m) then m + 1 else lpl d m
theorem lpl_le (d : Nat → Int) : ∀ m, lpl d m ≤ m
  | 0 => Nat.le_refl 0
  | m + 1 => by unfold lpl; split; exact Nat.le_refl _; exact Nat.le_succ_of_le (lpl_le d m)
theorem lpl_least (d : Nat → Int) : ∀ m c, c ≤ m → d (lpl d m) ≤ d c ∧ (c < lpl d m → d (lpl d m) < d c)
  | 0, c, h => by obtain rfl : c = 0 := by omega
                  exact ⟨Int.le_refl _, fun h => absurd h (Nat.not_lt_zero _)⟩
  | m + 1, c, h => by
    have ih := lpl_least d m
    have hl := lpl_le d m
    unfold lpl
    split
    · rename_i hlt
      rcases Nat.lt_or_ge m c with h1 | h1
      · obtain rfl : c = m + 1 := by omega
        exact ⟨Int.le_refl _, fun h => absurd h (Nat.lt_irrefl _)⟩
      · have := (ih c h1).1
        exact ⟨by omega, fun _ => by omega⟩
    · rename_i hlt
      rcases Nat.lt_or_ge m c with h1 | h1
      · obtain rfl : c = m + 1 := by omega
        exact ⟨by omega, fun h => by omega⟩
      · exact ih c h1
theorem lpl_uniq {d : Nat → Int} {m b : Nat} (hb : b ≤ m) (h : ∀ c, c ≤ m → d b ≤ d c ∧ (c < b → d b < d c)) : lpl d m = b := by
  have h1 := lpl_least d m b hb
  have h2 := h (lpl d m) (lpl_le d m)
  rcases Nat.lt_trichotomy (lpl d m) b with e | e | e
  · have := h2.2 e; have := h1.1; omega
  · exact e
  · have := h1.2 e; have := h2.1; omega
theorem lpl_scale {d : Nat → Int} {t : Int} (ht : 0 < t) : ∀ m, lpl (fun c => t * d c) m = lpl d m
  | 0 => rfl
  | m + 1 => by
    have ih := lpl_scale (d := d) ht m
    unfold lpl
    rw [ih]
    have e : (t * d (m + 1) < t * d (lpl d m)) ↔ d (m + 1) < d (lpl d m) := ⟨fun h => Int.lt_of_mul_lt_mul_left h (Int.le_of_lt ht), fun h => Int.mul_lt_mul_of_pos_left h ht⟩
    by_cases h : d (m + 1) < d (lpl d m)
    · rw [if_pos h, if_pos (e.2 h)]
    · rw [if_neg h, if_neg (fun x => h (e.1 x))]
/-- A kind's number. -/
def num10 (k : Int) (c : Nat) : Int := (book9 k)[c]?.getD 0
/-- How far a code's number is from a share, times both denominators. -/
def dst (k num den : Int) (c : Nat) : Int := ((num * den9 k - num10 k c * den).natAbs : Int)
/-- The code of a share. -/
def near10 (k num den : Int) : Nat := lpl (dst k num den) 255
/-- Is it a share? -/
def Shr (k num den : Int) : Prop := Kind9 k ∧ 1 ≤ den ∧ num ≤ den ∧ -den ≤ num ∧ (0 ≤ num ∨ sig9 k = true)
instance (k num den : Int) : Decidable (Shr k num den) := by unfold Shr; infer_instance
theorem near10_le (k num den : Int) : near10 k num den ≤ 255 := lpl_le _ _
theorem near10_least {k num den : Int} {c : Nat} (h : c ≤ 255) : dst k num den (near10 k num den) ≤ dst k num den c ∧ (c < near10 k num den → dst k num den (near10 k num den) < dst k num den c) := lpl_least _ 255 c h

def rising (L : List Int) : Bool := (List.range 255).all fun j => decide (L[j]?.getD 0 < L[j + 1]?.getD 0)
def gapped (L : List Int) (g : Int) : Bool := (List.range 255).all fun j => decide (L[j + 1]?.getD 0 - L[j]?.getD 0 ≤ g)
theorem facts10 {k : Int} (h : Kind9 k) : (book9 k).length = 256 ∧ num10 k 255 = den9 k ∧ rising (book9 k) = true ∧ gapped (book9 k) (gap9 k) = true ∧ (if sig9 k then decide (2 * (num10 k 0 + den9 k) ≤ gap9 k) else decide (num10 k 0 = 0)) = true ∧ (if sig9 k then decide (-den9 k ≤ num10 k 0) else decide (num10 k 0 = 0)) = true ∧ 0 < den9 k := by
  rcases h with rfl | rfl | rfl | rfl <;> decide +kernel
theorem den9_bd (k : Int) : 0 ≤ den9 k ∧ den9 k ≤ 2560000000 := by unfold den9; split <;> (try split) <;> omega
theorem gap9_bd (k : Int) : 0 ≤ gap9 k ∧ gap9 k ≤ 800000000000 := by
  have h : ∀ L : List Int, (∀ j : Nat, -400000000000 ≤ L[j]?.getD 0 ∧ L[j]?.getD 0 ≤ 400000000000) → ∀ m, 0 ≤ gk L m ∧ gk L m ≤ 800000000000 := by
    intro L hL m
    induction m with
    | zero => exact ⟨Int.le_refl 0, by show (0 : Int) ≤ _; omega⟩
    | succ m ih =>
      have a := hL (m + 1)
      have b := hL m
      show 0 ≤ mxI _ _ ∧ mxI _ _ ≤ _
      unfold mxI
      omega
  exact h _ (book9_at k) _
theorem num10_bd (k : Int) (c : Nat) : -400000000000 ≤ num10 k c ∧ num10 k c ≤ 400000000000 := book9_at k c
theorem num10_step {k : Int} (h : Kind9 k) {j : Nat} (hj : j < 255) : num10 k j < num10 k (j + 1) ∧ num10 k (j + 1) - num10 k j ≤ gap9 k := by
  obtain ⟨_, _, h1, h2, _⟩ := facts10 h
  exact ⟨of_decide_eq_true (List.all_eq_true.1 h1 j (List.mem_range.2 hj)), of_decide_eq_true (List.all_eq_true.1 h2 j (List.mem_range.2 hj))⟩
theorem num10_up {k : Int} (h : Kind9 k) {a : Nat} : ∀ {b : Nat}, a < b → b ≤ 255 → num10 k a < num10 k b := by
  intro b
  induction b with
  | zero => intro hb; omega
  | succ b ih =>
    intro hb h5
    have hs := (num10_step h (j := b) (by omega)).1
    rcases Nat.lt_or_ge a b with e | e
    · have := ih e (by omega); omega
    · obtain rfl : a = b := by omega
      exact hs
/-- What is just a code's number has that code. -/
theorem near10_own {k num den : Int} {c : Nat} (h : Kind9 k) (hd : 0 < den) (hc : c ≤ 255) (e : num * den9 k = num10 k c * den) : near10 k num den = c := by
  refine lpl_uniq hc fun i hi => ?_
  have e0 : dst k num den c = 0 := by unfold dst; omega
  have e1 : 0 ≤ dst k num den i := by unfold dst; omega
  refine ⟨by omega, fun hl => ?_⟩
  have hm := Int.mul_lt_mul_of_pos_right (num10_up h hl hc) hd
  unfold dst at *
  omega
theorem near10_den {k den : Int} (h : Kind9 k) (hd : 0 < den) : near10 k den den = 255 := near10_own h hd (Nat.le_refl _) (by rw [(facts10 h).2.1, Int.mul_comm])
theorem near10_num {k t : Int} {c : Nat} (h : Kind9 k) (ht : 0 < t) (hc : c ≤ 255) : near10 k (num10 k c * t) (den9 k * t) = c :=
  near10_own h (Int.mul_pos (facts10 h).2.2.2.2.2.2 ht) hc (by rw [Int.mul_assoc, Int.mul_comm t])
theorem near10_scale {k num den t : Int} (ht : 0 < t) : near10 k (num * t) (den * t) = near10 k num den := by
  have e : dst k (num * t) (den * t) = fun c => t * dst k num den c := by
    funext c
    unfold dst
    have e1 : num * t * den9 k - num10 k c * (den * t) = t * (num * den9 k - num10 k c * den) := by rw [Int.mul_sub]; congr 1 <;> ac_rfl
    rw [e1, Int.natAbs_mul, Int.natCast_mul, Int.natAbs_of_nonneg (Int.le_of_lt ht)]
  unfold near10
  rw [e]
  exact lpl_scale ht 255
theorem near10_mono {k a b den : Int} (h : Kind9 k) (hd : 0 < den) (hab : a ≤ b) : near10 k a den ≤ near10 k b den := by
  rcases Nat.lt_or_ge (near10 k b den) (near10 k a den) with e | e
  · exfalso
    have h1 := (near10_least (k := k) (num := a) (den := den) (near10_le k b den)).2 e
    have h2 := (near10_least (k := k) (num := b) (den := den) (near10_le k a den)).1
    have h3 := Int.mul_lt_mul_of_pos_right (num10_up h e (near10_le k a den)) hd
    have h4 := Int.mul_le_mul_of_nonneg_right hab (den9_bd k).1
    unfold dst at h1 h2
    omega
  · exact e
theorem shr_scale {k num den t : Int} (ht : 0 < t) : Shr k (num * t) (den * t) ↔ Shr k num den := by
  have a1 : 1 ≤ den * t ↔ 1 ≤ den := ⟨fun h => by
      rcases Int.lt_or_le 0 den with e | e
      · omega
      · have := Int.mul_le_mul_of_nonneg_right e (Int.le_of_lt ht); omega, fun h => by have := Int.mul_le_mul_of_nonneg_right h (Int.le_of_lt ht); omega⟩
  have a2 : num * t ≤ den * t ↔ num ≤ den := ⟨fun h => Int.le_of_mul_le_mul_right h ht, fun h => Int.mul_le_mul_of_nonneg_right h (Int.le_of_lt ht)⟩
  have a3 : -(den * t) ≤ num * t ↔ -den ≤ num := ⟨fun h => Int.le_of_mul_le_mul_right (by rw [Int.neg_mul]; exact h) ht, fun h => by have := Int.mul_le_mul_of_nonneg_right h (Int.le_of_lt ht); rw [Int.neg_mul] at this; exact this⟩
  have a4 : 0 ≤ num * t ↔ 0 ≤ num := ⟨fun h => Int.le_of_mul_le_mul_right (by rw [Int.zero_mul]; exact h) ht, fun h => Int.mul_nonneg h (Int.le_of_lt ht)⟩
  unfold Shr
  rw [a1, a2, a3, a4]
theorem shr_own {k t : Int} {c : Nat} (h : Kind9 k) (ht : 0 < t) (hc : c ≤ 255) : Shr k (num10 k c * t) (den9 k * t) := by
  rw [shr_scale ht]
  obtain ⟨_, h1, _, _, _, h2, h3⟩ := facts10 h
  have u : num10 k c ≤ den9 k := by
    rcases Nat.lt_or_ge c 255 with e | e
    · have := num10_up h e (Nat.le_refl _); omega
    · obtain rfl : c = 255 := by omega
      omega
  have l : num10 k 0 ≤ num10 k c := by
    rcases Nat.eq_zero_or_pos c with e | e
    · subst e; exact Int.le_refl _
    · exact Int.le_of_lt (num10_up h e hc)
  refine ⟨h, by omega, u, ?_, ?_⟩
  · cases hs : sig9 k with
    | true => rw [hs] at h2; have := of_decide_eq_true (by simpa using h2 : decide (-den9 k ≤ num10 k 0) = true); omega
    | false => rw [hs] at h2; have := of_decide_eq_true (by simpa using h2 : decide (num10 k 0 = 0) = true); omega
  · cases hs : sig9 k with
    | true => exact .inr rfl
    | false => rw [hs] at h2; have := of_decide_eq_true (by simpa using h2 : decide (num10 k 0 = 0) = true); exact .inl (by omega)
theorem between10 {y : Nat → Int} {x : Int} : ∀ m, x ≤ y 0 ∨ (∃ j, j < m ∧ y j ≤ x ∧ x ≤ y (j + 1)) ∨ y m ≤ x
  | 0 => by rcases Int.le_total x (y 0) with h | h; exact .inl h; exact .inr (.inr h)
  | m + 1 => by
    rcases between10 (y := y) (x := x) m with h | ⟨j, h⟩ | h
    · exact .inl h
    · exact .inr (.inl ⟨j, by omega, h.2⟩)
    · rcases Int.le_total x (y (m + 1)) with h' | h'
      · exact .inr (.inl ⟨m, by omega, h, h'⟩)
      · exact .inr (.inr h')
theorem near10_half {k num den : Int} (h : Shr k num den) : dst k num den (near10 k num den) + dst k num den (near10 k num den) ≤ gap9 k * den := by
  obtain ⟨hk, hd, h1, h2, h3⟩ := h
  obtain ⟨_, f1, _, _, f2, _, f3⟩ := facts10 hk
  have hL := fun c hc => (near10_least (k := k) (num := num) (den := den) (c := c) hc).1
  have g0 : 0 ≤ gap9 k * den := Int.mul_nonneg (gap9_bd k).1 (by omega)
  have u : num * den9 k ≤ den9 k * den := by rw [Int.mul_comm (den9 k)]; exact Int.mul_le_mul_of_nonneg_right h1 (Int.le_of_lt f3)
  rcases between10 (y := fun c => num10 k c * den) (x := num * den9 k) 255 with e | ⟨j, hj, e1, e2⟩ | e
  · have h0 := hL 0 (by omega)
    cases hs : sig9 k with
    | true =>
      rw [hs] at f2
      have f2 := of_decide_eq_true (by simpa using f2 : decide (2 * (num10 k 0 + den9 k) ≤ gap9 k) = true)
      have l := Int.mul_le_mul_of_nonneg_right h2 (Int.le_of_lt f3)
      have m := Int.mul_le_mul_of_nonneg_right f2 (show (0 : Int) ≤ den by omega)
      rw [Int.neg_mul, Int.mul_comm den] at l
      rw [Int.mul_assoc, Int.add_mul] at m
      unfold dst at *
      omega
    | false =>
      rw [hs] at f2
      have f2 := of_decide_eq_true (by simpa using f2 : decide (num10 k 0 = 0) = true)
      have hn : 0 ≤ num := by rcases h3 with h3 | h3; exact h3; rw [hs] at h3; cases h3
      have l := Int.mul_nonneg hn (Int.le_of_lt f3)
      unfold dst at *
      rw [f2, Int.zero_mul] at e h0
      omega
  · have h0 := hL j (by omega)
    have h1 := hL (j + 1) (by omega)
    have m := Int.mul_le_mul_of_nonneg_right (num10_step hk hj).2 (show (0 : Int) ≤ den by omega)
    rw [Int.sub_mul] at m
    unfold dst at *
    omega
  · have h0 := hL 255 (by omega)
    simp only [f1] at e
    unfold dst at *
    rw [f1] at h0
    omega
theorem near10_tie {k num den : Int} {c : Nat} (hc : c ≤ 255) (h : ¬ dst k num den (near10 k num den) < dst k num den c) : dst k num den (near10 k num den) = dst k num den c ∧ near10 k num den ≤ c := by
  have l := near10_least (k := k) (num := num) (den := den) hc
  refine ⟨by omega, ?_⟩
  rcases Nat.lt_or_ge c (near10 k num den) with e | e
  · exact absurd (l.2 e) h
  · exact e
end Go.Proofs.Ytgglcgkgeilblaa

/-
  The contracts of the tenth reference: Sub of integers, share, Share, Num, far, Far.
-/
namespace Go.Proofs.Ytgglcgkgeilblaa
set_option maxRecDepth 100000
open Go.RowKit
set_option linter.unusedVariables false
set_option linter.unusedSimpArgs false

theorem zn_size {w : World} {b : Bool} {A : Option Addr} {n c : Nat} {z : Int} (h : Zn w b A n c z) : Zn w false A n c ((z.natAbs : Nat) : Int) := ⟨by rw [Int.natAbs_natCast]; exact h.1, by simp⟩
theorem IR.cell {w : World} {b off n c j : Nat} {l : List Int} (h : IR w (some ⟨b, off, none⟩) n c l) (hj : j < n) : w.cell? ⟨b, off + j, none⟩ = some (.int .i64 (l[j]?.getD 0)) := by
  obtain ⟨b', off', e, hlt, hc⟩ := h.2.2 (by omega)
  injection e with e
  injection e with e1 e2
  subst e1
  subst e2
  exact hc j hj
theorem IR.some {w : World} {A : Option Addr} {n c : Nat} {l : List Int} (h : IR w A n c l) (hn : 0 < n) : ∃ b off, A = some ⟨b, off, none⟩ ∧ b < w.heap.size := by
  obtain ⟨b, off, e, hlt, hc⟩ := h.2.2 hn
  exact ⟨b, off, e, hlt⟩
theorem u8_nat {a : Int} (h : (Lit.int .u8 a).wf = true) : ∃ q : Nat, a = (q : Int) ∧ q < 256 := by
  have : 0 ≤ a ∧ a ≤ 255 := bounds_u8 h
  exact ⟨a.toNat, by omega, by omega⟩
theorem kind9_code {k : Int} (h : Kind9 k) : code9 k = 0 := if_pos h
theorem other9 {k : Int} (h : ¬ Kind9 k) : book9 k = [] ∧ code9 k = 1 := by
  refine ⟨?_, if_neg h⟩
  unfold book9; unfold Kind9 at h; rw [if_neg (fun e => h (.inl e)), if_neg (fun e => h (.inr (.inl e))), if_neg (fun e => h (.inr (.inr (.inl e)))), if_neg (fun e => h (.inr (.inr (.inr e))))]
theorem den9_i64 (k : Int) : I64 (den9 k) := by have := den9_bd k; unfold I64; omega
theorem num10_i64 (k : Int) (c : Nat) : I64 (num10 k c) := by have := num10_bd k c; unfold I64; omega
theorem gap9_i64 (k : Int) : I64 (gap9 k) := by have := gap9_bd k; unfold I64; omega
theorem len_prod {a b : Int} (ha : I64 a) (hb : I64 b) : (limbs (a * b).natAbs).length ≤ 2 := zlen_mul (len_one ha.abs) (len_one hb.abs)
theorem len_diff {a b : Int} {k : Nat} (ha : (limbs a.natAbs).length ≤ k) (hb : (limbs b.natAbs).length ≤ k) : (limbs (a - b).natAbs).length ≤ k + 1 := by rw [Int.sub_eq_add_neg]; exact zlen_add ha (by rw [Int.natAbs_neg]; exact hb)
theorem dst_len {k num den : Int} (hn : I64 num) (hd : I64 den) (c : Nat) : (limbs (dst k num den c).natAbs).length ≤ 3 := by
  unfold dst; rw [Int.natAbs_natCast]; exact len_diff (len_prod hn (den9_i64 k)) (len_prod (num10_i64 k c) hd)

set_option maxRecDepth 100000 in
set_option maxHeartbeats 8000000 in
theorem rzsub_N {w : World} {ba : Bool} {Aa : Option Addr} {na ca : Nat} {bb : Bool} {Ab : Option Addr} {nb cb : Nat} {x : Int} (ha : Zn w ba Aa na ca x) (sa : (limbs x.natAbs).length ≤ 100) {y : Int} (hb : Zn w bb Ab nb cb y) (sb : (limbs y.natAbs).length ≤ 100) :
    Calls Try.prog 48 #[.agg #[.bool ba, .slice Aa na ca], .agg #[.bool bb, .slice Ab nb cb]] w (GotZ w (x - y)) := by
  have cc := Below.refl w.heap.size w
  go_enter Try.func48, Try.ntmps48
  go_wp2_with fail
  have f0 : (((w.alloc (.cells #[.bool ba, .slice Aa na ca] 34)).alloc (.cells #[.bool bb, .slice Ab nb cb] 34)).alloc (.cells #[.bool false, .slice none 0 0] 34)).frozen? ⟨w.heap.size + 1 + 1, 0, none⟩ = false := by simp [go_sem]
  have f1 : (((w.alloc (.cells #[.bool ba, .slice Aa na ca] 34)).alloc (.cells #[.bool bb, .slice Ab nb cb] 34)).alloc (.cells #[.bool false, .slice none 0 0] 34)).frozen? ⟨w.heap.size + 1 + 1, 1, none⟩ = false := by simp [go_sem]
  have bA : Below w.heap.size w (((w.alloc (.cells #[.bool ba, .slice Aa na ca] 34)).alloc (.cells #[.bool bb, .slice Ab nb cb] 34)).alloc (.cells #[.bool false, .slice none 0 0] 34)) := ((((Below.refl _ w).alloc (by simp) _).alloc (by simp) _).alloc (by simp <;> omega) _)
  replace ha := ha.on bA
  replace hb := hb.on bA
  replace cc := cc.trans (bA.mono cc.size)
  clear bA
  have ka0 : (((w.alloc (.cells #[.bool ba, .slice Aa na ca] 34)).alloc (.cells #[.bool bb, .slice Ab nb cb] 34)).alloc (.cells #[.bool false, .slice none 0 0] 34)).cell? ⟨w.heap.size, 0, none⟩ = some (.bool ba) := by simp [go_sem]
  have ka1 : (((w.alloc (.cells #[.bool ba, .slice Aa na ca] 34)).alloc (.cells #[.bool bb, .slice Ab nb cb] 34)).alloc (.cells #[.bool false, .slice none 0 0] 34)).cell? ⟨w.heap.size, 1, none⟩ = some (.slice Aa na ca) := by simp [go_sem]
  have kal : w.heap.size < (((w.alloc (.cells #[.bool ba, .slice Aa na ca] 34)).alloc (.cells #[.bool bb, .slice Ab nb cb] 34)).alloc (.cells #[.bool false, .slice none 0 0] 34)).heap.size := by simp <;> omega
  have kb0 : (((w.alloc (.cells #[.bool ba, .slice Aa na ca] 34)).alloc (.cells #[.bool bb, .slice Ab nb cb] 34)).alloc (.cells #[.bool false, .slice none 0 0] 34)).cell? ⟨w.heap.size + 1, 0, none⟩ = some (.bool bb) := by simp [go_sem]
  have kb1 : (((w.alloc (.cells #[.bool ba, .slice Aa na ca] 34)).alloc (.cells #[.bool bb, .slice Ab nb cb] 34)).alloc (.cells #[.bool false, .slice none 0 0] 34)).cell? ⟨w.heap.size + 1, 1, none⟩ = some (.slice Ab nb cb) := by simp [go_sem]
  have kbl : w.heap.size + 1 < (((w.alloc (.cells #[.bool ba, .slice Aa na ca] 34)).alloc (.cells #[.bool bb, .slice Ab nb cb] 34)).alloc (.cells #[.bool false, .slice none 0 0] 34)).heap.size := by simp <;> omega
  have g0 : (((w.alloc (.cells #[.bool ba, .slice Aa na ca] 34)).alloc (.cells #[.bool bb, .slice Ab nb cb] 34)).alloc (.cells #[.bool false, .slice none 0 0] 34)).cell? ⟨w.heap.size + 1 + 1, 0, none⟩ = some (.bool false) := by simp [go_sem]
  have g1 : (((w.alloc (.cells #[.bool ba, .slice Aa na ca] 34)).alloc (.cells #[.bool bb, .slice Ab nb cb] 34)).alloc (.cells #[.bool false, .slice none 0 0] 34)).cell? ⟨w.heap.size + 1 + 1, 1, none⟩ = some (.slice none 0 0) := by simp [go_sem]
  have gl : w.heap.size + 1 + 1 < (((w.alloc (.cells #[.bool ba, .slice Aa na ca] 34)).alloc (.cells #[.bool bb, .slice Ab nb cb] 34)).alloc (.cells #[.bool false, .slice none 0 0] 34)).heap.size := by simp <;> omega
  generalize ((w.alloc (.cells #[.bool ba, .slice Aa na ca] 34)).alloc (.cells #[.bool bb, .slice Ab nb cb] 34)).alloc (.cells #[.bool false, .slice none 0 0] 34) = v1 at *
  have qq : Below v1.heap.size v1 v1.drew := below_drewN (Below.refl _ v1) 1
  have ha' := ha.on qq
  have hb' := hb.on qq
  go_region_held3 (fun w' => w'.cell? ⟨w.heap.size, 0, none⟩ = some (.bool ba) ∧ w'.cell? ⟨w.heap.size, 1, none⟩ = some (.slice Aa na ca) ∧ w'.cell? ⟨w.heap.size + 1, 0, none⟩ = some (.bool bb) ∧ w'.cell? ⟨w.heap.size + 1, 1, none⟩ = some (.slice Ab nb cb))
    (first | with_reducible exact ⟨(qq.cell (p := ⟨w.heap.size, 0, none⟩) kal).trans ka0, (qq.cell (p := ⟨w.heap.size, 1, none⟩) kal).trans ka1, (qq.cell (p := ⟨w.heap.size + 1, 0, none⟩) kbl).trans kb0, (qq.cell (p := ⟨w.heap.size + 1, 1, none⟩) kbl).trans kb1⟩ | with_reducible exact ⟨(cell_store (by omega)).trans ((qq.cell (p := ⟨w.heap.size, 0, none⟩) kal).trans ka0), (cell_store (by omega)).trans ((qq.cell (p := ⟨w.heap.size, 1, none⟩) kal).trans ka1), (cell_store (by omega)).trans ((qq.cell (p := ⟨w.heap.size + 1, 0, none⟩) kbl).trans kb0), (cell_store (by omega)).trans ((qq.cell (p := ⟨w.heap.size + 1, 1, none⟩) kbl).trans kb1)⟩ | go_keep)
    (first
      | (go_at_call 60; (with_reducible refine (rzneg_N hb' (Nat.le_trans sb (by omega))).mono ?_); rintro e wz ⟨bu, Au, nu, cu, rfl, hu, q⟩; replace qq := qq.trans (q.mono qq.size); (try replace ha' := ha'.on q); (try replace hb' := hb'.on q); (try replace hm := hm.on q); clear q; have xa0 := (qq.cell (p := ⟨w.heap.size + 1 + 1, 0, none⟩) gl).trans g0; have ya0 := (qq.frozen (p := ⟨w.heap.size + 1 + 1, 0, none⟩) gl).trans f0; have xa1 := (qq.cell (p := ⟨w.heap.size + 1 + 1, 1, none⟩) gl).trans g1; have ya1 := (qq.frozen (p := ⟨w.heap.size + 1 + 1, 1, none⟩) gl).trans f1)
      | (go_at_call 19; (with_reducible refine (rzadd_N ha' hu (Nat.le_trans sa (by omega)) (by rw [Int.natAbs_neg]; omega)).mono ?_); rintro e wz ⟨bm, Am, nm, cm, rfl, hm, q⟩; replace qq := qq.trans (q.mono qq.size); (try replace ha' := ha'.on q); (try replace hb' := hb'.on q); (try replace hu := hu.on q); clear q; have xa0 := (qq.cell (p := ⟨w.heap.size + 1 + 1, 0, none⟩) gl).trans g0; have ya0 := (qq.frozen (p := ⟨w.heap.size + 1 + 1, 0, none⟩) gl).trans f0; have xa1 := (qq.cell (p := ⟨w.heap.size + 1 + 1, 1, none⟩) gl).trans g1; have ya1 := (qq.frozen (p := ⟨w.heap.size + 1 + 1, 1, none⟩) gl).trans f1))
  replace cc := cc.trans (qq.mono cc.size)
  have hn : Zn wz bm Am nm cm (x - y) := by rw [Int.sub_eq_add_neg]; exact hm
  have eb : Box wz (w.heap.size + 1 + 1) false none 0 0 := ⟨xa0, xa1⟩
  have HZ : Hid (Zn ((wz.setCell ⟨w.heap.size + 1 + 1, 0, none⟩ (.bool bm)).setCell ⟨w.heap.size + 1 + 1, 1, none⟩ (.slice Am nm cm)) bm Am nm cm (x - y)) := Lib.hid (hn.put eb _ _)
  clear hn
  go_wp2_with fail
  refine bodyPost_ret (v := .agg #[.bool bm, .slice Am nm cm]) (by simp [results, Try.results48, go_sem, xa0, xa1]) rfl ⟨_, _, _, _, rfl, HZ.out, below_put cc (by omega) _ _⟩

set_option maxRecDepth 100000 in
set_option maxHeartbeats 8000000 in
theorem rshare_N (w : World) {k num : Int} (hn : I64 num) :
    Calls Try.prog 30 #[.int .i64 k, .int .i64 num] w (GotZ w (num * den9 k)) := by
  have hD := den9_i64 k
  have CD := fun W => rden9_N W k
  generalize den9 k = D at *
  have cc := Below.refl w.heap.size w
  go_enter Try.func30, Try.ntmps30
  go_wp2_with fail
  have f0 : (w.alloc (.cells #[.bool false, .slice none 0 0] 34)).frozen? ⟨w.heap.size, 0, none⟩ = false := by simp [go_sem]
  have f1 : (w.alloc (.cells #[.bool false, .slice none 0 0] 34)).frozen? ⟨w.heap.size, 1, none⟩ = false := by simp [go_sem]
  have bA : Below w.heap.size w (w.alloc (.cells #[.bool false, .slice none 0 0] 34)) := ((Below.refl _ w).alloc (by simp) _)
  replace cc := cc.trans (bA.mono cc.size)
  clear bA
  have g0 : (w.alloc (.cells #[.bool false, .slice none 0 0] 34)).cell? ⟨w.heap.size, 0, none⟩ = some (.bool false) := by simp [go_sem]
  have g1 : (w.alloc (.cells #[.bool false, .slice none 0 0] 34)).cell? ⟨w.heap.size, 1, none⟩ = some (.slice none 0 0) := by simp [go_sem]
  have gl : w.heap.size < (w.alloc (.cells #[.bool false, .slice none 0 0] 34)).heap.size := by simp <;> omega
  generalize w.alloc (.cells #[.bool false, .slice none 0 0] 34) = v1 at *
  refine (rzof_N _ num hn).mono ?_
  rintro e w2 ⟨bu, Au, nu, cu, rfl, hu, b⟩
  replace f0 := (b.frozen (p := ⟨w.heap.size, 0, none⟩) gl).trans f0
  replace f1 := (b.frozen (p := ⟨w.heap.size, 1, none⟩) gl).trans f1
  replace g0 := (b.cell (p := ⟨w.heap.size, 0, none⟩) gl).trans g0
  replace g1 := (b.cell (p := ⟨w.heap.size, 1, none⟩) gl).trans g1
  replace gl := Nat.lt_of_lt_of_le gl b.size
  replace cc := cc.trans (b.mono cc.size)
  clear b
  go_wp2_with fail
  refine (CD _).mono ?_
  rintro e w3 ⟨rfl, b⟩
  replace f0 := (b.frozen (p := ⟨w.heap.size, 0, none⟩) gl).trans f0
  replace f1 := (b.frozen (p := ⟨w.heap.size, 1, none⟩) gl).trans f1
  replace hu := hu.on b
  replace g0 := (b.cell (p := ⟨w.heap.size, 0, none⟩) gl).trans g0
  replace g1 := (b.cell (p := ⟨w.heap.size, 1, none⟩) gl).trans g1
  replace gl := Nat.lt_of_lt_of_le gl b.size
  replace cc := cc.trans (b.mono cc.size)
  clear b
  go_wp2_with fail
  refine (rzof_N _ D hD).mono ?_
  rintro e w4 ⟨bv, Av, nv, cv, rfl, hv, b⟩
  replace f0 := (b.frozen (p := ⟨w.heap.size, 0, none⟩) gl).trans f0
  replace f1 := (b.frozen (p := ⟨w.heap.size, 1, none⟩) gl).trans f1
  replace hu := hu.on b
  replace g0 := (b.cell (p := ⟨w.heap.size, 0, none⟩) gl).trans g0
  replace g1 := (b.cell (p := ⟨w.heap.size, 1, none⟩) gl).trans g1
  replace gl := Nat.lt_of_lt_of_le gl b.size
  replace cc := cc.trans (b.mono cc.size)
  clear b
  go_wp2_with fail
  refine (rzmul_N hu hv (Nat.le_trans (len_one hn.abs) (by omega)) (Nat.le_trans (len_one hD.abs) (by omega))).mono ?_
  rintro e w5 ⟨bm, Am, nm, cm, rfl, hm, b⟩
  replace f0 := (b.frozen (p := ⟨w.heap.size, 0, none⟩) gl).trans f0
  replace f1 := (b.frozen (p := ⟨w.heap.size, 1, none⟩) gl).trans f1
  replace hu := hu.on b
  replace hv := hv.on b
  replace g0 := (b.cell (p := ⟨w.heap.size, 0, none⟩) gl).trans g0
  replace g1 := (b.cell (p := ⟨w.heap.size, 1, none⟩) gl).trans g1
  replace gl := Nat.lt_of_lt_of_le gl b.size
  replace cc := cc.trans (b.mono cc.size)
  clear b
  have hn : Zn w5 bm Am nm cm (num * D) := hm
  have eb : Box w5 (w.heap.size) false none 0 0 := ⟨g0, g1⟩
  have HZ : Hid (Zn ((w5.setCell ⟨w.heap.size, 0, none⟩ (.bool bm)).setCell ⟨w.heap.size, 1, none⟩ (.slice Am nm cm)) bm Am nm cm (num * D)) := Lib.hid (hn.put eb _ _)
  clear hn
  go_wp2_with fail
  refine bodyPost_ret (v := .agg #[.bool bm, .slice Am nm cm]) (by simp [results, Try.results30, go_sem, g0, g1]) rfl ⟨_, _, _, _, rfl, HZ.out, below_put cc (by omega) _ _⟩

set_option maxRecDepth 100000 in
set_option maxHeartbeats 8000000 in
theorem rShare_lo (w : World) {k num den : Int} (hd : I64 den) (q0 : k < 0) :
    Calls Try.prog 13 #[.int .i64 k, .int .i64 num, .int .i64 den] w (GotV w (.bool false)) := by
  have t0 : decide (k < 0) = true := decide_eq_true (by omega)
  clear q0
  have cc := Below.refl w.heap.size w
  go_enter Try.func13, Try.ntmps13
  go_wp2_with fail
  go_wp2_with fail
  go_ret
  exact ⟨rfl, cc⟩

set_option maxRecDepth 100000 in
set_option maxHeartbeats 8000000 in
theorem rShare_hi (w : World) {k num den : Int} (hd : I64 den) (q0 : 0 ≤ k) (q1 : 3 < k) :
    Calls Try.prog 13 #[.int .i64 k, .int .i64 num, .int .i64 den] w (GotV w (.bool false)) := by
  have t0 : decide (k < 0) = false := decide_eq_false (by omega)
  have t1 : decide (3 < k) = true := decide_eq_true (by omega)
  clear q0 q1
  have cc := Below.refl w.heap.size w
  go_enter Try.func13, Try.ntmps13
  go_wp2_with fail
  go_wp2_with fail
  go_ret
  exact ⟨rfl, cc⟩

set_option maxRecDepth 100000 in
set_option maxHeartbeats 8000000 in
theorem rShare_de (w : World) {k num den : Int} (hd : I64 den) (q0 : 0 ≤ k) (q1 : k ≤ 3) (q2 : den < 1) :
    Calls Try.prog 13 #[.int .i64 k, .int .i64 num, .int .i64 den] w (GotV w (.bool false)) := by
  have t0 : decide (k < 0) = false := decide_eq_false (by omega)
  have t1 : decide (3 < k) = false := decide_eq_false (by omega)
  have t2 : decide (den < 1) = true := decide_eq_true (by omega)
  clear q0 q1 q2
  have cc := Below.refl w.heap.size w
  go_enter Try.func13, Try.ntmps13
  go_wp2_with fail
  go_wp2_with fail
  go_ret
  exact ⟨rfl, cc⟩

set_option maxRecDepth 100000 in
set_option maxHeartbeats 8000000 in
theorem rShare_big (w : World) {k num den : Int} (hd : I64 den) (q0 : 0 ≤ k) (q1 : k ≤ 3) (q2 : 1 ≤ den) (q3 : den < num) :
    Calls Try.prog 13 #[.int .i64 k, .int .i64 num, .int .i64 den] w (GotV w (.bool false)) := by
  have t0 : decide (k < 0) = false := decide_eq_false (by omega)
  have t1 : decide (3 < k) = false := decide_eq_false (by omega)
  have t2 : decide (den < 1) = false := decide_eq_false (by omega)
  have t3 : decide (den < num) = true := decide_eq_true (by omega)
  clear q0 q1 q2 q3
  have cc := Below.refl w.heap.size w
  go_enter Try.func13, Try.ntmps13
  go_wp2_with fail
  go_wp2_with fail
  go_ret
  exact ⟨rfl, cc⟩

set_option maxRecDepth 100000 in
set_option maxHeartbeats 8000000 in
theorem rShare_low (w : World) {k num den : Int} (hd : I64 den) (q0 : 0 ≤ k) (q1 : k ≤ 3) (q2 : 1 ≤ den) (q3 : num ≤ den) (q4 : num < -den) :
    Calls Try.prog 13 #[.int .i64 k, .int .i64 num, .int .i64 den] w (GotV w (.bool false)) := by
  obtain ⟨m, hm⟩ : ∃ m, m = -den := ⟨_, rfl⟩
  have k1 : IntKind.i64.wrap (-den) = m := by rw [IntWalk.i64_in (-den) (by unfold I64 at hd; omega), hm]
  have t0 : decide (k < 0) = false := decide_eq_false (by omega)
  have t1 : decide (3 < k) = false := decide_eq_false (by omega)
  have t2 : decide (den < 1) = false := decide_eq_false (by omega)
  have t3 : decide (den < num) = false := decide_eq_false (by omega)
  have t4 : decide (num < m) = true := decide_eq_true (by omega)
  have HM := Lib.hid hm
  clear hm
  clear q0 q1 q2 q3 q4
  have cc := Below.refl w.heap.size w
  go_enter Try.func13, Try.ntmps13
  go_wp2_with fail
  go_wp2_with fail
  go_ret
  exact ⟨rfl, cc⟩

set_option maxRecDepth 100000 in
set_option maxHeartbeats 8000000 in
theorem rShare_yes (w : World) {k num den : Int} (hd : I64 den) (q0 : 0 ≤ k) (q1 : k ≤ 3) (q2 : 1 ≤ den) (q3 : num ≤ den) (q4 : -den ≤ num) (q5 : 0 ≤ num) :
    Calls Try.prog 13 #[.int .i64 k, .int .i64 num, .int .i64 den] w (GotV w (.bool true)) := by
  obtain ⟨m, hm⟩ : ∃ m, m = -den := ⟨_, rfl⟩
  have k1 : IntKind.i64.wrap (-den) = m := by rw [IntWalk.i64_in (-den) (by unfold I64 at hd; omega), hm]
  have t0 : decide (k < 0) = false := decide_eq_false (by omega)
  have t1 : decide (3 < k) = false := decide_eq_false (by omega)
  have t2 : decide (den < 1) = false := decide_eq_false (by omega)
  have t3 : decide (den < num) = false := decide_eq_false (by omega)
  have t4 : decide (num < m) = false := decide_eq_false (by omega)
  have t5 : decide (0 ≤ num) = true := decide_eq_true (by omega)
  have HM := Lib.hid hm
  clear hm
  clear q0 q1 q2 q3 q4 q5
  have cc := Below.refl w.heap.size w
  go_enter Try.func13, Try.ntmps13
  go_wp2_with fail
  go_wp2_with fail
  go_ret
  exact ⟨rfl, cc⟩

set_option maxRecDepth 100000 in
set_option maxHeartbeats 8000000 in
theorem rShare_sig (w : World) {k num den : Int} (hd : I64 den) (q0 : 0 ≤ k) (q1 : k ≤ 3) (q2 : 1 ≤ den) (q3 : num ≤ den) (q4 : -den ≤ num) (q5 : num < 0) :
    Calls Try.prog 13 #[.int .i64 k, .int .i64 num, .int .i64 den] w (GotV w (.bool (sig9 k))) := by
  obtain ⟨m, hm⟩ : ∃ m, m = -den := ⟨_, rfl⟩
  have k1 : IntKind.i64.wrap (-den) = m := by rw [IntWalk.i64_in (-den) (by unfold I64 at hd; omega), hm]
  have t0 : decide (k < 0) = false := decide_eq_false (by omega)
  have t1 : decide (3 < k) = false := decide_eq_false (by omega)
  have t2 : decide (den < 1) = false := decide_eq_false (by omega)
  have t3 : decide (den < num) = false := decide_eq_false (by omega)
  have t4 : decide (num < m) = false := decide_eq_false (by omega)
  have t5 : decide (0 ≤ num) = false := decide_eq_false (by omega)
  have CS := fun W => rsig9_N W k
  obtain ⟨s, hs⟩ : ∃ s, sig9 k = s := ⟨_, rfl⟩
  rw [hs] at CS ⊢
  clear hs
  have HM := Lib.hid hm
  clear hm
  clear q0 q1 q2 q3 q4 q5
  have cc := Below.refl w.heap.size w
  go_enter Try.func13, Try.ntmps13
  go_wp2_with fail
  refine (CS _).mono ?_
  rintro e w1 ⟨rfl, b⟩
  replace cc := cc.trans (b.mono cc.size)
  clear b
  go_wp2_with fail
  go_ret
  exact ⟨rfl, cc⟩

theorem rShare_N (w : World) {k num den : Int} (hd : I64 den) : Calls Try.prog 13 #[.int .i64 k, .int .i64 num, .int .i64 den] w (GotV w (.bool (decide (Shr k num den)))) := by
  have hk : Kind9 k ↔ 0 ≤ k ∧ k ≤ 3 := by unfold Kind9; omega
  by_cases a0 : k < 0
  · rw [decide_eq_false (fun h => by have := hk.1 h.1; omega)]; exact rShare_lo w hd a0
  by_cases a1 : 3 < k
  · rw [decide_eq_false (fun h => by have := hk.1 h.1; omega)]; exact rShare_hi w hd (by omega) a1
  by_cases a2 : den < 1
  · rw [decide_eq_false (fun h => by have := h.2.1; omega)]; exact rShare_de w hd (by omega) (by omega) a2
  by_cases a3 : den < num
  · rw [decide_eq_false (fun h => by have := h.2.2.1; omega)]; exact rShare_big w hd (by omega) (by omega) (by omega) a3
  by_cases a4 : num < -den
  · rw [decide_eq_false (fun h => by have := h.2.2.2.1; omega)]; exact rShare_low w hd (by omega) (by omega) (by omega) (by omega) a4
  by_cases a5 : 0 ≤ num
  · rw [decide_eq_true ⟨hk.2 ⟨by omega, by omega⟩, by omega, by omega, by omega, .inl a5⟩]; exact rShare_yes w hd (by omega) (by omega) (by omega) (by omega) (by omega) a5
  · have h := rShare_sig (k := k) (num := num) w hd (by omega) (by omega) (by omega) (by omega) (by omega) (by omega)
    have e : decide (Shr k num den) = sig9 k := by
      cases hs : sig9 k with
      | true => exact decide_eq_true ⟨hk.2 ⟨by omega, by omega⟩, by omega, by omega, by omega, .inr hs⟩
      | false => refine decide_eq_false (fun h => ?_); rcases h.2.2.2.2 with h | h; omega; rw [hs] at h; cases h
    rw [e]; exact h

set_option maxRecDepth 100000 in
set_option maxHeartbeats 8000000 in
theorem rNum_yes (w : World) {k : Int} (h : Kind9 k) {c : Nat} (hc : c < 256) :
    Calls Try.prog 11 #[.int .i64 k, .int .u8 (c : Int)] w (GotV w (.tuple #[.int .i64 (num10 k c), .int .i64 0])) := by
  have CB := rbook9_N w k
  rw [kind9_code h] at CB
  have hlen := (facts10 h).1
  have hc2 : (c : Int) < 256 := by omega
  clear h
  have cc := Below.refl w.heap.size w
  go_enter Try.func11, Try.ntmps11
  go_wp2_with fail
  refine (CB).mono ?_
  rintro e w1 ⟨Al, nl, cl, rfl, hl, b⟩
  replace cc := cc.trans (b.mono cc.size)
  clear b
  have hn : nl = 256 := by rw [hl.1, hlen]
  subst hn
  obtain ⟨bb, off, rfl, hb⟩ := hl.some (by omega)
  have hcell : w1.cell? ⟨bb, off + c, none⟩ = some (.int .i64 (num10 k c)) := hl.cell hc
  generalize num10 k c = v at *
  go_wp2_with fail
  go_ret2
  exact ⟨rfl, cc⟩

set_option maxRecDepth 100000 in
set_option maxHeartbeats 8000000 in
theorem rNum_no (w : World) {k : Int} (h : ¬ Kind9 k) {c : Nat} (hc : c < 256) :
    Calls Try.prog 11 #[.int .i64 k, .int .u8 (c : Int)] w (GotV w (.tuple #[.int .i64 0, .int .i64 1])) := by
  have CB := rbook9_N w k
  rw [(other9 h).1, (other9 h).2] at CB
  clear h
  have cc := Below.refl w.heap.size w
  go_enter Try.func11, Try.ntmps11
  go_wp2_with fail
  refine (CB).mono ?_
  rintro e w1 ⟨Al, nl, cl, rfl, hl, b⟩
  replace cc := cc.trans (b.mono cc.size)
  clear b
  obtain rfl : nl = 0 := hl.1
  go_wp2_with fail
  go_ret2
  exact ⟨rfl, cc⟩

set_option maxRecDepth 100000 in
set_option maxHeartbeats 8000000 in
theorem rfar_N {w : World} {ba : Bool} {Aa : Option Addr} {na ca : Nat} {s : Int} (ha : Zn w ba Aa na ca s) (sa : (limbs s.natAbs).length ≤ 90) {n den : Int} (hn : I64 n) (hden : I64 den) :
    Calls Try.prog 31 #[.agg #[.bool ba, .slice Aa na ca], .int .i64 n, .int .i64 den] w (GotZ w (((s - n * den).natAbs : Nat) : Int)) := by
  have l1 := len_prod hn hden
  have hz1 : I64 n := hn
  have cc := Below.refl w.heap.size w
  go_enter Try.func31, Try.ntmps31
  go_wp2_with fail
  have f0 : ((w.alloc (.cells #[.bool ba, .slice Aa na ca] 34)).alloc (.cells #[.bool false, .slice none 0 0] 34)).frozen? ⟨w.heap.size + 1, 0, none⟩ = false := by simp [go_sem]
  have f1 : ((w.alloc (.cells #[.bool ba, .slice Aa na ca] 34)).alloc (.cells #[.bool false, .slice none 0 0] 34)).frozen? ⟨w.heap.size + 1, 1, none⟩ = false := by simp [go_sem]
  have bA : Below w.heap.size w ((w.alloc (.cells #[.bool ba, .slice Aa na ca] 34)).alloc (.cells #[.bool false, .slice none 0 0] 34)) := (((Below.refl _ w).alloc (by simp) _).alloc (by simp) _)
  replace ha := ha.on bA
  replace cc := cc.trans (bA.mono cc.size)
  clear bA
  have ka0 : ((w.alloc (.cells #[.bool ba, .slice Aa na ca] 34)).alloc (.cells #[.bool false, .slice none 0 0] 34)).cell? ⟨w.heap.size, 0, none⟩ = some (.bool ba) := by simp [go_sem]
  have ka1 : ((w.alloc (.cells #[.bool ba, .slice Aa na ca] 34)).alloc (.cells #[.bool false, .slice none 0 0] 34)).cell? ⟨w.heap.size, 1, none⟩ = some (.slice Aa na ca) := by simp [go_sem]
  have kal : w.heap.size < ((w.alloc (.cells #[.bool ba, .slice Aa na ca] 34)).alloc (.cells #[.bool false, .slice none 0 0] 34)).heap.size := by simp <;> omega
  have g0 : ((w.alloc (.cells #[.bool ba, .slice Aa na ca] 34)).alloc (.cells #[.bool false, .slice none 0 0] 34)).cell? ⟨w.heap.size + 1, 0, none⟩ = some (.bool false) := by simp [go_sem]
  have g1 : ((w.alloc (.cells #[.bool ba, .slice Aa na ca] 34)).alloc (.cells #[.bool false, .slice none 0 0] 34)).cell? ⟨w.heap.size + 1, 1, none⟩ = some (.slice none 0 0) := by simp [go_sem]
  have gl : w.heap.size + 1 < ((w.alloc (.cells #[.bool ba, .slice Aa na ca] 34)).alloc (.cells #[.bool false, .slice none 0 0] 34)).heap.size := by simp <;> omega
  generalize (w.alloc (.cells #[.bool ba, .slice Aa na ca] 34)).alloc (.cells #[.bool false, .slice none 0 0] 34) = v1 at *
  go_upto_region 1 with fail
  go_cut [7] (fun u wx => ∃ (g_ : Nat) (b_ : Bool) (A_ : Option Addr) (n_ c_ : Nat), u = .pointer (some ⟨g_, 0, none⟩) ∧ LoneZ v1 wx g_ b_ A_ n_ c_ (s - n * den))
  case first =>
    have BB0 : Below v1.heap.size v1 v1.drew := below_drewN (Below.refl _ v1) 1
    have BB1 : Below v1.heap.size v1 (v1.alloc (.cells #[.bool false, .slice none 0 0] 34)).drew := below_drewN (below_one _ _) 1
    go_region_held3 (fun w' => w'.cell? ⟨w.heap.size, 0, none⟩ = some (.bool ba) ∧ w'.cell? ⟨w.heap.size, 1, none⟩ = some (.slice Aa na ca) ∧ w'.cell? ⟨w.heap.size + 1, 0, none⟩ = some (.bool false) ∧ w'.cell? ⟨w.heap.size + 1, 1, none⟩ = some (.slice none 0 0))
      (first | with_reducible exact ⟨ka0, ka1, g0, g1⟩ | with_reducible exact ⟨keep_alloc (ka0), keep_alloc (ka1), keep_alloc (g0), keep_alloc (g1)⟩ | with_reducible exact ⟨keep_alloc (keep_alloc (ka0)), keep_alloc (keep_alloc (ka1)), keep_alloc (keep_alloc (g0)), keep_alloc (keep_alloc (g1))⟩ | with_reducible exact ⟨((qq.cell (p := ⟨w.heap.size, 0, none⟩) kal).trans ka0), ((qq.cell (p := ⟨w.heap.size, 1, none⟩) kal).trans ka1), ((qq.cell (p := ⟨w.heap.size + 1, 0, none⟩) gl).trans g0), ((qq.cell (p := ⟨w.heap.size + 1, 1, none⟩) gl).trans g1)⟩ | with_reducible exact ⟨keep_alloc (((qq.cell (p := ⟨w.heap.size, 0, none⟩) kal).trans ka0)), keep_alloc (((qq.cell (p := ⟨w.heap.size, 1, none⟩) kal).trans ka1)), keep_alloc (((qq.cell (p := ⟨w.heap.size + 1, 0, none⟩) gl).trans g0)), keep_alloc (((qq.cell (p := ⟨w.heap.size + 1, 1, none⟩) gl).trans g1))⟩ | with_reducible exact ⟨keep_alloc (keep_alloc (((qq.cell (p := ⟨w.heap.size, 0, none⟩) kal).trans ka0))), keep_alloc (keep_alloc (((qq.cell (p := ⟨w.heap.size, 1, none⟩) kal).trans ka1))), keep_alloc (keep_alloc (((qq.cell (p := ⟨w.heap.size + 1, 0, none⟩) gl).trans g0))), keep_alloc (keep_alloc (((qq.cell (p := ⟨w.heap.size + 1, 1, none⟩) gl).trans g1)))⟩ | with_reducible exact ⟨((cell_store (by omega)).trans ((qq.cell (p := ⟨w.heap.size, 0, none⟩) kal).trans ka0)), ((cell_store (by omega)).trans ((qq.cell (p := ⟨w.heap.size, 1, none⟩) kal).trans ka1)), ((cell_store (by omega)).trans ((qq.cell (p := ⟨w.heap.size + 1, 0, none⟩) gl).trans g0)), ((cell_store (by omega)).trans ((qq.cell (p := ⟨w.heap.size + 1, 1, none⟩) gl).trans g1))⟩ | with_reducible exact ⟨keep_alloc (((cell_store (by omega)).trans ((qq.cell (p := ⟨w.heap.size, 0, none⟩) kal).trans ka0))), keep_alloc (((cell_store (by omega)).trans ((qq.cell (p := ⟨w.heap.size, 1, none⟩) kal).trans ka1))), keep_alloc (((cell_store (by omega)).trans ((qq.cell (p := ⟨w.heap.size + 1, 0, none⟩) gl).trans g0))), keep_alloc (((cell_store (by omega)).trans ((qq.cell (p := ⟨w.heap.size + 1, 1, none⟩) gl).trans g1)))⟩ | with_reducible exact ⟨keep_alloc (keep_alloc (((cell_store (by omega)).trans ((qq.cell (p := ⟨w.heap.size, 0, none⟩) kal).trans ka0)))), keep_alloc (keep_alloc (((cell_store (by omega)).trans ((qq.cell (p := ⟨w.heap.size, 1, none⟩) kal).trans ka1)))), keep_alloc (keep_alloc (((cell_store (by omega)).trans ((qq.cell (p := ⟨w.heap.size + 1, 0, none⟩) gl).trans g0)))), keep_alloc (keep_alloc (((cell_store (by omega)).trans ((qq.cell (p := ⟨w.heap.size + 1, 1, none⟩) gl).trans g1))))⟩ | go_keep)
      (first
        | (go_at_call 17; (with_reducible refine (rzof_N _ n hn).mono ?_); rintro e y1 ⟨bu, Au, nu, cu, rfl, hu, q⟩; have qq := BB0.trans (q.mono BB0.size); have ha' := (ha.on BB0).on q; have qs1 := qq.size; clear q)
        | (go_at_call 17; (with_reducible refine (rzof_N _ n hn).mono ?_); rintro e y1 ⟨bu, Au, nu, cu, rfl, hu, q⟩; have qq := BB1.trans (q.mono BB1.size); have ha' := (ha.on BB1).on q; have qs1 := qq.size; have bo_0 := (q.cell (p := ⟨v1.heap.size, 0, none⟩) (by simp)).trans (show _ = some (.bool false) by simp [go_sem]); have fo_0 := (q.frozen (p := ⟨v1.heap.size, 0, none⟩) (by simp)).trans (show _ = false by simp [go_sem]); have bo_1 := (q.cell (p := ⟨v1.heap.size, 1, none⟩) (by simp)).trans (show _ = some (.slice none 0 0) by simp [go_sem]); have fo_1 := (q.frozen (p := ⟨v1.heap.size, 1, none⟩) (by simp)).trans (show _ = false by simp [go_sem]); have ol : v1.heap.size < y1.heap.size := Nat.lt_of_lt_of_le (by simp) q.size; clear q)
        | (go_at_call 17; have up := Below.refl y1.heap.size y1; (with_reducible refine (rzof_N _ den hden).mono ?_); rintro e y2 ⟨bv, Av, nv, cv, rfl, hv, q⟩; replace qq := (qq.trans (up.mono qq.size)).trans (q.mono (Nat.le_trans qq.size up.size)); replace ha' := (ha'.on up).on q; replace hu := (hu.on up).on q; (try replace bo_0 := (q.cell (Nat.lt_of_lt_of_le ol up.size)).trans ((up.cell ol).trans bo_0)); (try replace fo_0 := (q.frozen (Nat.lt_of_lt_of_le ol up.size)).trans ((up.frozen ol).trans fo_0)); (try replace bo_1 := (q.cell (Nat.lt_of_lt_of_le ol up.size)).trans ((up.cell ol).trans bo_1)); (try replace fo_1 := (q.frozen (Nat.lt_of_lt_of_le ol up.size)).trans ((up.frozen ol).trans fo_1)); (try replace ol := Nat.lt_of_lt_of_le ol (Nat.le_trans up.size q.size)); have qs2 := qq.size; clear q up)
        | (go_at_call 17; have up := below_one y1 (.cells #[.bool false, .slice none 0 0] 34); (with_reducible refine (rzof_N _ den hden).mono ?_); rintro e y2 ⟨bv, Av, nv, cv, rfl, hv, q⟩; replace qq := (qq.trans (up.mono qq.size)).trans (q.mono (Nat.le_trans qq.size up.size)); replace ha' := (ha'.on up).on q; replace hu := (hu.on up).on q; (try replace bo_0 := (q.cell (Nat.lt_of_lt_of_le ol up.size)).trans ((up.cell ol).trans bo_0)); (try replace fo_0 := (q.frozen (Nat.lt_of_lt_of_le ol up.size)).trans ((up.frozen ol).trans fo_0)); (try replace bo_1 := (q.cell (Nat.lt_of_lt_of_le ol up.size)).trans ((up.cell ol).trans bo_1)); (try replace fo_1 := (q.frozen (Nat.lt_of_lt_of_le ol up.size)).trans ((up.frozen ol).trans fo_1)); (try replace ol := Nat.lt_of_lt_of_le ol (Nat.le_trans up.size q.size)); have qs2 := qq.size; have bo_0 := (q.cell (p := ⟨y1.heap.size, 0, none⟩) (by simp)).trans (show _ = some (.bool false) by simp [go_sem]); have fo_0 := (q.frozen (p := ⟨y1.heap.size, 0, none⟩) (by simp)).trans (show _ = false by simp [go_sem]); have bo_1 := (q.cell (p := ⟨y1.heap.size, 1, none⟩) (by simp)).trans (show _ = some (.slice none 0 0) by simp [go_sem]); have fo_1 := (q.frozen (p := ⟨y1.heap.size, 1, none⟩) (by simp)).trans (show _ = false by simp [go_sem]); have ol : y1.heap.size < y2.heap.size := Nat.lt_of_lt_of_le (by simp) q.size; clear q up)
        | (go_at_call 16; have up := Below.refl y2.heap.size y2; (with_reducible refine (rzmul_N (hu.on up) (hv.on up) (Nat.le_trans (len_one hn.abs) (by omega)) (Nat.le_trans (len_one hden.abs) (by omega))).mono ?_); rintro e y3 ⟨bp, Ap, np, cp, rfl, hp, q⟩; replace qq := (qq.trans (up.mono qq.size)).trans (q.mono (Nat.le_trans qq.size up.size)); replace ha' := (ha'.on up).on q; replace hu := (hu.on up).on q; replace hv := (hv.on up).on q; (try replace bo_0 := (q.cell (Nat.lt_of_lt_of_le ol up.size)).trans ((up.cell ol).trans bo_0)); (try replace fo_0 := (q.frozen (Nat.lt_of_lt_of_le ol up.size)).trans ((up.frozen ol).trans fo_0)); (try replace bo_1 := (q.cell (Nat.lt_of_lt_of_le ol up.size)).trans ((up.cell ol).trans bo_1)); (try replace fo_1 := (q.frozen (Nat.lt_of_lt_of_le ol up.size)).trans ((up.frozen ol).trans fo_1)); (try replace ol := Nat.lt_of_lt_of_le ol (Nat.le_trans up.size q.size)); have qs3 := qq.size; clear q up)
        | (go_at_call 16; have up := below_one y2 (.cells #[.bool false, .slice none 0 0] 34); (with_reducible refine (rzmul_N (hu.on up) (hv.on up) (Nat.le_trans (len_one hn.abs) (by omega)) (Nat.le_trans (len_one hden.abs) (by omega))).mono ?_); rintro e y3 ⟨bp, Ap, np, cp, rfl, hp, q⟩; replace qq := (qq.trans (up.mono qq.size)).trans (q.mono (Nat.le_trans qq.size up.size)); replace ha' := (ha'.on up).on q; replace hu := (hu.on up).on q; replace hv := (hv.on up).on q; (try replace bo_0 := (q.cell (Nat.lt_of_lt_of_le ol up.size)).trans ((up.cell ol).trans bo_0)); (try replace fo_0 := (q.frozen (Nat.lt_of_lt_of_le ol up.size)).trans ((up.frozen ol).trans fo_0)); (try replace bo_1 := (q.cell (Nat.lt_of_lt_of_le ol up.size)).trans ((up.cell ol).trans bo_1)); (try replace fo_1 := (q.frozen (Nat.lt_of_lt_of_le ol up.size)).trans ((up.frozen ol).trans fo_1)); (try replace ol := Nat.lt_of_lt_of_le ol (Nat.le_trans up.size q.size)); have qs3 := qq.size; have bo_0 := (q.cell (p := ⟨y2.heap.size, 0, none⟩) (by simp)).trans (show _ = some (.bool false) by simp [go_sem]); have fo_0 := (q.frozen (p := ⟨y2.heap.size, 0, none⟩) (by simp)).trans (show _ = false by simp [go_sem]); have bo_1 := (q.cell (p := ⟨y2.heap.size, 1, none⟩) (by simp)).trans (show _ = some (.slice none 0 0) by simp [go_sem]); have fo_1 := (q.frozen (p := ⟨y2.heap.size, 1, none⟩) (by simp)).trans (show _ = false by simp [go_sem]); have ol : y2.heap.size < y3.heap.size := Nat.lt_of_lt_of_le (by simp) q.size; clear q up)
        | (go_at_call 48; have up := Below.refl y3.heap.size y3; (with_reducible refine (rzsub_N (ha'.on up) (Nat.le_trans sa (by omega)) (hp.on up) (Nat.le_trans l1 (by omega))).mono ?_); rintro e y4 ⟨bm, Am, nm, cm, rfl, hm, q⟩; replace qq := (qq.trans (up.mono qq.size)).trans (q.mono (Nat.le_trans qq.size up.size)); replace ha' := (ha'.on up).on q; replace hu := (hu.on up).on q; replace hv := (hv.on up).on q; replace hp := (hp.on up).on q; (try replace bo_0 := (q.cell (Nat.lt_of_lt_of_le ol up.size)).trans ((up.cell ol).trans bo_0)); (try replace fo_0 := (q.frozen (Nat.lt_of_lt_of_le ol up.size)).trans ((up.frozen ol).trans fo_0)); (try replace bo_1 := (q.cell (Nat.lt_of_lt_of_le ol up.size)).trans ((up.cell ol).trans bo_1)); (try replace fo_1 := (q.frozen (Nat.lt_of_lt_of_le ol up.size)).trans ((up.frozen ol).trans fo_1)); (try replace ol := Nat.lt_of_lt_of_le ol (Nat.le_trans up.size q.size)); have qs4 := qq.size; clear q up)
        | (go_at_call 48; have up := below_one y3 (.cells #[.bool false, .slice none 0 0] 34); (with_reducible refine (rzsub_N (ha'.on up) (Nat.le_trans sa (by omega)) (hp.on up) (Nat.le_trans l1 (by omega))).mono ?_); rintro e y4 ⟨bm, Am, nm, cm, rfl, hm, q⟩; replace qq := (qq.trans (up.mono qq.size)).trans (q.mono (Nat.le_trans qq.size up.size)); replace ha' := (ha'.on up).on q; replace hu := (hu.on up).on q; replace hv := (hv.on up).on q; replace hp := (hp.on up).on q; (try replace bo_0 := (q.cell (Nat.lt_of_lt_of_le ol up.size)).trans ((up.cell ol).trans bo_0)); (try replace fo_0 := (q.frozen (Nat.lt_of_lt_of_le ol up.size)).trans ((up.frozen ol).trans fo_0)); (try replace bo_1 := (q.cell (Nat.lt_of_lt_of_le ol up.size)).trans ((up.cell ol).trans bo_1)); (try replace fo_1 := (q.frozen (Nat.lt_of_lt_of_le ol up.size)).trans ((up.frozen ol).trans fo_1)); (try replace ol := Nat.lt_of_lt_of_le ol (Nat.le_trans up.size q.size)); have qs4 := qq.size; have bo_0 := (q.cell (p := ⟨y3.heap.size, 0, none⟩) (by simp)).trans (show _ = some (.bool false) by simp [go_sem]); have fo_0 := (q.frozen (p := ⟨y3.heap.size, 0, none⟩) (by simp)).trans (show _ = false by simp [go_sem]); have bo_1 := (q.cell (p := ⟨y3.heap.size, 1, none⟩) (by simp)).trans (show _ = some (.slice none 0 0) by simp [go_sem]); have fo_1 := (q.frozen (p := ⟨y3.heap.size, 1, none⟩) (by simp)).trans (show _ = false by simp [go_sem]); have ol : y3.heap.size < y4.heap.size := Nat.lt_of_lt_of_le (by simp) q.size; clear q up))
    all_goals (go_wp2_with fail; go_meet)
    all_goals refine ⟨_, bm, Am, nm, cm, rfl, ?_⟩
    all_goals first
      | with_reducible exact loneZA hm qq _
      | with_reducible exact loneZB bo_0 bo_1 hm qq (by omega)
  case rest =>
    obtain ⟨gd, bd, Ad, nd, cd, rfl, ⟨d0, d1⟩, hd, b, dge⟩ := hcut
    have dl := cell_lt d0
    simp only at dl
    have dqka : w.heap.size < gd := Nat.lt_of_lt_of_le kal dge
    have dqg : w.heap.size + 1 < gd := Nat.lt_of_lt_of_le gl dge
    replace f0 := (b.frozen (p := ⟨w.heap.size + 1, 0, none⟩) gl).trans f0
    replace f1 := (b.frozen (p := ⟨w.heap.size + 1, 1, none⟩) gl).trans f1
    replace ha := ha.on b
    replace ka0 := (b.cell (p := ⟨w.heap.size, 0, none⟩) kal).trans ka0
    replace ka1 := (b.cell (p := ⟨w.heap.size, 1, none⟩) kal).trans ka1
    replace kal := Nat.lt_of_lt_of_le kal b.size
    replace g0 := (b.cell (p := ⟨w.heap.size + 1, 0, none⟩) gl).trans g0
    replace g1 := (b.cell (p := ⟨w.heap.size + 1, 1, none⟩) gl).trans g1
    replace gl := Nat.lt_of_lt_of_le gl b.size
    replace cc := cc.trans (b.mono cc.size)
    clear b
    have hn : Zn wc false Ad nd cd ((((s - n * den).natAbs : Nat) : Int)) := zn_size hd
    have eb : Box wc (w.heap.size + 1) false none 0 0 := ⟨g0, g1⟩
    have HZ : Hid (Zn ((wc.setCell ⟨w.heap.size + 1, 0, none⟩ (.bool false)).setCell ⟨w.heap.size + 1, 1, none⟩ (.slice Ad nd cd)) false Ad nd cd ((((s - n * den).natAbs : Nat) : Int))) := Lib.hid (hn.put eb _ _)
    clear hn
    go_wp2_with fail
    refine bodyPost_ret (v := .agg #[.bool false, .slice Ad nd cd]) (by simp [results, Try.results31, go_sem, g0, g1]) rfl ⟨_, _, _, _, rfl, HZ.out, below_put cc (by omega) _ _⟩

set_option maxRecDepth 100000 in
set_option maxHeartbeats 8000000 in
theorem rFar_N (w : World) {k : Int} (h : Kind9 k) {c : Nat} (hc : c < 256) {num den : Int} (hn : I64 num) (hd : I64 den) :
    Calls Try.prog 14 #[.int .i64 k, .int .u8 (c : Int), .int .i64 num, .int .i64 den] w (GotZ w (dst k num den c)) := by
  have CN := fun W => rNum_yes W h hc
  have hi := num10_i64 k c
  have CS := fun W => rshare_N (k := k) W hn
  have ls := len_prod hn (den9_i64 k)
  unfold dst
  generalize num10 k c = v at *
  obtain ⟨s, hs⟩ : ∃ s, num * den9 k = s := ⟨_, rfl⟩
  rw [hs] at CS ls ⊢
  clear hs h
  have cc := Below.refl w.heap.size w
  go_enter Try.func14, Try.ntmps14
  go_wp2_with fail
  have f0 : (w.alloc (.cells #[.bool false, .slice none 0 0] 34)).frozen? ⟨w.heap.size, 0, none⟩ = false := by simp [go_sem]
  have f1 : (w.alloc (.cells #[.bool false, .slice none 0 0] 34)).frozen? ⟨w.heap.size, 1, none⟩ = false := by simp [go_sem]
  have bA : Below w.heap.size w (w.alloc (.cells #[.bool false, .slice none 0 0] 34)) := ((Below.refl _ w).alloc (by simp) _)
  replace cc := cc.trans (bA.mono cc.size)
  clear bA
  have g0 : (w.alloc (.cells #[.bool false, .slice none 0 0] 34)).cell? ⟨w.heap.size, 0, none⟩ = some (.bool false) := by simp [go_sem]
  have g1 : (w.alloc (.cells #[.bool false, .slice none 0 0] 34)).cell? ⟨w.heap.size, 1, none⟩ = some (.slice none 0 0) := by simp [go_sem]
  have gl : w.heap.size < (w.alloc (.cells #[.bool false, .slice none 0 0] 34)).heap.size := by simp <;> omega
  generalize w.alloc (.cells #[.bool false, .slice none 0 0] 34) = v1 at *
  refine (CN _).mono ?_
  rintro e w2 ⟨rfl, b⟩
  replace f0 := (b.frozen (p := ⟨w.heap.size, 0, none⟩) gl).trans f0
  replace f1 := (b.frozen (p := ⟨w.heap.size, 1, none⟩) gl).trans f1
  replace g0 := (b.cell (p := ⟨w.heap.size, 0, none⟩) gl).trans g0
  replace g1 := (b.cell (p := ⟨w.heap.size, 1, none⟩) gl).trans g1
  replace gl := Nat.lt_of_lt_of_le gl b.size
  replace cc := cc.trans (b.mono cc.size)
  clear b
  go_wp2_with fail
  refine (CS _).mono ?_
  rintro e w3 ⟨bu, Au, nu, cu, rfl, hu, b⟩
  replace f0 := (b.frozen (p := ⟨w.heap.size, 0, none⟩) gl).trans f0
  replace f1 := (b.frozen (p := ⟨w.heap.size, 1, none⟩) gl).trans f1
  replace g0 := (b.cell (p := ⟨w.heap.size, 0, none⟩) gl).trans g0
  replace g1 := (b.cell (p := ⟨w.heap.size, 1, none⟩) gl).trans g1
  replace gl := Nat.lt_of_lt_of_le gl b.size
  replace cc := cc.trans (b.mono cc.size)
  clear b
  go_wp2_with fail
  refine (rfar_N hu (Nat.le_trans ls (by omega)) hi hd).mono ?_
  rintro e w4 ⟨bm, Am, nm, cm, rfl, hm, b⟩
  replace f0 := (b.frozen (p := ⟨w.heap.size, 0, none⟩) gl).trans f0
  replace f1 := (b.frozen (p := ⟨w.heap.size, 1, none⟩) gl).trans f1
  replace hu := hu.on b
  replace g0 := (b.cell (p := ⟨w.heap.size, 0, none⟩) gl).trans g0
  replace g1 := (b.cell (p := ⟨w.heap.size, 1, none⟩) gl).trans g1
  replace gl := Nat.lt_of_lt_of_le gl b.size
  replace cc := cc.trans (b.mono cc.size)
  clear b
  have hn : Zn w4 bm Am nm cm ((((s - v * den).natAbs : Nat) : Int)) := hm
  have eb : Box w4 (w.heap.size) false none 0 0 := ⟨g0, g1⟩
  have HZ : Hid (Zn ((w4.setCell ⟨w.heap.size, 0, none⟩ (.bool bm)).setCell ⟨w.heap.size, 1, none⟩ (.slice Am nm cm)) bm Am nm cm ((((s - v * den).natAbs : Nat) : Int))) := Lib.hid (hn.put eb _ _)
  clear hn
  go_wp2_with fail
  refine bodyPost_ret (v := .agg #[.bool bm, .slice Am nm cm]) (by simp [results, Try.results14, go_sem, g0, g1]) rfl ⟨_, _, _, _, rfl, HZ.out, below_put cc (by omega) _ _⟩

end Go.Proofs.Ytgglcgkgeilblaa
