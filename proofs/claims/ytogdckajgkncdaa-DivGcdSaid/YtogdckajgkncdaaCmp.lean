/-
  The contracts of cmp.Compare at uint64 and of nat.Cmp.
-/
import Derived.Test.YtogdckajgkncdaaPairs
namespace Go.Proofs.Ytogdckajgkncdaa
open Go.RowKit Go.Shelf

attribute [local go_sem] Oper.semAt_some

/-- -1, 0 or 1. -/
def cmpN (a b : Nat) : Int := if a < b then -1 else if b < a then 1 else 0

set_option maxHeartbeats 400000 in
theorem compare_any (x y : Nat) (w : World) : Calls Try.prog 48 #[.int .u64 (x : Int), .int .u64 (y : Int)] w fun e w' => e = .returned (.int .i64 (cmpN x y)) ∧ w = w' := by
  by_cases h1 : x < y
  · have hv : cmpN x y = -1 := by simp [cmpN, h1]
    have HV := Lib.hid hv
    clear hv
    go_enter Try.func48, Try.ntmps48
    go_wp2
    go_ret
    exact ⟨by rw [HV.out]; rfl, rfl⟩
  · by_cases h2 : y < x
    · have hv : cmpN x y = 1 := by simp [cmpN, h1, h2]
      have HV := Lib.hid hv
      clear hv
      go_enter Try.func48, Try.ntmps48
      go_wp2
      go_ret
      exact ⟨by rw [HV.out]; rfl, rfl⟩
    · have hv : cmpN x y = 0 := by simp [cmpN, h1, h2]
      have HV := Lib.hid hv
      clear hv
      go_enter Try.func48, Try.ntmps48
      go_wp2
      go_ret
      exact ⟨by rw [HV.out]; rfl, rfl⟩

def cmpStep (o : Int) (x : Pair) : Int := if x.1.1 = x.1.2 then o else cmpN x.1.1 x.1.2
def cmpF (l : List Pair) : Int := l.foldl cmpStep 0
theorem cmpF_snoc (l : List Pair) (x : Pair) : cmpF (l ++ [x]) = cmpStep (cmpF l) x := by simp [cmpF]
theorem cmpF_same (l : List Pair) {x : Pair} (h : x.1.1 = x.1.2) : cmpF (l ++ [x]) = cmpF l := by rw [cmpF_snoc, cmpStep, if_pos h]
theorem cmpF_other (l : List Pair) {x : Pair} (h : x.1.1 ≠ x.1.2) : cmpF (l ++ [x]) = cmpN x.1.1 x.1.2 := by rw [cmpF_snoc, cmpStep, if_neg h]

theorem cmpN_top {k x y A B : Nat} (hA : A < k) (h : x < y) : A + k * x < B + k * y := by
  have h1 : k * (x + 1) ≤ k * y := Nat.mul_le_mul_left _ h
  rw [Nat.mul_add, Nat.mul_one] at h1
  omega

theorem cmpF_upto {la lb : List Nat} (ha : Dig la) (hb : Dig lb) (k : Nat) : cmpF (upto ha hb k) = cmpN (val (la.take k)) (val (lb.take k)) := by
  induction k with
  | zero => simp [upto_zero, cmpF, val_nil, cmpN]
  | succ k ih =>
    have hA : val (la.take k) < B64 ^ k := Nat.lt_of_lt_of_le (val_lt (ha.take k)) (Nat.pow_le_pow_right B64_pos (List.length_take_le _ _))
    have hB : val (lb.take k) < B64 ^ k := Nat.lt_of_lt_of_le (val_lt (hb.take k)) (Nat.pow_le_pow_right B64_pos (List.length_take_le _ _))
    rw [upto_succ, val_take_succ, val_take_succ]
    by_cases he : la[k]?.getD 0 = lb[k]?.getD 0
    · rw [cmpF_same _ (by simpa [pairAt] using he), ih, he]
      unfold cmpN
      simp
    · rw [cmpF_other _ (by simpa [pairAt] using he)]
      simp only [pairAt]
      generalize la[k]?.getD 0 = x at *
      generalize lb[k]?.getD 0 = y at *
      rcases Nat.lt_or_ge x y with h | h
      · have := cmpN_top (B := val (lb.take k)) hA h
        simp [cmpN, h, this]
      · have h' : y < x := by omega
        have := cmpN_top (B := val (la.take k)) hB h'
        have h2 : ¬ (val (la.take k) + B64 ^ k * x < val (lb.take k) + B64 ^ k * y) := by omega
        have h3 : ¬ x < y := by omega
        simp [cmpN, h3, h', h2, this]

theorem cmpF_all {la lb : List Nat} (ha : Dig la) (hb : Dig lb) : cmpF (upto ha hb (max la.length lb.length)) = cmpN (val la) (val lb) := by
  rw [cmpF_upto, List.take_of_length_le (by omega), List.take_of_length_le (by omega)]

set_option maxRecDepth 100000 in
set_option maxHeartbeats 2000000 in
theorem cmp_lists (A B : Option Addr) (n c m d : Nat) (la lb : List Nat) (w : World) (ha : Lim w.heap.size w A n c la) (hb : Lim w.heap.size w B m d lb) (hn : n ≤ 4294967296) (hm : m ≤ 4294967296) :
    Calls Try.prog 37 #[.slice A n c, .slice B m d] w fun e w' => e = .returned (.int .i64 (cmpN (val la) (val lb))) ∧ Below w.heap.size w w' := by
  refine (callsIn_wide (n := 10)).1 ?_
  refine callsIn_of_wp_marks Try.func37 rfl trivial ?_ rfl
  simp only [Try.ntmps37, List.size_toArray, List.length_cons, List.length_nil, Nat.reduceAdd, Nat.reduceSub, Array.replicate_succ, Array.replicate_zero, List.push_toArray, List.append_toArray, List.nil_append, List.cons_append]
  have hnl := Lib.hid ha.1
  have hml := Lib.hid hb.1
  have dga : Dig la := ha.2.2.1
  have dgb : Dig lb := hb.2.2.1
  gi_wp2_with (refine ⟨trivial, ?_⟩; gi_at_call 47; refine (callsIn_wide.2 (pairs_any _ _ _ _ _ _ _ _ rfl rfl _)).mono ?_; rintro e w' ⟨rfl, rfl⟩)
  obtain ⟨s, hs⟩ : ∃ s, w.heap.size = s := ⟨_, rfl⟩
  rw [hs] at ha hb ⊢
  have bO : Boxed (w.alloc (.cells #[.int .i64 0] 3)) s 3 (.int .i64 0) := hs ▸ Boxed.new w 3 (.int .i64 0)
  have bA : Boxed ((w.alloc (.cells #[.int .i64 0] 3)).alloc (.cells #[.slice A n c] 23)) (s + 1) 23 (.slice A n c) := by
    have := Boxed.new (w.alloc (.cells #[.int .i64 0] 3)) 23 (.slice A n c); rw [World.size_alloc, hs] at this; exact this
  have bB : Boxed (((w.alloc (.cells #[.int .i64 0] 3)).alloc (.cells #[.slice A n c] 23)).alloc (.cells #[.slice B m d] 23)) (s + 1 + 1) 23 (.slice B m d) := by
    have := Boxed.new ((w.alloc (.cells #[.int .i64 0] 3)).alloc (.cells #[.slice A n c] 23)) 23 (.slice B m d); rw [World.size_alloc, World.size_alloc, hs] at this; exact this
  have hB0 : Below s w (((w.alloc (.cells #[.int .i64 0] 3)).alloc (.cells #[.slice A n c] 23)).alloc (.cells #[.slice B m d] 23)) := (((Below.refl _ w).alloc (by omega) _).alloc (by simp; omega) _).alloc (by simp; omega) _
  replace bO := (bO.alloc (.cells #[.slice A n c] 23)).alloc (.cells #[.slice B m d] 23)
  replace bA := bA.alloc (.cells #[.slice B m d] 23)
  obtain ⟨W0, hW0⟩ : ∃ W0, (((w.alloc (.cells #[.int .i64 0] 3)).alloc (.cells #[.slice A n c] 23)).alloc (.cells #[.slice B m d] 23)) = W0 := ⟨_, rfl⟩
  have hsz : W0.heap.size = s + 3 := by rw [← hW0]; simp; omega
  rw [hW0] at bO bA bB hB0 ⊢
  clear hW0
  refine wpIn_rangeFunc_ownG rfl (by decide) (gf := 53) (lb := #[.pointer (some ⟨s + 1, 0, none⟩), .pointer (some ⟨s + 1 + 1, 0, none⟩)]) rfl trivial (enters_of Try.func53 (by kernel_rfl) rfl)
    (pairs_stops (s + 1) (s + 1 + 1) s A B n c m d la lb dga dgb hn hm W0 (by omega) bA bB (ha.below hB0) (hb.below hB0))
    (fun h k => h.trans k) (keep_b (by omega) (by omega) (by omega)) (Below.refl _ _) (fun _ => rfl)
    (fun pre W => (Boxed W s 3 (.int .i64 (cmpF pre)) ∧ Boxed W (s + 1) 23 (.slice A n c) ∧ Boxed W (s + 1 + 1) 23 (.slice B m d)) ∧ Below s w W)
    (fun _ _ _ => False)
    (OwnFrom.and (OwnFrom.and (Own.from (boxed_own _ _ _) _) (OwnFrom.and (Own.from (boxed_own _ _ _) _) (Own.from (boxed_own _ _ _) _))) (ownFrom_below (by omega) (by omega)))
    (fun _ _ _ _ _ hs _ _ => hs)
    ⟨⟨bO, bA, bB⟩, hB0⟩
    (fun x => { tmps := #[.slice A n c, .slice B m d, undef, undef, .int .i64 0, .pointer (some ⟨s, 0, none⟩), .int .u64 (x.1.1 : Int), .int .u64 (x.1.2 : Int), .slice A n c, .slice B m d, .func (.func 53) #[] #[.pointer (some ⟨s + 1, 0, none⟩), .pointer (some ⟨s + 1 + 1, 0, none⟩)], .int .u64 (x.1.1 : Int), .int .u64 (x.1.2 : Int), undef, undef, undef, undef, undef, undef, undef], defers := [] }) ?assign ?body ?done ?stop
  case assign =>
    intro l x W K hK
    gi_wp2
    exact hK
  case body =>
    rintro l pre x W ⟨⟨hO, hA, hB⟩, hBl⟩ _
    have hc := hO.cell
    have hf := hO.frozen
    by_cases hx : x.1.1 = x.1.2
    · have hxb : ((x.1.1 : Int) != (x.1.2 : Int)) = false := by simp [hx]
      have HX := Lib.hid hx
      clear hx
      gi_wp2
      exact ⟨KeepsFrom.refl _ _, Keep.refl _ _ _ _, ⟨by rw [cmpF_same pre HX.out]; exact hO, hA, hB⟩, hBl⟩
    · have hxb : ((x.1.1 : Int) != (x.1.2 : Int)) = true := by simp; omega
      gi_wp2_with (refine ⟨trivial, ?_⟩; gi_at_call 48; refine (CallsIn.inRound l (callsIn_wide.2 (compare_any _ _ _))).mono ?_; rintro e w' ⟨rfl, rfl⟩)
      have hA' := hA.other (B' := s) (by omega) (.int .i64 (cmpN x.1.1 x.1.2))
      have hB' := hB.other (B' := s) (by omega) (.int .i64 (cmpN x.1.1 x.1.2))
      exact ⟨(KeepsOthers.setCell _ _ _).from _, ⟨(Below.refl s W).setCell (p := ⟨s, 0, none⟩) (Nat.le_refl _) _, hA'.trans hA.symm, hB'.trans hB.symm⟩,
        ⟨by rw [cmpF_other pre hx]; exact hO.set _, hA', hB'⟩, hBl.setCell (p := ⟨s, 0, none⟩) (Nat.le_refl _) _⟩
  case done =>
    rintro D ys W hD rfl ⟨⟨hO, _, _⟩, hBl⟩ hK
    have hc := hO.cell
    gi_wp2
    refine ⟨by simp, .inl ⟨_, _, rfl, run_takeDeferred hK, ?_⟩⟩
    refine ⟨_, results_tmp rfl _ _ _, ?_, by rw [hs]; exact hBl.trans (belowK_b (w := W0) (by omega) W D _ _ hD hK rfl rfl)⟩
    rw [hnl.out, hml.out, cmpF_all]
    rfl
  case stop =>
    rintro D c pre W _ _ h _
    exact h.elim

end Go.Proofs.Ytogdckajgkncdaa
