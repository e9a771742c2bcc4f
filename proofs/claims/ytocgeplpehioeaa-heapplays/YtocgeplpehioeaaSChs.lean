/- choosePivotCmpFunc. -/
import Derived.Test.YtocgeplpehioeaaSPiv
namespace Go.Proofs.Ytocgeplpehioeaa.Con
open Go.RowKit Go.Proofs.Ytocgeplpehioeaa.Hq
set_option linter.unusedVariables false
set_option linter.unusedSimpArgs false
def ChsPost (W0 : World) (hb r : Nat) (g : Bool) (m : List It) (a b : Nat) (e : Ending) (w' : World) : Prop :=
  ∃ (x : Nat) (h : Int), e = .returned (.tuple #[.int .i64 x, .int .i64 h]) ∧ a ≤ x ∧ x < b ∧ (h = 0 ∨ h = 1 ∨ h = 2) ∧ So W0 hb r g m w'
theorem sw_start {W0 W : World} {hb r : Nat} {g : Bool} {m : List It} (S : So W0 hb r g m W) : Sw W0 hb r g m W.heap.size 0 (W.alloc (.cells #[.int .i64 0] 3)) :=
  ⟨S.below ((Below.refl _ _).alloc (Nat.le_refl _) _), S.grown.size, 0, by omega, by omega, heap_alloc_new W _⟩
set_option maxRecDepth 100000 in
set_option maxHeartbeats 4000000 in
theorem choose_any {W0 W : World} {hb r : Nat} {g : Bool} {m : List It} {n : Nat} (a b : Nat) (hn : m.length = n) (S : So W0 hb r g m W) (hb' : b ≤ n) (ha : a + 12 < b) :
    Calls Try.prog 43 #[.slice (some ⟨r, 0, none⟩) n n, .int .i64 a, .int .i64 b, .func (.func 27) #[.pointer (some ⟨hb, 0, none⟩)] #[]] W fun e w' => ChsPost W0 hb r g m a b e w' := by
  have hn2 : n ≤ 1024 := by rw [← hn]; exact S.len
  have NN := hide hn
  have SW0 := hide (sw_start S)
  clear S hn
  obtain ⟨q, hq⟩ : ∃ q, q = (b - a) / 4 := ⟨_, rfl⟩
  obtain ⟨l, hl⟩ : ∃ l, l = b - a := ⟨_, rfl⟩
  obtain ⟨i, hi⟩ : ∃ i, i = a + q := ⟨_, rfl⟩
  obtain ⟨j, hj⟩ : ∃ j, j = a + q * 2 := ⟨_, rfl⟩
  obtain ⟨k, hk⟩ : ∃ k, k = a + q * 3 := ⟨_, rfl⟩
  have e0 : (b : Int) - (a : Int) = (l : Int) := by omega
  have e1 : (l : Int) / 4 = (q : Int) := by omega
  have e2 : (a : Int) + (q : Int) = (i : Int) := by omega
  have e3 : (a : Int) + (q : Int) * 2 = (j : Int) := by omega
  have e4 : (a : Int) + (q : Int) * 3 = (k : Int) := by omega
  have F : Hid (a + 2 < i ∧ i < j ∧ j < k ∧ k + 2 < b) := hide (by omega)
  have l8 : (8 : Int) ≤ (l : Int) := by omega
  have q1 : (q : Int) ≤ 256 := by omega
  have a1 : (a : Int) ≤ 1024 := by omega
  have L := hide hl
  clear hq hl hi hj hk
  by_cases h50 : 50 ≤ l
  · have l50 : (50 : Int) ≤ (l : Int) := by omega
    go_enter Try.func43, Try.ntmps43
    go_wp2_with fail
    refine (adjacent_any i NN.out SW0.out (by have := F.out; omega) (by have := F.out; omega) (by omega)).mono ?_
    rintro e w1 ⟨x, rfl, hx, s1⟩
    have X := hide hx
    have S1 := hide s1
    clear hx s1 SW0
    generalize W.heap.size = sb at *
    go_wp2_with fail
    refine (adjacent_any j NN.out S1.out (by have := F.out; omega) (by have := F.out; omega) (by omega)).mono ?_
    rintro e w2 ⟨y, rfl, hx, s1⟩
    have Y := hide hx
    have S2 := hide s1
    clear hx s1 S1
    go_wp2_with fail
    refine (adjacent_any k NN.out S2.out (by have := F.out; omega) (by have := F.out; omega) (by omega)).mono ?_
    rintro e w3 ⟨z, rfl, hx, s1⟩
    have Z := hide hx
    have S3' := hide s1
    clear hx s1 S2
    go_wp2_with fail
    refine (median_any x y z NN.out S3'.out (by have := F.out; have := X.out; omega) (by have := F.out; have := Y.out; omega) (by have := F.out; have := Z.out; omega) (by omega)).mono ?_
    rintro e w4 ⟨u, rfl, hu, s1⟩
    obtain ⟨s, s0, s12, hs⟩ := s1.cnt
    have cs : w4.cell? ⟨sb, 0, none⟩ = some (.int .i64 s) := by rw [cell_of_row w4 _ _ _ _ _ hs]; rfl
    have hua : a ≤ u ∧ u < b := by have := F.out; have := X.out; have := Y.out; have := Z.out; omega
    have S4 := hide s1.so
    clear s1 hu hs
    by_cases hs0 : s = 0
    · subst hs0
      go_wp2_with fail
      go_ret2
      exact ⟨u, 1, rfl, hua.1, hua.2, by omega, S4.out⟩
    · by_cases hs12 : s = 12
      · subst hs12
        go_wp2_with fail
        go_ret2
        exact ⟨u, 2, rfl, hua.1, hua.2, by omega, S4.out⟩
      · go_wp2_with fail
        go_ret2
        exact ⟨u, 0, rfl, hua.1, hua.2, by omega, S4.out⟩
  · have l50 : ¬ (50 : Int) ≤ (l : Int) := by omega
    go_enter Try.func43, Try.ntmps43
    go_wp2_with fail
    refine (median_any i j k NN.out SW0.out (by have := F.out; omega) (by have := F.out; omega) (by have := F.out; omega) (by omega)).mono ?_
    rintro e w4 ⟨u, rfl, hu, s1⟩
    obtain ⟨s, s0, s12, hs⟩ := s1.cnt
    have cs : w4.cell? ⟨W.heap.size, 0, none⟩ = some (.int .i64 s) := by rw [cell_of_row w4 _ _ _ _ _ hs]; rfl
    have hua : a ≤ u ∧ u < b := by have := F.out; omega
    have S4 := hide s1.so
    clear s1 hu hs
    by_cases hs0 : s = 0
    · subst hs0
      go_wp2_with fail
      go_ret2
      exact ⟨u, 1, rfl, hua.1, hua.2, by omega, S4.out⟩
    · by_cases hs12 : s = 12
      · omega
      · go_wp2_with fail
        go_ret2
        exact ⟨u, 0, rfl, hua.1, hua.2, by omega, S4.out⟩
end Go.Proofs.Ytocgeplpehioeaa.Con
