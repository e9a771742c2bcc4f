/- following, Ahead; Free, Leave. -/
import Derived.Test.YtplcpoajhkcjnaaTCon
namespace Go.Proofs.Ytplcpoajhkcjnaa.Con
open Go.RowKit
set_option linter.unusedVariables false
set_option linter.unusedSimpArgs false
/- What is still to come of a range over the map, as a function of who. -/
theorem left_at (left : Lit → Bool) {x : Int} (hx : in64 x) (y : Int) : (left (.int .i64 y) && !(Lit.int .i64 y).sameKey (.int .i64 x)) = (left (.int .i64 y) && !decide (y = x)) := by
  congr 2
  by_cases e : y = x
  · subst e; simp [WideAt.sameKey_self (lit_key hx)]
  · simp [e, Maps.sameKey_ne (lit_ne e)]
/-- How many of those that have come are such. -/
def came (lf : Int → Bool) (P : Nat → Bool) (L : List Tk) : Nat := L.countP (fun p => !lf p.1 && P p.2)
theorem came_congr {lf lf' : Int → Bool} {P : Nat → Bool} {L : List Tk} (h : ∀ p ∈ L, lf' p.1 = lf p.1) : came lf' P L = came lf P L := by
  unfold came
  refine List.countP_congr fun p hp => ?_
  rw [h p hp]
theorem came_step {lf lf' : Int → Bool} {P : Nat → Bool} {x : Int} {c : Nat} (hlf : ∀ y, lf' y = (lf y && !decide (y = x))) (hx : lf x = true) : ∀ {L : List Tk}, Ord L → (x, c) ∈ L → came lf' P L = came lf P L + (if P c then 1 else 0)
  | [], _, h => by cases h
  | p :: r, ho, h => by
    unfold Ord at ho
    rw [List.pairwise_cons] at ho
    rcases List.mem_cons.1 h with e | h
    · subst e
      have e1 : came lf' P r = came lf P r := came_congr fun q hq => by
        have := (ho.1 q hq).1
        rw [hlf, show decide (q.1 = x) = false by simpa using this.symm]
        simp
      unfold came at e1 ⊢
      rw [List.countP_cons, List.countP_cons, e1]
      have e2 : lf' x = false := by rw [hlf]; simp
      simp [e2, hx]
    · have ih := came_step (P := P) hlf hx ho.2 h
      have hne := (ho.1 _ h).1
      have e2 : lf' p.1 = lf p.1 := by rw [hlf, show decide (p.1 = x) = false by simpa using hne]; simp
      unfold came at ih ⊢
      rw [List.countP_cons, List.countP_cons, ih, e2]
      omega
theorem came_start {lf : Int → Bool} {P : Nat → Bool} {L : List Tk} (h : ∀ p ∈ L, lf p.1 = true) : came lf P L = 0 := by
  unfold came
  rw [List.countP_eq_zero]
  intro p hp
  simp [h p hp]
theorem came_end {lf : Int → Bool} {P : Nat → Bool} {L : List Tk} (h : ∀ y, lf y = false) : came lf P L = L.countP (fun p => P p.2) := by
  unfold came
  refine List.countP_congr fun p _ => ?_
  simp [h]
section
variable {W : World} {b m n s : Nat} {L : List Tk}
theorem who64 {x : Int} (h : 0 ≤ x ∧ x ≤ 255) : in64 x := by rw [in64_iff]; omega
theorem LK.in64 (h : LK W b m n s L) {p : Tk} (hp : p ∈ L) : Con.in64 p.1 := who64 (h.who p hp)
theorem LK.t32 (h : LK W b m n s L) {p : Tk} (hp : p ∈ L) : s ≤ p.2 ∧ p.2 < 4294967296 := by have := h.tic p hp; have := h.hi; omega
/-- What has come out of the range is one that has a ticket. -/
theorem entry_mem {D : DataW Unit} (hA : Agr D (tkOf L)) {x c : Int} (hx : Con.in64 x) (hat : ∀ zd, D.atKey (.int .i64 x) zd = .lit (.int .u32 c)) : ∃ d : Nat, c = (d : Int) ∧ (x, d) ∈ L := by
  have hh := Maps.has_true_of_atKey hat
  obtain ⟨h1, h2⟩ := hA x hx
  rw [h1] at hh
  cases e : tkOf L x with
  | none => rw [e] at hh; cases hh
  | some d =>
    have := h2 d e
    rw [hat] at this
    refine ⟨d, by simpa using this, tkOf_mem e⟩
theorem ahead_none (h : LK W b m n s L) (x : Int) (hx : Con.in64 x) (hd : tkOf L x = none) : Calls Try.prog 13 #[.pointer (some ⟨b, 0, none⟩), .int .i64 x] W fun e w' => e = .returned (.int .i64 (-1)) ∧ w' = W := by
  obtain ⟨c0, c1, c2, z0, z1⟩ := h.cells
  have hlk := h.map.look hx
  rw [hd] at hlk
  simp only [Option.getD_none, Option.isSome_none] at hlk
  clear h
  go_enter Try.func13, Try.ntmps13
  go_wp2
  go_ret
  exact ⟨rfl, rfl⟩
def ahd (L : List Tk) (d : Nat) : Nat := L.countP (fun p => decide (p.2 < d))
set_option maxRecDepth 20000 in
theorem ahead_any (h : LK W b m n s L) (x : Int) (hx : Con.in64 x) (d : Nat) (hd : tkOf L x = some d) : Calls Try.prog 13 #[.pointer (some ⟨b, 0, none⟩), .int .i64 x] W fun e w' => e = .returned (.int .i64 (ahd L d : Int)) ∧ Below W.heap.size W w' := by
  obtain ⟨c0, c1, c2, z0, z1⟩ := h.cells
  have hlk := h.map.look hx
  rw [hd] at hlk
  simp only [Option.getD_some, Option.isSome_some] at hlk
  have hmm := tkOf_mem hd
  have hdt := h.t32 hmm
  have H := hide h
  have hlen := h.len
  obtain ⟨D, hown, hs, hA⟩ := h.map
  have HA := hide hA
  clear hA h hmm
  go_enter Try.func13, Try.ntmps13
  go_wp2_with (first
    | (at_range; refine wpList_range_own _ rfl _ 32 rfl 3 25 keyI Try.underlying32 _ m L.length D rfl hown ?_; intro w0 hrg0 hg0 hs0)
    | go_in)
  try go_frame
  go_loopw [7] (fun a wr => ∃ (left : Lit → Bool) (cnt : Nat), wr.ranges Try.prog 3 (plainElem Try.prog 25) m W.heap.size L.length D left cnt ∧ Hid (Below W.heap.size W wr) ∧ a = .int .i64 (came (fun y => left (.int .i64 y)) (fun c => decide (c < d)) L : Int))
    (fun _ wr => wr.rangeLeft m W.heap.size)
  case atStart =>
    refine ⟨_, _, hrg0, hide ⟨hg0.os, hg0.tape, hg0.output, hg0.size, fun k hk => hg0.block k hk (by simp)⟩, ?_⟩
    rw [came_start]
    · rfl
    · intro p hp
      rw [(HA.out p.1 (H.out.in64 hp)).1, tkOf_of H.out.ord (show (p.1, p.2) ∈ L from hp)]; rfl
  case round =>
    obtain ⟨left, cnt, hrg, HB, rfl⟩ := hrel
    have cle : came (fun y => left (.int .i64 y)) (fun c => decide (c < d)) L ≤ 64 := Nat.le_trans List.countP_le_length hlen
    go_wp2_with (first
      | (at_next; refine wpList_next_ranges_ii _ rfl _ rfl 3 25 .i64 .u32 keyI Try.underlying3 Try.underlying25 m W.heap.size L.length _ _ _ rfl hrg ?_ ?_)
      | go_in)
    · intro _ hl0
      go_wp2
      go_ret
      refine ⟨?_, HB.out⟩
      rw [came_end (fun y => hl0 _)]; rfl
    · intro y c w1 cnt1 hwx hwc hlx hat hrg1 hlt hg1 hs1 hen
      obtain ⟨t, rfl, hyt⟩ := entry_mem HA.out hwx hat
      have HB1 : Hid (Below W.heap.size W w1) := hide (below_grown HB.out HB.out.size hg1 (fun k hk => by injection hk with hk; omega))
      have H1 := hide (H.out.below HB1.out)
      have htt := H.out.t32 hyt
      have CS := hide (came_step (P := fun c => decide (c < d)) (lf := fun y => left (.int .i64 y)) (lf' := fun z => left (.int .i64 z) && !(Lit.int .i64 z).sameKey (.int .i64 y)) (fun z => left_at left hwx z) hlx H.out.ord hyt)
      have W1 := hide (wait_any H1.out t htt.1 htt.2)
      have W2 := hide (wait_any H1.out d hdt.1 hdt.2)
      obtain ⟨u1, hu1⟩ : ∃ u, t - s = u := ⟨_, rfl⟩
      obtain ⟨u2, hu2⟩ : ∃ u, d - s = u := ⟨_, rfl⟩
      rw [hu1] at W1
      rw [hu2] at W2
      generalize hcm : came (fun y => left (.int .i64 y)) (fun c => decide (c < d)) L = cm at *
      by_cases hlt2 : t < d
      · have hv : (u1 : Int) < (u2 : Int) := by omega
        rw [show (if (decide (t < d)) = true then 1 else 0) = 1 by simp [hlt2]] at CS
        go_wp2_with fail
        refine W1.out.mono ?_
        rintro e w2 ⟨rfl, hw⟩
        have hw2 := hw.symm
        clear hw
        subst hw2
        go_wp2_with fail
        refine W2.out.mono ?_
        rintro e w2 ⟨rfl, hw⟩
        have hw2 := hw.symm
        clear hw
        subst hw2
        go_wp2
        go_roundw
        case rel => exact ⟨_, cnt1, hrg1, HB1, by rw [CS.out]; go_num⟩
        case measure => rw [hrg1.left_eq, hrg.left_eq]; exact hlt
      · have hv : ¬ (u1 : Int) < (u2 : Int) := by omega
        rw [show (if (decide (t < d)) = true then 1 else 0) = 0 by simp [hlt2]] at CS
        go_wp2_with fail
        refine W1.out.mono ?_
        rintro e w2 ⟨rfl, hw⟩
        have hw2 := hw.symm
        clear hw
        subst hw2
        go_wp2_with fail
        refine W2.out.mono ?_
        rintro e w2 ⟨rfl, hw⟩
        have hw2 := hw.symm
        clear hw
        subst hw2
        go_wp2
        go_roundw
        case rel => exact ⟨_, cnt1, hrg1, HB1, by rw [CS.out]; rfl⟩
        case measure => rw [hrg1.left_eq, hrg.left_eq]; exact hlt
end
end Go.Proofs.Ytplcpoajhkcjnaa.Con
