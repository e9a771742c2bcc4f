/- Seats: plain mathematics, by the chapter's words. Of no program. -/
import Derived.RowKit
import Derived.WalkKit
import Derived.ProofKit
import Derived.Test.YtahkmpbgenpecaaDoorMBits
namespace Go.Proofs.YtahkmpbgenpecaaDoor.St
open Go.RowKit Go.Proofs.YtahkmpbgenpecaaDoor.Mk
set_option linter.unusedVariables false
set_option linter.unusedSimpArgs false
theorem hide {p : Prop} (h : p) : Hid p := h
/-- The ids of seats that are taken. -/
def tk (l : List Int) : List Int := l.filter (fun x => decide (0 ≤ x))
def goodS (was run : List Int) : Bool :=
  decide (1 ≤ was.length ∧ was.length ≤ 64 ∧ run.length ≤ was.length) && (was.all (fun x => decide (-1 ≤ x ∧ x ≤ 1023)) && run.all (fun x => decide (0 ≤ x ∧ x ≤ 1023))) && (decide (tk was).Nodup && decide run.Nodup)
def baseL (was run : List Int) : List Int := was.map (fun x => if x ∈ run then x else -1)
def othL (was run : List Int) : List Int := run.filter (fun x => decide (x ∉ was))
/-- Each that is left takes, in order, the least free. -/
def fill : List Int → List Int → List Int
  | [], _ => []
  | x :: l, [] => x :: l
  | x :: l, i :: is => if x = -1 then i :: fill l is else x :: fill l (i :: is)
def giveL (was run : List Int) : List Int := if goodS was run = true then fill (baseL was run) (othL was run) else []
def giveN (was run : List Int) : Nat := if goodS was run = true then (othL was run).length else 0
def atN : List Int → Int → Option Nat
  | [], _ => none
  | x :: l, i => if x = i then some 0 else (atN l i).map (· + 1)
def atI (l : List Int) (i : Int) : Int := match atN l i with | some k => (k : Int) | none => -1
def goodW (was : List Int) (cpu id : Int) : Bool := decide (0 ≤ cpu ∧ cpu < was.length ∧ -1 ≤ id ∧ id ≤ 1023) && goodS was []
def swapL (was : List Int) (cpu id : Int) : List Int := if goodW was cpu id = true then (was.map (fun x => if x = id then -1 else x)).set cpu.toNat id else []
def swapI (was : List Int) (cpu id : Int) : Int := if goodW was cpu id = true then was.getD cpu.toNat 0 else -1
def freeU : List Int → Nat → Nat → Nat
  | [], _, m => m
  | x :: l, k, m => freeU l (k + 1) (if x = -1 then withN m (k : Int) else m)
def freeN (was : List Int) : Nat := freeU was 0 0
/-! What is so of them. -/
theorem good_parts {was run : List Int} (h : goodS was run = true) : (1 ≤ was.length ∧ was.length ≤ 64 ∧ run.length ≤ was.length) ∧ (∀ x ∈ was, -1 ≤ x ∧ x ≤ 1023) ∧ (∀ x ∈ run, 0 ≤ x ∧ x ≤ 1023) ∧ (tk was).Nodup ∧ run.Nodup := by
  unfold goodS at h
  simp only [Bool.and_eq_true, decide_eq_true_eq, List.all_eq_true] at h
  exact ⟨h.1.1, h.1.2.1, h.1.2.2, h.2.1, h.2.2⟩
theorem good_of {was run : List Int} (h1 : 1 ≤ was.length ∧ was.length ≤ 64 ∧ run.length ≤ was.length) (h2 : ∀ x ∈ was, -1 ≤ x ∧ x ≤ 1023) (h3 : ∀ x ∈ run, 0 ≤ x ∧ x ≤ 1023) (h4 : (tk was).Nodup) (h5 : run.Nodup) : goodS was run = true := by
  unfold goodS
  simp only [Bool.and_eq_true, decide_eq_true_eq, List.all_eq_true]
  exact ⟨⟨h1, h2, h3⟩, h4, h5⟩
theorem fill_len : ∀ (l is : List Int), (fill l is).length = l.length := by
  intro l
  induction l with
  | nil => intro is; cases is <;> rfl
  | cons x l ih =>
    intro is
    cases is with
    | nil => rfl
    | cons i is => unfold fill; split <;> simp [ih]
theorem fill_nil (l : List Int) : fill l [] = l := by cases l <;> rfl
/-- A seat that was taken stays so. -/
theorem fill_keep : ∀ (l is : List Int) (k : Nat) (x : Int), l[k]? = some x → x ≠ -1 → (fill l is)[k]? = some x := by
  intro l
  induction l with
  | nil => intro is k x h; simp at h
  | cons y l ih =>
    intro is k x h hx
    cases is with
    | nil => exact h
    | cons i is =>
      unfold fill
      cases k with
      | zero =>
        simp only [List.getElem?_cons_zero, Option.some.injEq] at h
        subst h
        rw [if_neg hx]; rfl
      | succ k =>
        rw [List.getElem?_cons_succ] at h
        split
        · rw [List.getElem?_cons_succ]; exact ih _ _ _ h hx
        · rw [List.getElem?_cons_succ]; exact ih _ _ _ h hx
/-- Who is seated: those that were and those that came, just once each. -/
theorem fill_perm : ∀ (l is : List Int), (∀ i ∈ is, 0 ≤ i) → is.length ≤ l.count (-1) → (tk (fill l is)).Perm (is ++ tk l) := by
  intro l
  induction l with
  | nil =>
    intro is h hc
    cases is with
    | nil => exact List.Perm.refl _
    | cons i is => simp at hc
  | cons x l ih =>
    intro is h hc
    cases is with
    | nil => exact List.Perm.refl _
    | cons i is =>
      unfold fill
      have hi : 0 ≤ i := h i (by simp)
      by_cases hx : x = -1
      · subst hx
        rw [if_pos rfl]
        have e1 : tk (i :: fill l is) = i :: tk (fill l is) := by unfold tk; simp [hi]
        have e2 : tk (-1 :: l) = tk l := by unfold tk; simp
        rw [e1, e2, List.cons_append]
        refine (ih is (fun j hj => h j (by simp [hj])) ?_).cons _
        rw [List.count_cons] at hc
        simp at hc
        omega
      · rw [if_neg hx]
        have hc' : (i :: is).length ≤ l.count (-1) := by
          rw [List.count_cons] at hc
          simpa [hx] using hc
        have p := ih (i :: is) h hc'
        by_cases h0 : 0 ≤ x
        · have e1 : tk (x :: fill l (i :: is)) = x :: tk (fill l (i :: is)) := by unfold tk; simp [h0]
          have e2 : tk (x :: l) = x :: tk l := by unfold tk; simp [h0]
          rw [e1, e2]
          exact (p.cons x).trans List.perm_middle.symm
        · have e1 : tk (x :: fill l (i :: is)) = tk (fill l (i :: is)) := by unfold tk; simp [h0]
          have e2 : tk (x :: l) = tk l := by unfold tk; simp [h0]
          rw [e1, e2]
          exact p
theorem fill_mem : ∀ (l is : List Int) (x : Int), x ∈ fill l is → x ∈ l ∨ x ∈ is := by
  intro l
  induction l with
  | nil => intro is x h; cases is <;> simp [fill] at h
  | cons y l ih =>
    intro is x h
    cases is with
    | nil => exact .inl h
    | cons i is =>
      unfold fill at h
      split at h
      · rcases List.mem_cons.1 h with rfl | h
        · exact .inr (by simp)
        · rcases ih _ _ h with h | h
          · exact .inl (by simp [h])
          · exact .inr (by simp [h])
      · rcases List.mem_cons.1 h with rfl | h
        · exact .inl (by simp)
        · rcases ih _ _ h with h | h
          · exact .inl (by simp [h])
          · exact .inr h
theorem tk_count (l : List Int) (h : ∀ x ∈ l, -1 ≤ x) : (tk l).length + l.count (-1) = l.length := by
  induction l with
  | nil => rfl
  | cons x l ih =>
    have := ih (fun y hy => h y (by simp [hy]))
    have hx := h x (by simp)
    by_cases h0 : 0 ≤ x
    · have e : tk (x :: l) = x :: tk l := by unfold tk; simp [h0]
      rw [e, List.count_cons, List.length_cons, List.length_cons, if_neg (by simp; omega)]
      omega
    · have e : tk (x :: l) = tk l := by unfold tk; simp [h0]
      obtain rfl : x = -1 := by omega
      rw [e, List.count_cons, List.length_cons, if_pos (by simp)]
      omega
theorem tk_base {was run : List Int} (h : ∀ x ∈ run, 0 ≤ x) : tk (baseL was run) = was.filter (fun x => decide (x ∈ run)) := by
  unfold baseL tk
  induction was with
  | nil => rfl
  | cons x was ih =>
    rw [List.map_cons]
    by_cases hx : x ∈ run
    · rw [if_pos hx, List.filter_cons_of_pos (by simpa using h x hx), List.filter_cons_of_pos (by simpa using hx), ih]
    · rw [if_neg hx, List.filter_cons_of_neg (by simp), List.filter_cons_of_neg (by simpa using hx), ih]
theorem base_mem {was run : List Int} {x : Int} (h : x ∈ baseL was run) : x = -1 ∨ (x ∈ run ∧ x ∈ was) := by
  unfold baseL at h
  obtain ⟨y, hy, e⟩ := List.mem_map.1 h
  split at e
  · subst e; exact .inr ⟨by assumption, hy⟩
  · exact .inl e.symm
/-- The members of both, counted here and there. -/
theorem both_perm {was run : List Int} (hw : (tk was).Nodup) (hr : run.Nodup) (h0 : ∀ x ∈ run, 0 ≤ x) : (was.filter (fun x => decide (x ∈ run))).Perm (run.filter (fun x => decide (x ∈ was))) := by
  have e : was.filter (fun x => decide (x ∈ run)) = (tk was).filter (fun x => decide (x ∈ run)) := by
    unfold tk
    rw [List.filter_filter]
    apply List.filter_congr
    intro x _
    by_cases hx : x ∈ run
    · simp [hx, h0 x hx]
    · simp [hx]
  rw [List.perm_ext_iff_of_nodup (by rw [e]; exact hw.filter _) (hr.filter _)]
  intro x
  simp only [List.mem_filter, decide_eq_true_eq]
  exact ⟨fun h => ⟨h.2, h.1⟩, fun h => ⟨h.2, h.1⟩⟩
theorem split_perm (run : List Int) (p : Int → Bool) : (run.filter (fun x => !p x) ++ run.filter p).Perm run := by
  induction run with
  | nil => exact List.Perm.refl _
  | cons x l ih =>
    by_cases h : p x = true
    · rw [List.filter_cons_of_neg (by simp [h]), List.filter_cons_of_pos h]
      exact List.perm_middle.trans (ih.cons x)
    · rw [List.filter_cons_of_pos (by simp [h]), List.filter_cons_of_neg h, List.cons_append]
      exact ih.cons x
theorem room {was run : List Int} (h : goodS was run = true) : (othL was run).length ≤ (baseL was run).count (-1) := by
  obtain ⟨h1, h2, h3, h4, h5⟩ := good_parts h
  have h0 : ∀ x ∈ run, 0 ≤ x := fun x hx => (h3 x hx).1
  have c := tk_count (baseL was run) (fun x hx => by
    rcases base_mem hx with rfl | ⟨g, _⟩
    · omega
    · have := h0 x g; omega)
  rw [tk_base h0] at c
  have p := (both_perm h4 h5 h0).length_eq
  have q := (split_perm run (fun x => decide (x ∈ was))).length_eq
  have bl : (baseL was run).length = was.length := by unfold baseL; simp
  have e : othL was run = run.filter (fun x => !decide (x ∈ was)) := by unfold othL; simp
  rw [List.length_append] at q
  rw [e]
  omega
/-- Just those that run have seats. -/
theorem give_perm {was run : List Int} (h : goodS was run = true) : (tk (giveL was run)).Perm run := by
  obtain ⟨h1, h2, h3, h4, h5⟩ := good_parts h
  have h0 : ∀ x ∈ run, 0 ≤ x := fun x hx => (h3 x hx).1
  unfold giveL
  rw [if_pos h]
  have e : othL was run = run.filter (fun x => !decide (x ∈ was)) := by unfold othL; simp
  refine (fill_perm _ _ (fun i hi => h0 i ?_) (room h)).trans ?_
  · unfold othL at hi; exact (List.mem_filter.1 hi).1
  · rw [tk_base h0, e]
    exact ((both_perm h4 h5 h0).append_left _).trans (split_perm run _)
theorem give_len {was run : List Int} (h : goodS was run = true) : (giveL was run).length = was.length := by
  unfold giveL
  rw [if_pos h, fill_len]; unfold baseL; simp
theorem give_mem {was run : List Int} (h : goodS was run = true) {x : Int} (hx : x ∈ giveL was run) : x = -1 ∨ x ∈ run := by
  unfold giveL at hx
  rw [if_pos h] at hx
  rcases fill_mem _ _ _ hx with g | g
  · rcases base_mem g with g | g
    · exact .inl g
    · exact .inr g.1
  · unfold othL at g; exact .inr (List.mem_filter.1 g).1
theorem give_has {was run : List Int} (h : goodS was run = true) {x : Int} (hx : x ∈ run) : x ∈ giveL was run := by
  have : x ∈ tk (giveL was run) := (give_perm h).mem_iff.2 hx
  unfold tk at this
  exact (List.mem_filter.1 this).1
theorem give_keep {was run : List Int} (h : goodS was run = true) {k : Nat} {x : Int} (hk : was[k]? = some x) (hx : x ∈ run) : (giveL was run)[k]? = some x := by
  unfold giveL
  rw [if_pos h]
  have h0 := (good_parts h).2.2.1 x hx
  refine fill_keep _ _ _ _ ?_ (by omega)
  unfold baseL
  rw [List.getElem?_map, hk]
  simp [hx]
theorem give_good {was run : List Int} (h : goodS was run = true) : goodS (giveL was run) run = true := by
  obtain ⟨h1, h2, h3, h4, h5⟩ := good_parts h
  refine good_of (by rw [give_len h]; exact h1) (fun x hx => ?_) h3 ((give_perm h).nodup_iff.2 h5) h5
  rcases give_mem h hx with rfl | g
  · omega
  · have := h3 x g; omega
/-- Given again nobody moves. -/
theorem again_oth {was run : List Int} (h : goodS was run = true) : othL (giveL was run) run = [] := by
  unfold othL
  apply List.filter_eq_nil_iff.2
  intro x hx
  simp [give_has h hx]
theorem again_give {was run : List Int} (h : goodS was run = true) : giveL (giveL was run) run = giveL was run := by
  generalize ha : giveL was run = a
  have hg := give_good h
  rw [ha] at hg
  have ho := again_oth h
  rw [ha] at ho
  unfold giveL
  rw [if_pos hg, ho, fill_nil]
  unfold baseL
  conv => rhs; rw [← List.map_id a]
  apply List.map_congr_left
  intro x hx
  rw [← ha] at hx
  rcases give_mem h hx with rfl | g
  · split <;> rfl
  · rw [if_pos g]; rfl
theorem again_n {was run : List Int} (h : goodS was run = true) : giveN (giveL was run) run = 0 := by
  unfold giveN
  rw [if_pos (give_good h), again_oth h]; rfl
/-! Counting, seat by seat. -/
def takenN (a : List Int) (k : Nat) : Nat := (a.take k).countP (fun x => decide (0 ≤ x))
def keptN (a w : List Int) (k : Nat) : Nat := ((a.zip w).take k).countP (fun p => decide (0 ≤ p.1 ∧ p.1 = p.2))
theorem taken_all {was run : List Int} (h : goodS was run = true) : takenN (giveL was run) (giveL was run).length = run.length := by
  unfold takenN
  rw [List.take_length, List.countP_eq_length_filter]
  exact (give_perm h).length_eq
theorem taken_step (a : List Int) (k : Nat) (hk : k < a.length) : takenN a (k + 1) = takenN a k + (if 0 ≤ a.getD k 0 then 1 else 0) := by
  unfold takenN
  rw [List.take_succ_eq_append_getElem hk, List.countP_append, List.getD_eq_getElem?_getD, List.getElem?_eq_getElem hk]
  simp [List.countP_cons]
theorem kept_step (a w : List Int) (k : Nat) (hk : k < a.length) (hl : a.length = w.length) : keptN a w (k + 1) = keptN a w k + (if 0 ≤ a.getD k 0 ∧ a.getD k 0 = w.getD k 0 then 1 else 0) := by
  unfold keptN
  have hz : k < (a.zip w).length := by simp; omega
  rw [List.take_succ_eq_append_getElem hz, List.countP_append, List.getD_eq_getElem?_getD, List.getElem?_eq_getElem hk, List.getD_eq_getElem?_getD, List.getElem?_eq_getElem (show k < w.length by omega)]
  simp [List.countP_cons]
theorem taken_le (a : List Int) (k : Nat) : takenN a k ≤ k := by
  unfold takenN
  exact Nat.le_trans (List.countP_le_length) (by rw [List.length_take]; omega)
theorem kept_le (a w : List Int) (k : Nat) : keptN a w k ≤ k := by
  unfold keptN
  exact Nat.le_trans (List.countP_le_length) (by rw [List.length_take]; omega)
theorem zip_count {run : List Int} : ∀ (a w : List Int), a.length = w.length → (∀ (k : Nat) (x y : Int), a[k]? = some x → w[k]? = some y → ((0 ≤ x ∧ x = y) ↔ y ∈ run)) →
    (a.zip w).countP (fun p => decide (0 ≤ p.1 ∧ p.1 = p.2)) = w.countP (fun y => decide (y ∈ run)) := by
  intro a
  induction a with
  | nil => intro w hl h; cases w with
    | nil => rfl
    | cons y w => simp at hl
  | cons x a ih =>
    intro w hl h
    cases w with
    | nil => simp at hl
    | cons y w =>
      have h0 := h 0 x y rfl rfl
      have := ih w (by simpa using hl) (fun k u v hu hv => h (k + 1) u v (by simpa using hu) (by simpa using hv))
      rw [List.zip_cons_cons, List.countP_cons, List.countP_cons, this]
      congr 1
      by_cases hy : y ∈ run
      · rw [decide_eq_true hy, decide_eq_true (h0.2 hy)]
      · rw [decide_eq_false hy, decide_eq_false (fun g => hy (h0.1 g))]
theorem kept_all {was run : List Int} (h : goodS was run = true) : (giveN was run : Int) = (run.length : Int) - (keptN (giveL was run) was (giveL was run).length : Nat) := by
  obtain ⟨h1, h2, h3, h4, h5⟩ := good_parts h
  have h0 : ∀ x ∈ run, 0 ≤ x := fun x hx => (h3 x hx).1
  have e : keptN (giveL was run) was (giveL was run).length = was.countP (fun y => decide (y ∈ run)) := by
    unfold keptN
    rw [List.take_of_length_le (by simp; omega)]
    refine zip_count _ _ (give_len h) fun k x y hx hy => ⟨fun ⟨g, e⟩ => ?_, fun g => ?_⟩
    · subst e
      rcases give_mem h (List.mem_of_getElem? hx) with rfl | g2
      · omega
      · exact g2
    · have := give_keep h hy g
      rw [hx] at this
      obtain rfl := Option.some.inj this
      exact ⟨h0 _ g, rfl⟩
  rw [e, List.countP_eq_length_filter]
  have p := (both_perm h4 h5 h0).length_eq
  have q := (split_perm run (fun x => decide (x ∈ was))).length_eq
  have e2 : othL was run = run.filter (fun x => !decide (x ∈ was)) := by unfold othL; simp
  rw [List.length_append, ← e2] at q
  unfold giveN
  rw [if_pos h]
  omega
/-! Where one sits. -/
theorem atN_some : ∀ (l : List Int) (i : Int) (k : Nat), atN l i = some k → l[k]? = some i := by
  intro l
  induction l with
  | nil => intro i k h; cases h
  | cons x l ih =>
    intro i k h
    unfold atN at h
    split at h
    · rename_i e
      cases h; subst e; rfl
    · cases hh : atN l i with
      | none => rw [hh] at h; cases h
      | some j =>
        rw [hh] at h
        cases h
        rw [List.getElem?_cons_succ]; exact ih i j hh
theorem atN_none : ∀ (l : List Int) (i : Int), atN l i = none → i ∉ l := by
  intro l
  induction l with
  | nil => intro i _ h; cases h
  | cons x l ih =>
    intro i h hm
    unfold atN at h
    split at h
    · cases h
    · rename_i hx
      rcases List.mem_cons.1 hm with e | hm
      · exact hx e.symm
      · cases hh : atN l i with
        | none => exact ih i hh hm
        | some j => rw [hh] at h; cases h
theorem tk_inj : ∀ (l : List Int), (tk l).Nodup → ∀ (j k : Nat) (x : Int), 0 ≤ x → l[j]? = some x → l[k]? = some x → j = k := by
  intro l
  induction l with
  | nil => intro _ j k x _ h; simp at h
  | cons y l ih =>
    intro hn j k x hx hj hk
    have hmem : ∀ (q : Nat), l[q]? = some x → x ∈ tk l := fun q hq => by unfold tk; exact List.mem_filter.2 ⟨List.mem_of_getElem? hq, by simpa using hx⟩
    by_cases hy : 0 ≤ y
    · have e : tk (y :: l) = y :: tk l := by unfold tk; simp [hy]
      rw [e, List.nodup_cons] at hn
      cases j with
      | zero =>
        simp only [List.getElem?_cons_zero, Option.some.injEq] at hj
        subst hj
        cases k with
        | zero => rfl
        | succ k =>
          rw [List.getElem?_cons_succ] at hk
          exact absurd (hmem _ hk) hn.1
      | succ j =>
        rw [List.getElem?_cons_succ] at hj
        cases k with
        | zero =>
          simp only [List.getElem?_cons_zero, Option.some.injEq] at hk
          subst hk
          exact absurd (hmem _ hj) hn.1
        | succ k =>
          rw [List.getElem?_cons_succ] at hk
          rw [ih hn.2 j k x hx hj hk]
    · have e : tk (y :: l) = tk l := by unfold tk; simp [hy]
      rw [e] at hn
      cases j with
      | zero =>
        simp only [List.getElem?_cons_zero, Option.some.injEq] at hj
        omega
      | succ j =>
        rw [List.getElem?_cons_succ] at hj
        cases k with
        | zero =>
          simp only [List.getElem?_cons_zero, Option.some.injEq] at hk
          omega
        | succ k =>
          rw [List.getElem?_cons_succ] at hk
          rw [ih hn j k x hx hj hk]
theorem at_of {l : List Int} (hn : (tk l).Nodup) {i : Int} (hi : 0 ≤ i) {k : Nat} (hk : l[k]? = some i) : atI l i = (k : Int) := by
  unfold atI
  cases h : atN l i with
  | none => exact absurd (List.mem_of_getElem? hk) (atN_none _ _ h)
  | some j => rw [tk_inj l hn j k i hi (atN_some _ _ _ h) hk]
theorem at_neg {l : List Int} {i : Int} (h : atI l i < 0) : i ∉ l := by
  unfold atI at h
  cases hh : atN l i with
  | none => exact atN_none _ _ hh
  | some j => rw [hh] at h; simp at h; omega
theorem at_nonneg {l : List Int} {i : Int} (h : 0 ≤ atI l i) : ∃ k : Nat, atI l i = (k : Int) ∧ l[k]? = some i := by
  unfold atI at h ⊢
  cases hh : atN l i with
  | none => rw [hh] at h; simp at h
  | some j => exact ⟨j, rfl, atN_some _ _ _ hh⟩
/-- Each that runs is seated, where it was if it was. -/
theorem sits {was run : List Int} (h : goodS was run = true) {x : Int} (hx : x ∈ run) :
    0 ≤ atI (giveL was run) x ∧ atI (giveL was run) x < ((giveL was run).length : Int) ∧ (0 ≤ atI was x → atI (giveL was run) x = atI was x) := by
  obtain ⟨h1, h2, h3, h4, h5⟩ := good_parts h
  have hn : (tk (giveL was run)).Nodup := (give_perm h).nodup_iff.2 h5
  obtain ⟨k, hk⟩ := List.mem_iff_getElem?.1 (give_has h hx)
  have e := at_of hn (h3 x hx).1 hk
  have hl := (List.getElem?_eq_some_iff.1 hk).1
  refine ⟨by omega, by omega, fun g => ?_⟩
  obtain ⟨j, ej, hj⟩ := at_nonneg g
  rw [ej]
  exact at_of hn (h3 x hx).1 (give_keep h hj hx)
/-! Swaps. -/
theorem map_absent (l : List Int) (i : Int) (h : i ∉ l) : l.map (fun x => if x = i then -1 else x) = l := by
  conv => rhs; rw [← List.map_id l]
  apply List.map_congr_left
  intro x hx
  have e : x ≠ i := by rintro rfl; exact h hx
  rw [if_neg e]; rfl
theorem map_free (l : List Int) : l.map (fun x => if x = -1 then -1 else x) = l := by
  conv => rhs; rw [← List.map_id l]
  apply List.map_congr_left
  intro x hx
  by_cases h : x = -1
  · rw [if_pos h, h]; rfl
  · rw [if_neg h]; rfl
theorem tk_set : ∀ (l : List Int) (k : Nat) (x : Int), 0 ≤ x → x ∉ l → (tk l).Nodup → (tk (l.set k x)).Nodup := by
  intro l
  induction l with
  | nil => intro k x _ _ h; exact h
  | cons y l ih =>
    intro k x hx hm hn
    have hxl : x ∉ l := fun g => hm (by simp [g])
    have hn' : (tk l).Nodup := by
      by_cases hy : 0 ≤ y
      · have e : tk (y :: l) = y :: tk l := by unfold tk; simp [hy]
        rw [e, List.nodup_cons] at hn
        exact hn.2
      · have e : tk (y :: l) = tk l := by unfold tk; simp [hy]
        rwa [e] at hn
    cases k with
    | zero =>
      rw [List.set_cons_zero]
      have e : tk (x :: l) = x :: tk l := by unfold tk; simp [hx]
      rw [e, List.nodup_cons]
      exact ⟨fun g => hxl (by unfold tk at g; exact (List.mem_filter.1 g).1), hn'⟩
    | succ k =>
      rw [List.set_cons_succ]
      by_cases hy : 0 ≤ y
      · have e : tk (y :: l) = y :: tk l := by unfold tk; simp [hy]
        have e2 : tk (y :: l.set k x) = y :: tk (l.set k x) := by unfold tk; simp [hy]
        rw [e, List.nodup_cons] at hn
        rw [e2, List.nodup_cons]
        refine ⟨fun g => ?_, ih k x hx hxl hn'⟩
        unfold tk at g
        have g1 := (List.mem_filter.1 g).1
        rcases List.mem_or_eq_of_mem_set g1 with g2 | g2
        · exact hn.1 (by unfold tk; exact List.mem_filter.2 ⟨g2, by simpa using hy⟩)
        · exact hm (by simp [g2])
      · have e2 : tk (y :: l.set k x) = tk (l.set k x) := by unfold tk; simp [hy]
        rw [e2]
        exact ih k x hx hxl hn'
/-- There and back. -/
theorem swap_there {was : List Int} {cpu id : Int} (h : goodS was [] = true) (hc : 0 ≤ cpu) (hcl : cpu < was.length) (h0 : 0 ≤ id) (h1 : id ≤ 1023) (ha : id ∉ was) :
    swapL was cpu id = was.set cpu.toNat id ∧ swapI was cpu id = was.getD cpu.toNat 0 ∧ goodS (was.set cpu.toNat id) [] = true ∧ atI (was.set cpu.toNat id) id = cpu ∧
    swapL (was.set cpu.toNat id) cpu (was.getD cpu.toNat 0) = was ∧ swapI (was.set cpu.toNat id) cpu (was.getD cpu.toNat 0) = id := by
  obtain ⟨g1, g2, g3, g4, g5⟩ := good_parts h
  have hk : cpu.toNat < was.length := by omega
  have hw : goodW was cpu id = true := by
    unfold goodW
    simp only [Bool.and_eq_true, decide_eq_true_eq]
    exact ⟨⟨hc, hcl, by omega, h1⟩, h⟩
  have hn := tk_set was cpu.toNat id h0 ha g4
  have hgood : goodS (was.set cpu.toNat id) [] = true := by
    refine good_of (by simpa using g1) (fun x hx => ?_) (by simp) hn List.nodup_nil
    rcases List.mem_or_eq_of_mem_set hx with g | rfl
    · exact g2 x g
    · exact ⟨by omega, h1⟩
  have hat : (was.set cpu.toNat id)[cpu.toNat]? = some id := by rw [List.getElem?_set_self (by omega)]
  obtain ⟨y, hy⟩ : ∃ y, was[cpu.toNat]? = some y := ⟨_, List.getElem?_eq_getElem hk⟩
  have hyd : was.getD cpu.toNat 0 = y := by rw [List.getD_eq_getElem?_getD, hy]; rfl
  have hyr := g2 y (List.mem_of_getElem? hy)
  have hw2 : goodW (was.set cpu.toNat id) cpu y = true := by
    unfold goodW
    simp only [Bool.and_eq_true, decide_eq_true_eq]
    exact ⟨⟨hc, by simpa using hcl, hyr.1, hyr.2⟩, hgood⟩
  refine ⟨?_, ?_, hgood, ?_, ?_, ?_⟩
  · unfold swapL; rw [if_pos hw, map_absent _ _ ha]
  · unfold swapI; rw [if_pos hw]
  · rw [at_of hn h0 hat]; omega
  · rw [hyd]
    unfold swapL
    rw [if_pos hw2]
    have e : (was.set cpu.toNat id).map (fun x => if x = y then -1 else x) = was.set cpu.toNat id := by
      by_cases hy1 : y = -1
      · subst hy1; exact map_free _
      · apply map_absent
        intro hm
        obtain ⟨j, hj⟩ := List.mem_iff_getElem?.1 hm
        by_cases e : cpu.toNat = j
        · subst e
          rw [hat] at hj
          obtain rfl := Option.some.inj hj
          exact ha (List.mem_of_getElem? hy)
        · rw [List.getElem?_set_ne e] at hj
          exact e (tk_inj was g4 cpu.toNat j y (by omega) hy hj)
    rw [e, List.set_set]
    apply List.ext_getElem?
    intro j
    by_cases e : cpu.toNat = j
    · subst e
      rw [List.getElem?_set_self (by omega), hy]
    · rw [List.getElem?_set_ne e]
  · rw [hyd]
    unfold swapI
    rw [if_pos hw2, List.getD_eq_getElem?_getD, hat]; rfl
/-! Which are free. -/
theorem freeU_bit : ∀ (l : List Int) (k m j : Nat), (freeU l k m).testBit j = (m.testBit j || (decide (k ≤ j ∧ j < 64) && decide (l[j - k]? = some (-1)))) := by
  intro l
  induction l with
  | nil => intro k m j; simp [freeU]
  | cons x l ih =>
    intro k m j
    unfold freeU
    rw [ih]
    have hb : (if x = -1 then withN m (k : Int) else m).testBit j = (m.testBit j || (decide (x = -1) && decide (j = k ∧ j < 64))) := by
      by_cases hx : x = -1
      · rw [if_pos hx, withN_bit, decide_eq_true hx, Bool.true_and]
        congr 2
        apply propext
        constructor <;> intro h <;> exact ⟨by omega, h.2⟩
      · rw [if_neg hx, decide_eq_false hx]; simp
    rw [hb, Bool.or_assoc]
    congr 1
    by_cases h1 : j = k
    · subst h1
      simp only [Nat.sub_self, List.getElem?_cons_zero, Option.some.injEq]
      rw [decide_eq_false (show ¬ (j + 1 ≤ j ∧ j < 64) by omega)]
      by_cases hx : x = -1 <;> by_cases hj : j < 64 <;> simp [hx, hj]
    · rw [decide_eq_false (show ¬ (j = k ∧ j < 64) by omega)]
      by_cases h2 : k < j
      · obtain ⟨d, rfl⟩ : ∃ d, j = k + 1 + d := ⟨j - k - 1, by omega⟩
        rw [show k + 1 + d - (k + 1) = d by omega, show k + 1 + d - k = d + 1 by omega, List.getElem?_cons_succ]
        by_cases h3 : k + 1 + d < 64
        · rw [decide_eq_true (show k + 1 ≤ k + 1 + d ∧ k + 1 + d < 64 by omega), decide_eq_true (show k ≤ k + 1 + d ∧ k + 1 + d < 64 by omega)]; simp
        · rw [decide_eq_false (show ¬ (k + 1 ≤ k + 1 + d ∧ k + 1 + d < 64) by omega), decide_eq_false (show ¬ (k ≤ k + 1 + d ∧ k + 1 + d < 64) by omega)]; simp
      · rw [decide_eq_false (show ¬ (k + 1 ≤ j ∧ j < 64) by omega), decide_eq_false (show ¬ (k ≤ j ∧ j < 64) by omega)]; simp
theorem free_bit (l : List Int) (j : Nat) : (freeN l).testBit j = (decide (j < 64) && decide (l[j]? = some (-1))) := by
  unfold freeN
  rw [freeU_bit]; simp
theorem freeU_lt : ∀ (l : List Int) (k m : Nat), m < 18446744073709551616 → freeU l k m < 18446744073709551616 := by
  intro l
  induction l with
  | nil => intro k m h; exact h
  | cons x l ih =>
    intro k m h
    unfold freeU
    apply ih
    split
    · exact withN_lt _ h
    · exact h
theorem freeN_lt (l : List Int) : freeN l < 18446744073709551616 := freeU_lt l 0 0 (by decide)
theorem range_count : ∀ (l : List Int) (k : Nat), ((List.range' k l.length).filter (fun j => decide (l[j - k]? = some (-1)))).length = l.count (-1) := by
  intro l
  induction l with
  | nil => intro k; rfl
  | cons x l ih =>
    intro k
    rw [List.length_cons, List.range'_succ, List.filter_cons, List.count_cons]
    have e : (List.range' (k + 1) l.length).filter (fun j => decide ((x :: l)[j - k]? = some (-1))) = (List.range' (k + 1) l.length).filter (fun j => decide (l[j - (k + 1)]? = some (-1))) := by
      apply List.filter_congr
      intro j hj
      rw [List.mem_range'] at hj
      obtain ⟨i, hi, rfl⟩ := hj
      rw [show k + 1 + 1 * i - k = i + 1 by omega, show k + 1 + 1 * i - (k + 1) = i by omega, List.getElem?_cons_succ]
    rw [e]
    have := ih (k + 1)
    by_cases hx : x = -1
    · subst hx
      simp [this]
    · simp [hx, this]
theorem free_len (l : List Int) (h : l.length ≤ 64) : lenN (freeN l) = l.count (-1) := by
  rw [← range_count l 0]
  unfold lenN ones onesFrom
  have e : (List.range' 0 (64 - 0)).filter (freeN l).testBit = (List.range' 0 (64 - 0)).filter (fun j => decide (l[j - 0]? = some (-1))) := by
    apply List.filter_congr
    intro j hj
    rw [List.mem_range'] at hj
    obtain ⟨i, hi, rfl⟩ := hj
    rw [free_bit, decide_eq_true (show 0 + 1 * i < 64 by omega)]; simp
  rw [e]
  have s : List.range' 0 (64 - 0) = List.range' 0 l.length ++ List.range' l.length (64 - l.length) := by
    rw [List.range'_eq_append_iff]
    exact ⟨l.length, by omega, by simp, by simp⟩
  rw [s, List.filter_append, List.length_append]
  have z : (List.range' l.length (64 - l.length)).filter (fun j => decide (l[j - 0]? = some (-1))) = [] := by
    apply List.filter_eq_nil_iff.2
    intro j hj
    rw [List.mem_range'] at hj
    obtain ⟨i, hi, rfl⟩ := hj
    rw [List.getElem?_eq_none (by omega)]; simp
  rw [z]; rfl
theorem give_free {was run : List Int} (h : goodS was run = true) : ((lenN (freeN (giveL was run)) : Nat) : Int) = (was.length : Int) - (run.length : Int) := by
  obtain ⟨h1, h2, h3, h4, h5⟩ := good_parts h
  rw [free_len _ (by rw [give_len h]; exact h1.2.1)]
  have c := tk_count (giveL was run) (fun x hx => by
    rcases give_mem h hx with rfl | g
    · omega
    · have := h3 x g; omega)
  have p := (give_perm h).length_eq
  rw [give_len h] at c
  omega
end Go.Proofs.YtahkmpbgenpecaaDoor.St
