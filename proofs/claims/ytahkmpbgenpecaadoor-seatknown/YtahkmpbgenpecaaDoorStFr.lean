/- Seats as the landed code reckons them: which are free, in order; how they fill; who is where. Of no program. -/
import Derived.Test.YtahkmpbgenpecaaDoorStPl
namespace Go.Proofs.YtahkmpbgenpecaaDoor.St
open Go.RowKit Go.Proofs.YtahkmpbgenpecaaDoor.Mk
set_option linter.unusedVariables false
set_option linter.unusedSimpArgs false
theorem at_getD {l : List Int} {k : Nat} (h : k < l.length) : l[k]? = some (l.getD k 0) := by
  rw [List.getD_eq_getElem?_getD, List.getElem?_eq_getElem h]; rfl
theorem take_snocI (l : List Int) (k : Nat) (h : k < l.length) : l.take (k + 1) = l.take k ++ [l.getD k 0] := by
  rw [List.take_succ_eq_append_getElem h, List.getD_eq_getElem?_getD, List.getElem?_eq_getElem h]; rfl
theorem drop_consI (l : List Int) (k : Nat) (h : k < l.length) : l.drop k = l.getD k 0 :: l.drop (k + 1) := by
  rw [List.drop_eq_getElem_cons h, List.getD_eq_getElem?_getD, List.getElem?_eq_getElem h]; rfl
/-- The free ones, in order. -/
def freeL : List Int → Nat → List Nat
  | [], _ => []
  | x :: l, k => if x = -1 then k :: freeL l (k + 1) else freeL l (k + 1)
theorem freeL_range : ∀ (l : List Int) (k : Nat), (List.range' k l.length).filter (fun j => decide (l[j - k]? = some (-1))) = freeL l k := by
  intro l
  induction l with
  | nil => intro k; rfl
  | cons x l ih =>
    intro k
    rw [List.length_cons, List.range'_succ, List.filter_cons]
    have e : (List.range' (k + 1) l.length).filter (fun j => decide ((x :: l)[j - k]? = some (-1))) = (List.range' (k + 1) l.length).filter (fun j => decide (l[j - (k + 1)]? = some (-1))) := by
      apply List.filter_congr
      intro j hj
      rw [List.mem_range'] at hj
      obtain ⟨i, hi, rfl⟩ := hj
      rw [show k + 1 + 1 * i - k = i + 1 by omega, show k + 1 + 1 * i - (k + 1) = i by omega, List.getElem?_cons_succ]
    rw [e, ih]
    show _ = (if x = -1 then k :: freeL l (k + 1) else freeL l (k + 1))
    by_cases hx : x = -1
    · subst hx; simp
    · simp [hx]
theorem ones_free (l : List Int) (h : l.length ≤ 64) : ones (freeN l) = freeL l 0 := by
  rw [← freeL_range l 0]
  unfold ones onesFrom
  have e : (List.range' 0 (64 - 0)).filter (freeN l).testBit = (List.range' 0 (64 - 0)).filter (fun j => decide (l[j - 0]? = some (-1))) := by
    apply List.filter_congr
    intro j hj
    rw [List.mem_range'] at hj
    obtain ⟨i, hi, rfl⟩ := hj
    rw [free_bit, decide_eq_true (show 0 + 1 * i < 64 by omega)]; simp
  rw [e]
  have s : List.range' 0 (64 - 0) = List.range' 0 l.length ++ List.range' l.length (64 - l.length) := by
    rw [List.range'_eq_append_iff]
    exact ⟨l.length, by omega, by simp, by simp⟩
  rw [s, List.filter_append]
  have z : (List.range' l.length (64 - l.length)).filter (fun j => decide (l[j - 0]? = some (-1))) = [] := by
    apply List.filter_eq_nil_iff.2
    intro j hj
    rw [List.mem_range'] at hj
    obtain ⟨i, hi, rfl⟩ := hj
    rw [List.getElem?_eq_none (by omega)]; simp
  rw [z, List.append_nil]
theorem freeL_len : ∀ (l : List Int) (k : Nat), (freeL l k).length = l.count (-1) := by
  intro l k
  rw [← freeL_range, range_count]
theorem freeL_in : ∀ (l : List Int) (k j : Nat), j ∈ freeL l k → k ≤ j ∧ j < k + l.length := by
  intro l
  induction l with
  | nil => intro k j h; cases h
  | cons x l ih =>
    intro k j h
    unfold freeL at h
    rw [List.length_cons]
    split at h
    · rcases List.mem_cons.1 h with rfl | h
      · omega
      · have := ih _ _ h; omega
    · have := ih _ _ h; omega
theorem getD_memN {l : List Nat} {k : Nat} (h : k < l.length) : l.getD k 0 ∈ l := by
  rw [List.getD_eq_getElem?_getD, List.getElem?_eq_getElem h]; exact List.getElem_mem h
theorem fill_snoc : ∀ (l is : List Int) (x : Int) (k : Nat), is.length < (freeL l k).length → fill l (is ++ [x]) = (fill l is).set ((freeL l k).getD is.length 0 - k) x := by
  intro l
  induction l with
  | nil => intro is x k h; simp [freeL] at h
  | cons y l ih =>
    intro is x k h
    by_cases hy : y = -1
    · have ef : freeL (y :: l) k = k :: freeL l (k + 1) := by show (if y = -1 then _ else _) = _; rw [if_pos hy]
      rw [ef] at h ⊢
      cases is with
      | nil =>
        show fill (y :: l) [x] = (y :: l).set (k - k) x
        rw [Nat.sub_self, List.set_cons_zero]
        unfold fill
        rw [if_pos hy, fill_nil]
      | cons i is =>
        have h' : is.length < (freeL l (k + 1)).length := by simpa using h
        have := ih is x (k + 1) h'
        have g := (freeL_in l (k + 1) _ (getD_memN h')).1
        rw [List.cons_append, List.length_cons, List.getD_cons_succ]
        generalize (freeL l (k + 1)).getD is.length 0 = p at *
        rw [show p - k = (p - (k + 1)) + 1 by omega]
        unfold fill
        rw [if_pos hy, if_pos hy, List.set_cons_succ, this]
    · have ef : freeL (y :: l) k = freeL l (k + 1) := by show (if y = -1 then _ else _) = _; rw [if_neg hy]
      rw [ef] at h ⊢
      have h' := ih is x (k + 1) h
      have g := (freeL_in l (k + 1) _ (getD_memN h)).1
      generalize (freeL l (k + 1)).getD is.length 0 = p at *
      rw [show p - k = (p - (k + 1)) + 1 by omega]
      have e2 : ∀ z : List Int, z ≠ [] → fill (y :: l) z = y :: fill l z := by
        intro z hz
        cases z with
        | nil => exact absurd rfl hz
        | cons a z => show (if y = -1 then _ else _) = _; rw [if_neg hy]
      rw [e2 _ (by simp), h']
      cases is with
      | nil => rw [fill_nil, fill_nil]; rfl
      | cons i is => rw [e2 _ (by simp)]; rfl
/-- What is left of those that run, seat by seat. -/
def mixL (was run : List Int) (k : Nat) : List Int := baseL (was.take k) run ++ was.drop k
theorem mix_0 (was run : List Int) : mixL was run 0 = was := by unfold mixL baseL; simp
theorem mix_all (was run : List Int) : mixL was run was.length = baseL was run := by unfold mixL; simp
theorem mix_len (was run : List Int) (k : Nat) : (mixL was run k).length = was.length := by unfold mixL baseL; simp; omega
theorem mix_step {was run : List Int} {k : Nat} (h : k < was.length) : mixL was run (k + 1) = if was.getD k 0 ∈ run then mixL was run k else (mixL was run k).set k (-1) := by
  unfold mixL
  rw [take_snocI was k h, drop_consI was k h]
  have e : baseL (was.take k ++ [was.getD k 0]) run = baseL (was.take k) run ++ [if was.getD k 0 ∈ run then was.getD k 0 else -1] := by unfold baseL; rw [List.map_append]; rfl
  have el : (baseL (was.take k) run).length = k := by unfold baseL; rw [List.length_map, List.length_take]; omega
  rw [e, List.append_assoc]
  by_cases hm : was.getD k 0 ∈ run
  · rw [if_pos hm, if_pos hm]; rfl
  · rw [if_neg hm, if_neg hm, List.set_append_right _ _ (by omega), el, Nat.sub_self, List.set_cons_zero]; rfl
theorem base_len (was run : List Int) : (baseL was run).length = was.length := by unfold baseL; simp
theorem oth_yes {was run : List Int} {k : Nat} (h : k < run.length) (hm : run.getD k 0 ∈ was) : othL was (run.take (k + 1)) = othL was (run.take k) := by
  unfold othL
  rw [take_snocI run k h, List.filter_append, List.filter_cons_of_neg (by simpa using hm), List.filter_nil, List.append_nil]
theorem oth_no {was run : List Int} {k : Nat} (h : k < run.length) (hm : run.getD k 0 ∉ was) : othL was (run.take (k + 1)) = othL was (run.take k) ++ [run.getD k 0] := by
  unfold othL
  rw [take_snocI run k h, List.filter_append, List.filter_cons_of_pos (by simpa using hm), List.filter_nil]
theorem oth_le (was run : List Int) (k : Nat) : (othL was (run.take k)).length ≤ (othL was run).length := by
  unfold othL
  exact ((List.take_sublist k run).filter _).length_le
/-- One more takes the least free. -/
theorem give_step {was run : List Int} {k : Nat} (hg : goodS was run = true) (h : k < run.length) (hm : run.getD k 0 ∉ was) :
    (othL was (run.take k)).length < (freeL (baseL was run) 0).length ∧ (freeL (baseL was run) 0).getD (othL was (run.take k)).length 0 < was.length ∧
    fill (baseL was run) (othL was (run.take (k + 1))) = (fill (baseL was run) (othL was (run.take k))).set ((freeL (baseL was run) 0).getD (othL was (run.take k)).length 0) (run.getD k 0) ∧
    (othL was (run.take (k + 1))).length = (othL was (run.take k)).length + 1 := by
  have h1 := room hg
  have h2 := oth_le was run (k + 1)
  rw [oth_no h hm] at h2 ⊢
  rw [List.length_append, List.length_singleton] at h2
  have h3 : (othL was (run.take k)).length < (freeL (baseL was run) 0).length := by rw [freeL_len]; omega
  have h4 := (freeL_in _ _ _ (getD_memN h3)).2
  rw [base_len] at h4
  refine ⟨h3, by omega, ?_, by simp⟩
  have := fill_snoc (baseL was run) (othL was (run.take k)) (run.getD k 0) 0 h3
  rwa [Nat.sub_zero] at this
/-! Where one is. -/
theorem at_yes {l : List Int} {x : Int} (h : 0 ≤ atI l x) : x ∈ l := by
  obtain ⟨k, _, hk⟩ := at_nonneg h
  exact List.mem_of_getElem? hk
theorem atN_at : ∀ (l : List Int) (x : Int) (k : Nat), k < l.length → l.getD k 0 = x → (∀ j, j < k → l.getD j 0 ≠ x) → atN l x = some k := by
  intro l
  induction l with
  | nil => intro x k h; simp at h
  | cons y l ih =>
    intro x k h e hn
    unfold atN
    cases k with
    | zero => rw [if_pos (by simpa using e)]
    | succ k =>
      have : y ≠ x := by simpa using hn 0 (by omega)
      rw [if_neg this, ih x k (by simpa using h) (by simpa using e) (fun j hj => by simpa using hn (j + 1) (by omega))]; rfl
theorem atI_at {l : List Int} {x : Int} {k : Nat} (h : k < l.length) (e : l.getD k 0 = x) (hn : ∀ j, j < k → l.getD j 0 ≠ x) : atI l x = (k : Int) := by
  unfold atI; rw [atN_at l x k h e hn]
theorem atI_none {l : List Int} {x : Int} (hn : ∀ j, j < l.length → l.getD j 0 ≠ x) : atI l x = -1 := by
  unfold atI
  cases hh : atN l x with
  | none => rfl
  | some k =>
    have := atN_some _ _ _ hh
    obtain ⟨h1, h2⟩ := List.getElem?_eq_some_iff.1 this
    refine absurd ?_ (hn k h1)
    rw [List.getD_eq_getElem?_getD, this]; rfl
theorem has_at (l : List Int) (x : Int) : decide (0 ≤ atI l x) = decide (x ∈ l) := by
  by_cases h : 0 ≤ atI l x
  · rw [decide_eq_true h, decide_eq_true (at_yes h)]
  · rw [decide_eq_false h, decide_eq_false (at_neg (by omega))]
/-! Free. -/
theorem freeU_snoc : ∀ (l : List Int) (x : Int) (k m : Nat), freeU (l ++ [x]) k m = if x = -1 then withN (freeU l k m) ((k + l.length : Nat) : Int) else freeU l k m := by
  intro l
  induction l with
  | nil => intro x k m; rfl
  | cons y l ih =>
    intro x k m
    show freeU (l ++ [x]) (k + 1) _ = if x = -1 then withN (freeU l (k + 1) _) _ else freeU l (k + 1) _
    rw [ih, List.length_cons, show k + 1 + l.length = k + (l.length + 1) by omega]
theorem free_step {l : List Int} {k : Nat} (h : k < l.length) : freeN (l.take (k + 1)) = if l.getD k 0 = -1 then withN (freeN (l.take k)) (k : Int) else freeN (l.take k) := by
  unfold freeN
  rw [take_snocI l k h, freeU_snoc, List.length_take, show 0 + min k l.length = k by omega]
/-! Apart. -/
def apartB (l : List Int) (least : Int) : Bool := l.all (fun x => decide (least ≤ x ∧ x ≤ 1023)) && decide (tk l).Nodup
theorem mem_getD {l : List Int} {x : Int} (h : x ∈ l) : ∃ k, k < l.length ∧ l.getD k 0 = x := by
  obtain ⟨k, hk⟩ := List.mem_iff_getElem?.1 h
  obtain ⟨h1, h2⟩ := List.getElem?_eq_some_iff.1 hk
  exact ⟨k, h1, by rw [List.getD_eq_getElem?_getD, hk]; rfl⟩
theorem getD_memI {l : List Int} {k : Nat} (h : k < l.length) : l.getD k 0 ∈ l := List.mem_of_getElem? (at_getD h)
theorem apart_out {l : List Int} {least : Int} {k : Nat} (h : k < l.length) (hx : ¬ (least ≤ l.getD k 0 ∧ l.getD k 0 ≤ 1023)) : apartB l least = false := by
  unfold apartB
  rw [Bool.and_eq_false_iff]
  left
  rw [List.all_eq_false]
  exact ⟨_, getD_memI h, by simpa using hx⟩
theorem apart_dup {l : List Int} {least : Int} {i k : Nat} (hi : i < k) (h : k < l.length) (h0 : 0 ≤ l.getD k 0) (hx : l.getD i 0 = l.getD k 0) : apartB l least = false := by
  unfold apartB
  rw [Bool.and_eq_false_iff]
  right
  apply decide_eq_false
  intro hn
  have := tk_inj l hn i k _ h0 (by rw [← hx]; exact at_getD (by omega)) (at_getD h)
  omega
theorem apart_yes {l : List Int} {least : Int} (h : ∀ k, k < l.length → least ≤ l.getD k 0 ∧ l.getD k 0 ≤ 1023) (hd : ∀ i k, i < k → k < l.length → 0 ≤ l.getD k 0 → l.getD i 0 ≠ l.getD k 0) : apartB l least = true := by
  unfold apartB
  rw [Bool.and_eq_true, List.all_eq_true]
  refine ⟨fun x hx => ?_, decide_eq_true ?_⟩
  · obtain ⟨k, hk, rfl⟩ := mem_getD hx
    exact decide_eq_true (h k hk)
  · unfold tk List.Nodup
    rw [List.pairwise_filter, List.pairwise_iff_getElem]
    intro i k hi hk hik _ h0
    have := hd i k hik hk
    rw [List.getD_eq_getElem?_getD, List.getD_eq_getElem?_getD, List.getElem?_eq_getElem hi, List.getElem?_eq_getElem hk] at this
    exact this (by simpa using h0)
theorem tk_pos {l : List Int} (h : ∀ x ∈ l, 0 ≤ x) : tk l = l := by
  unfold tk
  exact List.filter_eq_self.2 fun x hx => by simpa using h x hx
theorem good_eq (was run : List Int) : goodS was run = (decide (1 ≤ was.length) && (decide (was.length ≤ 64) && (decide (run.length ≤ was.length) && (apartB was (-1) && apartB run 0)))) := by
  rw [Bool.eq_iff_iff]
  unfold goodS apartB
  simp only [Bool.and_eq_true, decide_eq_true_eq, List.all_eq_true]
  constructor
  · rintro ⟨⟨⟨a, b, c⟩, d, e⟩, f, g⟩
    exact ⟨a, b, c, ⟨d, f⟩, e, by rw [tk_pos fun x hx => (e x hx).1]; exact g⟩
  · rintro ⟨a, b, c, ⟨d, f⟩, e, g⟩
    rw [tk_pos fun x hx => (e x hx).1] at g
    exact ⟨⟨⟨a, b, c⟩, d, e⟩, f, g⟩
/-- Who has been met. -/
def seenI (L : List Int) (k j : Nat) : Bool := (L.take k).any (fun e => e == (j : Int))
theorem seenI_y {L : List Int} {k n : Nat} (h : seenI L k n = true) : ∃ i, i < k ∧ i < L.length ∧ L.getD i 0 = (n : Int) := by
  unfold seenI at h
  rw [List.any_eq_true] at h
  obtain ⟨e, he, h1⟩ := h
  obtain ⟨i, hi, rfl⟩ := mem_getD he
  simp only [List.length_take] at hi
  refine ⟨i, by omega, by omega, ?_⟩
  have : (L.take k).getD i 0 = L.getD i 0 := by
    rw [List.getD_eq_getElem?_getD, List.getD_eq_getElem?_getD, List.getElem?_take, if_pos (by omega)]
  rw [← this]; simpa using h1
theorem seenI_n {L : List Int} {k n : Nat} (h : seenI L k n = false) : ∀ i, i < k → i < L.length → L.getD i 0 ≠ (n : Int) := by
  intro i hi hl e
  unfold seenI at h
  rw [List.any_eq_false] at h
  have e2 : (L.take k).getD i 0 = L.getD i 0 := by
    rw [List.getD_eq_getElem?_getD, List.getD_eq_getElem?_getD, List.getElem?_take, if_pos (by omega)]
  have := h ((L.take k).getD i 0) (getD_memI (by simp; omega))
  rw [e2, e] at this
  simp at this
theorem seenI_snoc {L : List Int} {k n : Nat} (hk : k < L.length) (h : L.getD k 0 = (n : Int)) : ∀ j, (if j = n then true else seenI L k j) = seenI L (k + 1) j := by
  intro j
  unfold seenI
  rw [take_snocI L k hk, List.any_append, List.any_cons, List.any_nil, Bool.or_false, h]
  by_cases e : j = n
  · subst e; rw [if_pos rfl]; simp
  · rw [if_neg e]
    have : ((n : Int) == (j : Int)) = false := by simp; omega
    rw [this, Bool.or_false]
theorem seenI_skip {L : List Int} {k : Nat} (hk : k < L.length) (h : L.getD k 0 < 0) : ∀ j, seenI L k j = seenI L (k + 1) j := by
  intro j
  unfold seenI
  rw [take_snocI L k hk, List.any_append, List.any_cons, List.any_nil, Bool.or_false]
  have : (L.getD k 0 == (j : Int)) = false := by rw [beq_eq_false_iff_ne]; omega
  rw [this, Bool.or_false]
/-! Swap. -/
theorem swap_eq {was : List Int} {cpu id : Int} (h : goodW was cpu id = true) : swapL was cpu id = (if 0 ≤ atI was id then was.set (atI was id).toNat (-1) else was).set cpu.toNat id := by
  unfold swapL
  rw [if_pos h]
  unfold goodW at h
  rw [Bool.and_eq_true, decide_eq_true_eq] at h
  obtain ⟨⟨h1, h2, h3, h4⟩, hg⟩ := h
  obtain ⟨_, _, _, hn, _⟩ := good_parts hg
  congr 1
  by_cases ha : 0 ≤ atI was id
  · rw [if_pos ha]
    obtain ⟨k, ek, hk⟩ := at_nonneg ha
    rw [ek, Int.toNat_natCast]
    apply List.ext_getElem?
    intro j
    rw [List.getElem?_map]
    by_cases e : k = j
    · subst e
      rw [hk, List.getElem?_set_self (List.getElem?_eq_some_iff.1 hk).1]
      simp
    · rw [List.getElem?_set_ne e]
      cases hj : was[j]? with
      | none => rfl
      | some y =>
        by_cases hy : y = id
        · subst hy
          by_cases h0 : 0 ≤ y
          · exact absurd (tk_inj was hn k j y h0 hk hj) e
          · obtain rfl : y = -1 := by omega
            simp
        · simp [hy]
  · rw [if_neg ha]
    exact map_absent _ _ (at_neg (by omega))
end Go.Proofs.YtahkmpbgenpecaaDoor.St
