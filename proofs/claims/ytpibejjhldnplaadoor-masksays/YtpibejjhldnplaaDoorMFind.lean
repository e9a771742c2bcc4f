/- Plain mathematics: rank, first, round and n-th, told over the list of all. Of no program. -/
import Derived.Test.YtpibejjhldnplaaDoorMPlay
namespace Go.Proofs.YtpibejjhldnplaaDoor.Mk
set_option linter.unusedVariables false

/-- The first of a list that is no less than i. -/
def findN (l : List Nat) (i : Int) : Nat × Bool := match l with
  | [] => (0, false)
  | x :: r => if i ≤ (x : Int) then (x, true) else findN r i
/-- How many of a list are below i. -/
def belowN (l : List Nat) (i : Int) : Nat := match l with
  | [] => 0
  | x :: r => (if (x : Int) < i then 1 else 0) + belowN r i
theorem belowN_le (l : List Nat) (i : Int) : belowN l i ≤ l.length := by
  induction l with
  | nil => simp [belowN]
  | cons x r ih => simp only [belowN, List.length_cons]; split <;> omega
theorem findN_append (a b : List Nat) (i : Int) (h : ∀ x ∈ a, (x : Int) < i) : findN (a ++ b) i = findN b i := by
  induction a with
  | nil => rfl
  | cons x r ih =>
    have := h x (List.mem_cons_self)
    rw [List.cons_append, findN, if_neg (by omega), ih (fun y hy => h y (List.mem_cons_of_mem _ hy))]
theorem belowN_append (a b : List Nat) (i : Int) : belowN (a ++ b) i = belowN a i + belowN b i := by
  induction a with
  | nil => simp [belowN]
  | cons x r ih => rw [List.cons_append, belowN, belowN, ih]; omega
theorem belowN_all (a : List Nat) (i : Int) (h : ∀ x ∈ a, (x : Int) < i) : belowN a i = a.length := by
  induction a with
  | nil => rfl
  | cons x r ih =>
    have := h x (List.mem_cons_self)
    rw [belowN, if_pos this, ih (fun y hy => h y (List.mem_cons_of_mem _ hy)), List.length_cons]; omega
theorem belowN_none (a : List Nat) (i : Int) (h : ∀ x ∈ a, i ≤ (x : Int)) : belowN a i = 0 := by
  induction a with
  | nil => rfl
  | cons x r ih =>
    have := h x (List.mem_cons_self)
    rw [belowN, if_neg (by omega), ih (fun y hy => h y (List.mem_cons_of_mem _ hy))]
theorem mem_onesTo {m k j : Nat} (h : j ∈ onesTo m k) : j < k := by
  unfold onesTo at h
  rw [List.mem_filter, List.mem_range'] at h
  obtain ⟨⟨d, hd, rfl⟩, _⟩ := h
  omega
/-- Where i cuts the list. -/
theorem cut_at (m : Nat) (i : Int) : ∃ k : Nat, k ≤ 64 ∧ (∀ x ∈ onesTo m k, (x : Int) < i) ∧ (∀ x ∈ onesFrom m k, i ≤ (x : Int)) ∧ onesFrom m i.toNat = onesFrom m k ∧ fullN i = fullN (k : Int) := by
  refine ⟨(min (max i 0) 64).toNat, by omega, fun x hx => ?_, fun x hx => ?_, ?_, ?_⟩
  · have := mem_onesTo hx; omega
  · have h1 := (mem_onesFrom.1 hx).1
    have h2 := (mem_onesFrom.1 hx).2.1
    omega
  · by_cases h : i.toNat ≤ 64
    · rw [show (min (max i 0) 64).toNat = i.toNat by omega]
    · rw [onesFrom_ge m i.toNat (by omega), onesFrom_ge m _ (by omega)]
  · unfold fullN
    rw [show (min (max (((min (max i 0) 64).toNat : Nat) : Int) 0) 64).toNat = (min (max i 0) 64).toNat by omega]
theorem find_first (m : Nat) (i : Int) (hm : m < 18446744073709551616) : findN (ones m) i = firstN m i := by
  obtain ⟨k, hk, h1, h2, h3, h4⟩ := cut_at m i
  rw [ones_split m k hk, findN_append _ _ _ h1, firstN_eq m i hm, h3]
  cases hq : onesFrom m k with
  | nil => rfl
  | cons j l => rw [findN, if_pos (h2 j (by rw [hq]; exact List.mem_cons_self))]; rfl
theorem rank_below (m : Nat) (i : Int) : lenN (m &&& fullN i) = belowN (ones m) i := by
  obtain ⟨k, hk, h1, h2, h3, h4⟩ := cut_at m i
  rw [ones_split m k hk, belowN_append, belowN_all _ _ h1, belowN_none _ _ h2, h4, rank_len m k hk]; rfl
theorem drop_cons (l : List Nat) (j : Nat) (hj : j < l.length) : l.drop j = l.getD j 0 :: l.drop (j + 1) := by
  rw [List.drop_eq_getElem_cons hj, List.getD_eq_getElem?_getD, List.getElem?_eq_getElem hj]; rfl
/-- One round of the law's loop over all. -/
theorem scan_low (l : List Nat) (j : Nat) (i : Int) (hj : j < l.length) (h : ((l.getD j 0 : Nat) : Int) < i) : belowN (l.drop j) i = belowN (l.drop (j + 1)) i + 1 ∧ findN (l.drop j) i = findN (l.drop (j + 1)) i := by
  rw [drop_cons l j hj, belowN, if_pos h, findN, if_neg (by omega)]
  exact ⟨by omega, rfl⟩
theorem scan_high (l : List Nat) (j : Nat) (i : Int) (hj : j < l.length) (h : i ≤ ((l.getD j 0 : Nat) : Int)) : belowN (l.drop j) i = belowN (l.drop (j + 1)) i ∧ findN (l.drop j) i = (l.getD j 0, true) := by
  rw [drop_cons l j hj, belowN, if_neg (by omega), findN, if_pos h]
  exact ⟨by omega, rfl⟩
theorem around_there {m : Nat} {i : Int} (h : (firstN m i).2 = true) : aroundN m i = ((firstN m i).1, true) := by unfold aroundN; rw [h]; rfl
theorem around_not {m : Nat} {i : Int} (hm : m < 18446744073709551616) (h : (firstN m i).2 = false) (hl : 0 < (ones m).length) : aroundN m i = ((ones m).getD 0 0, true) := by
  unfold aroundN; rw [h, if_neg (by decide), firstN_eq m 0 hm]
  show headOf (ones m) = _
  cases hq : ones m with
  | nil => rw [hq] at hl; cases hl
  | cons j l => rfl
theorem around_none {m : Nat} {i : Int} (hm : m < 18446744073709551616) (h : (firstN m i).2 = false) (hl : (ones m).length = 0) : aroundN m i = (0, false) := by
  unfold aroundN; rw [h, if_neg (by decide), firstN_eq m 0 hm]
  show headOf (ones m) = _
  rw [List.eq_nil_of_length_eq_zero hl]; rfl
theorem first_not {m : Nat} {i : Int} (h : (firstN m i).2 = false) : firstN m i = (0, false) := by
  unfold firstN at h ⊢
  split
  · rfl
  · rename_i h0; rw [if_neg h0] at h; cases h
end Go.Proofs.YtpibejjhldnplaaDoor.Mk
