/- Plain mathematics of sets in a word: those below a number, counting what is met. Of no program. -/
import Derived.Test.YtpibejjhldnplaaDoorMSets
namespace Go.Proofs.YtpibejjhldnplaaDoor.Mk
set_option linter.unusedVariables false

/-- Those below k, rising. -/
def onesTo (m k : Nat) : List Nat := (List.range' 0 k).filter m.testBit
theorem ones_split (m k : Nat) (h : k ≤ 64) : ones m = onesTo m k ++ onesFrom m k := by
  unfold ones onesFrom onesTo
  rw [← List.filter_append]
  congr 1
  have := List.range'_append (s := 0) (m := k) (n := 64 - k) (step := 1)
  simp only [Nat.one_mul, Nat.zero_add] at this
  rw [this, show k + (64 - k) = 64 - 0 by omega]
theorem onesTo_succ (m k : Nat) : onesTo m (k + 1) = if m.testBit k then onesTo m k ++ [k] else onesTo m k := by
  unfold onesTo
  have := List.range'_append (s := 0) (m := k) (n := 1) (step := 1)
  simp only [Nat.one_mul, Nat.zero_add] at this
  rw [← this, List.filter_append]
  by_cases h : m.testBit k = true
  · rw [if_pos h]; simp [h]
  · rw [if_neg h]; simp [h]
theorem onesTo_skip {m k j : Nat} (hk : k ≤ j) (h : ∀ i, k ≤ i → i < j → m.testBit i = false) : onesTo m j = onesTo m k := by
  obtain ⟨d, rfl⟩ : ∃ d, j = k + d := ⟨j - k, by omega⟩
  induction d with
  | zero => rfl
  | succ d ih =>
    rw [show k + (d + 1) = (k + d) + 1 by omega, onesTo_succ, if_neg (by rw [h (k + d) (by omega) (by omega)]; decide)]
    exact ih (by omega) (fun i h1 h2 => h i h1 (by omega))
theorem onesTo_congr {a b k : Nat} (h : ∀ j, j < k → a.testBit j = b.testBit j) : onesTo a k = onesTo b k := by
  unfold onesTo
  apply List.filter_congr
  intro j hj
  rw [List.mem_range'] at hj
  obtain ⟨i, hi, rfl⟩ := hj
  exact h _ (by omega)
theorem fullN_and_bit (m k j : Nat) : (m &&& fullN k).testBit j = (m.testBit j && decide (j < k ∧ j < 64)) := by
  rw [Nat.testBit_and, fullN_bit]
  congr 1
  congr 1; apply propext; constructor <;> intro h <;> omega
theorem rank_len (m k : Nat) (h : k ≤ 64) : lenN (m &&& fullN k) = (onesTo m k).length := by
  unfold lenN
  rw [ones_split _ k h, List.length_append]
  have e1 : onesTo (m &&& fullN k) k = onesTo m k := onesTo_congr (fun j hj => by
    rw [fullN_and_bit, decide_eq_true (by omega), Bool.and_true])
  have e2 : onesFrom (m &&& fullN k) k = [] := by
    apply List.eq_nil_iff_forall_not_mem.2
    intro j hj
    obtain ⟨h1, h2, h3⟩ := mem_onesFrom.1 hj
    rw [fullN_and_bit, decide_eq_false (by omega), Bool.and_false] at h3
    cases h3
  rw [e1, e2]; simp
theorem full_all (m : Nat) (hm : m < 18446744073709551616) (k : Nat) (h : ∀ j, k ≤ j → j < 64 → m.testBit j = false) : m &&& fullN k = m := by
  apply word_ext (and_lt _ hm) hm
  intro j hj
  rw [fullN_and_bit]
  by_cases hk : j < k
  · rw [decide_eq_true ⟨hk, hj⟩, Bool.and_true]
  · rw [h j (by omega) hj]; rfl
theorem full_next (m k j : Nat) (hm : m < 18446744073709551616) (hk : k ≤ j) (hj : j < 64) (hb : m.testBit j = true) (hn : ∀ i, k ≤ i → i < j → m.testBit i = false) : withN (m &&& fullN k) j = m &&& fullN ((j + 1 : Nat) : Int) := by
  apply word_ext (withN_lt _ (and_lt _ hm)) (and_lt _ hm)
  intro i hi
  rw [withN_bit, fullN_and_bit, fullN_and_bit]
  by_cases h1 : i < k
  · rw [decide_eq_true (show i < k ∧ i < 64 by omega), decide_eq_true (show i < j + 1 ∧ i < 64 by omega), decide_eq_false (show ¬ ((i : Int) = (j : Int) ∧ i < 64) by omega)]; simp
  · by_cases h2 : i = j
    · subst h2
      rw [decide_eq_true (show i < i + 1 ∧ i < 64 by omega), decide_eq_true (show ((i : Int) = (i : Int) ∧ i < 64) by omega), hb]; simp
    · rw [decide_eq_false (show ¬ ((i : Int) = (j : Int) ∧ i < 64) by omega)]
      by_cases h3 : i < j
      · rw [hn i (by omega) h3]; rfl
      · rw [decide_eq_false (show ¬ (i < j + 1 ∧ i < 64) by omega), decide_eq_false (show ¬ (i < k ∧ i < 64) by omega)]; simp
/-- One round of MaskNths: the n-th is j; n are below it; it is there. -/
theorem nths_step (m k n : Nat) (hm : m < 18446744073709551616) (hk : k ≤ 64) (hn : (onesTo m k).length = n) (hlt : n < lenN m) :
    ∃ j, nthN m n = (j, true) ∧ j < 64 ∧ lenN (m &&& fullN j) = n ∧ hasN m j = true ∧ withN (m &&& fullN k) j = m &&& fullN ((j + 1 : Nat) : Int) ∧ (onesTo m (j + 1)).length = n + 1 := by
  have hs := ones_split m k hk
  cases hq : onesFrom m k with
  | nil =>
    exfalso
    unfold lenN at hlt
    rw [hs, hq, List.append_nil] at hlt
    omega
  | cons j l =>
    obtain ⟨h1, h2, h3, h4, h5⟩ := onesFrom_cons hq
    have e := onesTo_skip h1 h5
    refine ⟨j, ?_, h2, ?_, ?_, full_next m k j hm h1 h2 h3 h5, ?_⟩
    · unfold nthN
      rw [if_pos ⟨by omega, by omega⟩]
      congr 1
      rw [show ((n : Int).toNat) = n from rfl, List.getD_eq_getElem?_getD, hs, hq, List.getElem?_append_right (by omega), hn, Nat.sub_self]
      rfl
    · rw [rank_len m j (by omega), e, hn]
    · rw [hasN_bit]; exact decide_eq_true ⟨by omega, by omega, h3⟩
    · rw [onesTo_succ, if_pos h3, e, List.length_append, hn]; rfl
theorem nths_end (m k : Nat) (hm : m < 18446744073709551616) (hk : k ≤ 64) (h : lenN m ≤ (onesTo m k).length) : m &&& fullN k = m ∧ nthN m (lenN m) = (0, false) := by
  have hs := ones_split m k hk
  refine ⟨full_all m hm k ?_, ?_⟩
  · intro j h1 h2
    have : onesFrom m k = [] := by
      unfold lenN at h
      rw [hs, List.length_append] at h
      exact List.eq_nil_of_length_eq_zero (by omega)
    exact onesFrom_nil this j h1 h2
  · unfold nthN; rw [if_neg (by omega)]

/- Counting what is met. -/
theorem lenN_with (s i : Nat) (hi : i < 64) (hb : s.testBit i = false) : lenN (withN s i) = lenN s + 1 := by
  unfold lenN
  rw [ones_split s i (by omega), ones_split (withN s i) i (by omega)]
  have b : ∀ j, (withN s i).testBit j = (s.testBit j || decide (j = i)) := fun j => by
    rw [withN_bit]; congr 1; congr 1; apply propext; constructor <;> intro h <;> omega
  have e1 : onesTo (withN s i) i = onesTo s i := onesTo_congr (fun j hj => by rw [b, decide_eq_false (by omega), Bool.or_false])
  have e2 : onesFrom (withN s i) (i + 1) = onesFrom s (i + 1) := onesFrom_congr (fun j h1 h2 => by rw [b, decide_eq_false (by omega), Bool.or_false])
  rw [e1, onesFrom_step s i hi, if_neg (by rw [hb]; decide), onesFrom_step (withN s i) i hi, if_pos (by rw [b, decide_eq_true rfl, Bool.or_true]), e2]
  simp; omega
theorem lenN_mono {s m : Nat} (h : ∀ j, j < 64 → s.testBit j = true → m.testBit j = true) : lenN s ≤ lenN m := by
  unfold lenN ones onesFrom
  rw [← List.countP_eq_length_filter, ← List.countP_eq_length_filter]
  apply List.countP_mono_left
  intro j hj hb
  rw [List.mem_range'] at hj
  obtain ⟨i, hi, rfl⟩ := hj
  exact h _ (by omega) hb
theorem some_left {s m : Nat} (hs : s < 18446744073709551616) (hm : m < 18446744073709551616) (h : ∀ j, j < 64 → s.testBit j = true → m.testBit j = true) (hlt : lenN s < lenN m) : ∃ j, j < 64 ∧ m.testBit j = true ∧ s.testBit j = false := by
  apply Classical.byContradiction
  intro hno
  have : s = m := by
    apply word_ext hs hm
    intro j hj
    rcases hb : s.testBit j with _ | _
    · rcases hc : m.testBit j with _ | _
      · rfl
      · exact absurd ⟨j, hj, hc, hb⟩ hno
    · exact (h j hj hb).symm
  rw [this] at hlt
  omega
theorem all_met {s m : Nat} (hs : s < 18446744073709551616) (hm : m < 18446744073709551616) (h : ∀ j, j < 64 → s.testBit j = true → m.testBit j = true) (hle : lenN m ≤ lenN s) : s = m := by
  apply word_ext hs hm
  intro j hj
  rcases hb : s.testBit j with _ | _
  · rcases hc : m.testBit j with _ | _
    · rfl
    · exfalso
      have h1 := lenN_with s j hj hb
      have h2 := lenN_mono (s := withN s j) (m := m) (fun i hi hib => by
        rw [withN_bit] at hib
        rcases Bool.or_eq_true_iff.1 hib with h' | h'
        · exact h i hi h'
        · have := of_decide_eq_true h'
          have e : i = j := by omega
          rw [e]; exact hc)
      omega
  · exact (h j hj hb).symm

/-- What MaskAround has met, started at F, now at k. -/
def Met (m F k s n : Nat) : Prop :=
  s < 18446744073709551616 ∧ lenN s = n ∧ k ≤ 64 ∧
    ((F ≤ k ∧ ∀ j, j < 64 → s.testBit j = (m.testBit j && decide (F ≤ j ∧ j < k))) ∨ (k ≤ F ∧ ∀ j, j < 64 → s.testBit j = (m.testBit j && decide (F ≤ j ∨ j < k))))
theorem Met.sub {m F k s n : Nat} (h : Met m F k s n) : ∀ j, j < 64 → s.testBit j = true → m.testBit j = true := by
  intro j hj hb
  rcases h.2.2.2 with ⟨_, h'⟩ | ⟨_, h'⟩ <;> rw [h' j hj, Bool.and_eq_true] at hb <;> exact hb.1
theorem aroundN_here {m k j : Nat} {l : List Nat} (hm : m < 18446744073709551616) (h : onesFrom m k = j :: l) : aroundN m k = (j, true) := by
  have e : firstN m k = (j, true) := by rw [firstN_eq m _ hm]; show headOf (onesFrom m k) = _; rw [h]; rfl
  unfold aroundN; rw [e]; rfl
theorem aroundN_round {m k j : Nat} {l : List Nat} (hm : m < 18446744073709551616) (h0 : onesFrom m k = []) (h : onesFrom m 0 = j :: l) : aroundN m k = (j, true) := by
  have e : firstN m k = (0, false) := by rw [firstN_eq m _ hm]; show headOf (onesFrom m k) = _; rw [h0]; rfl
  have e0 : firstN m 0 = (j, true) := by rw [firstN_eq m _ hm]; show headOf (onesFrom m 0) = _; rw [h]; rfl
  unfold aroundN; rw [e, e0]; rfl
/-- One round of MaskAround. -/
theorem Met.step {m F k s n : Nat} (hm : m < 18446744073709551616) (hF : F < 64) (h : Met m F k s n) (hlt : n < lenN m) :
    ∃ j, aroundN m k = (j, true) ∧ j < 64 ∧ hasN s j = false ∧ hasN m j = true ∧ Met m F (j + 1) (withN s j) (n + 1) := by
  obtain ⟨h1, h2, h3, h4⟩ := h
  obtain ⟨t, ht, hmt, hst⟩ := some_left h1 hm (Met.sub ⟨h1, h2, h3, h4⟩) (by omega)
  have fin : ∀ j, j < 64 → m.testBit j = true → s.testBit j = false → ((F ≤ j + 1 ∧ ∀ i, i < 64 → (withN s j).testBit i = (m.testBit i && decide (F ≤ i ∧ i < j + 1))) ∨ (j + 1 ≤ F ∧ ∀ i, i < 64 → (withN s j).testBit i = (m.testBit i && decide (F ≤ i ∨ i < j + 1)))) →
      hasN s j = false ∧ hasN m j = true ∧ Met m F (j + 1) (withN s j) (n + 1) := by
    intro j hj hmj hsj hh
    refine ⟨?_, ?_, withN_lt _ h1, ?_, by omega, hh⟩
    · rw [hasN_bit]; apply decide_eq_false; rintro ⟨_, _, hc⟩
      rw [show ((j : Int).toNat) = j from rfl, hsj] at hc; cases hc
    · rw [hasN_bit]; exact decide_eq_true ⟨by omega, by omega, hmj⟩
    · rw [lenN_with s j hj hsj, h2]
  have wb : ∀ j i : Nat, (withN s (j : Int)).testBit i = (s.testBit i || decide (i = j ∧ i < 64)) := fun j i => by
    rw [withN_bit]; congr 1; congr 1; apply propext; constructor <;> intro h' <;> omega
  rcases h4 with ⟨h5, h6⟩ | ⟨h5, h6⟩
  · cases hq : onesFrom m k with
    | cons j l =>
      obtain ⟨a1, a2, a3, a4, a5⟩ := onesFrom_cons hq
      have hsj : s.testBit j = false := by rw [h6 j a2, decide_eq_false (by omega), Bool.and_false]
      refine ⟨j, aroundN_here hm hq, a2, fin j a2 a3 hsj (.inl ⟨by omega, fun i hi => ?_⟩)⟩
      rw [wb, h6 i hi]
      by_cases e : i = j
      · subst e; rw [a3, decide_eq_true (show i = i ∧ i < 64 by omega), decide_eq_true (show F ≤ i ∧ i < i + 1 by omega)]; simp
      · rw [decide_eq_false (show ¬ (i = j ∧ i < 64) by omega), Bool.or_false]
        by_cases hk : i < k
        · congr 1; congr 1; apply propext; constructor <;> intro h' <;> omega
        · by_cases hj : i < j
          · rw [a5 i (by omega) hj]; rfl
          · rw [decide_eq_false (by omega), decide_eq_false (by omega)]
    | nil =>
      have hz := onesFrom_nil hq
      have htF : t < F := by
        rw [h6 t ht, hmt, Bool.true_and] at hst
        have := of_decide_eq_false hst
        have : ¬ k ≤ t := fun hk => by rw [hz t hk ht] at hmt; cases hmt
        omega
      cases hq0 : onesFrom m 0 with
      | nil => rw [onesFrom_nil hq0 t (by omega) ht] at hmt; cases hmt
      | cons j l =>
        obtain ⟨a1, a2, a3, a4, a5⟩ := onesFrom_cons hq0
        have hjt : j ≤ t := by
          apply Nat.le_of_not_lt; intro hh
          rw [a5 t (by omega) hh] at hmt; cases hmt
        have hsj : s.testBit j = false := by rw [h6 j a2, decide_eq_false (by omega), Bool.and_false]
        refine ⟨j, aroundN_round hm hq hq0, a2, fin j a2 a3 hsj (.inr ⟨by omega, fun i hi => ?_⟩)⟩
        rw [wb, h6 i hi]
        by_cases e : i = j
        · subst e; rw [a3, decide_eq_true (show i = i ∧ i < 64 by omega), decide_eq_true (show F ≤ i ∨ i < i + 1 by omega)]; simp
        · rw [decide_eq_false (show ¬ (i = j ∧ i < 64) by omega), Bool.or_false]
          by_cases hj : i < j
          · rw [a5 i (by omega) hj]; rfl
          · by_cases hk : i < k
            · congr 1; congr 1; apply propext; constructor <;> intro h' <;> omega
            · rw [hz i (by omega) hi]; rfl
  · have htk : k ≤ t ∧ t < F := by
      rw [h6 t ht, hmt, Bool.true_and] at hst
      have := of_decide_eq_false hst
      omega
    cases hq : onesFrom m k with
    | nil => rw [onesFrom_nil hq t htk.1 ht] at hmt; cases hmt
    | cons j l =>
      obtain ⟨a1, a2, a3, a4, a5⟩ := onesFrom_cons hq
      have hjt : j ≤ t := by
        apply Nat.le_of_not_lt; intro hh
        rw [a5 t htk.1 hh] at hmt; cases hmt
      have hsj : s.testBit j = false := by rw [h6 j a2, decide_eq_false (by omega), Bool.and_false]
      refine ⟨j, aroundN_here hm hq, a2, fin j a2 a3 hsj (.inr ⟨by omega, fun i hi => ?_⟩)⟩
      rw [wb, h6 i hi]
      by_cases e : i = j
      · subst e; rw [a3, decide_eq_true (show i = i ∧ i < 64 by omega), decide_eq_true (show F ≤ i ∨ i < i + 1 by omega)]; simp
      · rw [decide_eq_false (show ¬ (i = j ∧ i < 64) by omega), Bool.or_false]
        by_cases hk : i < k
        · rw [decide_eq_true (show F ≤ i ∨ i < k by omega), decide_eq_true (show F ≤ i ∨ i < j + 1 by omega)]
        · by_cases hj : i < j
          · rw [a5 i (by omega) hj]; rfl
          · congr 1; congr 1; apply propext; constructor <;> intro h' <;> omega
theorem Met.start (m F : Nat) (hF : F ≤ 64) : Met m F F 0 0 := by
  refine ⟨by omega, by decide, hF, .inl ⟨Nat.le_refl _, fun j hj => ?_⟩⟩
  rw [Nat.zero_testBit, decide_eq_false (by omega), Bool.and_false]
end Go.Proofs.YtpibejjhldnplaaDoor.Mk
