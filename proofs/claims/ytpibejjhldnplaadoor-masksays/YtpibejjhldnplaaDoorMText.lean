/- Plain mathematics: the runs' texts, told start by start. Of no program. -/
import Derived.Test.YtpibejjhldnplaaDoorMStr2
import Derived.Test.YtpibejjhldnplaaDoorMPlay
namespace Go.Proofs.YtpibejjhldnplaaDoor.Mk
set_option linter.unusedVariables false

/-- Does a run begin at i? -/
def isStart (m i : Nat) : Bool := m.testBit i && (i == 0 || !m.testBit (i - 1))
def startsTo (m k : Nat) : List Nat := (List.range' 0 k).filter (isStart m)
def startsFrom (m k : Nat) : List Nat := (List.range' k (64 - k)).filter (isStart m)
def textAt (m i : Nat) : List UInt8 := runTx i (endN m i - 1)
/-- The text of the runs that begin below k. -/
def setT (m k : Nat) : List UInt8 := Lib.join ((startsTo m k).map (textAt m)) [44]
theorem startsFrom_step (m k : Nat) (h : k < 64) : startsFrom m k = if isStart m k then k :: startsFrom m (k + 1) else startsFrom m (k + 1) := by
  unfold startsFrom
  rw [show 64 - k = (64 - (k + 1)) + 1 by omega, List.range'_succ, List.filter_cons]
theorem startsFrom_ge (m k : Nat) (h : 64 ≤ k) : startsFrom m k = [] := by
  unfold startsFrom; rw [show 64 - k = 0 by omega]; rfl
theorem startsFrom_skip {m k j : Nat} (hk : k ≤ j) (hj : j ≤ 64) (h : ∀ i, k ≤ i → i < j → isStart m i = false) : startsFrom m k = startsFrom m j := by
  obtain ⟨d, rfl⟩ : ∃ d, j = k + d := ⟨j - k, by omega⟩
  induction d generalizing k with
  | zero => rfl
  | succ d ih =>
    rw [startsFrom_step m k (by omega), if_neg (by rw [h k (Nat.le_refl _) (by omega)]; decide), ih (k := k + 1) (by omega) (by omega) (fun i h1 h2 => h i (by omega) (by omega)), show k + 1 + d = k + (d + 1) by omega]
theorem startsTo_succ (m k : Nat) : startsTo m (k + 1) = if isStart m k then startsTo m k ++ [k] else startsTo m k := by
  unfold startsTo
  have := List.range'_append (s := 0) (m := k) (n := 1) (step := 1)
  simp only [Nat.one_mul, Nat.zero_add] at this
  rw [← this, List.filter_append]
  by_cases h : isStart m k = true
  · rw [if_pos h]; simp [h]
  · rw [if_neg h]; simp [h]
theorem startsTo_all (m : Nat) : startsTo m 64 = startsFrom m 0 := rfl
/-- The end of the run that i is in: all from i on are there, and the next one is not. -/
theorem endN_spec {m i : Nat} (hm : m < 18446744073709551616) (hi : i < 64) : (∀ j, i ≤ j → j < endN m i → m.testBit j = true) ∧ (endN m i < 64 → m.testBit (endN m i) = false) := by
  unfold endN
  rw [firstN_eq _ _ (compl_lt m), show ((i : Int).toNat) = i from rfl]
  cases hq : onesFrom (18446744073709551615 - m) i with
  | nil =>
    simp only [headOf, Bool.false_eq_true, if_false]
    refine ⟨fun j h1 h2 => ?_, fun h => absurd h (by omega)⟩
    have := onesFrom_nil hq j h1 h2
    rw [compl_bit m j hm, decide_eq_true h2, Bool.true_and] at this
    simpa using this
  | cons e l =>
    obtain ⟨h1, h2, h3, _, h5⟩ := onesFrom_cons hq
    simp only [headOf, if_true]
    refine ⟨fun j h6 h7 => ?_, fun _ => ?_⟩
    · have := h5 j h6 h7
      rw [compl_bit m j hm, decide_eq_true (by omega), Bool.true_and] at this
      simpa using this
    · rw [compl_bit m e hm, decide_eq_true h2, Bool.true_and] at h3
      simpa using h3
theorem endN_eq {m i e : Nat} (hm : m < 18446744073709551616) (hi : i ≤ e) (he : e < 64) (h : ∀ j, i ≤ j → j ≤ e → m.testBit j = true) (hn : e = 63 ∨ m.testBit (e + 1) = false) : endN m i = e + 1 := by
  obtain ⟨s1, s2⟩ := endN_spec hm (show i < 64 by omega)
  have hle := endN_le m i
  rcases Nat.lt_trichotomy (endN m i) (e + 1) with h1 | h1 | h1
  · exfalso
    by_cases h2 : i ≤ endN m i
    · have := s2 (by omega)
      rw [h _ h2 (by omega)] at this; cases this
    · have := endN_gt hm (show i < 64 by omega) (h i (Nat.le_refl _) hi)
      omega
  · exact h1
  · exfalso
    rcases hn with h2 | h2
    · omega
    · rw [s1 (e + 1) (by omega) h1] at h2; cases h2
/-- The runs are told start by start. -/
theorem runs_starts (m : Nat) (hm : m < 18446744073709551616) : ∀ n k, k ≤ 64 → 64 - k < n → (k = 0 ∨ 64 ≤ k ∨ m.testBit k = false) → runsFrom m n k = (startsFrom m k).map (textAt m)
  | 0, k, _, h, _ => by omega
  | n + 1, k, hk, hn, hc => by
    cases hq : onesFrom m k with
    | nil =>
      rw [runsFrom_nil hq]
      have : startsFrom m k = [] := by
        rw [startsFrom_skip (j := 64) hk (Nat.le_refl _) (fun i h1 h2 => by unfold isStart; rw [onesFrom_nil hq i h1 h2]; rfl), startsFrom_ge m 64 (Nat.le_refl _)]
      rw [this]; rfl
    | cons j l =>
      obtain ⟨h1, h2, h3, _, h5⟩ := onesFrom_cons hq
      obtain ⟨s1, s2⟩ := endN_spec hm h2
      have hg := endN_gt hm h2 h3
      have hle := endN_le m j
      have hst : isStart m j = true := by
        unfold isStart
        rw [h3, Bool.true_and]
        by_cases hj : j = 0
        · simp [hj]
        · by_cases hjk : j = k
          · exfalso
            subst hjk
            rcases hc with h | h | h
            · exact hj h
            · omega
            · rw [h3] at h; cases h
          · rw [h5 (j - 1) (by omega) (by omega)]; simp
      rw [runsFrom_cons hq, runs_starts m hm n (endN m j) hle (by omega) (by
        by_cases he : endN m j < 64
        · exact .inr (.inr (s2 he))
        · exact .inr (.inl (by omega)))]
      rw [startsFrom_skip h1 (by omega) (fun i h6 h7 => by unfold isStart; rw [h5 i h6 h7]; rfl), startsFrom_step m j h2, if_pos hst, List.map_cons,
        startsFrom_skip (k := j + 1) (j := endN m j) (by omega) hle (fun i h6 h7 => by
          unfold isStart
          rw [s1 i (by omega) h7, s1 (i - 1) (by omega) (by omega)]
          simp; omega)]
      rfl
theorem strN_setT (m : Nat) (hm : m < 18446744073709551616) : strN m = if m = 0 then [110, 111, 110, 101] else setT m 64 := by
  unfold strN setT runs
  rw [runs_starts m hm 65 0 (by omega) (by omega) (.inl rfl), startsTo_all]
theorem dec_ne : ∀ a : Fin 64, Lib.decDigits a.val ≠ [] := by decide +kernel
theorem textAt_ne (m i : Nat) (h : i < 64) : textAt m i ≠ [] := by
  have := dec_ne ⟨i, h⟩
  simp only at this
  unfold textAt runTx
  split
  · exact this
  · simp
theorem join_snoc (l : List (List UInt8)) (x : List UInt8) : Lib.join (l ++ [x]) [44] = if l = [] then x else Lib.join l [44] ++ [44] ++ x := by
  cases l with
  | nil => simp [Lib.join_one]
  | cons a r =>
    rw [if_neg (by simp), List.cons_append, Lib.join_cons, Lib.join_cons]
    have := Lib.joinTail_take_succ [44] (r ++ [x]) r.length x (by simp)
    rw [List.take_of_length_le (by simp), List.take_left] at this
    rw [this]; simp
theorem join_ne {l : List (List UInt8)} (h : ∀ x ∈ l, x ≠ []) (hl : l ≠ []) : Lib.join l [44] ≠ [] := by
  cases l with
  | nil => exact absurd rfl hl
  | cons a r =>
    rw [Lib.join_cons]
    have := h a (List.mem_cons_self)
    simp [this]
theorem starts_lt {m k i : Nat} (h : i ∈ startsTo m k) : i < k := by
  unfold startsTo at h
  rw [List.mem_filter, List.mem_range'] at h
  obtain ⟨⟨d, hd, rfl⟩, _⟩ := h
  omega
theorem setT_nil (m k : Nat) (hk : k ≤ 64) : (setT m k = []) ↔ startsTo m k = [] := by
  constructor
  · intro h
    apply Classical.byContradiction
    intro hne
    refine join_ne (l := (startsTo m k).map (textAt m)) ?_ (by simpa using hne) h
    intro x hx
    obtain ⟨i, hi, rfl⟩ := List.mem_map.1 hx
    exact textAt_ne m i (by have := starts_lt hi; omega)
  · intro h
    unfold setT; rw [h]; rfl
/-- What is told at a start. -/
theorem setT_start (m k : Nat) (hk : k < 64) (h : isStart m k = true) : setT m (k + 1) = (if setT m k = [] then setT m k else setT m k ++ [44]) ++ textAt m k := by
  have e := setT_nil m k (by omega)
  by_cases h0 : setT m k = []
  · rw [if_pos h0, h0]
    unfold setT
    rw [startsTo_succ, if_pos h, e.1 h0]
    simp [Lib.join_one]
  · rw [if_neg h0]
    have hne : (startsTo m k).map (textAt m) ≠ [] := by
      intro hh
      exact h0 (e.2 (by simpa using hh))
    unfold setT
    rw [startsTo_succ, if_pos h, List.map_append, List.map_cons, List.map_nil, join_snoc, if_neg hne]
theorem setT_skip (m k : Nat) (h : isStart m k = false) : setT m (k + 1) = setT m k := by
  unfold setT; rw [startsTo_succ, if_neg (by rw [h]; decide)]
theorem setT_zero (m : Nat) : setT m 0 = [] := rfl
theorem starts_len (m k : Nat) : (startsTo m k).length ≤ k := by
  unfold startsTo
  have := List.length_filter_le (isStart m) (List.range' 0 k)
  rw [List.length_range'] at this
  exact this
theorem setT_len (m k : Nat) (hm : m < 18446744073709551616) (hk : k ≤ 64) : (setT m k).length ≤ 400 := by
  unfold setT
  have hl := starts_len m k
  have h5 : ∀ x ∈ (startsTo m k).map (textAt m), x.length ≤ 5 := by
    intro x hx
    obtain ⟨i, hi, rfl⟩ := List.mem_map.1 hx
    have hi' := starts_lt hi
    have hb : m.testBit i = true := by
      unfold startsTo at hi
      rw [List.mem_filter] at hi
      have := hi.2
      unfold isStart at this
      rw [Bool.and_eq_true] at this
      exact this.1
    have := endN_gt hm (show i < 64 by omega) hb
    have := endN_le m i
    exact runTx_len (by omega) (by omega)
  cases hc : (startsTo m k).map (textAt m) with
  | nil => simp [Lib.join_nil]
  | cons x r =>
    rw [hc] at h5
    have := Con.lens_le _ h5
    have hlen : (x :: r).length ≤ 64 := by rw [← hc, List.length_map]; omega
    simp at hlen
    rw [Lib.join_length]; simp at this ⊢; omega
/-- No run, no number. -/
theorem setT_empty (m : Nat) (hm : m < 18446744073709551616) : setT m 64 = [] ↔ m = 0 := by
  rw [setT_nil m 64 (Nat.le_refl _), startsTo_all]
  constructor
  · intro h
    have hr := runs_starts m hm 65 0 (by omega) (by omega) (.inl rfl)
    rw [h] at hr
    cases hq : onesFrom m 0 with
    | nil =>
      apply word_ext hm (by decide)
      intro j hj
      rw [onesFrom_nil hq j (by omega) hj, Nat.zero_testBit]
    | cons j l => rw [runsFrom_cons hq] at hr; cases hr
  · rintro rfl; decide +kernel
end Go.Proofs.YtpibejjhldnplaaDoor.Mk
