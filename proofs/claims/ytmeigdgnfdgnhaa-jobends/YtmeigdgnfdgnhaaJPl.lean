/- Jobs: plain mathematics. Of no program. -/
import Derived.Test.YtmeigdgnfdgnhaaJMath
namespace Go.Proofs.Ytmeigdgnfdgnhaa.Pm
set_option linter.unusedVariables false
set_option linter.unusedSimpArgs false
/-- The step at j. -/
def at' (L : List St) (j : Nat) : St := L.getD j (0, 0)
theorem at_eq {L : List St} {j : Nat} (h : j < L.length) : L[j]? = some (at' L j) := by
  unfold at'; rw [List.getD_eq_getElem?_getD, List.getElem?_eq_getElem h]; rfl
theorem good_len {L : List St} (h : good L = true) : 1 ≤ L.length ∧ L.length ≤ 8 := ((good_iff L).1 h).1
theorem total_bad {L : List St} (h : good L = false) : total L = 0 := by unfold total; rw [if_neg (by rw [h]; decide)]
theorem total_good {L : List St} (h : good L = true) : total L = sumN L := by unfold total; rw [if_pos h]
/-- A job, told. -/
structure Jb where
  num : Int
  L : List St
  a : Int
  d : Int
def jgood (j : Jb) : Bool := decide (1 ≤ j.num) && good j.L && decide (0 ≤ j.a) && decide (j.a ≤ j.L.length) && decide (0 ≤ j.d) && decide (if j.a = j.L.length then j.d = 0 else j.d ≤ (at' j.L j.a.toNat).2)
theorem jgood_iff (j : Jb) : jgood j = true ↔ 1 ≤ j.num ∧ good j.L = true ∧ 0 ≤ j.a ∧ j.a ≤ j.L.length ∧ 0 ≤ j.d ∧ (j.a = j.L.length → j.d = 0) ∧ (j.a ≠ j.L.length → j.d ≤ (at' j.L j.a.toNat).2) := by
  unfold jgood
  simp only [Bool.and_eq_true, decide_eq_true_eq]
  by_cases h : j.a = j.L.length
  · simp only [if_pos h]
    constructor
    · rintro ⟨⟨⟨⟨⟨h1, h2⟩, h3⟩, h4⟩, h5⟩, h6⟩; exact ⟨h1, h2, h3, h4, h5, fun _ => h6, fun e => absurd h e⟩
    · rintro ⟨h1, h2, h3, h4, h5, h6, _⟩; exact ⟨⟨⟨⟨⟨h1, h2⟩, h3⟩, h4⟩, h5⟩, h6 h⟩
  · simp only [if_neg h]
    constructor
    · rintro ⟨⟨⟨⟨⟨h1, h2⟩, h3⟩, h4⟩, h5⟩, h6⟩; exact ⟨h1, h2, h3, h4, h5, fun e => absurd e h, fun _ => h6⟩
    · rintro ⟨h1, h2, h3, h4, h5, _, h6⟩; exact ⟨⟨⟨⟨⟨h1, h2⟩, h3⟩, h4⟩, h5⟩, h6 h⟩
theorem jbad {j : Jb} (h : ¬ (1 ≤ j.num ∧ good j.L = true ∧ 0 ≤ j.a ∧ j.a ≤ j.L.length ∧ 0 ≤ j.d ∧ (j.a = j.L.length → j.d = 0) ∧ (j.a ≠ j.L.length → j.d ≤ (at' j.L j.a.toNat).2))) : jgood j = false := by
  cases hg : jgood j with
  | false => rfl
  | true => exact absurd ((jgood_iff j).1 hg) h
/-- Its step. -/
def jstep (j : Jb) : Option St := if jgood j = true ∧ j.a ≠ j.L.length then some (at' j.L j.a.toNat) else none
/-- How much is left. -/
def jleft (j : Jb) : Int := if jgood j = true then total (j.L.drop j.a.toNat) - j.d else 0
def ran (j : Jb) (n : Int) : Int := match jstep j with | some s => min (max n 0) (s.2 - j.d) | none => 0
def jrun (j : Jb) (n : Int) : Jb := { j with d := j.d + ran j n }
def fulls (j : Jb) : Bool := match jstep j with | some s => decide (j.d = s.2) | none => false
def jnext (j : Jb) : Jb := if fulls j = true then { j with a := j.a + 1, d := 0 } else j
def jnew (num : Int) (L : List St) : Option Jb := if 1 ≤ num ∧ good L = true then some ⟨num, L, 0, 0⟩ else none
theorem jstep_some {j : Jb} (h : jgood j = true) (ha : j.a ≠ j.L.length) : jstep j = some (at' j.L j.a.toNat) := if_pos ⟨h, ha⟩
theorem jstep_bad {j : Jb} (h : jgood j = false) : jstep j = none := if_neg (by rw [h]; simp)
theorem jstep_end {j : Jb} (h : j.a = j.L.length) : jstep j = none := if_neg (by simp [h])
theorem jstep_inv {j : Jb} {s : St} (h : jstep j = some s) : jgood j = true ∧ j.a ≠ j.L.length ∧ s = at' j.L j.a.toNat := by
  unfold jstep at h
  split at h
  · rename_i hh; exact ⟨hh.1, hh.2, (Option.some.inj h).symm⟩
  · cases h
/-- What a step tells of its bounds. -/
theorem jstep_bound {j : Jb} {s : St} (h : jstep j = some s) : (0 ≤ j.d ∧ j.d ≤ s.2) ∧ (1 ≤ s.2 ∧ s.2 ≤ 2147483648) ∧ (0 ≤ s.1 ∧ s.1 ≤ 8) ∧ 0 ≤ j.a ∧ j.a < j.L.length ∧ j.L.length ≤ 8 := by
  obtain ⟨h1, h2, rfl⟩ := jstep_inv h
  obtain ⟨g1, g2, g3, g4, g5, g6, g7⟩ := (jgood_iff j).1 h1
  have hl : j.a.toNat < j.L.length := by omega
  have := good_at g2 (at_eq hl)
  have := (good_len g2).2
  have := g7 h2
  exact ⟨⟨g5, this⟩, by omega, by omega, g3, by omega, by omega⟩
theorem sum_drop {L : List St} {k : Nat} (h : k < L.length) : sumN (L.drop k) = (at' L k).2 + sumN (L.drop (k + 1)) := by
  have e := at_eq h
  rw [List.getElem?_eq_getElem h] at e
  rw [List.drop_eq_getElem_cons h, sumN, Option.some.inj e]
theorem good_drop {L : List St} (h : good L = true) {k : Nat} (hk : k < L.length) : good (L.drop k) = true := by
  rw [good_iff] at *
  refine ⟨by rw [List.length_drop]; omega, fun s hs => h.2 s (List.mem_of_mem_drop hs)⟩
theorem total_drop {L : List St} (h : good L = true) (k : Nat) : total (L.drop k) = sumN (L.drop k) := by
  by_cases hk : k < L.length
  · exact total_good (good_drop h hk)
  · rw [List.drop_eq_nil_of_le (by omega)]; rfl
theorem drop_bound {L : List St} (h : good L = true) (k : Nat) : 0 ≤ sumN (L.drop k) ∧ sumN (L.drop k) ≤ 17179869184 := by
  obtain ⟨⟨h1, h2⟩, h3⟩ := (good_iff L).1 h
  have := sum_ge (p := L.drop k) fun x hx => h3 x (List.mem_of_mem_drop hx)
  rw [List.length_drop] at this
  omega
theorem jleft_bad {j : Jb} (h : jgood j = false) : jleft j = 0 := if_neg (by rw [h]; decide)
theorem jleft_good {j : Jb} (h : jgood j = true) : jleft j = sumN (j.L.drop j.a.toNat) - j.d := by
  unfold jleft; rw [if_pos h, total_drop ((jgood_iff j).1 h).2.1]
theorem jleft_bound {j : Jb} : 0 ≤ jleft j ∧ jleft j ≤ 17179869184 := by
  cases h : jgood j with
  | false => rw [jleft_bad h]; omega
  | true =>
    rw [jleft_good h]
    obtain ⟨g1, g2, g3, g4, g5, g6, g7⟩ := (jgood_iff j).1 h
    have hb := drop_bound g2 j.a.toNat
    by_cases he : j.a = j.L.length
    · have := g6 he; omega
    · have h7 := g7 he
      have hs := sum_drop (L := j.L) (k := j.a.toNat) (by omega)
      have hb2 := drop_bound g2 (j.a.toNat + 1)
      omega
theorem ran_none {j : Jb} {n : Int} (h : jstep j = none) : ran j n = 0 := by unfold ran; rw [h]
theorem ran_some {j : Jb} {n : Int} {s : St} (h : jstep j = some s) : ran j n = min (max n 0) (s.2 - j.d) := by unfold ran; rw [h]
theorem fulls_none {j : Jb} (h : jstep j = none) : fulls j = false := by unfold fulls; rw [h]
theorem fulls_some {j : Jb} {s : St} (h : jstep j = some s) : fulls j = decide (j.d = s.2) := by unfold fulls; rw [h]
theorem ran_bound (j : Jb) (n : Int) : 0 ≤ ran j n ∧ ran j n ≤ max n 0 := by
  cases h : jstep j with
  | none => rw [ran_none h]; omega
  | some s => rw [ran_some h]; have := jstep_bound h; omega
theorem jrun_zero {j : Jb} {n : Int} (h : ran j n = 0) : jrun j n = j := by unfold jrun; rw [h, Int.add_zero]
theorem jrun_good {j : Jb} (h : jgood j = true) (n : Int) : jgood (jrun j n) = true := by
  cases hs : jstep j with
  | none => rw [jrun_zero (ran_none hs)]; exact h
  | some s =>
    have hb := jstep_bound hs
    obtain ⟨_, h2, rfl⟩ := jstep_inv hs
    obtain ⟨g1, g2, g3, g4, g5, g6, g7⟩ := (jgood_iff j).1 h
    refine (jgood_iff _).2 ⟨g1, g2, g3, g4, ?_, fun e => absurd e h2, fun _ => ?_⟩
    · show 0 ≤ j.d + ran j n; rw [ran_some hs]; omega
    · show j.d + ran j n ≤ _; rw [ran_some hs]; show j.d + min (max n 0) ((at' j.L j.a.toNat).2 - j.d) ≤ (at' j.L j.a.toNat).2; omega
theorem jrun_left {j : Jb} (h : jgood j = true) (n : Int) : jleft (jrun j n) = jleft j - ran j n := by
  rw [jleft_good (jrun_good h n), jleft_good h]; show _ - (j.d + ran j n) = _; show sumN (j.L.drop j.a.toNat) - (j.d + ran j n) = _; omega
theorem jnext_full {j : Jb} (h : fulls j = true) : jnext j = { j with a := j.a + 1, d := 0 } := if_pos h
theorem jnext_not {j : Jb} (h : fulls j = false) : jnext j = j := if_neg (by rw [h]; decide)
theorem fulls_inv {j : Jb} (h : fulls j = true) : ∃ s, jstep j = some s ∧ j.d = s.2 := by
  cases hs : jstep j with
  | none => rw [fulls_none hs] at h; cases h
  | some s => rw [fulls_some hs] at h; exact ⟨s, rfl, of_decide_eq_true h⟩
theorem jnext_good {j : Jb} (h : jgood j = true) : jgood (jnext j) = true := by
  cases hf : fulls j with
  | false => rw [jnext_not hf]; exact h
  | true =>
    rw [jnext_full hf]
    obtain ⟨s, hs, _⟩ := fulls_inv hf
    have hb := jstep_bound hs
    obtain ⟨g1, g2, g3, g4, g5, g6, g7⟩ := (jgood_iff j).1 h
    refine (jgood_iff _).2 ⟨g1, g2, by show 0 ≤ j.a + 1; omega, by show j.a + 1 ≤ (j.L.length : Int); omega, Int.le_refl _, fun _ => rfl, fun hne => ?_⟩
    show 0 ≤ (at' j.L (j.a + 1).toNat).2
    have hlt : (j.a + 1).toNat < j.L.length := by
      have h1 : j.a + 1 ≠ (j.L.length : Int) := hne
      omega
    have := good_at g2 (at_eq hlt)
    omega
theorem jnext_left {j : Jb} (h : jgood j = true) : jleft (jnext j) = jleft j := by
  cases hf : fulls j with
  | false => rw [jnext_not hf]
  | true =>
    have hg := jnext_good h
    rw [jnext_full hf] at hg ⊢
    obtain ⟨s, hs, hd⟩ := fulls_inv hf
    have hb := jstep_bound hs
    obtain ⟨_, h2, rfl⟩ := jstep_inv hs
    rw [jleft_good hg, jleft_good h]
    show sumN (j.L.drop (j.a + 1).toNat) - 0 = _
    rw [show (j.a + 1).toNat = j.a.toNat + 1 by omega, sum_drop (k := j.a.toNat) (by omega), hd]
    omega
/-- Under way: at the end, or in the midst of a step. -/
def Way (j : Jb) : Prop := jgood j = true ∧ (j.a ≠ j.L.length → j.d < (at' j.L j.a.toNat).2)
theorem Way.left {j : Jb} (h : Way j) (h0 : ¬ 0 < jleft j) : j.a = j.L.length := by
  apply Classical.byContradiction
  intro he
  have h7 := h.2 he
  obtain ⟨g1, g2, g3, g4, g5, g6, _⟩ := (jgood_iff j).1 h.1
  rw [jleft_good h.1, sum_drop (k := j.a.toNat) (by omega)] at h0
  have hb2 := drop_bound g2 (j.a.toNat + 1)
  omega
theorem Way.new {num : Int} {L : List St} (h1 : 1 ≤ num) (h2 : good L = true) : Way ⟨num, L, 0, 0⟩ := by
  have hl := good_len h2
  have hb := good_at h2 (at_eq (show 0 < L.length by omega))
  refine ⟨(jgood_iff _).2 ⟨h1, h2, Int.le_refl _, by show (0 : Int) ≤ _; omega, Int.le_refl _, fun _ => rfl, fun _ => ?_⟩, fun _ => ?_⟩
  · show 0 ≤ (at' L (0 : Int).toNat).2; exact Int.le_trans (by omega) hb.2.1
  · show 0 < (at' L (0 : Int).toNat).2; exact Int.lt_of_lt_of_le (by omega) hb.2.1
theorem Way.on {j : Jb} (h : Way j) (n : Int) : Way (jnext (jrun j n)) := by
  have hg := jrun_good h.1 n
  refine ⟨jnext_good hg, fun hne => ?_⟩
  cases hf : fulls (jrun j n) with
  | true =>
    rw [jnext_full hf] at hne ⊢
    obtain ⟨s, hs, hd⟩ := fulls_inv hf
    have hb := jstep_bound hs
    obtain ⟨g1, g2, _⟩ := (jgood_iff _).1 hg
    show 0 < (at' (jrun j n).L ((jrun j n).a + 1).toNat).2
    have hlt : ((jrun j n).a + 1).toNat < (jrun j n).L.length := by
      have h1 : (jrun j n).a + 1 ≠ ((jrun j n).L.length : Int) := hne
      omega
    have := good_at g2 (at_eq hlt)
    omega
  | false =>
    rw [jnext_not hf] at hne ⊢
    have hs := jstep_some hg hne
    rw [fulls_some hs] at hf
    have := of_decide_eq_false hf
    have := (jstep_bound hs).1.2
    omega
theorem jnext_L (j : Jb) : (jnext j).L = j.L ∧ (jnext j).num = j.num := by
  unfold jnext; split <;> exact ⟨rfl, rfl⟩
/-- With enough, the step is done. -/
theorem run_all {j : Jb} (h : jgood j = true) (ha : j.a ≠ j.L.length) {n : Int} (hn : 2147483648 ≤ n) : jnext (jrun j n) = { j with a := j.a + 1, d := 0 } := by
  have hs := jstep_some h ha
  have hb := jstep_bound hs
  have hd : (jrun j n).d = (at' j.L j.a.toNat).2 := by
    show j.d + ran j n = _
    rw [ran_some hs]; omega
  have hs2 : jstep (jrun j n) = some (at' j.L j.a.toNat) := jstep_some (j := jrun j n) (jrun_good h n) ha
  rw [jnext_full (by rw [fulls_some hs2]; exact decide_eq_true hd)]
  rfl
/-- By so much and then so much. -/
theorem run_two {j : Jb} (h : jgood j = true) {a b : Int} (ha : 0 ≤ a) (hb : 0 ≤ b) : ran j a + ran (jrun j a) b = ran j (a + b) ∧ jrun (jrun j a) b = jrun j (a + b) := by
  have key : ran j a + ran (jrun j a) b = ran j (a + b) := by
    cases hs : jstep j with
    | none => 
      rw [jrun_zero (ran_none hs), ran_none hs, ran_none hs, ran_none hs]; rfl
    | some s =>
      have hbd := jstep_bound hs
      obtain ⟨_, h2, rfl⟩ := jstep_inv hs
      have hs2 : jstep (jrun j a) = some (at' j.L j.a.toNat) := jstep_some (j := jrun j a) (jrun_good h a) h2
      rw [ran_some hs2, ran_some hs, ran_some hs]
      show _ + min (max b 0) ((at' j.L j.a.toNat).2 - (j.d + ran j a)) = _
      rw [ran_some hs]; omega
  refine ⟨key, ?_⟩
  show Jb.mk j.num j.L j.a (j.d + ran j a + ran (jrun j a) b) = Jb.mk j.num j.L j.a (j.d + ran j (a + b))
  rw [← key, Int.add_assoc]
end Go.Proofs.Ytmeigdgnfdgnhaa.Pm
