/- Plain mathematics of a heap of ids by keys: the order, the heap's property, what rising and sinking keep. Of no program. -/
import Derived.Lib.SlicesMore
import Derived.Sort.Defs
namespace Go.Proofs.Ytmdendffbjhdbaa.Hq
set_option linter.unusedVariables false
/-- An id and its key. -/
abbrev It := Int × Int
def c3 (a b : Int) : Int := if a < b then -1 else if b < a then 1 else 0
/-- What compare answers. -/
def cf (g : Bool) (a b : It) : Int :=
  if (if g then c3 b.2 a.2 else c3 a.2 b.2) ≠ 0 then (if g then c3 b.2 a.2 else c3 a.2 b.2) else c3 a.1 b.1
/-- a is ahead of b. -/
def lt (g : Bool) (a b : It) : Bool := decide (cf g a b < 0)
theorem lt_iff (g : Bool) (a b : It) : lt g a b = true ↔ (if g then b.2 < a.2 else a.2 < b.2) ∨ (a.2 = b.2 ∧ a.1 < b.1) := by
  unfold lt cf c3
  rw [decide_eq_true_iff]
  cases g <;> simp only [Bool.false_eq_true, if_false, if_true] <;> (repeat' split) <;> constructor <;> intro h <;> omega
/-- a is not behind b. -/
def le (g : Bool) (a b : It) : Prop := lt g b a = false
theorem le_iff (g : Bool) (a b : It) : le g a b ↔ (if g then b.2 < a.2 else a.2 < b.2) ∨ (a.2 = b.2 ∧ a.1 ≤ b.1) := by
  unfold le
  rw [← Bool.not_eq_true, lt_iff]
  cases g <;> simp only [Bool.false_eq_true, if_false, if_true] <;> constructor <;> intro h <;> omega
theorem le_refl (g : Bool) (a : It) : le g a a := by rw [le_iff]; cases g <;> simp
theorem le_trans {g : Bool} {a b c : It} (h : le g a b) (k : le g b c) : le g a c := by
  rw [le_iff] at *
  cases g <;> simp only [Bool.false_eq_true, if_false, if_true] at * <;> omega
theorem le_of_lt {g : Bool} {a b : It} (h : lt g a b = true) : le g a b := by
  rw [le_iff]; rw [lt_iff] at h
  cases g <;> simp only [Bool.false_eq_true, if_false, if_true] at * <;> omega
theorem le_total (g : Bool) (a b : It) : le g a b ∨ le g b a := by
  rw [le_iff, le_iff]
  cases g <;> simp only [Bool.false_eq_true, if_false, if_true] <;> omega
theorem le_antisymm {g : Bool} {a b : It} (h : le g a b) (k : le g b a) : a = b := by
  rw [le_iff] at *
  obtain ⟨a1, a2⟩ := a
  obtain ⟨b1, b2⟩ := b
  cases g <;> simp only [Bool.false_eq_true, if_false, if_true, Prod.mk.injEq] at * <;> omega
theorem le_of_not {g : Bool} {a b : It} (h : ¬ lt g a b = true) : le g b a := by
  unfold le; simpa using h

/-- The one at i. -/
def at' (l : List It) (i : Nat) : It := l.getD i (0, 0)
theorem at_eq {l : List It} {i : Nat} (h : i < l.length) : l[i]? = some (at' l i) := by
  unfold at'; rw [List.getD_eq_getElem?_getD, List.getElem?_eq_getElem h]; rfl
theorem at_mem {l : List It} {i : Nat} (h : i < l.length) : at' l i ∈ l := List.mem_of_getElem? (at_eq h)
theorem ext_at {l m : List It} (hl : l.length = m.length) (h : ∀ i, i < l.length → at' l i = at' m i) : l = m := by
  apply List.ext_getElem?
  intro i
  by_cases hi : i < l.length
  · rw [at_eq hi, at_eq (by omega), h i hi]
  · rw [List.getElem?_eq_none (by omega), List.getElem?_eq_none (by omega)]
theorem mem_at {l : List It} {x : It} (h : x ∈ l) : ∃ i, i < l.length ∧ at' l i = x := by
  obtain ⟨i, hi, e⟩ := List.mem_iff_getElem.1 h
  exact ⟨i, hi, by unfold at'; rw [List.getD_eq_getElem?_getD, List.getElem?_eq_getElem hi, e]; rfl⟩
/-- Two places exchanged. -/
def swp (l : List It) (i j : Nat) : List It := (l.set i (at' l j)).set j (at' l i)
theorem swp_length (l : List It) (i j : Nat) : (swp l i j).length = l.length := by simp [swp]
theorem at_set (l : List It) (i k : Nat) (x : It) (hi : i < l.length) : at' (l.set i x) k = if k = i then x else at' l k := by
  unfold at'
  rw [List.getD_eq_getElem?_getD, List.getD_eq_getElem?_getD, List.getElem?_set]
  by_cases h : i = k
  · subst h; simp [hi]
  · rw [if_neg h, if_neg (by omega)]
theorem at_swp (l : List It) (i j k : Nat) (hi : i < l.length) (hj : j < l.length) : at' (swp l i j) k = if k = j then at' l i else if k = i then at' l j else at' l k := by
  unfold swp
  rw [at_set _ _ _ _ (by simpa using hj), at_set _ _ _ _ hi]
theorem swp_self (l : List It) (i : Nat) (hi : i < l.length) : swp l i i = l := by
  apply ext_at (swp_length _ _ _)
  intro k hk
  rw [at_swp l i i k hi hi]
  by_cases h : k = i <;> simp [h]
theorem set_perm : ∀ (l : List It) (i : Nat) (x : It), i < l.length → (at' l i :: l.set i x).Perm (x :: l)
  | a :: l, 0, x, _ => by simp [at']; exact List.Perm.swap _ _ _
  | a :: l, i + 1, x, h => by
    have ih := set_perm l i x (by simpa using h)
    have e : at' (a :: l) (i + 1) = at' l i := by simp [at']
    rw [e, List.set_cons_succ]
    exact (List.Perm.swap _ _ _).trans ((ih.cons a).trans (List.Perm.swap _ _ _))
theorem swp_perm (l : List It) (i j : Nat) (hi : i < l.length) (hj : j < l.length) : (swp l i j).Perm l := by
  by_cases h : i = j
  · subst h; rw [swp_self l i hi]
  · have h1 := set_perm (l.set i (at' l j)) j (at' l i) (by simpa using hj)
    have h2 := set_perm l i (at' l j) hi
    have e : at' (l.set i (at' l j)) j = at' l j := by rw [at_set l i j _ hi, if_neg (by omega)]
    rw [e] at h1
    have h3 : (at' l j :: swp l i j).Perm (at' l j :: l) := h1.trans h2
    exact h3.cons_inv

/-- No one is ahead of the one above it. -/
def Heap (g : Bool) (l : List It) : Prop := ∀ i, 0 < i → i < l.length → le g (at' l ((i - 1) / 2)) (at' l i)
/-- .. but for what touches a. -/
def Hx (g : Bool) (l : List It) (a : Nat) : Prop :=
  (∀ i, 0 < i → i < l.length → i ≠ a → (i - 1) / 2 ≠ a → le g (at' l ((i - 1) / 2)) (at' l i)) ∧
  (∀ c, 0 < c → c < l.length → (c - 1) / 2 = a → 0 < a → le g (at' l ((a - 1) / 2)) (at' l c))
def Kids (g : Bool) (l : List It) (a : Nat) : Prop := ∀ c, 0 < c → c < l.length → (c - 1) / 2 = a → le g (at' l a) (at' l c)
def Up (g : Bool) (l : List It) (a : Nat) : Prop := 0 < a → le g (at' l ((a - 1) / 2)) (at' l a)
theorem heap_of {g : Bool} {l : List It} {a : Nat} (h : Hx g l a) (hk : Kids g l a) (hu : Up g l a) : Heap g l := by
  intro i h0 h1
  by_cases e : i = a
  · subst e; exact hu h0
  · by_cases e' : (i - 1) / 2 = a
    · rw [e']; exact hk i h0 h1 e'
    · exact h.1 i h0 h1 e e'
theorem hx_of {g : Bool} {l : List It} (h : Heap g l) (a : Nat) (ha : a < l.length) : Hx g l a :=
  ⟨fun i h0 h1 _ _ => h i h0 h1, fun c h0 h1 e ha0 => le_trans (h a ha0 ha) (by have := h c h0 h1; rw [e] at this; exact this)⟩
/-- The first is first. -/
theorem heap_min {g : Bool} {l : List It} (h : Heap g l) : ∀ i, i < l.length → le g (at' l 0) (at' l i) := by
  intro i
  induction i using Nat.strongRecOn with
  | ind i ih =>
    intro hi
    by_cases e : i = 0
    · subst e; exact le_refl _ _
    · exact le_trans (ih ((i - 1) / 2) (by omega) (by omega)) (h i (by omega) hi)
theorem rise_step {g : Bool} {l : List It} {a : Nat} (h : Hx g l a) (h0 : 0 < a) (ha : a < l.length) (hlt : lt g (at' l a) (at' l ((a - 1) / 2)) = true) :
    Hx g (swp l a ((a - 1) / 2)) ((a - 1) / 2) ∧ Kids g (swp l a ((a - 1) / 2)) ((a - 1) / 2) := by
  generalize hp : (a - 1) / 2 = p at *
  have hpl : p < l.length := by omega
  have hle := le_of_lt hlt
  have A := fun k => at_swp l a p k ha hpl
  refine ⟨⟨?_, ?_⟩, ?_⟩
  · intro i i0 i1 i2 i3
    rw [swp_length] at i1
    rw [A, A]
    by_cases e : i = a
    · subst e; omega
    · rw [if_neg i3, if_neg i2, if_neg e]
      by_cases e' : (i - 1) / 2 = a
      · rw [if_pos e']
        have := h.2 i i0 i1 e' h0
        rw [hp] at this; exact this
      · rw [if_neg e']; exact h.1 i i0 i1 e e'
  · intro c c0 c1 c2 p0
    rw [swp_length] at c1
    rw [A, A, if_neg (by omega), if_neg (by omega)]
    have hpp := h.1 p p0 hpl (by omega) (by omega)
    by_cases e : c = a
    · rw [if_neg (by omega), if_pos e]; exact hpp
    · rw [if_neg (by omega), if_neg e]
      have := h.1 c c0 c1 e (by omega)
      rw [c2] at this
      exact le_trans hpp this
  · intro c c0 c1 c2
    rw [swp_length] at c1
    rw [A, A, if_pos rfl]
    by_cases e : c = a
    · rw [if_neg (by omega), if_pos e]; exact hle
    · rw [if_neg (by omega), if_neg e]
      have := h.1 c c0 c1 e (by omega)
      rw [c2] at this
      exact le_trans hle this
theorem sink_step {g : Bool} {l : List It} {a f : Nat} (h : Hx g l a) (hu : Up g l a) (f0 : 0 < f) (hf : f < l.length) (hfa : (f - 1) / 2 = a) (hlt : lt g (at' l f) (at' l a) = true)
    (hm : ∀ c, 0 < c → c < l.length → (c - 1) / 2 = a → le g (at' l f) (at' l c)) : Hx g (swp l a f) f ∧ Up g (swp l a f) f := by
  have hal : a < l.length := by omega
  have hle := le_of_lt hlt
  have A := fun k => at_swp l a f k hal hf
  refine ⟨⟨?_, ?_⟩, ?_⟩
  · intro i i0 i1 i2 i3
    rw [swp_length] at i1
    rw [A, A, if_neg i3, if_neg i2]
    by_cases e : i = a
    · subst e
      rw [if_pos rfl, if_neg (by omega)]
      exact h.2 f f0 hf hfa i0
    · rw [if_neg e]
      by_cases e' : (i - 1) / 2 = a
      · rw [if_pos e']; exact hm i i0 i1 e'
      · rw [if_neg e']; exact h.1 i i0 i1 e e'
  · intro c c0 c1 c2 _
    rw [swp_length] at c1
    rw [A, A, hfa, if_neg (by omega), if_pos rfl, if_neg (by omega), if_neg (by omega)]
    have := h.1 c c0 c1 (by omega) (by omega)
    rw [c2] at this; exact this
  · intro _
    rw [A, A, hfa, if_neg (by omega), if_pos rfl, if_pos rfl]; exact hle

/-- A new one behind all. -/
theorem at_snoc (l : List It) (x : It) (k : Nat) : at' (l ++ [x]) k = if k = l.length then x else at' l k := by
  unfold at'
  rw [List.getD_eq_getElem?_getD, List.getD_eq_getElem?_getD]
  by_cases h : k < l.length
  · rw [List.getElem?_append_left h, if_neg (by omega)]
  · by_cases e : k = l.length
    · subst e; simp
    · rw [if_neg e, List.getElem?_eq_none (by simp; omega), List.getElem?_eq_none (by omega)]
theorem put_hx {g : Bool} {l : List It} (h : Heap g l) (x : It) : Hx g (l ++ [x]) l.length ∧ Kids g (l ++ [x]) l.length := by
  refine ⟨⟨?_, ?_⟩, ?_⟩
  · intro i i0 i1 i2 i3
    simp at i1
    rw [at_snoc, at_snoc, if_neg i3, if_neg i2]
    exact h i i0 (by omega)
  · intro c c0 c1 c2 _
    simp at c1; omega
  · intro c c0 c1 c2
    simp at c1; omega
/-- A new key. -/
theorem set_hx {g : Bool} {l : List It} (h : Heap g l) (a : Nat) (ha : a < l.length) (x : It) : Hx g (l.set a x) a := by
  refine ⟨?_, ?_⟩
  · intro i i0 i1 i2 i3
    simp at i1
    rw [at_set l a _ x ha, at_set l a _ x ha, if_neg i3, if_neg i2]
    exact h i i0 i1
  · intro c c0 c1 c2 a0
    simp at c1
    rw [at_set l a _ x ha, at_set l a _ x ha, if_neg (by omega), if_neg (by omega)]
    have := h c c0 c1
    rw [c2] at this
    exact le_trans (h a a0 ha) this
theorem at_take (l : List It) (n k : Nat) (h : k < n) : at' (l.take n) k = at' l k := by
  unfold at'
  rw [List.getD_eq_getElem?_getD, List.getD_eq_getElem?_getD, List.getElem?_take, if_pos h]
/-- One taken out: the last comes to its place. -/
theorem out_perm (l : List It) (a : Nat) (ha : a < l.length) : (at' l a :: (swp l a (l.length - 1)).take (l.length - 1)).Perm l := by
  have hp := swp_perm l a (l.length - 1) ha (by omega)
  have hlen := swp_length l a (l.length - 1)
  have e : swp l a (l.length - 1) = (swp l a (l.length - 1)).take (l.length - 1) ++ [at' l a] := by
    apply ext_at
    · simp [hlen]; omega
    · intro i hi
      rw [hlen] at hi
      rw [at_snoc]
      have hl : ((swp l a (l.length - 1)).take (l.length - 1)).length = l.length - 1 := by simp [hlen]
      rw [hl]
      by_cases h : i = l.length - 1
      · rw [if_pos h, at_swp _ _ _ _ ha (by omega), if_pos h]
      · rw [if_neg h, at_take _ _ _ (by omega)]
  rw [e] at hp
  have : ((swp l a (l.length - 1)).take (l.length - 1) ++ [at' l a]).Perm (at' l a :: (swp l a (l.length - 1)).take (l.length - 1)) := List.perm_append_comm
  exact this.symm.trans hp
theorem out_hx {g : Bool} {l : List It} (h : Heap g l) (a : Nat) (ha : a < l.length - 1) : Hx g ((swp l a (l.length - 1)).take (l.length - 1)) a := by
  have A := fun k => at_swp l a (l.length - 1) k (by omega) (by omega)
  have hl : ((swp l a (l.length - 1)).take (l.length - 1)).length = l.length - 1 := by simp [swp_length]
  refine ⟨?_, ?_⟩
  · intro i i0 i1 i2 i3
    rw [hl] at i1
    rw [at_take _ _ _ (by omega), at_take _ _ _ i1, A, A, if_neg (by omega), if_neg i3, if_neg (by omega), if_neg i2]
    exact h i i0 (by omega)
  · intro c c0 c1 c2 a0
    rw [hl] at c1
    rw [at_take _ _ _ (by omega), at_take _ _ _ c1, A, A, if_neg (by omega), if_neg (by omega), if_neg (by omega), if_neg (by omega)]
    have := h c c0 (by omega)
    rw [c2] at this
    exact le_trans (h a a0 (by omega)) this
theorem out_heap {g : Bool} {l : List It} (h : Heap g l) (a : Nat) (ha : a < l.length) (e : a = l.length - 1) : Heap g ((swp l a (l.length - 1)).take (l.length - 1)) := by
  subst e
  rw [swp_self _ _ ha]
  intro i i0 i1
  have hl : (l.take (l.length - 1)).length = l.length - 1 := by simp
  rw [hl] at i1
  rw [at_take _ _ _ (by omega), at_take _ _ _ i1]
  exact h i i0 (by omega)
/-- No id twice. -/
def Ids (l : List It) : Prop := (l.map (·.1)).Nodup
theorem Ids.perm {l m : List It} (h : Ids l) (p : m.Perm l) : Ids m := (p.map (fun x : It => x.1)).nodup_iff.2 h
theorem Ids.inj {l : List It} (h : Ids l) {i j : Nat} (hi : i < l.length) (hj : j < l.length) (e : (at' l i).1 = (at' l j).1) : i = j := by
  have hh := List.pairwise_iff_getElem.1 h
  have ge : ∀ k (hk : k < l.length), (l.map (·.1))[k]'(by simpa using hk) = (at' l k).1 := by
    intro k hk
    rw [List.getElem_map]
    unfold at'; rw [List.getD_eq_getElem?_getD, List.getElem?_eq_getElem hk]; rfl
  by_cases c : i < j
  · exact absurd (by rw [ge i hi, ge j hj, e]) (hh i j (by simpa using hi) (by simpa using hj) c)
  · by_cases c' : j < i
    · exact absurd (by rw [ge i hi, ge j hj, e]) (hh j i (by simpa using hj) (by simpa using hi) c')
    · omega
end Go.Proofs.Ytmdendffbjhdbaa.Hq
