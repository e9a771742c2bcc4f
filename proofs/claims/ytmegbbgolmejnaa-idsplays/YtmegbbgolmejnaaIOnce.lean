/- IdsOnce: which names are taken, which were given; the set of names that were seen. -/
import Derived.Test.YtmegbbgolmejnaaIParts
import Derived.Maps.AppendAt
namespace Go.Proofs.Ytmegbbgolmejnaa.Con
open Go.RowKit
set_option linter.unusedVariables false
set_option linter.unusedSimpArgs false
theorem names_congr {l m : List Sp} {k : Nat} (h : ∀ q, q < k → sp l q = sp m q) : names l k = names m k := by
  induction k with
  | zero => rfl
  | succ k ih => rw [names, names, ih (fun q hq => h q (by omega)), h k (by omega)]
theorem names_take {l : List Sp} {p g : Nat} (hp : p < l.length) (hf : (sp l p).2 = false) : ∀ k, p < k → (names (l.set p (g, true)) k).Perm (nm p g :: names l k)
  | 0, h => by omega
  | k + 1, h => by
    by_cases e : p = k
    · subst e
      rw [names_yes (by rw [sp_set l p p _ hp, if_pos rfl]), sp_set l p p _ hp, if_pos rfl, names_no hf, names_congr (m := l) (fun q hq => by rw [sp_set l p q _ hp, if_neg (by omega)])]
      exact List.perm_append_comm (l₂ := [_])
    · have ih := names_take (g := g) hp hf k (by omega)
      have e2 : sp (l.set p (g, true)) k = sp l k := by rw [sp_set l p k _ hp, if_neg (show ¬ k = p by omega)]
      rw [names, names, e2]
      exact ih.append_right _
theorem names_give {l : List Sp} {p g : Nat} (hp : p < l.length) (hf : (sp l p).2 = true) (k : Nat) (hk : p < k) : (names l k).Perm (nm p (sp l p).1 :: names (l.set p (g, false)) k) := by
  have hl : p < (l.set p (g, false)).length := by rw [List.length_set]; exact hp
  have h := names_take (l := l.set p (g, false)) (p := p) (g := (sp l p).1) hl (by rw [sp_set l p p _ hp, if_pos rfl]) k hk
  have e : (l.set p (g, false)).set p ((sp l p).1, true) = l := by
    apply sp_ext (by simp)
    intro i _
    rw [sp_set _ p i _ hl, sp_set l p i _ hp]
    by_cases e : i = p
    · rw [if_pos e, e, ← hf]
    · rw [if_neg e, if_neg e]
  rw [e] at h
  exact h
theorem names_mem {l : List Sp} {x : Nat} : ∀ {k : Nat}, x ∈ names l k → ∃ p, p < k ∧ (sp l p).2 = true ∧ x = nm p (sp l p).1
  | 0, h => by simp [names] at h
  | k + 1, h => by
    rw [names, List.mem_append] at h
    rcases h with h | h
    · obtain ⟨p, hp, h⟩ := names_mem h
      exact ⟨p, by omega, h⟩
    · split at h
      · rename_i ht
        exact ⟨k, by omega, ht, by simpa using h⟩
      · simp at h
theorem names_isE {l : List Sp} {x n : Nat} (hn : n ≤ 256) (hl : l.length = n) (h : x ∈ names l n) : isE l x = 0 := by
  obtain ⟨p, hp, ht, rfl⟩ := names_mem h
  unfold isE
  rw [nm_place (by omega), nm_gen (by omega), if_neg (by omega), if_pos ⟨ht, rfl⟩]
theorem isE_took {l : List Sp} {p n g : Nat} (hn : n ≤ 256) (hl : l.length = n) (hp : p < n) : isE (l.set p (g, true)) (nm p g) = 0 := by
  unfold isE
  rw [nm_place (by omega), nm_gen (by omega), List.length_set, if_neg (by omega), sp_set l p p _ (by omega), if_pos rfl, if_pos ⟨rfl, rfl⟩]
/-- What was seen is old, or taken. -/
def Old (l : List Sp) (f : Nat → Bool) : Prop := ∀ x, f x = true → x / 256 < (sp l (x % 256)).1 ∨ (x / 256 = (sp l (x % 256)).1 ∧ (sp l (x % 256)).2 = true)
def put (f : Nat → Bool) (x : Nat) : Nat → Bool := fun y => if y = x then true else f y
theorem Old.none (l : List Sp) : Old l (fun _ => false) := fun x h => by cases h
theorem Old.fresh {l : List Sp} {f : Nat → Bool} (h : Old l f) {p : Nat} (hp : p < 256) (hf : (sp l p).2 = false) : f (nm p (sp l p).1) = false := by
  cases e : f (nm p (sp l p).1) with
  | false => rfl
  | true =>
    have := h _ e
    rw [nm_place hp, nm_gen hp, hf] at this
    rcases this with h | h
    · omega
    · simp at h
theorem Old.took {l : List Sp} {f : Nat → Bool} (h : Old l f) {p : Nat} (hp : p < 256) (hl : p < l.length) (hf : (sp l p).2 = false) : Old (l.set p ((sp l p).1, true)) (put f (nm p (sp l p).1)) := by
  intro x hx
  rw [sp_set l p _ _ hl]
  unfold put at hx
  by_cases e : x = nm p (sp l p).1
  · subst e
    rw [nm_place hp, nm_gen hp, if_pos rfl]
    exact .inr ⟨rfl, rfl⟩
  · rw [if_neg e] at hx
    have := h x hx
    by_cases q : x % 256 = p
    · rw [q] at this
      rw [if_pos q]
      rcases this with t | t
      · exact .inl t
      · exact .inr ⟨t.1, rfl⟩
    · rw [if_neg q]; exact this
theorem Old.gave {l : List Sp} {f : Nat → Bool} (h : Old l f) {p : Nat} (hl : p < l.length) (hg : (sp l p).1 + 1 < 16777216) : Old (l.set p (((sp l p).1 + 1) % 16777216, false)) f := by
  intro x hx
  rw [sp_set l p _ _ hl]
  have := h x hx
  by_cases q : x % 256 = p
  · rw [q] at this
    rw [if_pos q]
    simp only
    rw [Nat.mod_eq_of_lt hg]
    rcases this with t | t
    · exact .inl (by omega)
    · exact .inl (by omega)
  · rw [if_neg q]; exact this
/-- The set of names, in memory. -/
def Seen (w : World) (b n : Nat) (f : Nat → Bool) : Prop :=
  ∃ D : DataW Unit, w.ownsMap Try.prog 26 (plainElem Try.prog 4) b n D ∧ ∀ x : Nat, x < 4294967296 → D.atKey (.int .u32 (x : Int)) (.lit (.bool false)) = .lit (.bool (f x))
theorem underNm : Try.prog.underlying 26 = some (.int .u32) := by kernel_rfl
theorem underBl : Try.prog.underlying 4 = some .bool := by kernel_rfl
theorem underMp : Try.prog.underlying 51 = some (.map 26 4) := by kernel_rfl
theorem zeroBl (w : World) : (zeroValue 4).run Try.prog w = .ok (.bool false) w := by kernel_rfl
theorem keyNm : Maps.Keyed Try.prog 26 := Maps.int_keyed underNm
theorem wf32 {x : Nat} (h : x < 4294967296) : (Lit.int .u32 (x : Int)).wf = true := by
  have h1 : IntKind.u32.min = 0 := by decide
  have h2 : IntKind.u32.max = 4294967295 := by decide
  simp only [Lit.wf, h1, h2, Bool.and_eq_true, decide_eq_true_eq]
  omega
theorem key32 {x : Nat} (h : x < 4294967296) : keyOf Try.prog 26 (.int .u32 (x : Int)) = some (.int .u32 (x : Int)) := Maps.keyOf_int_mk underNm (wf32 h)
theorem lit32 {x : Nat} (h : x < 4294967296) : WideAt.IsKeyLit (.int .u32 (x : Int)) := (keyNm.one).key ⟨_, key32 h⟩
theorem lit_ne {x y : Nat} (h : y ≠ x) : (Lit.int .u32 (y : Int)) ≠ .int .u32 (x : Int) := by intro e; injection e with _ e; exact h (by omega)
theorem elem_bool {v : Value} {z : DataW Unit × List MemPlace} (h : plainElem Try.prog 4 v = some z) : ∃ x, v = .bool x ∧ z = (.lit (.bool x), []) := by
  unfold plainElem at h
  rw [underBl] at h
  cases v <;> simp at h
  exact ⟨_, rfl, h.symm⟩
section
variable {w w' : World} {b n : Nat} {f : Nat → Bool}
theorem Seen.isMap (h : Seen w b n f) : ∃ es c, w.heap[b]? = some (.map es c) := by
  obtain ⟨D, ⟨es, c, h, _⟩, _⟩ := h
  exact ⟨es, c, h⟩
theorem Seen.lt (h : Seen w b n f) : b < w.heap.size := by obtain ⟨D, h, _⟩ := h; exact h.lt
theorem Seen.kept (h : Seen w b n f) (hk : w'.heap[b]? = w.heap[b]?) : Seen w' b n f := by
  obtain ⟨D, ⟨es, c, hb, r⟩, s⟩ := h
  exact ⟨D, ⟨es, c, hk.trans hb, r⟩, s⟩
theorem Seen.made (w : World) : Seen (w.alloc (.map #[] 0)) w.heap.size 0 (fun _ => false) :=
  ⟨.map [], World.ownsMap_made w _ _ _, fun x _ => rfl⟩
theorem Seen.mono (h : Seen w b n f) {m : Nat} (hm : n ≤ m) : Seen w b m f := by
  obtain ⟨D, h, s⟩ := h
  exact ⟨D, h.mono hm, s⟩
theorem Seen.look (h : Seen w b n f) {x : Nat} (hx : x < 4294967296) : (Instr.lookup 51 (.map (some b)) (.int .u32 (x : Int)) false).run Try.prog w = .ok (.bool (f x)) w := by
  obtain ⟨D, h, s⟩ := h
  obtain ⟨v, ps, hr, hv⟩ := h.lookup keyNm underMp (zeroBl w) (plainElem_bool underBl false) (key32 hx)
  obtain ⟨y, rfl, hy⟩ := elem_bool hv
  simp only [Prod.mk.injEq] at hy
  rw [s x hx] at hy
  have : f x = y := by simpa using hy.1
  rw [hr, this]
theorem Seen.put (h : Seen w b n f) (hn : n < maxLen) {x : Nat} (hx : x < 4294967296) :
    ∃ w', (Instr.mapUpdate 51 (.map (some b)) (.int .u32 (x : Int)) (.bool true)).run Try.prog w = .ok () w' ∧ Seen w' b (n + 1) (Con.put f x) ∧ w.grownBy w' (some b) := by
  obtain ⟨D, h, s⟩ := h
  have ht := h.tidy keyNm
  obtain ⟨w', hr, ho, hg⟩ := h.update keyNm underMp hn (key32 hx) (plainElem_bool underBl true)
  refine ⟨w', hr, ⟨_, ho, fun y hy => ?_⟩, hg⟩
  unfold Con.put
  by_cases e : y = x
  · subst e
    rw [if_pos rfl, Maps.atKey_put_same ht.isMap (lit32 hx)]
  · rw [if_neg e, Maps.atKey_put_other (lit_ne e)]
    exact s y hy
end
end Go.Proofs.Ytmegbbgolmejnaa.Con
