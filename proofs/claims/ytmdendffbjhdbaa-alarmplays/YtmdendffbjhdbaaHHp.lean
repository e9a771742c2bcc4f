/- A heap in memory. -/
import Derived.Test.YtmdendffbjhdbaaHMem
namespace Go.Proofs.Ytmdendffbjhdbaa.Con
open Go.RowKit Go.Proofs.Ytmdendffbjhdbaa.Hq
set_option linter.unusedVariables false
/-- The items' cells. -/
def cellv (l : List It) (j : Nat) : Value := if j % 2 = 0 then .int .i64 (at' l (j / 2)).1 else .int .i64 (at' l (j / 2)).2
def flat (l : List It) : List Value := (List.range (l.length * 2)).map (cellv l)
theorem flat_len (l : List It) : (flat l).length = l.length * 2 := by simp [flat]
theorem flat_get (l : List It) (j : Nat) (h : j < l.length * 2) : (flat l)[j]? = some (cellv l j) := by
  unfold flat; rw [List.getElem?_map, List.getElem?_range h]; rfl
theorem flat_snoc (l : List It) (x : It) : flat (l ++ [x]) = flat l ++ [.int .i64 x.1, .int .i64 x.2] := by
  apply List.ext_getElem?
  intro j
  have hl : (l ++ [x]).length = l.length + 1 := by simp
  by_cases h : j < l.length * 2
  · rw [flat_get _ _ (by omega), List.getElem?_append_left (by rw [flat_len]; exact h), flat_get _ _ h]
    unfold cellv
    rw [at_snoc, if_neg (show ¬ j / 2 = l.length by omega)]
  · rw [List.getElem?_append_right (by rw [flat_len]; omega), flat_len]
    by_cases h0 : j = l.length * 2
    · rw [flat_get _ _ (by omega)]
      unfold cellv
      rw [at_snoc, if_pos (show j / 2 = l.length by omega), if_pos (show j % 2 = 0 by omega), h0, Nat.sub_self]; rfl
    · by_cases h1 : j = l.length * 2 + 1
      · rw [flat_get _ _ (by omega)]
        unfold cellv
        rw [at_snoc, if_pos (show j / 2 = l.length by omega), if_neg (show ¬ j % 2 = 0 by omega), h1, show l.length * 2 + 1 - l.length * 2 = 1 by omega]; rfl
      · rw [List.getElem?_eq_none (by rw [flat_len]; omega), List.getElem?_eq_none (by simp; omega)]
/-- The row of items: of a slice value. -/
def Row (W : World) (v : Value) (l : List It) : Prop := W.ownsRow 0 63 2 v l.length (flat l)
theorem Row.form {W : World} {v : Value} {l : List It} (h : Row W v l) (hl : 0 < l.length) : ∃ g cap cur, v = .slice (some ⟨g, 0, none⟩) l.length cap ∧ W.heap[g]? = some (.cells cur 63 (0, 0)) ∧ l.length ≤ cap ∧ cap ≤ maxLen ∧ cur.size = cap * 2 ∧ ∀ j, j < l.length * 2 → cur[j]? = some (cellv l j) := by
  obtain ⟨h1, ⟨_, h2⟩ | ⟨g, cap, cur, rfl, _, hg, hn, hm, hs, ht⟩⟩ := h
  · omega
  · refine ⟨g, cap, cur, rfl, hg, hn, hm, hs, ?_⟩
    intro j hj
    have := flat_get l j hj
    rw [← ht, List.getElem?_take, if_pos hj] at this
    rw [← this]; simp
theorem Row.of {W : World} {g cap : Nat} {cur : Array Value} {l : List It} (hg : W.heap[g]? = some (.cells cur 63 (0, 0))) (hn : l.length ≤ cap) (hm : cap ≤ maxLen) (hs : cur.size = cap * 2) (hc : ∀ j, j < l.length * 2 → cur[j]? = some (cellv l j)) :
    Row W (.slice (some ⟨g, 0, none⟩) l.length cap) l := by
  refine ⟨flat_len l, .inr ⟨g, cap, cur, rfl, Nat.zero_le _, hg, hn, hm, hs, ?_⟩⟩
  apply List.ext_getElem?
  intro j
  by_cases h : j < l.length * 2
  · rw [List.getElem?_take, if_pos h, flat_get l j h, ← hc j h]; simp
  · rw [List.getElem?_take, if_neg h, List.getElem?_eq_none (by rw [flat_len]; omega)]
theorem Row.kept {W W' : World} {v : Value} {l : List It} (h : Row W v l) (hk : ∀ k, v.ownBlock = some k → W'.heap[k]? = W.heap[k]?) : Row W' v l := by
  obtain ⟨h1, ⟨h0, h2⟩ | ⟨g, cap, cur, rfl, h0, hg, r⟩⟩ := h
  · exact ⟨h1, .inl ⟨h0, h2⟩⟩
  · exact ⟨h1, .inr ⟨g, cap, cur, rfl, h0, (hk g rfl).trans hg, r⟩⟩
theorem Row.blk {W : World} {v : Value} {l : List It} (h : Row W v l) {k : Nat} (hk : v.ownBlock = some k) : k < W.heap.size ∧ ∃ cur, W.heap[k]? = some (.cells cur 63 (0, 0)) := by
  obtain ⟨h1, ⟨rfl, h2⟩ | ⟨g, cap, cur, rfl, h0, hg, r⟩⟩ := h
  · simp [Value.ownBlock] at hk
  · simp [Value.ownBlock] at hk
    subst hk
    exact ⟨(Array.getElem?_eq_some_iff.1 hg).1, cur, hg⟩
/-- Where an id is. -/
def pos (l : List It) (x : Int) : Option Int := (l.findIdx? (fun y => decide (y.1 = x))).map (fun n : Nat => (n : Int))
theorem pos_some {l : List It} (hd : Ids l) {i : Nat} (hi : i < l.length) : pos l (at' l i).1 = some (i : Int) := by
  unfold pos
  have : l.findIdx? (fun y => decide (y.1 = (at' l i).1)) = some i := by
    rw [List.findIdx?_eq_some_iff_getElem]
    have ge : ∀ k (hk : k < l.length), l[k] = at' l k := by
      intro k hk
      have := at_eq hk
      rw [List.getElem?_eq_getElem hk] at this
      simpa using this
    refine ⟨hi, by rw [ge i hi]; simp, ?_⟩
    intro j hj
    rw [ge j (by omega)]
    have : (at' l j).1 ≠ (at' l i).1 := fun e => by have := hd.inj (by omega) hi e; omega
    simpa using this
  rw [this]; rfl
theorem pos_none {l : List It} {x : Int} (h : ∀ y ∈ l, y.1 ≠ x) : pos l x = none := by
  unfold pos
  have : l.findIdx? (fun y => decide (y.1 = x)) = none := by
    rw [List.findIdx?_eq_none_iff]
    intro y hy
    simpa using h y hy
  rw [this]; rfl
theorem pos_cases {l : List It} (hd : Ids l) (x : Int) : (∃ i, i < l.length ∧ (at' l i).1 = x ∧ pos l x = some (i : Int)) ∨ ((∀ y ∈ l, y.1 ≠ x) ∧ pos l x = none) := by
  by_cases h : ∃ y ∈ l, y.1 = x
  · obtain ⟨y, hy, rfl⟩ := h
    obtain ⟨i, hi, rfl⟩ := mem_at hy
    exact .inl ⟨i, hi, rfl, pos_some hd hi⟩
  · have h' : ∀ y ∈ l, y.1 ≠ x := fun y hy e => h ⟨y, hy, e⟩
    exact .inr ⟨h', pos_none h'⟩
/-- The heap at hb: its places at mb, its items the slice v. -/
structure Hp (W : World) (hb mb : Nat) (most : Int) (g : Bool) (v : Value) (l : List It) : Prop where
  str : W.heap[hb]? = some (.cells #[.int .i64 most, .bool g, v, .map (some mb)] 73 (0, 0))
  row : Row W v l
  map : Mp 3 W mb l.length (pos l)
  ids : Ids l
  fit : ∀ x ∈ l, in64 x.1 ∧ in64 x.2
/-- What a call on it may turn. -/
structure Turn (W W' : World) (hb mb : Nat) (v v' : Value) : Prop where
  os : W'.os = W.os
  tape : W'.tape = W.tape
  output : W'.output = W.output
  size : W.heap.size ≤ W'.heap.size
  block : ∀ k, k < W.heap.size → k ≠ hb → k ≠ mb → some k ≠ v.ownBlock → W'.heap[k]? = W.heap[k]?
  own : ∀ k, v'.ownBlock = some k → v.ownBlock = some k ∨ W.heap.size ≤ k
section
variable {W W' W'' : World} {hb mb : Nat} {most : Int} {g : Bool} {v v' v'' : Value} {l : List It}
theorem Turn.refl (W : World) (hb mb : Nat) (v : Value) : Turn W W hb mb v v := ⟨rfl, rfl, rfl, Nat.le_refl _, fun _ _ _ _ _ => rfl, fun _ h => .inl h⟩
theorem Turn.trans (h : Turn W W' hb mb v v') (k : Turn W' W'' hb mb v' v'') : Turn W W'' hb mb v v'' where
  os := k.os.trans h.os
  tape := k.tape.trans h.tape
  output := k.output.trans h.output
  size := Nat.le_trans h.size k.size
  block := fun i hi h1 h2 h3 => (k.block i (by have := h.size; omega) h1 h2 (fun e => by
    rcases h.own i e.symm with e' | e'
    · exact h3 e'.symm
    · omega)).trans (h.block i hi h1 h2 h3)
  own := fun i hi => by
    rcases k.own i hi with e | e
    · exact h.own i e
    · exact .inr (by have := h.size; omega)
theorem Turn.below (h : Below W.heap.size W W') (hb mb : Nat) (v : Value) : Turn W W' hb mb v v := ⟨h.os, h.tape, h.output, h.size, fun k hk _ _ _ => h.block k hk, fun _ e => .inl e⟩
theorem Hp.lt (h : Hp W hb mb most g v l) : hb < W.heap.size := (Array.getElem?_eq_some_iff.1 h.str).1
theorem Hp.ne (h : Hp W hb mb most g v l) : mb ≠ hb := by
  obtain ⟨es, c, hm⟩ := h.map.isMap
  rintro rfl
  rw [h.str] at hm; cases hm
theorem Hp.row_hb (h : Hp W hb mb most g v l) : v.ownBlock ≠ some hb := by
  intro e
  obtain ⟨_, cur, hc⟩ := h.row.blk e
  rw [h.str] at hc; cases hc
theorem Hp.row_mb (h : Hp W hb mb most g v l) : v.ownBlock ≠ some mb := by
  intro e
  obtain ⟨_, cur, hc⟩ := h.row.blk e
  obtain ⟨es, c, hm⟩ := h.map.isMap
  rw [hm] at hc; cases hc
theorem Hp.kept (h : Hp W hb mb most g v l) (hk : ∀ k, k < W.heap.size → (k = hb ∨ k = mb ∨ v.ownBlock = some k) → W'.heap[k]? = W.heap[k]?) : Hp W' hb mb most g v l where
  str := (hk hb h.lt (.inl rfl)).trans h.str
  row := h.row.kept fun k e => hk k (h.row.blk e).1 (.inr (.inr e))
  map := h.map.kept (hk mb h.map.lt (.inr (.inl rfl)))
  ids := h.ids
  fit := h.fit
theorem Hp.below (h : Hp W hb mb most g v l) (hB : Below W.heap.size W W') : Hp W' hb mb most g v l := h.kept fun k hk _ => hB.block k hk
theorem Hp.cells (h : Hp W hb mb most g v l) : W.cell? ⟨hb, 0, none⟩ = some (.int .i64 most) ∧ W.cell? ⟨hb, 1, none⟩ = some (.bool g) ∧ W.cell? ⟨hb, 2, none⟩ = some v ∧ W.cell? ⟨hb, 3, none⟩ = some (.map (some mb)) := by
  refine ⟨?_, ?_, ?_, ?_⟩ <;> (rw [cell_of_row W hb _ _ _ _ h.str]; rfl)
theorem Hp.frozen (h : Hp W hb mb most g v l) (j : Nat) : W.frozen? ⟨hb, j, none⟩ = false := by
  have := h.str
  simp [World.frozen?, this]
/-- The cells of the one at i. -/
theorem Hp.item (h : Hp W hb mb most g v l) {r cap : Nat} (hv : v = .slice (some ⟨r, 0, none⟩) l.length cap) (i : Nat) (hi : i < l.length) :
    W.cell? ⟨r, i * 2, none⟩ = some (.int .i64 (at' l i).1) ∧ W.cell? ⟨r, i * 2 + 1, none⟩ = some (.int .i64 (at' l i).2) ∧ W.frozen? ⟨r, i * 2, none⟩ = false ∧ W.frozen? ⟨r, i * 2 + 1, none⟩ = false := by
  obtain ⟨r', cap', cur, e, hg, _, _, hs, hc⟩ := h.row.form (by omega)
  rw [hv] at e
  simp at e
  obtain ⟨rfl, rfl⟩ := e
  refine ⟨?_, ?_, ?_, ?_⟩
  · rw [cell_of_row W r _ _ _ _ hg, hc _ (by omega)]
    unfold cellv; rw [if_pos (by omega), show i * 2 / 2 = i by omega]
  · rw [cell_of_row W r _ _ _ _ hg, hc _ (by omega)]
    unfold cellv; rw [if_neg (by omega), show (i * 2 + 1) / 2 = i by omega]
  · simp [World.frozen?, hg]
  · simp [World.frozen?, hg]
theorem Hp.form (h : Hp W hb mb most g v l) (hl : 0 < l.length) : ∃ r cap, v = .slice (some ⟨r, 0, none⟩) l.length cap ∧ l.length ≤ cap ∧ cap ≤ maxLen := by
  obtain ⟨r, cap, cur, e, _, h1, h2, _⟩ := h.row.form hl
  exact ⟨r, cap, e, h1, h2⟩
end
end Go.Proofs.Ytmdendffbjhdbaa.Con
