/- The sort's row: exchanges within a range, and what they keep. -/
import Derived.Test.YtocgeplpehioeaaHOne
import Derived.BigRegion
namespace Go.Proofs.Ytocgeplpehioeaa.Con
open Go.RowKit Go.Proofs.Ytocgeplpehioeaa.Hq
set_option linter.unusedVariables false
set_option linter.unusedSimpArgs false
/-- Two places that may be exchanged. -/
structure Rng0 (a b : Nat) (q : List It) (i j : Nat) : Prop where
  ai : a ≤ i
  ib : i < b
  aj : a ≤ j
  jb : j < b
  il : i < q.length
  jl : j < q.length
/-- Exchanges of places from a on, ahead of b. -/
def Rng (a b : Nat) (m m' : List It) : Prop :=
  ∀ P : List It → Prop, P m → (∀ (q : List It) (i j : Nat), Rng0 a b q i j → P q → P (swp q i j)) → P m'
theorem Rng.refl {a b : Nat} (m : List It) : Rng a b m m := fun _ h _ => h
theorem Rng.step {a b : Nat} {m m' : List It} (i j : Nat) (h : Rng a b m m') (h1 : a ≤ i) (h2 : i < b) (h3 : a ≤ j) (h4 : j < b) (h5 : i < m'.length) (h6 : j < m'.length) : Rng a b m (swp m' i j) :=
  fun P p s => s m' i j ⟨h1, h2, h3, h4, h5, h6⟩ (h P p s)
theorem Rng.trans {a b : Nat} {m m' m'' : List It} (h : Rng a b m m') (k : Rng a b m' m'') : Rng a b m m'' :=
  fun P p s => k P (h P p s) s
theorem Rng.mono {a b a' b' : Nat} {m m' : List It} (h : Rng a b m m') (ha : a' ≤ a) (hb : b ≤ b') : Rng a' b' m m' :=
  fun P p s => h P p fun q i j r => s q i j ⟨by have := r.1; omega, by have := r.2; omega, by have := r.3; omega, by have := r.4; omega, r.5, r.6⟩
theorem Rng.length {a b : Nat} {m m' : List It} (h : Rng a b m m') : m'.length = m.length :=
  h (fun q => q.length = m.length) rfl fun q i j _ ih => by rw [swp_length, ih]
theorem Rng.perm {a b : Nat} {m m' : List It} (h : Rng a b m m') : m'.Perm m :=
  h (fun q => q.Perm m) (.refl _) fun q i j r ih => (swp_perm _ i j r.5 r.6).trans ih
theorem Rng.out {a b : Nat} {m m' : List It} (h : Rng a b m m') {k : Nat} (hk : k < a ∨ b ≤ k) : at' m' k = at' m k :=
  h (fun q => at' q k = at' m k) rfl fun q i j r ih => by
    have := r.1; have := r.2; have := r.3; have := r.4
    rw [at_swp _ i j k r.5 r.6, if_neg (by omega), if_neg (by omega), ih]
theorem Rng.all {a b : Nat} {m m' : List It} (h : Rng a b m m') {P : It → Prop} (hp : ∀ i, a ≤ i → i < b → P (at' m i)) : ∀ i, a ≤ i → i < b → P (at' m' i) :=
  h (fun q => ∀ i, a ≤ i → i < b → P (at' q i)) hp fun q i j r ih => by
    intro k k1 k2
    rw [at_swp _ i j k r.5 r.6]
    split
    · exact ih i r.1 r.2
    · split
      · exact ih j r.3 r.4
      · exact ih k k1 k2
/-- In order from a on, ahead of b. -/
def Srt (g : Bool) (a b : Nat) (m : List It) : Prop := ∀ i, a < i → i < b → le g (at' m (i - 1)) (at' m i)
theorem Srt.le {g : Bool} {a b : Nat} {m : List It} (h : Srt g a b m) : ∀ i j, a ≤ i → i ≤ j → j < b → Hq.le g (at' m i) (at' m j) := by
  intro i j h1 h2 h3
  obtain ⟨d, rfl⟩ : ∃ d, j = i + d := ⟨j - i, by omega⟩
  induction d with
  | zero => exact le_refl _ _
  | succ d ih => exact le_trans (ih (by omega) (by omega)) (by have := h (i + (d + 1)) (by omega) h3; rwa [show i + (d + 1) - 1 = i + d by omega] at this)
/-- The row at r holds m; of what lay in W0 nothing else has turned. -/
structure So (W0 : World) (hb r : Nat) (g : Bool) (m : List It) (W : World) : Prop where
  row : W.heap[r]? = some (.cells (flat m).toArray 29 (0, 0))
  grown : W0.grownBy W (some r)
  gr : W0.cell? ⟨hb, 1, none⟩ = some (.bool g)
  ne : hb ≠ r
  ids : Ids m
  len : m.length ≤ 1024
section
variable {W0 W W' : World} {hb r : Nat} {g : Bool} {m : List It}
theorem So.great (h : So W0 hb r g m W) : W.cell? ⟨hb, 1, none⟩ = some (.bool g) := h.grown.cell h.gr (fun e => h.ne (by simpa using e))
theorem So.rlt (h : So W0 hb r g m W) : r < W.heap.size := (Array.getElem?_eq_some_iff.1 h.row).1
theorem So.hlt (h : So W0 hb r g m W) : hb < W.heap.size := World.block_lt_of_cell? W _ h.great
theorem So.below (h : So W0 hb r g m W) (hB : Below W.heap.size W W') : So W0 hb r g m W' :=
  ⟨(hB.block r h.rlt).trans h.row, ⟨hB.os.trans h.grown.os, hB.tape.trans h.grown.tape, hB.output.trans h.grown.output, Nat.le_trans h.grown.size hB.size, fun k hk hne => (hB.block k (by have := h.grown.size; omega)).trans (h.grown.block k hk hne)⟩, h.gr, h.ne, h.ids, h.len⟩
theorem So.drew (h : So W0 hb r g m W) : So W0 hb r g m W.drew := ⟨h.row, ⟨h.grown.os, h.grown.tape, h.grown.output, h.grown.size, h.grown.block⟩, h.gr, h.ne, h.ids, h.len⟩
theorem So.item (h : So W0 hb r g m W) (i : Nat) (hi : i < m.length) : W.cell? ⟨r, i * 2, none⟩ = some (.int .i64 (at' m i).1) ∧ W.cell? ⟨r, i * 2 + 1, none⟩ = some (.int .i64 (at' m i).2) ∧ W.frozen? ⟨r, i * 2, none⟩ = false ∧ W.frozen? ⟨r, i * 2 + 1, none⟩ = false := by
  have hr := h.row
  refine ⟨?_, ?_, by simp [World.frozen?, hr], by simp [World.frozen?, hr]⟩
  · rw [cell_of_row W r _ _ _ _ hr, List.getElem?_toArray, flat_get m _ (by omega)]
    unfold cellv; rw [if_pos (by omega), show i * 2 / 2 = i by omega]
  · rw [cell_of_row W r _ _ _ _ hr, List.getElem?_toArray, flat_get m _ (by omega)]
    unfold cellv; rw [if_neg (by omega), show (i * 2 + 1) / 2 = i by omega]
theorem So.swap (h : So W0 hb r g m W) {i j : Nat} (hi : i < m.length) (hj : j < m.length) {x0 x1 y0 y1 : Int} (hx0 : (at' m i).1 = x0) (hx1 : (at' m i).2 = x1) (hy0 : (at' m j).1 = y0) (hy1 : (at' m j).2 = y1) :
    So W0 hb r g (swp m i j) (((((W.setCell ⟨r, i * 2, none⟩ (.int .i64 y0)).setCell ⟨r, i * 2 + 1, none⟩ (.int .i64 y1)).setCell ⟨r, j * 2, none⟩ (.int .i64 x0)).setCell ⟨r, j * 2 + 1, none⟩ (.int .i64 x1))).drew := by
  have e : (((((W.setCell ⟨r, i * 2, none⟩ (.int .i64 y0)).setCell ⟨r, i * 2 + 1, none⟩ (.int .i64 y1)).setCell ⟨r, j * 2, none⟩ (.int .i64 x0)).setCell ⟨r, j * 2 + 1, none⟩ (.int .i64 x1))).drew = swapW W r i j m := by
    unfold swapW; rw [hx0, hx1, hy0, hy1]
  rw [e]
  have hG := swapW_grown W r i j m
  have hrow : Row W (.slice (some ⟨r, 0, none⟩) m.length m.length) m := Row.of h.row (Nat.le_refl _) (by have := h.len; unfold maxLen; omega) (by simp [flat_len]) (fun k hk => by rw [List.getElem?_toArray, flat_get m k hk])
  obtain ⟨r', cap', cur, e1, hg, _, _, hs, hc⟩ := (swapW_row hrow hi hj).form (by rw [swp_length]; omega)
  simp at e1
  obtain ⟨rfl, _, rfl⟩ := e1
  refine ⟨?_, ⟨hG.os.trans h.grown.os, hG.tape.trans h.grown.tape, hG.output.trans h.grown.output, Nat.le_trans h.grown.size hG.size, fun k hk hne => (hG.block k (by have := h.grown.size; omega) hne).trans (h.grown.block k hk hne)⟩, h.gr, h.ne, h.ids.perm (swp_perm m i j hi hj), by rw [swp_length]; exact h.len⟩
  rw [hg]
  congr 2
  apply Array.ext_getElem?
  intro k
  by_cases hk : k < m.length * 2
  · rw [hc k (by rw [swp_length]; exact hk), List.getElem?_toArray, flat_get _ _ (by rw [swp_length]; exact hk)]
  · rw [Array.getElem?_eq_none (by omega), Array.getElem?_eq_none (by simp [flat_len, swp_length]; omega)]
theorem so_cmp (h : So W0 hb r g m W) (x y : It) : Calls Try.prog 27 #[.pointer (some ⟨hb, 0, none⟩), .agg #[.int .i64 x.1, .int .i64 x.2], .agg #[.int .i64 y.1, .int .i64 y.2]] W fun e w' => e = .returned (.int .i64 (cf g x y)) ∧ Below W.heap.size W w' :=
  compare_any hb g x.1 x.2 y.1 y.2 W h.great
end
/-- What a walk must know to exchange i and j. -/
theorem four_cells {W : World} (r i j : Nat) {y0 y1 : Int} (b0 : W.cell? ⟨r, j * 2, none⟩ = some (.int .i64 y0)) (b1 : W.cell? ⟨r, j * 2 + 1, none⟩ = some (.int .i64 y1)) :
    (∃ z, (W.setCell ⟨r, i * 2, none⟩ (.int .i64 y0)).cell? ⟨r, j * 2, none⟩ = some z) ∧ (∃ z, (W.setCell ⟨r, i * 2, none⟩ (.int .i64 y0)).cell? ⟨r, j * 2 + 1, none⟩ = some z) ∧ (∃ z, (W.setCell ⟨r, i * 2 + 1, none⟩ (.int .i64 y1)).cell? ⟨r, j * 2 + 1, none⟩ = some z) ∧
      (∃ z, ((W.setCell ⟨r, i * 2, none⟩ (.int .i64 y0)).setCell ⟨r, i * 2 + 1, none⟩ (.int .i64 y1)).cell? ⟨r, j * 2 + 1, none⟩ = some z) := by
  obtain ⟨z, hz⟩ := cell?_setCell_some (w := W) (p := ⟨r, i * 2, none⟩) (x := .int .i64 y0) (q := ⟨r, j * 2 + 1, none⟩) b1
  exact ⟨cell?_setCell_some b0, ⟨z, hz⟩, cell?_setCell_some b1, cell?_setCell_some hz⟩
end Go.Proofs.Ytocgeplpehioeaa.Con
