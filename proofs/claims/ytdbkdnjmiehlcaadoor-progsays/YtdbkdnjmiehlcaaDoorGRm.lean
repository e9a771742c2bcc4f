/- The reference's ProgParse: its row, and its reading, told step by step. -/
import Derived.Test.YtdbkdnjmiehlcaaDoorGAwake
namespace Go.Proofs.YtdbkdnjmiehlcaaDoor.Con
open Go.RowKit Go.Proofs.YtdbkdnjmiehlcaaDoor.Pm
set_option linter.unusedVariables false
set_option linter.unusedSimpArgs false
theorem flat_snoc1 (acc : List St) (cur : St) : flat (acc ++ [cur]) = flat acc ++ [.int .i64 cur.1, .int .i64 cur.2] := by rw [flat_app]; rfl
theorem flat_set1 (acc : List St) (a b z : Int) : (flat (acc ++ [(a, b)])).set (acc.length * 2) (.int .i64 z) = flat (acc ++ [(z, b)]) := by
  rw [flat_snoc1, flat_snoc1, List.set_append_right _ _ (by rw [flat_len]; omega), flat_len, Nat.sub_self]; rfl
theorem flat_set2 (acc : List St) (a b z : Int) : (flat (acc ++ [(a, b)])).set (acc.length * 2 + 1) (.int .i64 z) = flat (acc ++ [(a, z)]) := by
  rw [flat_snoc1, flat_snoc1, List.set_append_right _ _ (by rw [flat_len]; omega), flat_len, show acc.length * 2 + 1 - acc.length * 2 = 1 by omega]; rfl
theorem own_set {w : World} {B e size n g cap : Nat} {xs : List Value} (h : w.ownsRow B e size (.slice (some ⟨g, 0, none⟩) n cap) n xs) (j : Nat) (u : Value) :
    (w.setCell ⟨g, j, none⟩ u).ownsRow B e size (.slice (some ⟨g, 0, none⟩) n cap) n (xs.set j u) := by
  obtain ⟨h1, ⟨h0, _⟩ | ⟨g', cap', cur, e', hb, hg, hc, hm, hx, hy⟩⟩ := h
  · cases h0
  · simp only [Value.slice.injEq, Option.some.injEq, Addr.mk.injEq, and_true, true_and] at e'
    obtain ⟨rfl, rfl⟩ := e'
    refine ⟨by rw [List.length_set]; exact h1, .inr ⟨g, cap, cur.setIfInBounds j u, rfl, hb, heap_setCell_same w g j cur _ u hg, hc, hm, by rw [Array.size_setIfInBounds]; exact hx, ?_⟩⟩
    rw [Array.toList_setIfInBounds, List.take_set, hy]
/-- The row that is read into: what is behind, and the step that is being read. -/
structure PP (W wr : World) (v : Value) (acc : List St) (cur : St) : Prop where
  row : wr.ownsRow W.heap.size 57 2 v (acc.length + 1) (flat (acc ++ [cur]))
  below : Below W.heap.size W wr
section
variable {W wr w' : World} {v : Value} {acc : List St} {cur : St}
theorem PP.at (h : PP W wr v acc cur) : ∃ g cap, v = .slice (some ⟨g, 0, none⟩) (acc.length + 1) cap ∧ acc.length + 1 ≤ cap ∧ wr.cell? ⟨g, acc.length * 2, none⟩ = some (.int .i64 cur.1) ∧ wr.cell? ⟨g, acc.length * 2 + 1, none⟩ = some (.int .i64 cur.2) ∧
    wr.frozen? ⟨g, acc.length * 2, none⟩ = false ∧ wr.frozen? ⟨g, acc.length * 2 + 1, none⟩ = false := by
  obtain ⟨h1, ⟨_, h0⟩ | ⟨g, cap, c, rfl, hb, hg, hc, hm, hx, hy⟩⟩ := h.row
  · omega
  · have hf : ∀ j, wr.frozen? ⟨g, j, none⟩ = false := fun j => by simp [World.frozen?, hg]
    have hcell : ∀ j, j < (acc.length + 1) * 2 → wr.cell? ⟨g, j, none⟩ = (flat (acc ++ [cur]))[j]? := fun j hj => by
      rw [cell_of_row wr g j c _ _ hg, ← hy, List.getElem?_take, if_pos hj]; simp
    have hat : (acc ++ [cur])[acc.length]? = some cur := by simp
    have hfl := flat_get (acc ++ [cur]) acc.length cur hat
    exact ⟨g, cap, rfl, hc, (hcell _ (by omega)).trans hfl.1, (hcell _ (by omega)).trans hfl.2, hf _, hf _⟩
theorem PP.set1 {g cap : Nat} {a b : Int} (h : PP W wr (.slice (some ⟨g, 0, none⟩) (acc.length + 1) cap) acc (a, b)) (z : Int) : PP W (wr.setCell ⟨g, acc.length * 2, none⟩ (.int .i64 z)) (.slice (some ⟨g, 0, none⟩) (acc.length + 1) cap) acc (z, b) := by
  refine ⟨?_, h.below.setCell (p := ⟨g, acc.length * 2, none⟩) (own_past h.row g rfl) _⟩
  have := own_set h.row (acc.length * 2) (.int .i64 z)
  rwa [flat_set1] at this
theorem PP.set2 {g cap : Nat} {a b : Int} (h : PP W wr (.slice (some ⟨g, 0, none⟩) (acc.length + 1) cap) acc (a, b)) (z : Int) : PP W (wr.setCell ⟨g, acc.length * 2 + 1, none⟩ (.int .i64 z)) (.slice (some ⟨g, 0, none⟩) (acc.length + 1) cap) acc (a, z) := by
  refine ⟨?_, h.below.setCell (p := ⟨g, acc.length * 2 + 1, none⟩) (own_past h.row g rfl) _⟩
  have := own_set h.row (acc.length * 2 + 1) (.int .i64 z)
  rwa [flat_set2] at this
theorem PP.drew (h : PP W wr v acc cur) : PP W wr.drew v acc cur := ⟨h.row, bel_drew h.below⟩
theorem PP.push (h : PP W wr v acc cur) {p : Option Addr} {c : Nat} (hO : w'.ownsRow W.heap.size 57 2 (.slice p (acc.length + 1 + 1) c) (acc.length + 1 + 1) (flat (acc ++ [cur]) ++ (#[Value.int .i64 0, .int .i64 0] : Array Value).toList)) (hg : wr.grownBy w' v.ownBlock) : PP W w' (.slice p (acc.length + 1 + 1) c) (acc ++ [cur]) (0, 0) := by
  refine ⟨?_, below_grown h.below h.below.size hg (own_past h.row)⟩
  rw [flat_snoc1 (acc ++ [cur]), List.length_append, List.length_singleton]
  exact hO
theorem PP.sl (h : PP W wr v acc cur) : Sl wr v (acc ++ [cur]) := by
  have := h.row
  refine Sl.own (base := W.heap.size) (e := 57) ?_
  rw [List.length_append, List.length_singleton]; exact this
end
/- The reading, told by the byte's number. -/
section
variable {l r : List UInt8} {c : UInt8} {b : Bool} {acc : List St} {cur : St} {R : Option (List St)}
theorem rgo_end (h : rgo [] b acc cur = R) : R = some (acc ++ [cur]) := h.symm
theorem rgo_many (hl : l = c :: r) (h : rgo l b acc cur = R) (h9 : 9 < acc.length + 1) : R = some (acc ++ [cur]) := by
  subst hl; rw [← h, rgo, if_pos h9]
theorem rgo_plus (hl : l = c :: r) (h : rgo l b acc cur = R) (h9 : ¬ 9 < acc.length + 1) (hc : c.toNat = 43) : rgo r false (acc ++ [cur]) (0, 0) = R := by
  subst hl; rw [← h, rgo, if_neg h9, if_pos (show c = 43 from UInt8.toNat_inj.1 (by rw [hc]; rfl))]
theorem rgo_at (hl : l = c :: r) (h : rgo l b acc cur = R) (h9 : ¬ 9 < acc.length + 1) (hc : c.toNat = 64) : rgo r true acc cur = R := by
  have e : c = 64 := UInt8.toNat_inj.1 (by rw [hc]; rfl)
  subst hl; rw [← h, rgo, if_neg h9, if_neg (by rw [e]; decide), if_pos e]
theorem rgo_bad (hl : l = c :: r) (h : rgo l b acc cur = R) (h9 : ¬ 9 < acc.length + 1) (h1 : c.toNat ≠ 43) (h2 : c.toNat ≠ 64) (h3 : isDig c = false ∨ 1099511627776 < cur.2 ∨ 1000 < cur.1) : R = none := by
  subst hl; rw [← h, rgo, if_neg h9, if_neg (by rintro rfl; exact h1 rfl), if_neg (by rintro rfl; exact h2 rfl), if_pos h3]
theorem rgo_sem (hl : l = c :: r) (h : rgo l true acc cur = R) (h9 : ¬ 9 < acc.length + 1) (h1 : c.toNat ≠ 43) (h2 : c.toNat ≠ 64) (h3 : isDig c = true) (h4 : ¬ 1099511627776 < cur.2) (h5 : ¬ 1000 < cur.1) : rgo r true acc (10 * cur.1 + dig c, cur.2) = R := by
  subst hl; rw [← h, rgo, if_neg h9, if_neg (by rintro rfl; exact h1 rfl), if_neg (by rintro rfl; exact h2 rfl), if_neg (by rw [h3]; simp; omega), if_pos rfl]
theorem rgo_num (hl : l = c :: r) (h : rgo l false acc cur = R) (h9 : ¬ 9 < acc.length + 1) (h1 : c.toNat ≠ 43) (h2 : c.toNat ≠ 64) (h3 : isDig c = true) (h4 : ¬ 1099511627776 < cur.2) (h5 : ¬ 1000 < cur.1) : rgo r false acc (cur.1, 10 * cur.2 + dig c) = R := by
  subst hl; rw [← h, rgo, if_neg h9, if_neg (by rintro rfl; exact h1 rfl), if_neg (by rintro rfl; exact h2 rfl), if_neg (by rw [h3]; simp; omega), if_neg (by simp)]
end
def rfin (R : Option (List St)) (l : List UInt8) : Option (List St) :=
  match R with
  | none => none
  | some p => if good p = true ∧ txt p = l then some p else none
theorem rparse_fin (l : List UInt8) : rparse l = rfin (rgo l false [] (0, 0)) l := by
  unfold rparse rfin; cases rgo l false [] (0, 0) <;> rfl
theorem rfin_bad {p : List St} {l : List UInt8} {R : Option (List St)} (hR : R = some p) (h : good p = false) : rfin R l = none := by
  subst hR; unfold rfin; simp [h]
theorem rfin_ne {p : List St} {l : List UInt8} {R : Option (List St)} (hR : R = some p) (hg : good p = true) (h : text p ≠ l) : rfin R l = none := by
  subst hR; rw [text_good hg] at h; unfold rfin; simp [h]
theorem rfin_eq {p : List St} {l : List UInt8} {R : Option (List St)} (hR : R = some p) (hg : good p = true) (h : text p = l) : rfin R l = some p := by
  subst hR; rw [text_good hg] at h; unfold rfin; simp [h, hg]
theorem rfin_none {l : List UInt8} {R : Option (List St)} (hR : R = none) : rfin R l = none := by subst hR; rfl
end Go.Proofs.YtdbkdnjmiehlcaaDoor.Con
