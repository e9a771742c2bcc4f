/- What an exchange of two items leaves. -/
import Derived.Test.YtmdendffbjhdbaaHAhead
namespace Go.Proofs.Ytmdendffbjhdbaa.Con
open Go.RowKit Go.Proofs.Ytmdendffbjhdbaa.Hq
set_option linter.unusedVariables false
theorem underM : Try.prog.underlying 70 = some (.map 3 3) := by kernel_rfl
theorem underI : Try.prog.underlying 3 = some (.int .i64) := by kernel_rfl
theorem zeroI (w : World) : (zeroValue 3).run Try.prog w = .ok (.int .i64 0) w := by kernel_rfl
/-- Nothing but a block has turned. -/
theorem grown_set {W w : World} {r : Nat} (h : W.grownBy w (some r)) (a : Addr) (ha : a.block = r) (u : Value) : W.grownBy (w.setCell a u) (some r) where
  os := h.os
  tape := h.tape
  output := h.output
  size := by simpa using h.size
  block := fun k hk hne => (heap_setCell_other w a k u (fun e => hne (by rw [e, ha]))).trans (h.block k hk hne)
theorem grown_refl (W : World) (r : Option Nat) : W.grownBy W r := ⟨rfl, rfl, rfl, Nat.le_refl _, fun _ _ _ => rfl⟩
theorem grown_drew {W w : World} {r : Option Nat} (h : W.grownBy w r) : W.grownBy w.drew r := ⟨h.os, h.tape, h.output, h.size, h.block⟩
def swapW (W : World) (r i j : Nat) (l : List It) : World :=
  ((((W.setCell ⟨r, i * 2, none⟩ (.int .i64 (at' l j).1)).setCell ⟨r, i * 2 + 1, none⟩ (.int .i64 (at' l j).2)).setCell ⟨r, j * 2, none⟩ (.int .i64 (at' l i).1)).setCell ⟨r, j * 2 + 1, none⟩ (.int .i64 (at' l i).2)).drew
theorem swapW_grown (W : World) (r i j : Nat) (l : List It) : W.grownBy (swapW W r i j l) (some r) := by
  unfold swapW
  refine grown_drew ?_
  refine grown_set (r := r) ?_ _ rfl _
  refine grown_set (r := r) ?_ _ rfl _
  refine grown_set (r := r) ?_ _ rfl _
  refine grown_set (r := r) ?_ _ rfl _
  exact grown_refl W _
theorem swapW_row {W : World} {r cap i j : Nat} {l : List It} (h : Row W (.slice (some ⟨r, 0, none⟩) l.length cap) l) (hi : i < l.length) (hj : j < l.length) : Row (swapW W r i j l) (.slice (some ⟨r, 0, none⟩) l.length cap) (swp l i j) := by
  obtain ⟨r', cap', cur, e, hg, hn, hm, hs, hc⟩ := h.form (by omega)
  simp at e
  obtain ⟨rfl, rfl⟩ := e
  have h1 := heap_setCell_same W r (i * 2) cur _ (.int .i64 (at' l j).1) hg
  have h2 := heap_setCell_same _ r (i * 2 + 1) _ _ (.int .i64 (at' l j).2) h1
  have h3 := heap_setCell_same _ r (j * 2) _ _ (.int .i64 (at' l i).1) h2
  have h4 := heap_setCell_same _ r (j * 2 + 1) _ _ (.int .i64 (at' l i).2) h3
  have := Row.of (W := swapW W r i j l) (l := swp l i j) (cap := cap) h4 (by rw [swp_length]; exact hn) hm (by simp [hs]) ?_
  · rw [swp_length] at this; exact this
  · intro k hk
    rw [swp_length] at hk
    have hck := hc k hk
    have hsz : k < cur.size := by omega
    unfold cellv at hck ⊢
    rw [at_swp l i j _ hi hj]
    rw [Array.getElem?_setIfInBounds, Array.getElem?_setIfInBounds, Array.getElem?_setIfInBounds, Array.getElem?_setIfInBounds]
    simp only [Array.size_setIfInBounds]
    by_cases e1 : k / 2 = j
    · rw [if_pos e1]
      by_cases p : k % 2 = 0
      · rw [if_neg (by omega), if_pos (by omega), if_pos (by omega), if_pos p]
      · rw [if_pos (by omega), if_pos (by omega), if_neg p]
    · rw [if_neg (by omega), if_neg (by omega), if_neg e1]
      by_cases e2 : k / 2 = i
      · rw [if_pos e2]
        by_cases p : k % 2 = 0
        · rw [if_neg (by omega), if_pos (by omega), if_pos (by omega), if_pos p]
        · rw [if_pos (by omega), if_pos (by omega), if_neg p]
      · rw [if_neg (by omega), if_neg (by omega), if_neg e2]; exact hck
theorem pos_swp {l : List It} (hd : Ids l) {i j : Nat} (hi : i < l.length) (hj : j < l.length) (x : Int) : pos (swp l i j) x = upd (upd (pos l) (at' l j).1 (some (i : Int))) (at' l i).1 (some (j : Int)) x := by
  have hd' : Ids (swp l i j) := hd.perm (swp_perm l i j hi hj)
  have A := fun k => at_swp l i j k hi hj
  have hl := swp_length l i j
  unfold upd
  by_cases e1 : x = (at' l i).1
  · rw [if_pos e1]
    have := pos_some hd' (i := j) (by omega)
    rw [A, if_pos rfl] at this
    rw [e1]; exact this
  · rw [if_neg e1]
    by_cases e2 : x = (at' l j).1
    · rw [if_pos e2]
      have := pos_some hd' (i := i) (by omega)
      rw [A] at this
      by_cases e3 : i = j
      · subst e3; exact absurd e2 e1
      · rw [if_neg e3, if_pos rfl] at this
        rw [e2]; exact this
    · rw [if_neg e2]
      rcases pos_cases hd x with ⟨k, hk, e, hp⟩ | ⟨hne, hp⟩
      · have := pos_some hd' (i := k) (by omega)
        rw [A, if_neg (by rintro rfl; exact e2 e.symm), if_neg (by rintro rfl; exact e1 e.symm), e] at this
        rw [this, hp]
      · rw [hp]
        exact pos_none fun y hy => hne y ((swp_perm l i j hi hj).mem_iff.1 hy)
end Go.Proofs.Ytmdendffbjhdbaa.Con
