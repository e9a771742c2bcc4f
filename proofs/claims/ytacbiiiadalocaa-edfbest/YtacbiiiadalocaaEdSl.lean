/- Slices of entries that are read; rows of bools, of ints. -/
import Derived.Test.YtacbiiiadalocaaEdPl
import Derived.BigQuiet
import Derived.Deep.QuietTactic
import Derived.OwnWalk
import Derived.Deep.CutBlock
import Derived.Deep.CutRange
import Derived.Laws.ResultCell
import Derived.Deep.OwnRows
import Derived.Test.YtacbiiiadalocaaApd
namespace Go.Proofs.Ytacbiiiadalocaa.Ed
open Go.RowKit Go.Proofs.Ytacbiiiadalocaa.Con
set_option linter.unusedVariables false
set_option linter.unusedSimpArgs false
abbrev Nx (w w' : World) : Prop := Below w.heap.size w w'
theorem Nx.trans {a b c : World} (h : Nx a b) (k : Nx b c) : Nx a c := Below.trans h (Below.mono k h.size)
theorem Nx.refl (a : World) : Nx a a := Below.refl _ _
theorem bel1 {W : World} (o : Obj) : Below W.heap.size W (W.alloc o) := (Below.refl _ W).alloc (Nat.le_refl _) o
theorem Nx.alloc (w : World) (o : Obj) : Nx w (w.alloc o) := bel1 o
theorem bel_alloc2 {W w : World} (h : Below W.heap.size W w) (o : Obj) : Below W.heap.size W (w.alloc o) := h.alloc h.size o
theorem bel_drewN {B : Nat} {a w : World} (h : Below B a w) (n : Nat) : Below B a (w.drewN n) := ⟨h.os, h.tape, h.output, h.size, h.block⟩
theorem ret2 {a b : Value} {c d : Value} (h : a = c) (h' : b = d) : Ending.returned (.tuple #[a, b]) = .returned (.tuple #[c, d]) := by rw [h, h']
abbrev ev (e : Et) : Value := .agg #[.int .i64 e.1, .int .i64 e.2.1, .bool e.2.2]
def flatE : List Et → List Value
  | [] => []
  | e :: l => .int .i64 e.1 :: .int .i64 e.2.1 :: .bool e.2.2 :: flatE l
theorem flatE_len (l : List Et) : (flatE l).length = l.length * 3 := by
  induction l with
  | nil => rfl
  | cons s l ih => simp only [flatE, List.length_cons, ih]; omega
theorem flatE_app (a b : List Et) : flatE (a ++ b) = flatE a ++ flatE b := by
  induction a with
  | nil => rfl
  | cons s a ih => simp [flatE, ih]
theorem flatE_one : ∀ (l : List Et), ∀ u ∈ flatE l, u.oneCell' = true := by
  intro l
  induction l with
  | nil => intro u hu; cases hu
  | cons s l ih =>
    intro u hu
    simp only [flatE, List.mem_cons] at hu
    rcases hu with rfl | rfl | rfl | hu
    · rfl
    · rfl
    · rfl
    · exact ih u hu
theorem flatE_get : ∀ (l : List Et) (j : Nat) (s : Et), l[j]? = some s → (flatE l)[j * 3]? = some (.int .i64 s.1) ∧ (flatE l)[j * 3 + 1]? = some (.int .i64 s.2.1) ∧ (flatE l)[j * 3 + 2]? = some (.bool s.2.2) := by
  intro l
  induction l with
  | nil => intro j s h; simp at h
  | cons x l ih =>
    intro j s h
    cases j with
    | zero =>
      simp only [List.getElem?_cons_zero, Option.some.injEq] at h
      subst h
      exact ⟨rfl, rfl, rfl⟩
    | succ j =>
      rw [List.getElem?_cons_succ] at h
      have := ih j s h
      rw [show (j + 1) * 3 = j * 3 + 1 + 1 + 1 by omega]
      simpa [flatE] using this
theorem flatE_snoc (l : List Et) (k : Nat) (h : k < l.length) : flatE (l.take (k + 1)) = flatE (l.take k) ++ [.int .i64 (at' l k).1, .int .i64 (at' l k).2.1, .bool (at' l k).2.2] := by
  rw [take_snoc l k h, flatE_app]; rfl
theorem flatE_snoc1 (l : List Et) (e : Et) : flatE (l ++ [e]) = flatE l ++ [.int .i64 e.1, .int .i64 e.2.1, .bool e.2.2] := by rw [flatE_app]; rfl
/-- A slice of entries that is read. -/
abbrev Sl (W : World) (v : Value) (L : List Et) : Prop := RdC W W.heap.size 3 v L.length (flatE L)
theorem Sl.form {W : World} {v : Value} {L : List Et} (h : Sl W v L) : ∃ p cap, v = .slice p L.length cap ∧ L.length ≤ cap ∧ cap ≤ maxLen := by
  obtain ⟨_, p, cap, rfl, h1, h2, _⟩ := h
  exact ⟨p, cap, rfl, h1, h2⟩
theorem Sl.at {W : World} {p : Option Addr} {n cap : Nat} {L : List Et} (h : Sl W (.slice p n cap) L) {k : Nat} (hk : k < L.length) :
    ∃ b o, p = some ⟨b, o, none⟩ ∧ b < W.heap.size ∧ W.cell? ⟨b, o + k * 3, none⟩ = some (.int .i64 (at' L k).1) ∧ W.cell? ⟨b, o + k * 3 + 1, none⟩ = some (.int .i64 (at' L k).2.1) ∧ W.cell? ⟨b, o + k * 3 + 2, none⟩ = some (.bool (at' L k).2.2) := by
  obtain ⟨_, p', cap', e, _, _, h4⟩ := h
  simp only [Value.slice.injEq] at e
  obtain ⟨rfl, rfl, rfl⟩ := e
  obtain ⟨b, o, rfl, hb, hc⟩ := h4 (by omega)
  obtain ⟨g0, g1, g2⟩ := flatE_get L k _ (at_eq hk)
  exact ⟨b, o, rfl, hb, hc (k * 3) _ g0, by have := hc (k * 3 + 1) _ g1; rwa [show o + (k * 3 + 1) = o + k * 3 + 1 by omega] at this, by have := hc (k * 3 + 2) _ g2; rwa [show o + (k * 3 + 2) = o + k * 3 + 2 by omega] at this⟩
theorem Sl.below {W W' : World} {v : Value} {L : List Et} (h : Sl W v L) (hB : Below W.heap.size W W') : Sl W' v L := (RdC.below h hB).mono hB.size
theorem Sl.own {W : World} {base e : Nat} {v : Value} {L : List Et} (h : W.ownsRow base e 3 v L.length (flatE L)) : Sl W v L := RdC.own h
theorem Sl.nil (W : World) : Sl W (.slice none 0 0) [] := ⟨rfl, none, 0, rfl, Nat.le_refl _, by unfold maxLen; omega, fun h => by simp at h⟩
/-- The cells of two of them. -/
theorem Sl.two {W : World} {p : Option Addr} {n cap : Nat} {L : List Et} (h : Sl W (.slice p n cap) L) {j k : Nat} (hj : j < L.length) (hk : k < L.length) :
    ∃ b o, p = some ⟨b, o, none⟩ ∧ b < W.heap.size ∧ (W.cell? ⟨b, o + j * 3, none⟩ = some (.int .i64 (at' L j).1) ∧ W.cell? ⟨b, o + j * 3 + 1, none⟩ = some (.int .i64 (at' L j).2.1) ∧ W.cell? ⟨b, o + j * 3 + 2, none⟩ = some (.bool (at' L j).2.2)) ∧
      (W.cell? ⟨b, o + k * 3, none⟩ = some (.int .i64 (at' L k).1) ∧ W.cell? ⟨b, o + k * 3 + 1, none⟩ = some (.int .i64 (at' L k).2.1) ∧ W.cell? ⟨b, o + k * 3 + 2, none⟩ = some (.bool (at' L k).2.2)) := by
  obtain ⟨b, o, rfl, hb, h1⟩ := h.at hj
  obtain ⟨b', o', e, _, h2⟩ := h.at hk
  simp only [Option.some.injEq, Addr.mk.injEq, and_true] at e
  obtain ⟨rfl, rfl⟩ := e
  exact ⟨b, o, rfl, hb, h1, h2⟩
/-- Ints, as cells. -/
def ivs (l : List Int) : List Value := l.map (fun i => .int .i64 i)
theorem ivs_len (l : List Int) : (ivs l).length = l.length := by simp [ivs]
theorem ivs_app (a b : List Int) : ivs (a ++ b) = ivs a ++ ivs b := by simp [ivs]
abbrev Is (W : World) (v : Value) (l : List Int) : Prop := RdC W W.heap.size 1 v l.length (ivs l)
theorem Is.form {W : World} {v : Value} {L : List Int} (h : Is W v L) : ∃ p cap, v = .slice p L.length cap ∧ L.length ≤ cap ∧ cap ≤ maxLen := by
  obtain ⟨_, p, cap, rfl, h1, h2, _⟩ := h
  exact ⟨p, cap, rfl, h1, h2⟩
theorem Is.at {W : World} {p : Option Addr} {n cap : Nat} {L : List Int} (h : Is W (.slice p n cap) L) {k : Nat} (hk : k < L.length) :
    ∃ b o, p = some ⟨b, o, none⟩ ∧ b < W.heap.size ∧ W.cell? ⟨b, o + k, none⟩ = some (.int .i64 (L.getD k 0)) := by
  obtain ⟨_, p', cap', e, _, _, h4⟩ := h
  simp only [Value.slice.injEq] at e
  obtain ⟨rfl, rfl, rfl⟩ := e
  obtain ⟨b, o, rfl, hb, hc⟩ := h4 (by omega)
  refine ⟨b, o, rfl, hb, hc k _ ?_⟩
  unfold ivs
  rw [List.getElem?_map, List.getElem?_eq_getElem hk, List.getD_eq_getElem?_getD, List.getElem?_eq_getElem hk]; rfl
theorem Is.below {W W' : World} {v : Value} {L : List Int} (h : Is W v L) (hB : Below W.heap.size W W') : Is W' v L := (RdC.below h hB).mono hB.size
theorem Is.own {W : World} {base e : Nat} {v : Value} {L : List Int} (h : W.ownsRow base e 1 v L.length (ivs L)) : Is W v L := RdC.own h
/-- Bools in a block of their own. -/
def bf (n : Nat) (F : Nat → Bool) : Array Value := ((List.range n).map fun j => Value.bool (F j)).toArray
theorem bf_size (n : Nat) (F : Nat → Bool) : (bf n F).size = n := by simp [bf]
theorem bf_get (n : Nat) (F : Nat → Bool) (j : Nat) (h : j < n) : (bf n F)[j]? = some (.bool (F j)) := by
  unfold bf
  rw [List.getElem?_toArray, List.getElem?_map, List.getElem?_range h]; rfl
theorem bf_ext {a : Array Value} {n : Nat} {F : Nat → Bool} (hs : a.size = n) (h : ∀ j, j < n → a[j]? = some (.bool (F j))) : a = bf n F := by
  apply Array.ext_getElem?
  intro j
  by_cases hj : j < n
  · rw [h j hj, bf_get n F j hj]
  · rw [Array.getElem?_eq_none (by omega), Array.getElem?_eq_none (by rw [bf_size]; omega)]
def Bn (W : World) (g n : Nat) (F : Nat → Bool) : Prop := W.heap[g]? = some (.cells (bf n F) 4 (0, 0))
theorem Bn.lt {W : World} {g n : Nat} {F : Nat → Bool} (h : Bn W g n F) : g < W.heap.size := (Array.getElem?_eq_some_iff.1 h).1
theorem Bn.cell {W : World} {g n : Nat} {F : Nat → Bool} (h : Bn W g n F) (j : Nat) (hj : j < n) : W.cell? ⟨g, j, none⟩ = some (.bool (F j)) := by
  rw [cell_of_row W g j _ _ _ h, bf_get n F j hj]
theorem Bn.frozen {W : World} {g n : Nat} {F : Nat → Bool} (h : Bn W g n F) (j : Nat) : W.frozen? ⟨g, j, none⟩ = false := by
  unfold Bn at h
  simp [World.frozen?, h]
theorem Bn.congr {W : World} {g n : Nat} {F G : Nat → Bool} (h : Bn W g n F) (hf : ∀ j, j < n → F j = G j) : Bn W g n G := by
  unfold Bn at h ⊢
  rw [h]; congr 2; exact bf_ext (bf_size n F) fun j hj => by rw [bf_get n F j hj, hf j hj]
theorem Bn.set {W : World} {g n : Nat} {F : Nat → Bool} (h : Bn W g n F) (k : Nat) (hk : k < n) (v : Bool) : Bn (W.setCell ⟨g, k, none⟩ (.bool v)) g n (fun j => if j = k then v else F j) := by
  have := heap_setCell_same W g k _ _ (.bool v) h
  unfold Bn
  rw [this]
  congr 2
  apply bf_ext
  · simp [bf_size]
  · intro j hj
    by_cases e : j = k
    · subst e
      simp [bf_size, hj]
    · rw [Array.getElem?_setIfInBounds_ne (by omega), bf_get n F j hj]; simp [e]
theorem Bn.nx {W W' : World} {g n : Nat} {F : Nat → Bool} (h : Bn W g n F) (hB : Nx W W') : Bn W' g n F := (hB.block g h.lt).trans h
theorem bf_made (n : Nat) : madeCells #[.bool false] n = bf n (fun _ => false) := by
  refine bf_ext (size_madeCells _ _) fun j hj => ?_
  unfold madeCells
  simp [hj, Nat.mod_one]
theorem Bn.made (W : World) (n : Nat) : Bn (W.alloc (.cells (madeCells #[.bool false] n) 4)) W.heap.size n (fun _ => false) := by
  rw [bf_made]; exact heap_alloc_new W _
end Go.Proofs.Ytacbiiiadalocaa.Ed
