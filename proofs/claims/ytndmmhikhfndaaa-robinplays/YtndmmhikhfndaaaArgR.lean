/- What a slice of structs of numbers that is handed in gives a walk. Of no program. -/
import Derived.Test.YtndmmhikhfndaaaArgs
import Derived.Deep.Slices
namespace Go.Proofs.Ytndmmhikhfndaaa.Arg
open Go.ChangeShapes Go.WideShapes Go.ChangeAt Go.RowKit Go.Deep
set_option linter.unusedVariables false
variable {H : Type} {enc : TypeId × Value → H} {P : Program} {W : World} {base : Nat}
/-- A slice of structs, each field a number of one cell: the field i of the one at j is Z j i. -/
theorem recs {t e : TypeId} {fs : Array Field} {m : Nat} {K : Nat → IntKind} {r : Reach} {b0 : Nat} {v : Value} {d : DataW H} {ps : List MemPlace} (ht : P.underlying t = some (.slice e)) (he : P.underlying e = some (.struct fs)) (hc : P.cellsOf e = m) (hm0 : 0 < m) (hfs : fs.size = m)
    (hf : ∀ i f, fs[i]? = some f → f.offset = i ∧ P.cellsOf f.type = 1 ∧ P.underlying f.type = some (.int (K i)))
    (hval : Value.okWide P W r b0 t v) (h : DataW.Trod enc P W base (fun _ => true) true t v d ps) :
    ∃ (p : Option Addr) (n : Nat) (Z : Nat → Nat → Int) (c : Nat), v = .slice p n c ∧ n ≤ c ∧ c ≤ maxLen ∧ (∀ j i, j < n → i < m → (Lit.int (K i) (Z j i)).wf = true) ∧
      (0 < n → ∃ b o, p = some ⟨b, o, none⟩ ∧ b < W.heap.size ∧ ∀ j i, j < n → i < m → W.cell? ⟨b, o + (j * m + i), none⟩ = some (.int (K i) (Z j i))) := by
  obtain ⟨ao, len, cap, rfl⟩ := okWide_slice ht hval
  obtain ⟨fuel, hfu⟩ := h
  rcases open_slice ht hfu with ⟨hcs, hx⟩ | ⟨a, len', cap', q, n, D, Pl, hcs, hb, hl, hm, hq, hx, hel⟩
  · simp [Value.cells] at hcs
    obtain ⟨rfl, rfl, rfl⟩ := hcs
    exact ⟨none, 0, fun _ _ => 0, 0, rfl, by simp, by unfold maxLen; omega, fun j i h => by omega, by simp⟩
  · simp [Value.cells] at hcs
    obtain ⟨rfl, rfl, rfl⟩ := hcs
    simp only [if_true] at hq
    subst hq
    have each : ∀ j, j < len → ∃ z : Nat → Int, ∀ i, i < m → (Lit.int (K i) (z i)).wf = true ∧ W.cell? (a.add (j * m + i)) = some (.int (K i) (z i)) := by
      intro j hj
      obtain ⟨cs, h1, h2⟩ := hel j (by omega)
      rw [hc] at h1
      obtain ⟨_, hlen, hcell⟩ := World.cells?_some h1
      obtain ⟨xs, k, _, _, _, hxl, hg⟩ := DataW.trod_struct he h2
      have one : ∀ i, i < m → ∃ z, (Lit.int (K i) z).wf = true ∧ W.cell? (a.add (j * m + i)) = some (.int (K i) z) := by
        intro i hi
        have hfi : fs[i]? = some (fs[i]'(by omega)) := Array.getElem?_eq_getElem (by omega)
        obtain ⟨f1, f2, f3⟩ := hf i _ hfi
        have g := hg i _ hfi
        rw [f1, f2, List.getElem?_eq_getElem (show i < xs.length by omega)] at g
        obtain ⟨z, g1, _, g3⟩ := DataW.trod_int f3 g
        refine ⟨z, g3, ?_⟩
        have hci := hcell i hi
        rw [add_add] at hci
        rw [hci]
        have hd : cs.drop i = cs[i]'(by omega) :: cs.drop (i + 1) := List.drop_eq_getElem_cons (by omega)
        rw [hd, List.take_succ_cons, List.take_zero] at g1
        simp only [List.cons.injEq, and_true] at g1
        rw [List.getElem?_eq_getElem (by omega), g1]
      obtain ⟨z, hz⟩ := choose_lt one
      exact ⟨z, hz⟩
    obtain ⟨Z, hZ⟩ := choose_lt each
    refine ⟨some a, len, Z, _, rfl, hl, hm, fun j i hj hi => (hZ j hj i hi).1, fun h0 => ?_⟩
    have c0 := (hZ 0 h0 0 hm0).2
    rw [Nat.zero_mul] at c0
    obtain ⟨b, o, sp⟩ := a
    obtain rfl : sp = none := spot_none c0
    rw [add_none] at c0
    refine ⟨b, o, rfl, block_lt c0, fun j i hj hi => ?_⟩
    have := (hZ j hj i hi).2
    rw [add_none] at this
    exact this
end Go.Proofs.Ytndmmhikhfndaaa.Arg
