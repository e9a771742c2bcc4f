/- What a struct of numbers and bools that is handed in by value gives a walk. Of no program. -/
import Derived.Test.YtacbiiiadalocaaArgS
namespace Go.Proofs.Ytacbiiiadalocaa.Arg
open Go.ChangeShapes Go.WideShapes Go.ChangeAt Go.RowKit Go.Deep
set_option linter.unusedVariables false
variable {H : Type} {enc : TypeId × Value → H} {P : Program} {W : World} {base : Nat}
/-- A struct, each field a number or a bool of one cell: the field i is Z i. -/
theorem byMixed {t : TypeId} {fs : Array Field} {m : Nat} {K : Nat → Option IntKind} {r : Reach} {b0 : Nat} {v : Value} {d : DataW H} {ps : List MemPlace} (ht : P.underlying t = some (.struct fs)) (hc : P.cellsOf t = m) (hfs : fs.size = m)
    (hf : ∀ i f, fs[i]? = some f → f.offset = i ∧ P.cellsOf f.type = 1 ∧ FldT P (K i) f.type)
    (hval : Value.okWide P W r b0 t v) (h : DataW.Trod enc P W base (fun _ => true) true t v d ps) :
    ∃ Z : Nat → Value, v = .agg ((List.range m).map Z).toArray ∧ ∀ i, i < m → Fld (K i) (Z i) := by
  obtain ⟨cs, rfl, hsz⟩ := okWide_struct ht hval
  obtain ⟨fuel, hfu⟩ := h
  rw [hc] at hsz
  obtain ⟨xs, k, _, _, _, hxl, hg⟩ := DataW.trod_struct ht hfu
  have hcl : (Value.agg cs).cells.toList = cs.toList := rfl
  rw [hcl] at hg
  have one : ∀ i, i < m → ∃ z, Fld (K i) z ∧ cs[i]? = some z := by
    intro i hi
    have hfi : fs[i]? = some (fs[i]'(by omega)) := Array.getElem?_eq_getElem (by omega)
    obtain ⟨f1, f2, f3⟩ := hf i _ hfi
    have g := hg i _ hfi
    rw [f1, f2, List.getElem?_eq_getElem (show i < xs.length by omega)] at g
    have hd : cs.toList.drop i = cs.toList[i]'(by simp; omega) :: cs.toList.drop (i + 1) := List.drop_eq_getElem_cons (by simp; omega)
    unfold FldT at f3
    unfold Fld
    cases hK : K i with
    | some kk =>
      rw [hK] at f3
      obtain ⟨z, g1, _, g3⟩ := DataW.trod_int f3 g
      rw [hd, List.take_succ_cons, List.take_zero] at g1
      simp only [List.cons.injEq, and_true] at g1
      exact ⟨_, ⟨z, rfl, g3⟩, by rw [Array.getElem?_eq_getElem (by omega), ← g1]; simp⟩
    | none =>
      rw [hK] at f3
      obtain ⟨z, g1, _⟩ := DataW.trod_bool f3 g
      rw [hd, List.take_succ_cons, List.take_zero] at g1
      simp only [List.cons.injEq, and_true] at g1
      exact ⟨_, ⟨z, rfl⟩, by rw [Array.getElem?_eq_getElem (by omega), ← g1]; simp⟩
  obtain ⟨Z, hZ⟩ := choose_lt one
  refine ⟨Z, ?_, fun i hi => (hZ i hi).1⟩
  congr 1
  apply Array.ext_getElem?
  intro i
  by_cases hi : i < m
  · rw [(hZ i hi).2]; simp [hi]
  · rw [Array.getElem?_eq_none (by omega)]; simp [hi]
end Go.Proofs.Ytacbiiiadalocaa.Arg
