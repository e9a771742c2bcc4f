/- What a slice of structs of numbers, nested or not, that is handed in gives a walk. Of no program. -/
import Derived.Test.YtldccbinndbcdaaArgR
namespace Go.Proofs.Ytldccbinndbcdaa.Arg
open Go.ChangeShapes Go.WideShapes Go.ChangeAt Go.RowKit Go.Deep
set_option linter.unusedVariables false
variable {H : Type} {enc : TypeId × Value → H} {P : Program} {W : World} {base : Nat}
/-- The m cells of one of type t are numbers of the kinds K. -/
def Opens (enc : TypeId × Value → H) (P : Program) (W : World) (base : Nat) (t : TypeId) (m : Nat) (K : Nat → IntKind) : Prop :=
  ∀ fuel cs x, cs.length = m → DataW.trod enc P W base (fun _ => true) true fuel t cs = some x → ∀ i, i < m → ∃ z, (Lit.int (K i) z).wf = true ∧ cs[i]? = some (.int (K i) z)
theorem opens_int {t : TypeId} {k : IntKind} (h : P.underlying t = some (.int k)) {K : Nat → IntKind} (hK : K 0 = k) : Opens enc P W base t 1 K := by
  intro fuel cs x hl hx i hi
  obtain ⟨z, g1, _, g3⟩ := DataW.trod_int h hx
  obtain rfl : i = 0 := by omega
  rw [hK]
  exact ⟨z, g3, by rw [g1]; rfl⟩
theorem opens_struct {t : TypeId} {fs : Array Field} {m : Nat} {K : Nat → IntKind} (h : P.underlying t = some (.struct fs))
    (hf : ∀ (i : Nat) (f : Field), fs[i]? = some f → f.offset + P.cellsOf f.type ≤ m ∧ Opens enc P W base f.type (P.cellsOf f.type) (fun j => K (f.offset + j)))
    (hc : ∀ i, i < m → ∃ (k : Nat) (f : Field), fs[k]? = some f ∧ f.offset ≤ i ∧ i < f.offset + P.cellsOf f.type) : Opens enc P W base t m K := by
  intro fuel cs x hl hx i hi
  obtain ⟨xs, k, _, _, _, hxl, hg⟩ := DataW.trod_struct h hx
  obtain ⟨n, f, hn, h1, h2⟩ := hc i hi
  obtain ⟨f1, f2⟩ := hf n f hn
  have g := hg n f hn
  have hnx : n < xs.length := by rw [hxl]; exact (Array.getElem?_eq_some_iff.1 hn).1
  rw [List.getElem?_eq_getElem hnx] at g
  obtain ⟨z, z1, z2⟩ := f2 _ _ _ (by simp; omega) g (i - f.offset) (by omega)
  dsimp only at z1 z2
  rw [show f.offset + (i - f.offset) = i by omega] at z1 z2
  refine ⟨z, z1, ?_⟩
  rw [List.getElem?_take, if_pos (by omega), List.getElem?_drop, show f.offset + (i - f.offset) = i by omega] at z2
  exact z2
/-- A slice of such: the cell i of the one at j is Z j i. -/
theorem recsN {t e : TypeId} {m : Nat} {K : Nat → IntKind} {r : Reach} {b0 : Nat} {v : Value} {d : DataW H} {ps : List MemPlace} (ht : P.underlying t = some (.slice e)) (hc : P.cellsOf e = m) (hm0 : 0 < m)
    (hO : Opens enc P W base e m K) (hval : Value.okWide P W r b0 t v) (h : DataW.Trod enc P W base (fun _ => true) true t v d ps) :
    ∃ (p : Option Addr) (n : Nat) (Z : Nat → Nat → Int) (c : Nat), v = .slice p n c ∧ n ≤ c ∧ c ≤ maxLen ∧ (∀ j i, j < n → i < m → (Lit.int (K i) (Z j i)).wf = true) ∧
      (0 < n → ∃ b o, p = some ⟨b, o, none⟩ ∧ b < W.heap.size ∧ ∀ j i, j < n → i < m → W.cell? ⟨b, o + (j * m + i), none⟩ = some (.int (K i) (Z j i))) := by
  obtain ⟨ao, len, cap, rfl⟩ := okWide_slice ht hval
  obtain ⟨fuel, hfu⟩ := h
  rcases open_slice ht hfu with ⟨hcs, hx⟩ | ⟨a, len', cap', q, n, D, Pl, hcs, hb, hl, hm, hq, hx, hel⟩
  · simp [Value.cells] at hcs
    obtain ⟨rfl, rfl, rfl⟩ := hcs
    exact ⟨none, 0, fun _ _ => 0, 0, rfl, by simp, by unfold maxLen; omega, fun j i h => by omega, by simp⟩
  · simp [Value.cells] at hcs
    obtain ⟨rfl, rfl, rfl⟩ := hcs
    simp only [if_true] at hq
    subst hq
    have each : ∀ j, j < len → ∃ z : Nat → Int, ∀ i, i < m → (Lit.int (K i) (z i)).wf = true ∧ W.cell? (a.add (j * m + i)) = some (.int (K i) (z i)) := by
      intro j hj
      obtain ⟨cs, h1, h2⟩ := hel j (by omega)
      rw [hc] at h1
      obtain ⟨_, hlen, hcell⟩ := World.cells?_some h1
      have one : ∀ i, i < m → ∃ z, (Lit.int (K i) z).wf = true ∧ W.cell? (a.add (j * m + i)) = some (.int (K i) z) := by
        intro i hi
        obtain ⟨z, z1, z2⟩ := hO _ _ _ hlen h2 i hi
        refine ⟨z, z1, ?_⟩
        have hci := hcell i hi
        rw [add_add] at hci
        rw [hci]
        exact z2
      obtain ⟨z, hz⟩ := choose_lt one
      exact ⟨z, hz⟩
    obtain ⟨Z, hZ⟩ := choose_lt each
    refine ⟨some a, len, Z, _, rfl, hl, hm, fun j i hj hi => (hZ j hj i hi).1, fun h0 => ?_⟩
    have c0 := (hZ 0 h0 0 hm0).2
    rw [Nat.zero_mul] at c0
    obtain ⟨b, o, sp⟩ := a
    obtain rfl : sp = none := spot_none c0
    rw [add_none] at c0
    refine ⟨b, o, rfl, block_lt c0, fun j i hj hi => ?_⟩
    have := (hZ j hj i hi).2
    rw [add_none] at this
    exact this
end Go.Proofs.Ytldccbinndbcdaa.Arg
