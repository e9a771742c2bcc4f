/- What is handed in, as the walks want it. -/
import Derived.Test.YtacbiiiadalocaaEdSl
import Derived.Test.YtacbiiiadalocaaArgB
namespace Go.Proofs.Ytacbiiiadalocaa.Ed
open Go.RowKit Go.Proofs.Ytacbiiiadalocaa.Con
set_option linter.unusedVariables false
set_option linter.unusedSimpArgs false
abbrev Kd : Nat → Option IntKind := fun i => if i = 0 then some .i64 else if i = 1 then some .i64 else none
theorem ent_of {Z : Nat → Value} (wf : ∀ i, i < 3 → Arg.Fld (Kd i) (Z i)) : ∃ e : Et, Z 0 = .int .i64 e.1 ∧ Z 1 = .int .i64 e.2.1 ∧ Z 2 = .bool e.2.2 := by
  obtain ⟨a, ha, _⟩ := wf 0 (by omega)
  obtain ⟨b, hb, _⟩ := wf 1 (by omega)
  obtain ⟨c, hc⟩ := wf 2 (by omega)
  exact ⟨(a, b, c), ha, hb, hc⟩
theorem byV {Z : Nat → Value} (wf : ∀ i, i < 3 → Arg.Fld (Kd i) (Z i)) : ∃ e : Et, Value.agg ((List.range 3).map Z).toArray = ev e := by
  obtain ⟨e, h0, h1, h2⟩ := ent_of wf
  refine ⟨e, ?_⟩
  show Value.agg #[Z 0, Z 1, Z 2] = _
  rw [h0, h1, h2]
theorem slX {W : World} {P : Option Addr} {N C : Nat} {Z : Nat → Nat → Value} (lc : N ≤ C) (mc : C ≤ maxLen) (wf : ∀ j i, j < N → i < 3 → Arg.Fld (Kd i) (Z j i))
    (cl : 0 < N → ∃ b o, P = some ⟨b, o, none⟩ ∧ b < W.heap.size ∧ ∀ j i, j < N → i < 3 → W.cell? ⟨b, o + (j * 3 + i), none⟩ = some (Z j i)) : ∃ L : List Et, L.length = N ∧ Sl W (.slice P N C) L := by
  have hx : ∀ j, j < N → ∃ e : Et, Z j 0 = .int .i64 e.1 ∧ Z j 1 = .int .i64 e.2.1 ∧ Z j 2 = .bool e.2.2 := fun j hj => ent_of (fun i hi => wf j i hj hi)
  obtain ⟨E, hE⟩ := Go.Deep.choose_lt hx
  refine ⟨(List.range N).map E, by simp, ?_⟩
  have hlen : ((List.range N).map E).length = N := by simp
  refine ⟨by rw [flatE_len], P, C, by rw [hlen], by rw [hlen]; exact lc, mc, fun h0 => ?_⟩
  rw [hlen] at h0
  obtain ⟨b, o, rfl, hb, hc⟩ := cl h0
  refine ⟨b, o, rfl, hb, fun q v hq => ?_⟩
  have hql : q < N * 3 := by
    have := (List.getElem?_eq_some_iff.1 hq).1
    rwa [flatE_len, hlen] at this
  obtain ⟨j, i, hi, rfl⟩ : ∃ j i, i < 3 ∧ q = j * 3 + i := ⟨q / 3, q % 3, Nat.mod_lt _ (by omega), by omega⟩
  have hj : j < N := by omega
  have hg : ((List.range N).map E)[j]? = some (E j) := by rw [List.getElem?_map, List.getElem?_range hj]; rfl
  obtain ⟨g0, g1, g2⟩ := flatE_get _ j _ hg
  obtain ⟨e0, e1, e2⟩ := hE j hj
  rw [hc j i hj hi, ← hq]
  rcases i with _ | _ | _ | i
  · rw [show j * 3 + 0 = j * 3 from rfl, g0, e0]
  · rw [g1, e1]
  · rw [g2, e2]
  · omega
end Go.Proofs.Ytacbiiiadalocaa.Ed
