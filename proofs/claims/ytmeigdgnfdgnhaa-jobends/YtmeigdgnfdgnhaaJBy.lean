/- More of jobs in boxes. -/
import Derived.Test.YtmeigdgnfdgnhaaJAwake
namespace Go.Proofs.Ytmeigdgnfdgnhaa.Con
open Go.RowKit Go.Proofs.Ytmeigdgnfdgnhaa.Pm
set_option linter.unusedVariables false
set_option linter.unusedSimpArgs false
theorem JB.rz {w : World} {g : Nat} {num a d : Int} {L : List St} (h : JB w g ⟨num, L, a, d⟩) : ∃ p cap, w.heap[g]? = some (.cells #[.int .i64 num, .slice p L.length cap, .int .i64 a, .int .i64 d] 28 (0, 0)) ∧ Rz w (.slice p L.length cap) L := h
theorem JB.nil (w : World) (h : good [] = false) : JB (w.alloc (.cells #[.int .i64 0, .slice none 0 0, .int .i64 0, .int .i64 0] 28)) w.heap.size ⟨0, [], 0, 0⟩ := ⟨none, 0, heap_alloc_new w _, World.ownsRow_nil _ _ _ _⟩
end Go.Proofs.Ytmeigdgnfdgnhaa.Con
namespace Go.Proofs.Ytmeigdgnfdgnhaa.Pm
theorem jrun_at {num a d r n : Int} {L : List St} (h : ran ⟨num, L, a, d⟩ n = r) : jrun ⟨num, L, a, d⟩ n = ⟨num, L, a, d + r⟩ := by unfold jrun; rw [h]
theorem jgood_at {num : Int} {L : List St} {k : Nat} (h1 : 1 ≤ num) (hg : good L = true) (hk : k ≤ L.length) : jgood ⟨num, L, (k : Int), 0⟩ = true := by
  refine (jgood_iff _).2 ⟨h1, hg, by show 0 ≤ (k : Int); omega, by show (k : Int) ≤ (L.length : Int); omega, Int.le_refl _, fun _ => rfl, fun hne => ?_⟩
  show 0 ≤ (at' L (k : Int).toNat).2
  have hne' : (k : Int) ≠ (L.length : Int) := hne
  have := good_at hg (at_eq (show (k : Int).toNat < L.length by omega))
  omega
/-- All of a step. -/
theorem run_full {num : Int} {L : List St} {k : Nat} (h1 : 1 ≤ num) (hg : good L = true) (hk : k < L.length) :
    ∃ z, (1 ≤ z ∧ z ≤ 2147483648) ∧ ran ⟨num, L, (k : Int), 0⟩ 2147483648 = z ∧ jrun ⟨num, L, (k : Int), 0⟩ 2147483648 = ⟨num, L, (k : Int), z⟩ ∧ fulls ⟨num, L, (k : Int), z⟩ = true ∧ jnext ⟨num, L, (k : Int), z⟩ = ⟨num, L, (k : Int) + 1, 0⟩ := by
  have hj := jgood_at h1 hg (Nat.le_of_lt hk)
  have ha : (⟨num, L, (k : Int), 0⟩ : Jb).a ≠ (⟨num, L, (k : Int), 0⟩ : Jb).L.length := by show (k : Int) ≠ (L.length : Int); omega
  have hs : jstep ⟨num, L, (k : Int), 0⟩ = some (at' L k) := by have := jstep_some hj ha; simpa using this
  have hb := jstep_bound hs
  have hr : ran ⟨num, L, (k : Int), 0⟩ 2147483648 = (at' L k).2 := by
    rw [ran_some hs]
    have := hb.2.1
    show min (max (2147483648 : Int) 0) (_ - 0) = _
    omega
  have hj2 : jrun ⟨num, L, (k : Int), 0⟩ 2147483648 = ⟨num, L, (k : Int), (at' L k).2⟩ := by rw [jrun_at hr, Int.zero_add]
  have hg2 := jrun_good hj 2147483648
  rw [hj2] at hg2
  have hs2 : jstep ⟨num, L, (k : Int), (at' L k).2⟩ = some (at' L k) := by have := jstep_some (j := ⟨num, L, (k : Int), (at' L k).2⟩) hg2 ha; simpa using this
  have hf : fulls ⟨num, L, (k : Int), (at' L k).2⟩ = true := by rw [fulls_some hs2]; exact decide_eq_true rfl
  exact ⟨_, hb.2.1, hr, hj2, hf, jnext_full hf⟩
/-- By so much and then so much. -/
theorem part_facts {num : Int} {L : List St} {k : Nat} {a b : Int} (h1 : 1 ≤ num) (hg : good L = true) (hk : k ≤ L.length) (ha : 0 ≤ a) (hb : 0 ≤ b) :
    ∃ r1 r2 r3, (0 ≤ r1 ∧ r1 ≤ a) ∧ (0 ≤ r2 ∧ r2 ≤ b) ∧ r1 + r2 = r3 ∧ r3 ≤ a + b ∧ ran ⟨num, L, (k : Int), 0⟩ a = r1 ∧ jrun ⟨num, L, (k : Int), 0⟩ a = ⟨num, L, (k : Int), r1⟩ ∧ ran ⟨num, L, (k : Int), r1⟩ b = r2 ∧ jrun ⟨num, L, (k : Int), r1⟩ b = ⟨num, L, (k : Int), r3⟩ ∧
      ran ⟨num, L, (k : Int), 0⟩ (a + b) = r3 ∧ jrun ⟨num, L, (k : Int), 0⟩ (a + b) = ⟨num, L, (k : Int), r3⟩ := by
  have hj := jgood_at h1 hg hk
  obtain ⟨e1, e2⟩ := run_two hj ha hb
  have b1 := ran_bound ⟨num, L, (k : Int), 0⟩ a
  have j1 : jrun ⟨num, L, (k : Int), 0⟩ a = ⟨num, L, (k : Int), ran ⟨num, L, (k : Int), 0⟩ a⟩ := by rw [jrun_at rfl, Int.zero_add]
  rw [j1] at e1 e2
  have b2 := ran_bound ⟨num, L, (k : Int), ran ⟨num, L, (k : Int), 0⟩ a⟩ b
  have b3 := ran_bound ⟨num, L, (k : Int), 0⟩ (a + b)
  have j3 : jrun ⟨num, L, (k : Int), 0⟩ (a + b) = ⟨num, L, (k : Int), ran ⟨num, L, (k : Int), 0⟩ (a + b)⟩ := by rw [jrun_at rfl, Int.zero_add]
  exact ⟨_, _, _, ⟨b1.1, by omega⟩, ⟨b2.1, by omega⟩, e1, by omega, rfl, j1, rfl, e2.trans j3, rfl, j3⟩
end Go.Proofs.Ytmeigdgnfdgnhaa.Pm
