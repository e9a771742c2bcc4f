/- Footprints: what a call on an object may turn. Of no program. -/
import Derived.RowKit
import Derived.WalkKit
import Derived.ProofKit
namespace Go.Proofs.Ytndmmhikhfndaaa.Fp
open Go.RowKit
set_option linter.unusedVariables false
/-- From w to w' only blocks of F are turned; what is in F' behind it was in F, or is new. -/
structure Tn (w w' : World) (F F' : Nat → Prop) : Prop where
  size : w.heap.size ≤ w'.heap.size
  os : w'.os = w.os
  tape : w'.tape = w.tape
  output : w'.output = w.output
  keep : ∀ k, k < w.heap.size → ¬ F k → w'.heap[k]? = w.heap[k]?
  new : ∀ k, F' k → F k ∨ w.heap.size ≤ k
theorem Tn.of_nx {w w' : World} (h : Below w.heap.size w w') (F : Nat → Prop) : Tn w w' F F :=
  ⟨h.size, h.os, h.tape, h.output, fun k hk _ => h.block k hk, fun k hk => .inl hk⟩
theorem Tn.trans {a b c : World} {F G H : Nat → Prop} (h : Tn a b F G) (k : Tn b c G H) : Tn a c F H :=
  ⟨Nat.le_trans h.size k.size, k.os.trans h.os, k.tape.trans h.tape, k.output.trans h.output,
    fun i hi hF => (k.keep i (Nat.lt_of_lt_of_le hi h.size) (fun hG => (h.new i hG).elim hF (fun h1 => by omega))).trans (h.keep i hi hF),
    fun i hi => by
      rcases k.new i hi with h1 | h1
      · exact h.new i h1
      · exact .inr (Nat.le_trans h.size h1)⟩
/-- What lies below B, where F does not reach, stays. -/
theorem Tn.below {W w w' : World} {B : Nat} {F F' : Nat → Prop} (h : Tn w w' F F') (hB : Below B W w) (hW : B ≤ W.heap.size) (hF : ∀ k, F k → B ≤ k) : Below B W w' :=
  ⟨h.os.trans hB.os, h.tape.trans hB.tape, h.output.trans hB.output, Nat.le_trans hB.size h.size,
    fun k hk => (h.keep k (Nat.lt_of_lt_of_le hk (Nat.le_trans hW hB.size)) (fun hf => by have := hF k hf; omega)).trans (hB.block k hk)⟩
theorem Tn.past {w w' : World} {B : Nat} {F F' : Nat → Prop} (h : Tn w w' F F') (hB : B ≤ w.heap.size) (hF : ∀ k, F k → B ≤ k) : ∀ k, F' k → B ≤ k := fun k hk => by
  rcases h.new k hk with h1 | h1
  · exact hF k h1
  · exact Nat.le_trans hB h1
/-- An object told by a plain state: it lies in F; it stands where F's blocks stand. -/
structure Kept {σ : Type} (I : World → Nat → σ → (Nat → Prop) → Prop) : Prop where
  lt : ∀ {w b s F}, I w b s F → ∀ k, F k → k < w.heap.size
  keep : ∀ {w w' b s F}, I w b s F → w.heap.size ≤ w'.heap.size → (∀ k, F k → w'.heap[k]? = w.heap[k]?) → I w' b s F
section
variable {σ : Type} {I : World → Nat → σ → (Nat → Prop) → Prop}
theorem Kept.nx (K : Kept I) {w w' : World} {b : Nat} {s : σ} {F : Nat → Prop} (h : I w b s F) (hB : Below w.heap.size w w') : I w' b s F :=
  K.keep h hB.size (fun k hk => hB.block k (K.lt h k hk))
/-- Beside another one's call. -/
theorem Kept.beside (K : Kept I) {w w' : World} {b : Nat} {s : σ} {F G G' : Nat → Prop} (h : I w b s F) (hT : Tn w w' G G') (ha : ∀ k, F k → ¬ G k) : I w' b s F ∧ ∀ k, F k → ¬ G' k :=
  ⟨K.keep h hT.size (fun k hk => hT.keep k (K.lt h k hk) (ha k hk)), fun k hk hG => by
    rcases hT.new k hG with h1 | h1
    · exact ha k hk h1
    · have := K.lt h k hk; omega⟩
end
end Go.Proofs.Ytndmmhikhfndaaa.Fp
