/- Several heaps side by side. -/
import Derived.Test.YtocgeplpehioeaaHAwake
namespace Go.Proofs.Ytocgeplpehioeaa.Con
open Go.RowKit Go.Proofs.Ytocgeplpehioeaa.Hq
set_option linter.unusedVariables false
set_option linter.unusedSimpArgs false
/-- A heap: where it lies, what it holds. -/
structure HD where
  hb : Nat
  mb : Nat
  most : Int
  g : Bool
  v : Value
  l : List It
def HD.At (d : HD) (W : World) : Prop := HQ W d.hb d.mb d.most d.g d.v d.l
def HD.Foot (d : HD) (k : Nat) : Prop := k = d.hb ∨ k = d.mb ∨ d.v.ownBlock = some k
theorem HD.At.lt {d : HD} {W : World} (h : d.At W) {k : Nat} (hk : d.Foot k) : k < W.heap.size := by
  rcases hk with rfl | rfl | hk
  · exact HQ.hp h |>.lt
  · exact HQ.hp h |>.map.lt
  · exact (HQ.hp h |>.row.blk hk).1
/-- What a call on d may turn. -/
structure Stp (W W' : World) (d d' : HD) : Prop where
  os : W'.os = W.os
  tape : W'.tape = W.tape
  output : W'.output = W.output
  size : W.heap.size ≤ W'.heap.size
  block : ∀ k, k < W.heap.size → ¬ d.Foot k → W'.heap[k]? = W.heap[k]?
  foot : ∀ k, d'.Foot k → d.Foot k ∨ W.heap.size ≤ k
theorem Stp.of {W W' : World} {d : HD} {v' : Value} {l' : List It} (h : Turn W W' d.hb d.mb d.v v') : Stp W W' d { d with v := v', l := l' } where
  os := h.os
  tape := h.tape
  output := h.output
  size := h.size
  block := fun k hk hf => h.block k hk (fun e => hf (.inl e)) (fun e => hf (.inr (.inl e))) (fun e => hf (.inr (.inr e.symm)))
  foot := fun k hk => by
    rcases hk with hk | hk | hk
    · exact .inl (.inl hk)
    · exact .inl (.inr (.inl hk))
    · rcases h.own k hk with e | e
      · exact .inl (.inr (.inr e))
      · exact .inr e
def Sep (d e : HD) : Prop := ∀ k, d.Foot k → ¬ e.Foot k
theorem Sep.symm {d e : HD} (h : Sep d e) : Sep e d := fun k h1 h2 => h k h2 h1
theorem HD.At.stp {d d' e : HD} {W W' : World} (he : e.At W) (hs : Sep d e) (h : Stp W W' d d') : e.At W' ∧ Sep d' e := by
  refine ⟨⟨(HQ.hp he).kept fun k hk hc => h.block k hk fun hf => hs k hf hc, he.heap, he.room, he.lo, he.hi⟩, ?_⟩
  intro k hk hf
  rcases h.foot k hk with h1 | h1
  · exact hs k h1 hf
  · have := he.lt hf; omega
/-- Items laid aside. -/
def Box (W : World) (x : Nat × It) : Prop := W.heap[x.1]? = some (.cells #[.int .i64 x.2.1, .int .i64 x.2.2] 29 (0, 0))
structure S3 (W0 W : World) (d1 d2 d3 : HD) (bs : List (Nat × It)) : Prop where
  a1 : d1.At W
  a2 : d2.At W
  a3 : d3.At W
  s12 : Sep d1 d2
  s23 : Sep d2 d3
  s31 : Sep d3 d1
  far : ∀ k, (d1.Foot k ∨ d2.Foot k ∨ d3.Foot k) → W0.heap.size ≤ k
  below : Below W0.heap.size W0 W
  box : ∀ x ∈ bs, Box W x ∧ ¬ d1.Foot x.1 ∧ ¬ d2.Foot x.1 ∧ ¬ d3.Foot x.1
section
variable {W0 W W' : World} {d1 d2 d3 d1' : HD} {bs : List (Nat × It)}
theorem S3.rot (h : S3 W0 W d1 d2 d3 bs) : S3 W0 W d2 d3 d1 bs :=
  ⟨h.a2, h.a3, h.a1, h.s23, h.s31, h.s12, fun k hk => h.far k (by rcases hk with h | h | h <;> simp [h]), h.below, fun x hx => by
    obtain ⟨h1, h2, h3, h4⟩ := h.box x hx
    exact ⟨h1, h3, h4, h2⟩⟩
theorem S3.stp (h : S3 W0 W d1 d2 d3 bs) (hs : Stp W W' d1 d1') (ha : d1'.At W') : S3 W0 W' d1' d2 d3 bs := by
  obtain ⟨b2, s2⟩ := h.a2.stp h.s12 hs
  obtain ⟨b3, s3⟩ := h.a3.stp h.s31.symm hs
  have hz := h.below.size
  refine ⟨ha, b2, b3, s2, h.s23, s3.symm, ?_, ?_, ?_⟩
  · intro k hk
    rcases hk with hk | hk
    · rcases hs.foot k hk with e | e
      · exact h.far k (.inl e)
      · omega
    · exact h.far k (.inr hk)
  · exact h.below.trans ⟨hs.os, hs.tape, hs.output, hs.size, fun k hk => hs.block k (by omega) fun hf => by have := h.far k (.inl hf); omega⟩
  · intro x hx
    obtain ⟨h1, h2, h3, h4⟩ := h.box x hx
    have hlt : x.1 < W.heap.size := (Array.getElem?_eq_some_iff.1 h1).1
    refine ⟨(hs.block x.1 hlt h2).trans h1, fun hf => ?_, h3, h4⟩
    rcases hs.foot _ hf with e | e
    · exact h2 e
    · omega
theorem S3.more (h : S3 W0 W d1 d2 d3 bs) (hB : Below W.heap.size W W') : S3 W0 W' d1 d2 d3 bs :=
  ⟨HQ.below h.a1 hB, HQ.below h.a2 hB, HQ.below h.a3 hB, h.s12, h.s23, h.s31, h.far, h.below.trans (hB.mono h.below.size), fun x hx => by
    obtain ⟨h1, h2⟩ := h.box x hx
    exact ⟨(hB.block x.1 (Array.getElem?_eq_some_iff.1 h1).1).trans h1, h2⟩⟩
theorem S3.lay (h : S3 W0 W d1 d2 d3 bs) (x : It) : S3 W0 (W.alloc (.cells #[.int .i64 x.1, .int .i64 x.2] 29)) d1 d2 d3 ((W.heap.size, x) :: bs) := by
  have h' := h.more (W' := W.alloc (.cells #[.int .i64 x.1, .int .i64 x.2] 29)) ((Below.refl _ _).alloc (Nat.le_refl _) _)
  refine { h' with box := fun y hy => ?_ }
  rcases List.mem_cons.1 hy with rfl | hy
  · exact ⟨heap_alloc_new W _, fun hf => by have := h.a1.lt hf; simp at this, fun hf => by have := h.a2.lt hf; simp at this, fun hf => by have := h.a3.lt hf; simp at this⟩
  · exact h'.box y hy
end
end Go.Proofs.Ytocgeplpehioeaa.Con
