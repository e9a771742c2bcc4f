/- What is asked of each call of robin; a robin that is carried, slices beside it. -/
import Derived.Test.YtndmmhikhfndaaaRbSl
import Derived.Test.YtndmmhikhfndaaaFpT
namespace Go.Proofs.Ytndmmhikhfndaaa.Rb
open Go.RowKit Go.Proofs.Ytndmmhikhfndaaa.Con Go.Proofs.Ytndmmhikhfndaaa.Fp
set_option linter.unusedVariables false
set_option linter.unusedSimpArgs false
abbrev RbI := World → Nat → Rs → (Nat → Prop) → Prop
abbrev ptr (b : Nat) : Value := .pointer (some ⟨b, 0, none⟩)
/-- A slice that no call on what lies in F turns. -/
def Sf (w : World) (F : Nat → Prop) (v : Value) (l : List Int) : Prop := Is w v l ∧ ∀ k, v.ownBlock = some k → 0 < l.length → ¬ F k
def NewC (I : RbI) : Prop := ∀ (most : Int) (W : World), Calls Try.prog 8 #[.int .i64 most] W fun e w' => ∃ b F, e = .returned (ptr b) ∧ Hid (I w' b (newS most) F ∧ (∀ k, F k → W.heap.size ≤ k) ∧ Nx W w')
def AddC (I : RbI) : Prop := ∀ (W : World) (b : Nat) (s : Rs) (F : Nat → Prop) (id : Int), I W b s F → Gd s → Calls Try.prog 9 #[ptr b, .int .i64 id] W fun e w' => ∃ F', e = .returned (.int .i64 (addE s id)) ∧ Hid (I w' b (addS s id) F' ∧ Tn W w' F F')
def DropC (I : RbI) : Prop := ∀ (W : World) (b : Nat) (s : Rs) (F : Nat → Prop) (id : Int), I W b s F → Gd s → Calls Try.prog 10 #[ptr b, .int .i64 id] W fun e w' => ∃ F', e = .returned (.int .i64 (dropE s id)) ∧ Hid (I w' b (dropS s id) F' ∧ Tn W w' F F')
def SeeC (I : RbI) : Prop := ∀ (W : World) (b : Nat) (s : Rs) (F : Nat → Prop) (n : Int), I W b s F → Gd s → Calls Try.prog 12 #[ptr b, .int .i64 n] W fun e w' => ∃ v F', e = .returned v ∧ Hid (I w' b s F' ∧ Tn W w' F F' ∧ Sf w' F' v (seeL s n))
def TakeC (I : RbI) : Prop := ∀ (W : World) (b : Nat) (s : Rs) (F : Nat → Prop) (n : Int), I W b s F → Gd s → Calls Try.prog 14 #[ptr b, .int .i64 n] W fun e w' => ∃ v F', e = .returned v ∧ Hid (I w' b (takeS s n) F' ∧ Tn W w' F F' ∧ Sf w' F' v (seeL s n))
def ManyC (I : RbI) : Prop := ∀ (W : World) (b : Nat) (s : Rs) (F : Nat → Prop) (n t : Int), I W b s F → Gd s → Calls Try.prog 11 #[ptr b, .int .i64 n, .int .i64 t] W fun e w' => ∃ v u F', e = .returned (.tuple #[v, u]) ∧ Hid (I w' b (manyS s n t) F' ∧ Tn W w' F F' ∧ Sf w' F' v (manyC s n t) ∧ Sf w' F' u (manyS s n t).l)
def LenC (I : RbI) : Prop := ∀ (W : World) (b : Nat) (s : Rs) (F : Nat → Prop), I W b s F → Gd s → Calls Try.prog 15 #[ptr b] W fun e w' => e = .returned (.int .i64 s.l.length) ∧ Nx W w'
def AwakeC : Prop := ∀ (W : World), Calls Try.prog 7 #[] W fun e w' => e = .returned (.bool true) ∧ Nx W w'
/-- All that a law takes of the program. -/
structure Rk (I : RbI) : Prop where
  kept : Kept I
  new : NewC I
  add : AddC I
  drop : DropC I
  see : SeeC I
  take : TakeC I
  many : ManyC I
  len : LenC I
theorem Is.keep {w w' : World} {v : Value} {l : List Int} (h : Is w v l) (hs : w.heap.size ≤ w'.heap.size) (hk : ∀ k, v.ownBlock = some k → 0 < l.length → k < w.heap.size → w'.heap[k]? = w.heap[k]?) : Is w' v l := by
  obtain ⟨h1, p, cap, rfl, h2, h3, h4⟩ := h
  refine ⟨h1, p, cap, rfl, h2, h3, fun h0 => ?_⟩
  obtain ⟨b, o, rfl, hb, hc⟩ := h4 h0
  refine ⟨b, o, rfl, by omega, fun j z hz => ?_⟩
  have e : w'.cell? ⟨b, o + j, none⟩ = w.cell? ⟨b, o + j, none⟩ := by simp [World.cell?, hk b rfl h0 hb]
  rw [e]; exact hc j z hz
theorem Is.blk {w : World} {v : Value} {l : List Int} (h : Is w v l) {k : Nat} (hk : v.ownBlock = some k) (h0 : 0 < l.length) : k < w.heap.size := by
  obtain ⟨h1, p, cap, rfl, h2, h3, h4⟩ := h
  obtain ⟨b, o, rfl, hb, hc⟩ := h4 h0
  have : b = k := by simpa [Value.ownBlock] using hk
  omega
section
variable {w w' : World} {F F' : Nat → Prop} {v : Value} {l : List Int}
theorem Sf.nx (h : Sf w F v l) (hB : Nx w w') : Sf w' F v l := ⟨h.1.below hB, h.2⟩
theorem Sf.tn (h : Sf w F v l) (hT : Tn w w' F F') : Sf w' F' v l := by
  refine ⟨h.1.keep hT.size fun k hk h0 hl => hT.keep k hl (h.2 k hk h0), fun k hk h0 hF => ?_⟩
  rcases hT.new k hF with g | g
  · exact h.2 k hk h0 g
  · have := h.1.blk hk h0; omega
theorem Sf.is (h : Sf w F v l) : Is w v l := h.1
/-- Made behind w, where all of F lies. -/
theorem Sf.fresh (h : Is w' v l) (hF : ∀ k, F k → k < w.heap.size) (hv : ∀ k, v.ownBlock = some k → 0 < l.length → w.heap.size ≤ k) : Sf w' F v l :=
  ⟨h, fun k hk h0 hf => by have := hF k hf; have := hv k hk h0; omega⟩
end
/-- A robin, made behind W, at w. -/
structure At (I : RbI) (W w : World) (b : Nat) (s : Rs) (F : Nat → Prop) : Prop where
  it : I w b s F
  past : ∀ k, F k → W.heap.size ≤ k
  nx : Nx W w
  gd : Gd s
section
variable {I : RbI} {W w w' : World} {b : Nat} {s s' : Rs} {F F' : Nat → Prop}
theorem At.on (K : Rk I) (h : At I W w b s F) (hB : Nx w w') : At I W w' b s F := ⟨K.kept.nx h.it hB, h.past, Nx.trans h.nx hB, h.gd⟩
theorem At.turn (h : At I W w b s F) (hI : I w' b s' F') (hT : Tn w w' F F') (g : Gd s') : At I W w' b s' F' := ⟨hI, hT.past h.nx.size h.past, hT.below h.nx (Nat.le_refl _) h.past, g⟩
theorem At.beside (K : Rk I) {c : Nat} {t : Rs} {G G' : Nat → Prop} (h : At I W w b s F) (ha : ∀ k, F k → ¬ G k) (hg : ∀ k, G k → W.heap.size ≤ k) (hT : Tn w w' G G') : At I W w' b s F ∧ ∀ k, F k → ¬ G' k := by
  obtain ⟨h1, h2⟩ := K.kept.beside h.it hT ha
  exact ⟨⟨h1, h.past, hT.below h.nx (Nat.le_refl _) hg, h.gd⟩, h2⟩
theorem at_new (K : Rk I) (hW : Nx W w) (most : Int) : Calls Try.prog 8 #[.int .i64 most] w fun e w' => ∃ b F, e = .returned (ptr b) ∧ Hid (At I W w' b (newS most) F) ∧ (∀ k, F k → w.heap.size ≤ k) ∧ Nx w w' :=
  (K.new most w).mono fun e w' ⟨b, F, e1, h1, h2, h3⟩ => ⟨b, F, e1, ⟨h1, fun k hk => Nat.le_trans hW.size (h2 k hk), Nx.trans hW h3, gd_new most⟩, h2, h3⟩
theorem at_add (K : Rk I) (h : At I W w b s F) (id : Int) : Calls Try.prog 9 #[ptr b, .int .i64 id] w fun e w' => ∃ F', e = .returned (.int .i64 (addE s id)) ∧ Hid (At I W w' b (addS s id) F') ∧ Tn w w' F F' :=
  (K.add w b s F id h.it h.gd).mono fun e w' ⟨F', e1, h1, h2⟩ => ⟨F', e1, h.turn h1 h2 (gd_add h.gd id), h2⟩
theorem at_drop (K : Rk I) (h : At I W w b s F) (id : Int) : Calls Try.prog 10 #[ptr b, .int .i64 id] w fun e w' => ∃ F', e = .returned (.int .i64 (dropE s id)) ∧ Hid (At I W w' b (dropS s id) F') ∧ Tn w w' F F' :=
  (K.drop w b s F id h.it h.gd).mono fun e w' ⟨F', e1, h1, h2⟩ => ⟨F', e1, h.turn h1 h2 (gd_drop h.gd id), h2⟩
theorem at_see (K : Rk I) (h : At I W w b s F) (n : Int) : Calls Try.prog 12 #[ptr b, .int .i64 n] w fun e w' => ∃ v F', e = .returned v ∧ Hid (At I W w' b s F') ∧ Tn w w' F F' ∧ Hid (Sf w' F' v (seeL s n)) :=
  (K.see w b s F n h.it h.gd).mono fun e w' ⟨v, F', e1, h1, h2, h3⟩ => ⟨v, F', e1, h.turn h1 h2 h.gd, h2, h3⟩
theorem at_take (K : Rk I) (h : At I W w b s F) (n : Int) : Calls Try.prog 14 #[ptr b, .int .i64 n] w fun e w' => ∃ v F', e = .returned v ∧ Hid (At I W w' b (takeS s n) F') ∧ Tn w w' F F' ∧ Hid (Sf w' F' v (seeL s n)) :=
  (K.take w b s F n h.it h.gd).mono fun e w' ⟨v, F', e1, h1, h2, h3⟩ => ⟨v, F', e1, h.turn h1 h2 (gd_take h.gd n), h2, h3⟩
theorem at_many (K : Rk I) (h : At I W w b s F) (n t : Int) : Calls Try.prog 11 #[ptr b, .int .i64 n, .int .i64 t] w fun e w' => ∃ v u F', e = .returned (.tuple #[v, u]) ∧ Hid (At I W w' b (manyS s n t) F') ∧ Tn w w' F F' ∧ Hid (Sf w' F' v (manyC s n t)) ∧ Hid (Sf w' F' u (manyS s n t).l) :=
  (K.many w b s F n t h.it h.gd).mono fun e w' ⟨v, u, F', e1, h1, h2, h3, h4⟩ => ⟨v, u, F', e1, h.turn h1 h2 (gd_many h.gd n t), h2, h3, h4⟩
theorem at_len (K : Rk I) (h : At I W w b s F) : Calls Try.prog 15 #[ptr b] w fun e w' => e = .returned (.int .i64 s.l.length) ∧ Hid (At I W w' b s F) ∧ Nx w w' :=
  (K.len w b s F h.it h.gd).mono fun e w' ⟨e1, h1⟩ => ⟨e1, h.on K h1, h1⟩
end
end Go.Proofs.Ytndmmhikhfndaaa.Rb
