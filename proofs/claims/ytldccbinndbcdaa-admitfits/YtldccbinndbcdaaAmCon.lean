/- What is asked of each call of admit. -/
import Derived.Test.YtldccbinndbcdaaAmSl
import Derived.Test.YtldccbinndbcdaaWnCon
import Derived.Deep.RegionHeld3
import Derived.Deep.DrawnRows
namespace Go.Proofs.Ytldccbinndbcdaa.Am
open Go.RowKit Go.Proofs.Ytldccbinndbcdaa.Con Go.Proofs.Ytldccbinndbcdaa.Wn Go.Proofs.Ytldccbinndbcdaa.Fp
set_option linter.unusedVariables false
set_option linter.unusedSimpArgs false
abbrev BkI := World → Nat → Bs → (Nat → Prop) → Prop
abbrev ptr (b : Nat) : Value := .pointer (some ⟨b, 0, none⟩)
def NewC (I : BkI) : Prop := ∀ (c : Int) (W : World), Calls Try.prog 8 #[.int .i64 c] W fun e w' =>
  ((1 ≤ c ∧ c ≤ 64) → ∃ b F, e = .returned (.tuple #[ptr b, .int .i64 0]) ∧ Hid (I w' b ⟨c, [], []⟩ F ∧ (∀ k, F k → W.heap.size ≤ k))) ∧ (¬ (1 ≤ c ∧ c ≤ 64) → e = .returned (.tuple #[.pointer none, .int .i64 1])) ∧ Nx W w'
def AskC (I : BkI) : Prop := ∀ (W : World) (b : Nat) (s : Bs) (F : Nat → Prop) (x : Pr) (now : Int), I W b s F → Small s → Calls Try.prog 11 #[ptr b, prv x, .int .i64 now] W fun e w' => e = .returned (.int .i64 (askE s x now)) ∧ Nx W w'
def EnterC (I : BkI) : Prop := ∀ (W : World) (b : Nat) (s : Bs) (F : Nat → Prop) (id : Int) (x : Pr) (now : Int), I W b s F → Small s → Calls Try.prog 9 #[ptr b, .int .i64 id, prv x, .int .i64 now] W fun e w' => ∃ F', e = .returned (.int .i64 (enterE s id x now)) ∧ Hid (I w' b (enter s id x now) F' ∧ Tn W w' F F')
def LeaveC (I : BkI) : Prop := ∀ (W : World) (b : Nat) (s : Bs) (F : Nat → Prop) (id till now : Int), I W b s F → Small s → Calls Try.prog 10 #[ptr b, .int .i64 id, .int .i64 till, .int .i64 now] W fun e w' => ∃ F', e = .returned (.int .i64 (leaveE s id till now)) ∧ Hid (I w' b (leave s id till now) F' ∧ Tn W w' F F')
def ChangeC (I : BkI) : Prop := ∀ (W : World) (b : Nat) (s : Bs) (F : Nat → Prop) (id : Int) (x : Pr) (now : Int), I W b s F → Small s → Calls Try.prog 13 #[ptr b, .int .i64 id, prv x, .int .i64 now] W fun e w' => ∃ F', e = .returned (.int .i64 (changeE s id x now)) ∧ Hid (I w' b (change s id x now) F' ∧ Tn W w' F F')
def LiveC (I : BkI) : Prop := ∀ (W : World) (b : Nat) (s : Bs) (F : Nat → Prop), I W b s F → Small s → Calls Try.prog 14 #[ptr b] W fun e w' => ∃ v, e = .returned v ∧ Hid (Es w' v s.ins) ∧ Nx W w'
def LingersC (I : BkI) : Prop := ∀ (W : World) (b : Nat) (s : Bs) (F : Nat → Prop) (now : Int), I W b s F → Small s → Calls Try.prog 12 #[ptr b, .int .i64 now] W fun e w' => ∃ v, e = .returned v ∧ Hid (Es w' v (lingers s now)) ∧ Nx W w'
def AwakeC : Prop := ∀ (W : World), Calls Try.prog 7 #[] W fun e w' => e = .returned (.bool true) ∧ Nx W w'
/-- All that a law takes of the program. -/
structure Bk (I : BkI) : Prop where
  kept : Kept I
  new : NewC I
  ask : AskC I
  enter : EnterC I
  leave : LeaveC I
  change : ChangeC I
  live : LiveC I
  lingers : LingersC I
/-- A book, made behind W, at w. -/
structure At (I : BkI) (W w : World) (b : Nat) (s : Bs) : Prop where
  ex : ∃ F, I w b s F ∧ ∀ k, F k → W.heap.size ≤ k
  nx : Nx W w
  small : Small s
section
variable {I : BkI} {W w w' : World} {b : Nat} {s : Bs}
theorem At.on (K : Bk I) (h : At I W w b s) (hB : Nx w w') : At I W w' b s := by
  obtain ⟨F, h1, h2⟩ := h.ex
  exact ⟨⟨F, K.kept.nx h1 hB, h2⟩, Nx.trans h.nx hB, h.small⟩
theorem At.turn {F F' : Nat → Prop} {s' : Bs} (h : At I W w b s) (hF : ∀ k, F k → W.heap.size ≤ k) (hI : I w' b s' F') (hT : Tn w w' F F') (hs : Small s') : At I W w' b s' :=
  ⟨⟨F', hI, hT.past h.nx.size hF⟩, hT.below h.nx (Nat.le_refl _) hF, hs⟩
theorem at_new (K : Bk I) (hW : Nx W w) {c : Int} (hc : 1 ≤ c ∧ c ≤ 64) : Calls Try.prog 8 #[.int .i64 c] w fun e w' => ∃ b, e = .returned (.tuple #[ptr b, .int .i64 0]) ∧ Hid (At I W w' b ⟨c, [], []⟩) :=
  (K.new c w).mono fun e w' h => by
    obtain ⟨h1, _, h3⟩ := h
    obtain ⟨b, F, e1, h4, h5⟩ := h1 hc
    exact ⟨b, e1, ⟨F, h4, fun k hk => Nat.le_trans hW.size (h5 k hk)⟩, Nx.trans hW h3, ⟨by simp, by simp⟩⟩
theorem at_not (K : Bk I) (hW : Nx W w) {c : Int} (hc : ¬ (1 ≤ c ∧ c ≤ 64)) : Calls Try.prog 8 #[.int .i64 c] w fun e w' => e = .returned (.tuple #[.pointer none, .int .i64 1]) ∧ Nx W w' :=
  (K.new c w).mono fun e w' h => ⟨h.2.1 hc, Nx.trans hW h.2.2⟩
theorem at_ask (K : Bk I) (h : At I W w b s) (x : Pr) (now : Int) : Calls Try.prog 11 #[ptr b, prv x, .int .i64 now] w fun e w' => e = .returned (.int .i64 (askE s x now)) ∧ Hid (At I W w' b s) ∧ Nx w w' := by
  obtain ⟨F, h1, h2⟩ := h.ex
  exact (K.ask w b s F x now h1 h.small).mono fun e w' hh => ⟨hh.1, h.on K hh.2, hh.2⟩
theorem at_enter (K : Bk I) (h : At I W w b s) (id : Int) (x : Pr) (now : Int) : Calls Try.prog 9 #[ptr b, .int .i64 id, prv x, .int .i64 now] w fun e w' => e = .returned (.int .i64 (enterE s id x now)) ∧ Hid (At I W w' b (enter s id x now)) := by
  obtain ⟨F, h1, h2⟩ := h.ex
  refine (K.enter w b s F id x now h1 h.small).mono fun e w' ⟨F', e1, h3, h4⟩ => ⟨e1, h.turn h2 h3 h4 ?_⟩
  by_cases h0 : enterE s id x now = 0
  · rw [enter_y h0]
    have hl := (enter_ok h0).2.2.1
    exact ⟨by show (s.ins ++ _).length ≤ 32; simp; omega, h.small.2⟩
  · rw [enter_n h0]; exact h.small
theorem at_leave (K : Bk I) (h : At I W w b s) (id till now : Int) (ho : s.outs.length < 500) : Calls Try.prog 10 #[ptr b, .int .i64 id, .int .i64 till, .int .i64 now] w fun e w' => e = .returned (.int .i64 (leaveE s id till now)) ∧ Hid (At I W w' b (leave s id till now)) := by
  obtain ⟨F, h1, h2⟩ := h.ex
  refine (K.leave w b s F id till now h1 h.small).mono fun e w' ⟨F', e1, h3, h4⟩ => ⟨e1, h.turn h2 h3 h4 ?_⟩
  have hs := h.small
  unfold leave
  split
  · refine ⟨by show (s.ins.take _ ++ s.ins.drop _).length ≤ 32; simp; have := hs.1; omega, ?_⟩
    show (if now < till then s.outs ++ [_] else s.outs).length ≤ 500
    split
    · simp; omega
    · exact hs.2
  · exact hs
theorem at_change (K : Bk I) (h : At I W w b s) (id : Int) (x : Pr) (now : Int) : Calls Try.prog 13 #[ptr b, .int .i64 id, prv x, .int .i64 now] w fun e w' => e = .returned (.int .i64 (changeE s id x now)) ∧ Hid (At I W w' b (change s id x now)) := by
  obtain ⟨F, h1, h2⟩ := h.ex
  refine (K.change w b s F id x now h1 h.small).mono fun e w' ⟨F', e1, h3, h4⟩ => ⟨e1, h.turn h2 h3 h4 ?_⟩
  have hs := h.small
  unfold change
  split
  · exact ⟨by show (put s.ins _ _).length ≤ 32; simp [put]; exact hs.1, hs.2⟩
  · exact hs
theorem at_live (K : Bk I) (h : At I W w b s) : Calls Try.prog 14 #[ptr b] w fun e w' => ∃ v, e = .returned v ∧ Hid (Es w' v s.ins) ∧ Hid (At I W w' b s) ∧ Nx w w' := by
  obtain ⟨F, h1, h2⟩ := h.ex
  exact (K.live w b s F h1 h.small).mono fun e w' ⟨v, e1, h3, h4⟩ => ⟨v, e1, h3, h.on K h4, h4⟩
theorem at_lingers (K : Bk I) (h : At I W w b s) (now : Int) : Calls Try.prog 12 #[ptr b, .int .i64 now] w fun e w' => ∃ v, e = .returned v ∧ Hid (Es w' v (lingers s now)) ∧ Hid (At I W w' b s) ∧ Nx w w' := by
  obtain ⟨F, h1, h2⟩ := h.ex
  exact (K.lingers w b s F now h1 h.small).mono fun e w' ⟨v, e1, h3, h4⟩ => ⟨v, e1, h3, h.on K h4, h4⟩
end
end Go.Proofs.Ytldccbinndbcdaa.Am
