/- The book and the reference's, side by side. -/
import Derived.Test.YtldccbinndbcdaaAmRh
import Derived.Test.YtldccbinndbcdaaAmCon
namespace Go.Proofs.Ytldccbinndbcdaa.Am
open Go.RowKit Go.Proofs.Ytldccbinndbcdaa.Con Go.Proofs.Ytldccbinndbcdaa.Wn Go.Proofs.Ytldccbinndbcdaa.Fp
set_option linter.unusedVariables false
set_option linter.unusedSimpArgs false
theorem du_smE {s : Bs} (hs : Small s) (id : Int) (x : Pr) (now : Int) : Small (enter s id x now) := by
  by_cases h0 : enterE s id x now = 0
  · rw [enter_y h0]
    have hl := (enter_ok h0).2.2.1
    exact ⟨by show (s.ins ++ _).length ≤ 32; simp; omega, hs.2⟩
  · rw [enter_n h0]; exact hs
theorem du_smL {s : Bs} (hs : Small s) (id till now : Int) (ho : s.outs.length < 500) : Small (leave s id till now) := by
  unfold leave
  split
  · refine ⟨by show (s.ins.take _ ++ s.ins.drop _).length ≤ 32; simp; have := hs.1; omega, ?_⟩
    show (if now < till then s.outs ++ [_] else s.outs).length ≤ 500
    split
    · simp; omega
    · exact hs.2
  · exact hs
theorem du_smC {s : Bs} (hs : Small s) (id : Int) (x : Pr) (now : Int) : Small (change s id x now) := by
  unfold change
  split
  · exact ⟨by show (put s.ins _ _).length ≤ 32; simp [put]; exact hs.1, hs.2⟩
  · exact hs
/-- Behind W: the book b, the reference's r, apart; boxes beside. -/
structure Du (I : BkI) (W w : World) (b r : Nat) (s sr : Bs) (bx : List (Nat × Obj)) : Prop where
  ex : ∃ F vi vo, I w b s F ∧ RBk w r sr vi vo ∧ (∀ k, F k → W.heap.size ≤ k) ∧ (∀ k, RF r vi vo k → W.heap.size ≤ k) ∧ (∀ k, F k → ¬ RF r vi vo k) ∧ ∀ p ∈ bx, ¬ F p.1 ∧ ¬ RF r vi vo p.1
  box : ∀ p ∈ bx, w.heap[p.1]? = some p.2
  nx : Nx W w
  smb : Small s
  smr : Small sr
theorem rf_lt {w : World} {r : Nat} {s : Bs} {vi vo : Value} (h : RBk w r s vi vo) {k : Nat} (hk : RF r vi vo k) : k < w.heap.size := by
  rcases hk with rfl | hk | hk
  · exact (Array.getElem?_eq_some_iff.1 h.row).1
  · exact own_lt h.ins k hk
  · exact own_lt h.outs k hk
theorem rbk_keep {w w' : World} {r : Nat} {s : Bs} {vi vo : Value} (h : RBk w r s vi vo) (hk : ∀ k, RF r vi vo k → w'.heap[k]? = w.heap[k]?) : RBk w' r s vi vo :=
  ⟨(hk r (.inl rfl)).trans h.row, own_kept h.ins (fun k e => hk k (.inr (.inl e))), own_kept h.outs (fun k e => hk k (.inr (.inr e))), h.apart⟩
section
variable {I : BkI} {W w w' : World} {b r : Nat} {s sr : Bs} {bx : List (Nat × Obj)}
theorem Du.on (K : Bk I) (h : Du I W w b r s sr bx) (hB : Nx w w') : Du I W w' b r s sr bx := by
  obtain ⟨F, vi, vo, h1, h2, h3⟩ := h.ex
  exact ⟨⟨F, vi, vo, K.kept.nx h1 hB, h2.on hB, h3⟩, fun p hp => (hB.block _ (Array.getElem?_eq_some_iff.1 (h.box p hp)).1).trans (h.box p hp), Nx.trans h.nx hB, h.smb, h.smr⟩
theorem Du.lay (K : Bk I) (h : Du I W w b r s sr bx) (o : Obj) : Du I W (w.alloc o) b r s sr ((w.heap.size, o) :: bx) := by
  obtain ⟨F, vi, vo, h1, h2, h3, h4, h5, h6⟩ := h.ex
  have hB := Nx.alloc w o
  refine ⟨⟨F, vi, vo, K.kept.nx h1 hB, h2.on hB, h3, h4, h5, ?_⟩, ?_, Nx.trans h.nx hB, h.smb, h.smr⟩
  · intro p hp
    rcases List.mem_cons.1 hp with rfl | hp
    · exact ⟨fun e => by have := K.kept.lt h1 _ e; simp at this, fun e => by have := rf_lt h2 e; simp at this⟩
    · exact h6 p hp
  · intro p hp
    rcases List.mem_cons.1 hp with rfl | hp
    · exact heap_alloc_new w o
    · exact (hB.block _ (Array.getElem?_eq_some_iff.1 (h.box p hp)).1).trans (h.box p hp)
theorem Du.sub {bx' : List (Nat × Obj)} (h : Du I W w b r s sr bx) (hs : ∀ p ∈ bx', p ∈ bx) : Du I W w b r s sr bx' := by
  obtain ⟨F, vi, vo, h1, h2, h3, h4, h5, h6⟩ := h.ex
  exact ⟨⟨F, vi, vo, h1, h2, h3, h4, h5, fun p hp => h6 p (hs p hp)⟩, fun p hp => h.box p (hs p hp), h.nx, h.smb, h.smr⟩
theorem Du.lt {p : Nat × Obj} (h : Du I W w b r s sr bx) (hp : p ∈ bx) : p.1 < w.heap.size := (Array.getElem?_eq_some_iff.1 (h.box p hp)).1
/-- What is read of the reference's. -/
theorem Du.rIn (h : Du I W w b r s sr bx) : ∃ vi, w.cell? ⟨r, 1, none⟩ = some vi ∧ Es w vi sr.ins := by
  obtain ⟨F, vi, vo, h1, h2, _⟩ := h.ex
  exact ⟨vi, (row3 h2.row).2.1, h2.rdI⟩
theorem Du.rLt (h : Du I W w b r s sr bx) : r < w.heap.size := by
  obtain ⟨F, vi, vo, h1, h2, _⟩ := h.ex
  exact rf_lt h2 (.inl rfl)
/-- A call on the book. -/
theorem Du.turnB (K : Bk I) (h : Du I W w b r s sr bx) {s' : Bs} (hs : Small s') (F0 : Nat → Prop) (vi vo : Value) (h1 : I w b s F0) (h2 : RBk w r sr vi vo)
    (h3 : ∀ k, F0 k → W.heap.size ≤ k) (h4 : ∀ k, RF r vi vo k → W.heap.size ≤ k) (h5 : ∀ k, F0 k → ¬ RF r vi vo k) (h6 : ∀ p ∈ bx, ¬ F0 p.1 ∧ ¬ RF r vi vo p.1) {F' : Nat → Prop} (hI : I w' b s' F') (hT : Tn w w' F0 F') : Du I W w' b r s' sr bx := by
  have hr : ∀ k, RF r vi vo k → w'.heap[k]? = w.heap[k]? := fun k hk => hT.keep k (rf_lt h2 hk) (fun e => h5 k e hk)
  refine ⟨⟨F', vi, vo, hI, rbk_keep h2 hr, hT.past h.nx.size h3, h4, ?_, ?_⟩, ?_, hT.below h.nx (Nat.le_refl _) h3, hs, h.smr⟩
  · intro k hk hk'
    rcases hT.new k hk with e | e
    · exact h5 k e hk'
    · have := rf_lt h2 hk'; omega
  · intro p hp
    refine ⟨fun e => ?_, (h6 p hp).2⟩
    rcases hT.new p.1 e with e | e
    · exact (h6 p hp).1 e
    · have := h.lt hp; omega
  · intro p hp
    exact (hT.keep p.1 (h.lt hp) (h6 p hp).1).trans (h.box p hp)
/-- A call on the reference's. -/
theorem Du.turnR (K : Bk I) (h : Du I W w b r s sr bx) {s' : Bs} (hs : Small s') (F0 : Nat → Prop) (vi vo vi' vo' : Value) (h1 : I w b s F0) (h2 : RBk w r sr vi vo)
    (h3 : ∀ k, F0 k → W.heap.size ≤ k) (h4 : ∀ k, RF r vi vo k → W.heap.size ≤ k) (h5 : ∀ k, F0 k → ¬ RF r vi vo k) (h6 : ∀ p ∈ bx, ¬ F0 p.1 ∧ ¬ RF r vi vo p.1) (hI : RBk w' r s' vi' vo') (hT : Tn w w' (RF r vi vo) (RF r vi' vo')) : Du I W w' b r s s' bx := by
  refine ⟨⟨F0, vi', vo', K.kept.keep h1 hT.size (fun k hk => hT.keep k (K.kept.lt h1 k hk) (h5 k hk)), hI, h3, hT.past h.nx.size h4, ?_, ?_⟩, ?_, hT.below h.nx (Nat.le_refl _) h4, h.smb, hs⟩
  · intro k hk hk'
    rcases hT.new k hk' with e | e
    · exact h5 k hk e
    · have := K.kept.lt h1 k hk; omega
  · intro p hp
    refine ⟨(h6 p hp).1, fun e => ?_⟩
    rcases hT.new p.1 e with e | e
    · exact (h6 p hp).2 e
    · have := h.lt hp; omega
  · intro p hp
    exact (hT.keep p.1 (h.lt hp) (h6 p hp).2).trans (h.box p hp)
theorem du_enter (K : Bk I) (h : Du I W w b r s sr bx) (id : Int) (x : Pr) (now : Int) : Calls Try.prog 9 #[ptr b, .int .i64 id, prv x, .int .i64 now] w fun e w' => e = .returned (.int .i64 (enterE s id x now)) ∧ Hid (Du I W w' b r (enter s id x now) sr bx) := by
  obtain ⟨F, vi, vo, h1, h2, h3, h4, h5, h6⟩ := h.ex
  exact (K.enter w b s F id x now h1 h.smb).mono fun e w' ⟨F', e1, hI, hT⟩ => ⟨e1, h.turnB K (du_smE h.smb id x now) F vi vo h1 h2 h3 h4 h5 h6 hI hT⟩
theorem du_leave (K : Bk I) (h : Du I W w b r s sr bx) (id till now : Int) (ho : s.outs.length < 500) : Calls Try.prog 10 #[ptr b, .int .i64 id, .int .i64 till, .int .i64 now] w fun e w' => e = .returned (.int .i64 (leaveE s id till now)) ∧ Hid (Du I W w' b r (leave s id till now) sr bx) := by
  obtain ⟨F, vi, vo, h1, h2, h3, h4, h5, h6⟩ := h.ex
  exact (K.leave w b s F id till now h1 h.smb).mono fun e w' ⟨F', e1, hI, hT⟩ => ⟨e1, h.turnB K (du_smL h.smb id till now ho) F vi vo h1 h2 h3 h4 h5 h6 hI hT⟩
theorem du_change (K : Bk I) (h : Du I W w b r s sr bx) (id : Int) (x : Pr) (now : Int) : Calls Try.prog 13 #[ptr b, .int .i64 id, prv x, .int .i64 now] w fun e w' => e = .returned (.int .i64 (changeE s id x now)) ∧ Hid (Du I W w' b r (change s id x now) sr bx) := by
  obtain ⟨F, vi, vo, h1, h2, h3, h4, h5, h6⟩ := h.ex
  exact (K.change w b s F id x now h1 h.smb).mono fun e w' ⟨F', e1, hI, hT⟩ => ⟨e1, h.turnB K (du_smC h.smb id x now) F vi vo h1 h2 h3 h4 h5 h6 hI hT⟩
theorem du_ask (K : Bk I) (h : Du I W w b r s sr bx) (x : Pr) (now : Int) : Calls Try.prog 11 #[ptr b, prv x, .int .i64 now] w fun e w' => e = .returned (.int .i64 (askE s x now)) ∧ Hid (Du I W w' b r s sr bx) := by
  obtain ⟨F, vi, vo, h1, h2, h3, h4, h5, h6⟩ := h.ex
  exact (K.ask w b s F x now h1 h.smb).mono fun e w' hh => ⟨hh.1, h.on K hh.2⟩
theorem du_renter (K : Bk I) (h : Du I W w b r s sr bx) (id : Int) (x : Pr) (now : Int) : Calls Try.prog 15 #[rptr r, .int .i64 id, prv x, .int .i64 now] w fun e w' => e = .returned (.int .i64 (enterE sr id x now)) ∧ Hid (Du I W w' b r s (enter sr id x now) bx) := by
  obtain ⟨F, vi, vo, h1, h2, h3, h4, h5, h6⟩ := h.ex
  exact (renter_any h2 h.smr id x now).mono fun e w' ⟨vi', vo', e1, hI, hT⟩ => ⟨e1, h.turnR K (du_smE h.smr id x now) F vi vo vi' vo' h1 h2 h3 h4 h5 h6 hI hT⟩
theorem du_rleave (K : Bk I) (h : Du I W w b r s sr bx) (id till now : Int) (ho : sr.outs.length < 500) : Calls Try.prog 16 #[rptr r, .int .i64 id, .int .i64 till, .int .i64 now] w fun e w' => e = .returned (.int .i64 (leaveE sr id till now)) ∧ Hid (Du I W w' b r s (leave sr id till now) bx) := by
  obtain ⟨F, vi, vo, h1, h2, h3, h4, h5, h6⟩ := h.ex
  exact (rleave_any h2 h.smr ho id till now).mono fun e w' ⟨e1, vi', vo', hI, hT⟩ => ⟨e1, h.turnR K (du_smL h.smr id till now ho) F vi vo vi' vo' h1 h2 h3 h4 h5 h6 hI hT⟩
theorem du_rchange (K : Bk I) (h : Du I W w b r s sr bx) (id : Int) (x : Pr) (now : Int) : Calls Try.prog 17 #[rptr r, .int .i64 id, prv x, .int .i64 now] w fun e w' => e = .returned (.int .i64 (changeE sr id x now)) ∧ Hid (Du I W w' b r s (change sr id x now) bx) := by
  obtain ⟨F, vi, vo, h1, h2, h3, h4, h5, h6⟩ := h.ex
  exact (rchange_any h2 h.smr id x now).mono fun e w' ⟨e1, vi', vo', hI, hT⟩ => ⟨e1, h.turnR K (du_smC h.smr id x now) F vi vo vi' vo' h1 h2 h3 h4 h5 h6 hI hT⟩
theorem du_rask (K : Bk I) (h : Du I W w b r s sr bx) (x : Pr) (now : Int) : Calls Try.prog 18 #[rptr r, prv x, .int .i64 now] w fun e w' => e = .returned (.int .i64 (askE sr x now)) ∧ Hid (Du I W w' b r s sr bx) := by
  obtain ⟨F, vi, vo, h1, h2, h3, h4, h5, h6⟩ := h.ex
  exact (rask_any h2 h.smr x now).mono fun e w' hh => ⟨hh.1, h.on K hh.2⟩
theorem du_live (K : Bk I) (h : Du I W w b r s sr bx) : Calls Try.prog 14 #[ptr b] w fun e w' => ∃ v, e = .returned v ∧ Hid (Es w' v s.ins) ∧ Hid (Du I W w' b r s sr bx) ∧ Nx w w' := by
  obtain ⟨F, vi, vo, h1, h2, h3, h4, h5, h6⟩ := h.ex
  exact (K.live w b s F h1 h.smb).mono fun e w' ⟨v, e1, hE, hB⟩ => ⟨v, e1, hE, h.on K hB, hB⟩
theorem du_lingers (K : Bk I) (h : Du I W w b r s sr bx) (now : Int) : Calls Try.prog 12 #[ptr b, .int .i64 now] w fun e w' => ∃ v, e = .returned v ∧ Hid (Es w' v (lingers s now)) ∧ Hid (Du I W w' b r s sr bx) ∧ Nx w w' := by
  obtain ⟨F, vi, vo, h1, h2, h3, h4, h5, h6⟩ := h.ex
  exact (K.lingers w b s F now h1 h.smb).mono fun e w' ⟨v, e1, hE, hB⟩ => ⟨v, e1, hE, h.on K hB, hB⟩
theorem du_rlingers (K : Bk I) (h : Du I W w b r s sr bx) (now : Int) : Calls Try.prog 20 #[rptr r, .int .i64 now] w fun e w' => ∃ v, e = .returned v ∧ Hid (Es w' v (lingers sr now)) ∧ Hid (Du I W w' b r s sr bx) ∧ Nx w w' := by
  obtain ⟨F, vi, vo, h1, h2, h3, h4, h5, h6⟩ := h.ex
  exact (rlingers_any h2 h.smr.2 now).mono fun e w' ⟨v, e1, hO, hB⟩ => ⟨v, e1, Es.own hO.out, h.on K hB, hB⟩
/-- A new book, and the reference's laid behind it. -/
theorem du_new (K : Bk I) {c : Int} (hc : 1 ≤ c ∧ c ≤ 64) : Calls Try.prog 8 #[.int .i64 c] w fun e w' => ∃ b, e = .returned (.tuple #[ptr b, .int .i64 0]) ∧
    Hid (Du I w (w'.alloc (.cells #[.int .i64 c, .slice none 0 0, .slice none 0 0] 39)) b w'.heap.size ⟨c, [], []⟩ ⟨c, [], []⟩ []) ∧ Nx w w' :=
  (K.new c w).mono fun e w' h => by
    obtain ⟨h1, _, h3⟩ := h
    obtain ⟨b, F, e1, h4, h5⟩ := h1 hc
    have hB := Nx.alloc w' (.cells #[.int .i64 c, .slice none 0 0, .slice none 0 0] 39)
    have rf : ∀ k, RF w'.heap.size (.slice none 0 0) (.slice none 0 0) k → k = w'.heap.size := fun k hk => by
      rcases hk with rfl | hk | hk
      · rfl
      · cases hk
      · cases hk
    refine ⟨b, e1, ⟨⟨F, .slice none 0 0, .slice none 0 0, K.kept.nx h4 hB, ⟨heap_alloc_new w' _, World.ownsRow_nil _ _ _ _, World.ownsRow_nil _ _ _ _, (fun k hk => by cases hk)⟩, h5, ?_, ?_, (fun p hp => by cases hp)⟩, (fun p hp => by cases hp), Nx.trans h3 hB, ⟨by simp, by simp⟩, ⟨by simp, by simp⟩⟩, h3⟩
    · intro k hk
      rw [rf k hk]; exact h3.size
    · intro k hk hk'
      have := K.kept.lt h4 k hk
      rw [rf k hk'] at this; omega
end
end Go.Proofs.Ytldccbinndbcdaa.Am
