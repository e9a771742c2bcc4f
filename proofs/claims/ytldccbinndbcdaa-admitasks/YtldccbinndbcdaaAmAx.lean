/- A book with a box beside it; awake. -/
import Derived.Test.YtldccbinndbcdaaAmCon
namespace Go.Proofs.Ytldccbinndbcdaa.Am
open Go.RowKit Go.Proofs.Ytldccbinndbcdaa.Con Go.Proofs.Ytldccbinndbcdaa.Wn Go.Proofs.Ytldccbinndbcdaa.Fp
set_option linter.unusedVariables false
set_option linter.unusedSimpArgs false
structure Ax (I : BkI) (W w : World) (b : Nat) (s : Bs) (g : Nat) (o : Obj) : Prop where
  ex : ∃ F, I w b s F ∧ ∀ k, F k → W.heap.size ≤ k ∧ k ≠ g
  box : w.heap[g]? = some o
  nx : Nx W w
  small : Small s
section
variable {I : BkI} {W w w' : World} {b g : Nat} {s : Bs} {o : Obj}
theorem Ax.of (K : Bk I) (h : At I W w b s) (o : Obj) : Ax I W (w.alloc o) b s w.heap.size o := by
  obtain ⟨F, h1, h2⟩ := h.ex
  exact ⟨⟨F, K.kept.nx h1 (Nx.alloc w o), fun k hk => ⟨h2 k hk, fun e => by have := K.kept.lt h1 k hk; omega⟩⟩, heap_alloc_new w o, Nx.trans h.nx (Nx.alloc w o), h.small⟩
theorem Ax.on (K : Bk I) (h : Ax I W w b s g o) (hB : Nx w w') : Ax I W w' b s g o := by
  obtain ⟨F, h1, h2⟩ := h.ex
  exact ⟨⟨F, K.kept.nx h1 hB, h2⟩, (hB.block g (Array.getElem?_eq_some_iff.1 h.box).1).trans h.box, Nx.trans h.nx hB, h.small⟩
theorem Ax.turn {F F' : Nat → Prop} {s' : Bs} (h : Ax I W w b s g o) (hF : ∀ k, F k → W.heap.size ≤ k ∧ k ≠ g) (hI : I w' b s' F') (hT : Tn w w' F F') (hs : Small s') : Ax I W w' b s' g o := by
  have hg := (Array.getElem?_eq_some_iff.1 h.box).1
  refine ⟨⟨F', hI, fun k hk => ⟨hT.past h.nx.size (fun k hk => (hF k hk).1) k hk, fun e => ?_⟩⟩, (hT.keep g hg (fun hf => (hF g hf).2 rfl)).trans h.box, hT.below h.nx (Nat.le_refl _) (fun k hk => (hF k hk).1), hs⟩
  subst e
  rcases hT.new k hk with h1 | h1
  · exact (hF k h1).2 rfl
  · omega
theorem Ax.toAt (h : Ax I W w b s g o) : At I W w b s := by
  obtain ⟨F, h1, h2⟩ := h.ex
  exact ⟨⟨F, h1, fun k hk => (h2 k hk).1⟩, h.nx, h.small⟩
theorem small_enter {id : Int} {x : Pr} {now : Int} (h : Small s) : Small (enter s id x now) := by
  by_cases h0 : enterE s id x now = 0
  · rw [enter_y h0]
    have hl := (enter_ok h0).2.2.1
    exact ⟨by show (s.ins ++ _).length ≤ 32; simp; omega, h.2⟩
  · rw [enter_n h0]; exact h
theorem small_leave {id till now : Int} (h : Small s) (ho : s.outs.length < 500) : Small (leave s id till now) := by
  unfold leave
  split
  · refine ⟨by show (s.ins.take _ ++ s.ins.drop _).length ≤ 32; simp; have := h.1; omega, ?_⟩
    show (if now < till then s.outs ++ [_] else s.outs).length ≤ 500
    split
    · simp; omega
    · exact h.2
  · exact h
theorem small_change {id : Int} {x : Pr} {now : Int} (h : Small s) : Small (change s id x now) := by
  unfold change
  split
  · exact ⟨by show (put s.ins _ _).length ≤ 32; simp [put]; exact h.1, h.2⟩
  · exact h
theorem ax_ask (K : Bk I) (h : Ax I W w b s g o) (x : Pr) (now : Int) : Calls Try.prog 11 #[ptr b, prv x, .int .i64 now] w fun e w' => e = .returned (.int .i64 (askE s x now)) ∧ Hid (Ax I W w' b s g o) := by
  obtain ⟨F, h1, h2⟩ := h.ex
  exact (K.ask w b s F x now h1 h.small).mono fun e w' hh => ⟨hh.1, h.on K hh.2⟩
theorem ax_enter (K : Bk I) (h : Ax I W w b s g o) (id : Int) (x : Pr) (now : Int) : Calls Try.prog 9 #[ptr b, .int .i64 id, prv x, .int .i64 now] w fun e w' => e = .returned (.int .i64 (enterE s id x now)) ∧ Hid (Ax I W w' b (enter s id x now) g o) := by
  obtain ⟨F, h1, h2⟩ := h.ex
  exact (K.enter w b s F id x now h1 h.small).mono fun e w' ⟨F', e1, h3, h4⟩ => ⟨e1, h.turn h2 h3 h4 (small_enter h.small)⟩
theorem ax_leave (K : Bk I) (h : Ax I W w b s g o) (id till now : Int) (ho : s.outs.length < 500) : Calls Try.prog 10 #[ptr b, .int .i64 id, .int .i64 till, .int .i64 now] w fun e w' => e = .returned (.int .i64 (leaveE s id till now)) ∧ Hid (Ax I W w' b (leave s id till now) g o) := by
  obtain ⟨F, h1, h2⟩ := h.ex
  exact (K.leave w b s F id till now h1 h.small).mono fun e w' ⟨F', e1, h3, h4⟩ => ⟨e1, h.turn h2 h3 h4 (small_leave h.small ho)⟩
theorem ax_change (K : Bk I) (h : Ax I W w b s g o) (id : Int) (x : Pr) (now : Int) : Calls Try.prog 13 #[ptr b, .int .i64 id, prv x, .int .i64 now] w fun e w' => e = .returned (.int .i64 (changeE s id x now)) ∧ Hid (Ax I W w' b (change s id x now) g o) := by
  obtain ⟨F, h1, h2⟩ := h.ex
  exact (K.change w b s F id x now h1 h.small).mono fun e w' ⟨F', e1, h3, h4⟩ => ⟨e1, h.turn h2 h3 h4 (small_change h.small)⟩
theorem ax_live (K : Bk I) (h : Ax I W w b s g o) : Calls Try.prog 14 #[ptr b] w fun e w' => ∃ v, e = .returned v ∧ Hid (Es w' v s.ins) ∧ Hid (Ax I W w' b s g o) := by
  obtain ⟨F, h1, h2⟩ := h.ex
  exact (K.live w b s F h1 h.small).mono fun e w' ⟨v, e1, h3, h4⟩ => ⟨v, e1, h3, h.on K h4⟩
theorem ax_lingers (K : Bk I) (h : Ax I W w b s g o) (now : Int) : Calls Try.prog 12 #[ptr b, .int .i64 now] w fun e w' => ∃ v, e = .returned v ∧ Hid (Es w' v (lingers s now)) ∧ Hid (Ax I W w' b s g o) := by
  obtain ⟨F, h1, h2⟩ := h.ex
  exact (K.lingers w b s F now h1 h.small).mono fun e w' ⟨v, e1, h3, h4⟩ => ⟨v, e1, h3, h.on K h4⟩
end
theorem aw1 : enterE ⟨1, [], []⟩ 1 (1, 2) 0 = 0 ∧ enter ⟨1, [], []⟩ 1 (1, 2) 0 = ⟨1, [⟨1, (1, 2), -1⟩], []⟩ := ⟨by decide +kernel, by rw [enter_y (by decide +kernel)]; rfl⟩
theorem aw2 : enterE ⟨1, [⟨1, (1, 2), -1⟩], []⟩ 2 (1, 2) 0 = 7 ∧ enter ⟨1, [⟨1, (1, 2), -1⟩], []⟩ 2 (1, 2) 0 = ⟨1, [⟨1, (1, 2), -1⟩], []⟩ := ⟨by decide +kernel, by rw [enter_n (by decide +kernel)]⟩
set_option maxHeartbeats 4000000 in
theorem awake_of {I : BkI} (K : Hid (Bk I)) : AwakeC := by
  intro W
  have Ha1 := hide aw1
  have Ha2 := hide aw2
  go_enter Try.func7, Try.ntmps7
  go_wp2_with fail
  refine (at_new K.out (Nx.refl W) (c := 1) (by omega)).mono ?_
  rintro e w1 ⟨b, rfl, hb⟩
  have A1 := hide hb.out
  clear hb
  go_wp2_with fail
  refine (at_enter K.out A1.out 1 (1, 2) 0).mono ?_
  rintro e w2 ⟨rfl, hb⟩
  rw [Ha1.out.1]
  rw [Ha1.out.2] at hb
  have A2 := hide hb.out
  clear hb A1 Ha1
  go_wp2_with fail
  refine (at_enter K.out A2.out 2 (1, 2) 0).mono ?_
  rintro e w3 ⟨rfl, hb⟩
  rw [Ha2.out.1]
  rw [Ha2.out.2] at hb
  have A3 := hide hb.out
  clear hb A2 Ha2
  go_wp2_with fail
  refine (at_live K.out A3.out).mono ?_
  rintro e w4 ⟨v4, rfl, hE4, hA4, _⟩
  obtain ⟨p4, cap4, rfl, hn4, hm4⟩ := hE4.out.form
  have A4 := hide hA4.out
  clear hE4 hA4 A3
  go_wp2_with fail
  refine (at_live K.out A4.out).mono ?_
  rintro e w5 ⟨v5, rfl, hE5, hA5, _⟩
  obtain ⟨p5, cap5, rfl, hn5, hm5⟩ := hE5.out.form
  obtain ⟨be, oe, rfl, hbe, q0, _, _, _⟩ := hE5.out.at (k := 0) (by decide)
  have A5 := hide hA5.out
  clear hE5 hA5 A4
  have q0' : w5.cell? ⟨be, oe, none⟩ = some (.int .i64 1) := q0
  clear q0
  go_wp2
  go_ret
  exact ⟨rfl, A5.out.nx⟩
end Go.Proofs.Ytldccbinndbcdaa.Am
