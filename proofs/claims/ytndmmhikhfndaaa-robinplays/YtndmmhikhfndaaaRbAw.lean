/- Awake. -/
import Derived.Test.YtndmmhikhfndaaaRbCon
namespace Go.Proofs.Ytndmmhikhfndaaa.Rb
open Go.RowKit Go.Proofs.Ytndmmhikhfndaaa.Con Go.Proofs.Ytndmmhikhfndaaa.Fp
set_option linter.unusedVariables false
set_option linter.unusedSimpArgs false
attribute [local go_sem ↓] Go.wp_at_zero Go.wp_at_succ
theorem Rs.ext' {a b : Rs} (h1 : a.room = b.room) (h2 : a.l = b.l) : a = b := by
  cases a; cases b
  cases h1; cases h2; rfl
section
variable {I : RbI} {W w w' : World} {b : Nat} {s s' : Rs} {F F' : Nat → Prop} {x : Int} {L M : List Int}
theorem at_new' (K : Rk I) (hW : Nx W w) (most : Int) (h2 : newS most = s') : Calls Try.prog 8 #[.int .i64 most] w fun e w' => ∃ b F, e = .returned (ptr b) ∧ Hid (At I W w' b s' F) ∧ (∀ k, F k → w.heap.size ≤ k) ∧ Nx w w' := by
  subst h2; exact at_new K hW most
theorem at_add' (K : Rk I) (h : At I W w b s F) (id : Int) (h1 : addE s id = x) (h2 : addS s id = s') : Calls Try.prog 9 #[ptr b, .int .i64 id] w fun e w' => ∃ F', e = .returned (.int .i64 x) ∧ Hid (At I W w' b s' F') ∧ Tn w w' F F' := by
  subst h1 h2; exact at_add K h id
theorem at_drop' (K : Rk I) (h : At I W w b s F) (id : Int) (h1 : dropE s id = x) (h2 : dropS s id = s') : Calls Try.prog 10 #[ptr b, .int .i64 id] w fun e w' => ∃ F', e = .returned (.int .i64 x) ∧ Hid (At I W w' b s' F') ∧ Tn w w' F F' := by
  subst h1 h2; exact at_drop K h id
theorem at_see' (K : Rk I) (h : At I W w b s F) (n : Int) (h1 : seeL s n = L) : Calls Try.prog 12 #[ptr b, .int .i64 n] w fun e w' => ∃ v F', e = .returned v ∧ Hid (At I W w' b s F') ∧ Tn w w' F F' ∧ Hid (Sf w' F' v L) := by
  subst h1; exact at_see K h n
theorem at_take' (K : Rk I) (h : At I W w b s F) (n : Int) (h1 : seeL s n = L) (h2 : takeS s n = s') : Calls Try.prog 14 #[ptr b, .int .i64 n] w fun e w' => ∃ v F', e = .returned v ∧ Hid (At I W w' b s' F') ∧ Tn w w' F F' ∧ Hid (Sf w' F' v L) := by
  subst h1 h2; exact at_take K h n
theorem at_many' (K : Rk I) (h : At I W w b s F) (n t : Int) (h1 : manyC s n t = L) (h2 : manyS s n t = ⟨s'.room, M⟩) (h3 : s' = ⟨s'.room, M⟩ := by rfl) : Calls Try.prog 11 #[ptr b, .int .i64 n, .int .i64 t] w fun e w' => ∃ v u F', e = .returned (.tuple #[v, u]) ∧ Hid (At I W w' b s' F') ∧ Tn w w' F F' ∧ Hid (Sf w' F' v L) ∧ Hid (Sf w' F' u M) := by
  have := at_many K h n t
  rw [h1, h2, ← h3] at this
  rw [h3] at this ⊢
  exact this
theorem at_len' (K : Rk I) (h : At I W w b s F) (h1 : (s.l.length : Int) = x) : Calls Try.prog 15 #[ptr b] w fun e w' => e = .returned (.int .i64 x) ∧ Hid (At I W w' b s F) ∧ Nx w w' := by
  subst h1; exact at_len K h
end
theorem Is.put {w : World} {v : Value} {l : List Int} (h : Is w v l) (h0 : 0 < l.length) : ∃ b o c, v = .slice (some ⟨b, o, none⟩) l.length c ∧ ∀ w', Nx w w' → ∀ k, k < l.length → w'.cell? ⟨b, o + k, none⟩ = some (.int .i64 (l.getD k 0)) := by
  obtain ⟨p, c, rfl, _, _⟩ := h.form
  obtain ⟨b, o, rfl, _, _⟩ := h.at h0
  refine ⟨b, o, c, rfl, fun w' hB k hk => ?_⟩
  obtain ⟨b', o', e, _, hc⟩ := (h.below hB).at hk
  simp only [Option.some.injEq, Addr.mk.injEq, and_true] at e
  obtain ⟨rfl, rfl⟩ := e
  exact hc
set_option maxHeartbeats 8000000 in
set_option maxRecDepth 100000 in
theorem awake_of {I : RbI} (K : Rk I) : AwakeC := by
  intro W
  go_enter Try.func7, Try.ntmps7
  go_wp2_with fail
  refine (at_new' K (Nx.refl W) 5 (s' := ⟨5, []⟩) (Rs.ext' (by decide +kernel) (by decide +kernel))).mono ?_
  rintro ee w1 ⟨b, F, rfl, hA, -, hb⟩
  have A := hide hA.out
  clear hA hb
  go_wp2_with fail
  refine (at_add' K A.out 1 (x := 0) (s' := ⟨5, [1]⟩) (by decide +kernel) (Rs.ext' (by decide +kernel) (by decide +kernel))).mono ?_
  rintro ee w2 ⟨F2, rfl, hA, hT⟩
  clear A
  have A := hide hA.out
  clear hA hT
  go_wp2_with fail
  refine (at_add' K A.out 2 (x := 0) (s' := ⟨5, [1, 2]⟩) (by decide +kernel) (Rs.ext' (by decide +kernel) (by decide +kernel))).mono ?_
  rintro ee w3 ⟨F3, rfl, hA, hT⟩
  clear A
  have A := hide hA.out
  clear hA hT
  go_wp2_with fail
  refine (at_add' K A.out 3 (x := 0) (s' := ⟨5, [1, 2, 3]⟩) (by decide +kernel) (Rs.ext' (by decide +kernel) (by decide +kernel))).mono ?_
  rintro ee w4 ⟨F4, rfl, hA, hT⟩
  clear A
  have A := hide hA.out
  clear hA hT
  go_wp2_with fail
  refine (at_take' K A.out 2 (L := [1, 2]) (s' := ⟨5, [3, 1, 2]⟩) (by decide +kernel) (Rs.ext' (by decide +kernel) (by decide +kernel))).mono ?_
  rintro ee w5 ⟨l, F5, rfl, hA, hT, hl⟩
  clear A
  have A := hide hA.out
  clear hA hT
  have Sl := hide hl.out
  clear hl
  go_wp2_with fail
  refine (ints_lit Sl.out.is [1, 2] (by decide)).mono ?_
  rintro ee w6 ⟨rfl, hb⟩
  clear Sl
  have An := hide (A.out.on K hb)
  clear A
  have A := An
  clear An
  clear hb
  go_wp2_with fail
  refine (at_see' K A.out 1 (L := [3]) (by decide +kernel)).mono ?_
  rintro ee w7 ⟨z, F7, rfl, hA, hT, hz⟩
  clear A
  have A := hide hA.out
  clear hA hT
  have Sz := hide hz.out
  clear hz
  go_wp2_with fail
  refine (ints_lit Sz.out.is [3] (by decide)).mono ?_
  rintro ee w8 ⟨rfl, hb⟩
  clear Sz
  have An := hide (A.out.on K hb)
  clear A
  have A := An
  clear An
  clear hb
  go_wp2_with fail
  refine (at_len' K A.out  (x := 3) (by decide +kernel)).mono ?_
  rintro ee w9 ⟨rfl, hA, hb⟩
  clear A
  have A := hide hA.out
  clear hA hb
  go_wp2
  go_ret
  exact ⟨rfl, A.out.nx⟩
end Go.Proofs.Ytndmmhikhfndaaa.Rb
