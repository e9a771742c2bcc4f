/- RobinPlays: a map that counts beside the robin, the law's rows and the act. -/
import Derived.Test.YtndmmhikhfndaaaRbPw
namespace Go.Proofs.Ytndmmhikhfndaaa.Rb
open Go.RowKit Go.Proofs.Ytndmmhikhfndaaa.Con Go.Proofs.Ytndmmhikhfndaaa.Fp
set_option linter.unusedVariables false
set_option linter.unusedSimpArgs false
theorem infoW : (Try.prog.info? 3).map (fun i => (i.zero, i.size, i.bytes)) = some (some (.int .i64 0), 1, 8) := by kernel_rfl
theorem infoP {e : TypeId} {z : Value} {s b : Nat} (h : (Try.prog.info? e).map (fun i => (i.zero, i.size, i.bytes)) = some (some z, s, b)) : ∃ i, Try.prog.info? e = some i ∧ i.zero = some z ∧ i.size = s ∧ i.bytes = b := by
  obtain ⟨i, hi, hz⟩ := Option.map_eq_some_iff.1 h
  simp only [Prod.mk.injEq] at hz
  exact ⟨i, hi, hz⟩
theorem ivs_one (L : List Int) : ∀ u ∈ ivs L, u.oneCell' = true := by
  intro u hu
  unfold ivs at hu
  obtain ⟨x, _, rfl⟩ := List.mem_map.1 hu
  rfl
def One (mb : Nat) : Nat → Prop := fun k => k = mb
structure Pm (I : RbI) (W w : World) (b : Nat) (s : Rs) (F : Nat → Prop) (mb : Nat) (l : List Int) (q : Nat) (u : Value) (ys : List Int) (vo : Value) (g : Nat) (a : Ac) : Prop where
  it : At I W w b s F
  key : ∀ x ∈ s.l, in64 x
  row : Sf w (Un F (One mb)) u ys
  old : Sf w (Un F (One mb)) vo l
  cm : Cm w mb l q
  ap : ¬ F mb
  past : W.heap.size ≤ mb
  bx : Bx w (Un F (One mb)) g a
section
variable {I : RbI} {W w w' : World} {b g mb q : Nat} {s s' : Rs} {F F' : Nat → Prop} {u u' vo : Value} {l ys zs : List Int} {a : Ac}
theorem Sf.weak {G : Nat → Prop} {v : Value} (h : Sf w (Un F G) v l) : Sf w F v l := ⟨h.1, fun k hk h0 hf => h.2 k hk h0 (.inl hf)⟩
theorem Pm.pw (h : Pm I W w b s F mb l q u ys vo g a) : Pw I W w b s F u ys := ⟨h.it, h.row.weak, h.key⟩
theorem pm_start (K : Rk I) (h : Pw I W w b s F u l) (hb : Bx w F g a) (ho : Sf w F vo l) : Pm I W (w.alloc (.map #[] 0)) b s F w.heap.size l 0 u l vo g a := by
  have hB : Nx w (w.alloc (.map #[] 0)) := Nx.alloc _ _
  have hw : ∀ {v : Value}, Sf w F v l → Sf (w.alloc (.map #[] 0)) (Un F (One w.heap.size)) v l := fun {v} h => ⟨h.1.below hB, fun k hk h0 hf => hf.elim (h.2 k hk h0) (fun e => by have := h.1.blk hk h0; unfold One at e; omega)⟩
  exact ⟨h.it.on K hB, h.key, hw h.row, hw ho, Cm.made l w, fun hf => by have := K.kept.lt h.it.it _ hf; omega, h.it.nx.size, ⟨(hb.nx hB).str, fun hf => hf.elim hb.off (fun e => by have := hb.lt; unfold One at e; omega)⟩⟩
theorem Pm.nx (K : Rk I) (h : Pm I W w b s F mb l q u ys vo g a) (hB : Nx w w') : Pm I W w' b s F mb l q u ys vo g a :=
  ⟨h.it.on K hB, h.key, h.row.nx hB, h.old.nx hB, h.cm.kept (hB.block _ h.cm.lt), h.ap, h.past, h.bx.nx hB⟩
theorem Pm.fresh (K : Rk I) (h : Pm I W w b s F mb l q u ys vo g a) (hB : Nx w w') {n : Nat} (hn : zs.length = n) (hr : w'.ownsRow w.heap.size 3 1 u' n (ivs zs)) : Pm I W w' b s F mb l q u' zs vo g a := by
  subst hn
  have h' := h.nx K hB
  exact ⟨h'.it, h'.key, ⟨RdC.own hr, fun k hk _ hf => by
    have := own_past hr k hk
    rcases hf with e | e
    · have := K.kept.lt h.it.it k e; omega
    · have := h.cm.lt; unfold One at e; omega⟩, h'.old, h'.cm, h'.ap, h'.past, h'.bx⟩
theorem Pm.put (K : Rk I) (h : Pm I W w b s F mb l q u ys vo g a) (hq : q < 1000000) {x : Int} (hx : in64 x) (hl : l[q % l.length]? = some x) :
    ∃ w', (Instr.mapUpdate 36 (.map (some mb)) (.int .i64 x) (.int .i64 (((seen l q x : Nat) : Int) + 1))).run Try.prog w = .ok () w' ∧ Hid (Pm I W w' b s F mb l (q + 1) u ys vo g a) := by
  obtain ⟨w', h1, h2, h3⟩ := h.cm.put hq hx hl
  have hne : ∀ k, F k → some k ≠ some mb := fun k hk e => h.ap (by injection e with e; exact e ▸ hk)
  have hT : Tn w w' (Un F (One mb)) (Un F (One mb)) := ⟨h3.size, h3.os, h3.tape, h3.output, fun k hk hn => h3.block k hk (fun e => hn (.inr (by injection e))), fun k hk => .inl hk⟩
  have hI : At I W w' b s F := ⟨K.kept.keep h.it.it h3.size (fun k hk => h3.block k (K.kept.lt h.it.it k hk) (hne k hk)), h.it.past, hT.below h.it.nx (Nat.le_refl _) (fun k hk => hk.elim (h.it.past k) (fun e => by unfold One at e; rw [e]; exact h.past)), h.it.gd⟩
  exact ⟨w', h1, ⟨hI, h.key, h.row.tn hT, h.old.tn hT, h2, h.ap, h.past, h.bx.tn hT⟩⟩
theorem Pm.turn (h : Pm I W w b s F mb l q u ys vo g a) (hA : At I W w' b s' F') (hT : Tn w w' F F') (hk : ∀ x ∈ s'.l, in64 x) : Pm I W w' b s' F' mb l q u ys vo g a := by
  have hU := tn_l hT (One mb)
  refine ⟨hA, hk, h.row.tn hU, h.old.tn hU, h.cm.kept (hT.keep _ h.cm.lt h.ap), fun hf => ?_, h.past, h.bx.tn hU⟩
  rcases hT.new _ hf with e | e
  · exact h.ap e
  · have := h.cm.lt; omega
end
theorem rot_at {l : List Int} {q k : Nat} (h : k < l.length) : l[(q + k) % l.length]? = some ((rot l q).getD k 0) := by
  have hl : k < (rot l q).length := by rw [rot_len]; exact h
  rw [← rot_get l q k h, List.getD_eq_getElem?_getD, List.getElem?_eq_getElem hl]; rfl
theorem rot_more {l : List Int} {q N : Nat} (h : N ≤ l.length) : (rot l q).drop N ++ (rot l q).take N = rot l (q + N) := by
  rw [rot_take _ _ (by rw [rot_len]; exact h), rot_rot]
theorem get_mem {l : List Int} {k : Nat} (h : k < l.length) : l.getD k 0 ∈ l := by
  rw [List.getD_eq_getElem?_getD, List.getElem?_eq_getElem h]; exact List.getElem_mem h
/-- append([]int{}, x...), in a walk. -/
theorem wpList_rapp {ops : Array Oper} {rest : List Oper} {o : Oper} {a : Act} {Q : Exit → Act → World → Prop} {w : World} (hgd : o.guard = none) (s x : Operand)
    (ho : o.op = .call { callee := .builtin .append, args := #[s, x], argTypes := #[28, 28] }) (u : Value) (ys : List Int) (n : Nat) (hs : a.eval s = .slice (some ⟨w.heap.size, 0, none⟩) 0 0) (hx : a.eval x = u)
    (h : RdC w w.heap.size 1 u n (ivs ys)) (hl : n ≤ 1000)
    (k : ∀ p c w', Hid (w'.ownsRow w.heap.size 3 1 (.slice p n c) n (ivs ys) ∧ Below w.heap.size w w') → wpList Try.prog ops Q rest (a.put o.dst (.slice p n c)) w') :
    wpList Try.prog ops Q (o :: rest) a (w.alloc (.cells #[] 3)) := by
  obtain ⟨i0, hi, hz0, hz1, hz2⟩ := infoP infoW
  refine wpList_plain hgd fun K hK => ?_
  have hB : Below w.heap.size w (w.alloc (.cells #[] 3)) := (Below.refl _ _).alloc (Nat.le_refl _) _
  obtain ⟨p, c, w', hr, h2, h3, h4⟩ := run_append_rd (w.alloc (.cells #[] 3)) w.heap.size 28 o.type 3 i0 (.int .i64 0) 1 8 Try.underlying28 hi hz0 hz1 hz2 rfl (by decide) (.slice (some ⟨w.heap.size, 0, none⟩) 0 0) 0 [] (own_empty (heap_alloc_new w _) (Nat.le_refl _)) _ u n (ivs ys) (h.below hB) (ivs_one _) (by unfold maxLen; omega) (by omega) (by simp)
  rw [Nat.zero_add] at hr h2 h4
  rw [List.nil_append] at h2
  unfold Oper.wp execOp
  simp only [ho, resolve, invoke, builtin, Sem.run_bind, Sem.run_pure, Result.andThen_ok, List.map_toArray, List.map_cons, List.map_nil, hs, hx, hr]
  refine hK _ _ (k p c w' (hide ⟨h2, below_grown hB (by simp) h3 (fun k hk => by simp [Value.ownBlock] at hk; omega)⟩))
end Go.Proofs.Ytndmmhikhfndaaa.Rb
