/- Clone; the calls of job. -/
import Derived.Test.YtmeigdgnfdgnhaaJTot
import Derived.OwnWalk
import Derived.Lib.SliceRun
import Derived.Deep.RegionHeld3
namespace Go.Proofs.Ytmeigdgnfdgnhaa.Con
open Go.RowKit Go.Proofs.Ytmeigdgnfdgnhaa.Pm
set_option linter.unusedVariables false
set_option linter.unusedSimpArgs false
theorem info_parts {e : TypeId} {z : Value} {s b : Nat} (h : (Try.prog.info? e).map (fun i => (i.zero, i.size, i.bytes)) = some (some z, s, b)) : ∃ i, Try.prog.info? e = some i ∧ i.zero = some z ∧ i.size = s ∧ i.bytes = b := by
  obtain ⟨i, hi, hz⟩ := Option.map_eq_some_iff.1 h
  simp only [Prod.mk.injEq] at hz
  exact ⟨i, hi, hz⟩
theorem infoSt : (Try.prog.info? 24).map (fun i => (i.zero, i.size, i.bytes)) = some (some (.agg #[.int .i64 0, .int .i64 0]), 2, 16) := by kernel_rfl
theorem own_form {B e size n : Nat} {w : World} {v : Value} {xs : List Value} (h : w.ownsRow B e size v n xs) : ∃ p c, v = .slice p n c := by
  obtain ⟨_, ⟨rfl, h0⟩ | ⟨g, cap, cur, rfl, _⟩⟩ := h
  · exact ⟨none, 0, by rw [h0]⟩
  · exact ⟨_, cap, rfl⟩
theorem own_bel {B e size n : Nat} {w w' : World} {v : Value} {xs : List Value} (h : w.ownsRow B e size v n xs) (hB : Below w.heap.size w w') : w'.ownsRow B e size v n xs :=
  own_kept h fun k hk => hB.block k (own_lt h k hk)
theorem wpList_append_rd {ops : Array Oper} {rest : List Oper} {o : Oper} {a : Act} {Q : Exit → Act → World → Prop} {w : World} (hgd : o.guard = none) (s x : Operand) (t : TypeId)
    (ho : o.op = .call { callee := .builtin .append, args := #[s, x], argTypes := #[t, t] }) {base e size by_ n m B : Nat} {z v xv : Value} {xs news : List Value}
    (hs : a.eval s = v) (hx : a.eval x = xv)
    (ht : Try.prog.underlying t = some (.slice e)) (hI : (Try.prog.info? e).map (fun i => (i.zero, i.size, i.bytes)) = some (some z, size, by_)) (hzs : z.cells.size = size) (hsz : 0 < size) (hby : by_ ≤ 64)
    (h : w.ownsRow base e size v n xs) (hB : base ≤ w.heap.size) (hr : RdC w B size xv m news) (h1 : ∀ u ∈ news, u.oneCell' = true) (hn : n + m ≤ 1000)
    (k : ∀ p c w', Hid (w'.ownsRow base e size (.slice p (n + m) c) (n + m) (xs ++ news) ∧ w.grownBy w' v.ownBlock) → wpList Try.prog ops Q rest (a.put o.dst (.slice p (n + m) c)) w') :
    wpList Try.prog ops Q (o :: rest) a w := by
  refine wpList_plain hgd fun K hK => ?_
  obtain ⟨i0, hi, hz0, hz1, hz2⟩ := info_parts hI
  have hmul : (n + m) * by_ ≤ 1000 * 64 := Nat.mul_le_mul hn hby
  obtain ⟨p, c, w', hr1, h2, h3, _⟩ := run_append_rd w base t o.type e i0 z size by_ ht hi hz0 hz1 hz2 hzs hsz v n xs h B xv m news hr h1 (by unfold maxLen; omega) (by omega) hB
  unfold Oper.wp execOp
  simp only [ho, resolve, invoke, builtin, Sem.run_bind, Sem.run_pure, Result.andThen_ok, List.map_toArray, List.map_cons, List.map_nil, hs, hx, hr1]
  exact hK _ _ (k p c w' (hide ⟨h2, h3⟩))

/-- A row of steps that is ours, from block B on. -/
abbrev Rs (B : Nat) (w : World) (v : Value) (L : List St) : Prop := w.ownsRow B 24 2 v L.length (flat L)
theorem Rs.sl {B : Nat} {w : World} {v : Value} {L : List St} (h : Rs B w v L) : Sl w v L := Sl.own h
theorem Rs.form {B : Nat} {w : World} {v : Value} {L : List St} (h : Rs B w v L) : ∃ p cap, v = .slice p L.length cap ∧ L.length ≤ cap ∧ cap ≤ maxLen := Sl.form h.sl
theorem Rs.less {B C : Nat} {w : World} {v : Value} {L : List St} (h : Rs B w v L) (hC : C ≤ B) : Rs C w v L := by
  obtain ⟨h1, ⟨h0, h2⟩ | ⟨g, cap, cur, rfl, h0, hg, r⟩⟩ := h
  · exact ⟨h1, .inl ⟨h0, h2⟩⟩
  · exact ⟨h1, .inr ⟨g, cap, cur, rfl, Nat.le_trans hC h0, hg, r⟩⟩
set_option maxHeartbeats 2000000 in
theorem clone_any {W : World} {v : Value} {L : List St} (h : Sl W v L) (hl : L.length ≤ 1000) :
    Calls Try.prog 17 #[v] W fun e w' => ∃ v', e = .returned v' ∧ Hid (Rs W.heap.size w' v' L ∧ Below W.heap.size W w') := by
  obtain ⟨p, cap, rfl, hn, hm⟩ := h.form
  cases p with
  | none =>
    have h0 : L.length = 0 := by
      obtain ⟨_, p', cap', e, _, _, h4⟩ := h
      simp only [Value.slice.injEq] at e
      obtain ⟨rfl, _, rfl⟩ := e
      rcases Nat.eq_zero_or_pos L.length with h0 | h0
      · exact h0
      · obtain ⟨b, o, hc, _⟩ := h4 h0; cases hc
    have FE : Rs W.heap.size W (.slice none 0 0) L := by
      rw [List.eq_nil_of_length_eq_zero h0]; exact World.ownsRow_nil _ _ _ _
    have q22 : ∀ (w : World) (a : Option Addr) (n c n' c' : Nat), (binOp .eql 26 (.slice a n c) (.slice none n' c')).run Try.prog w = .ok (.bool a.isNone) w := fun w a n c n' c' => Lib.run_eql_slice_nil w _ _ a n c n' c' Try.underlying26
    go_enter Try.func17, Try.ntmps17
    go_wp2
    go_ret
    exact ⟨_, rfl, hide ⟨FE, Below.refl _ _⟩⟩
  | some q =>
    have HH : Hid (Sl (W.alloc (.cells #[] 24)) (.slice (some q) L.length cap) L) := hide (h.below ((Below.refl _ W).alloc (Nat.le_refl _) _))
    have HE : Hid ((W.alloc (.cells #[] 24)).ownsRow W.heap.size 24 2 (.slice (some ⟨W.heap.size, 0, none⟩) 0 0) 0 []) := hide (own_empty (heap_alloc_new W _) (Nat.le_refl _))
    have HB : Hid (Below W.heap.size W (W.alloc (.cells #[] 24))) := hide ((Below.refl _ W).alloc (Nat.le_refl _) _)
    clear h
    have q22 : ∀ (w : World) (a : Option Addr) (n c n' c' : Nat), (binOp .eql 26 (.slice a n c) (.slice none n' c')).run Try.prog w = .ok (.bool a.isNone) w := fun w a n c n' c' => Lib.run_eql_slice_nil w _ _ a n c n' c' Try.underlying26
    go_enter Try.func17, Try.ntmps17
    go_wp2_with (at_builtin; refine wpList_append_rd (w := W.alloc (.cells #[] 24)) rfl _ _ 26 rfl rfl rfl Try.underlying26 infoSt rfl (by decide) (by decide) HE.out HB.out.size HH.out (flat_one L) (by omega) ?_; intro p4 c4 w4 HA4; refine Hid.out ?_)
    refine hide ?_
    have HB4 := hide (below_grown HB.out HB.out.size HA4.out.2 (own_past HE.out))
    have HO4 : Hid (Rs W.heap.size w4 (.slice p4 L.length c4) L) := hide (by have := HA4.out.1; simp only [Nat.zero_add, List.nil_append] at this; exact this)
    clear HA4 HH HE HB
    go_wp2
    go_ret
    exact ⟨_, rfl, hide ⟨HO4.out, HB4.out⟩⟩
end Go.Proofs.Ytmeigdgnfdgnhaa.Con
