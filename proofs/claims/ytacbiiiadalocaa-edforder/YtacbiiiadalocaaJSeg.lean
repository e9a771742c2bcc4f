/- A region that draws its order, with calls that make memory: its runs of operations that only read are walked once, in the order of the text; between them each call by itself. Of no program. -/
import Derived.OrdersHeld
import Derived.Deep.Quiet
import Derived.Deep.RegionHeld3
import Derived.Lib.QuietBelow
import Derived.BigQuiet
namespace Go.Proofs.Ytacbiiiadalocaa.Seg
section
variable {P : Program} {ops : Array Oper} {Q : Exit → Act → World → Prop} {md : Region.Mode} {S : World → Prop}
/-- It calls nothing and writes nothing. -/
def plain (o : Oper) : Bool :=
  match o.op with
  | .move _ | .assign _ | .pick _ _ _ | .load _ _ | .build _ _ | .binOp _ _ _ _ _ | .unOp _ _ _ | .fieldAddr _ _ _ | .indexAddr _ _ _ | .extract _ _ => true
  | _ => false
theorem run_value {s : Sem Value} {w w' : World} {n : Next} (h : (do pure (.value (← s)) : Sem Next).run P w = .ok n w') : ∃ v, n = .value v := by
  simp only [Sem.run_bind, Sem.run_pure] at h
  cases hx : s.run P w with
  | ok x w1 =>
    rw [hx] at h
    simp only [Result.andThen_ok, Result.ok.injEq] at h
    exact ⟨x, h.1.symm⟩
  | halt x w1 =>
    rw [hx] at h
    simp [Result.andThen] at h
theorem plain_value {o : Oper} (h : plain o = true) {ρ : Operand → Value} {w w' : World} {n : Next} (hr : (execOp ρ o).run P w = .ok n w') : ∃ v, n = .value v := by
  unfold plain at h
  unfold execOp at hr
  split at h
  case h_11 => cases h
  all_goals
    rename_i ho
    rw [ho] at hr
    simp only at hr
  case h_1 => simp only [Sem.run_pure, Result.ok.injEq] at hr; exact ⟨_, hr.1.symm⟩
  case h_2 => simp only [Sem.run_pure, Result.ok.injEq] at hr; exact ⟨_, hr.1.symm⟩
  case h_3 =>
    simp only [Sem.run_bind, Sem.run_pure] at hr
    revert hr
    generalize Sem.run P (asBool _) w = r
    intro hr
    cases r with
    | ok x w1 => simp only [Result.andThen_ok, Result.ok.injEq] at hr; exact ⟨_, hr.1.symm⟩
    | halt x w1 => simp [Result.andThen] at hr
  all_goals exact run_value hr
/-- So many operations from number k on may come up in turn, each before all that do not wait for it. -/
def segB (md : Region.Mode) (ops : Array Oper) : Nat → Nat → Array Bool → Option (Array Bool)
  | 0, _, L => some L
  | n + 1, k, L =>
    match ops[k]? with
    | none => none
    | some o => if ((Region.ready md ops L).contains k && Region.free md ops L k && plain o) = true then segB md ops n (k + 1) (L.setIfInBounds k true) else none
theorem segH (hs : Region.noSelect ops = true) (hQ : ∀ c (a : Act) d v w, Q (.panic c) (a.put d v) w → Q (.panic c) a w) {n : Nat} {L' : Array Bool} {w : World} (hS : S w) :
    ∀ (l : List Oper) (k : Nat) (listed : Array Bool) (a : Act), (∀ j, j < l.length → l[j]? = ops[k + j]?) → segB md ops l.length k listed = some L' →
    wpQuiet P ops S (fun a' => wpAnyH P md ops Q S n L' a' w) l a → wpAnyH P md ops Q S (l.length + n) listed a w
  | [], _, listed, a, _, hB, h => by
    simp only [segB, List.length_nil, Option.some.injEq] at hB
    subst hB
    rw [List.length_nil, Nat.zero_add]
    exact h
  | o :: l, k, listed, a, hl, hB, h => by
    have h0 : ops[k]? = some o := by simpa using (hl 0 (by simp)).symm
    simp only [List.length_cons, segB, h0] at hB
    split at hB
    · rename_i hc
      simp only [Bool.and_eq_true] at hc
      obtain ⟨⟨hr, hf⟩, hp⟩ := hc
      have hy : ∃ v, YieldsIf P ops S o v a ∧ wpQuiet P ops S (fun a' => wpAnyH P md ops Q S n L' a' w) l (a.put o.dst v) := by
        unfold wpQuiet at h
        by_cases hw : Region.wanted o (yielded ops a.tmps) = true
        · rw [if_pos hw] at h
          obtain ⟨v, h1, h2⟩ := h
          refine ⟨v, .inl ⟨hw, fun x hx => ?_⟩, h2⟩
          have h3 := h1 x hx
          unfold Oper.quietAt at h3
          cases hr : (execOp a.eval o).run P x with
          | ok nx x' =>
            obtain ⟨u, rfl⟩ := plain_value hp hr
            rw [hr] at h3
            simp only [Oper.quietUpon] at h3
            rw [h3.1, h3.2]
          | halt y x' => rw [hr] at h3; simp only [Oper.quietUpon] at h3
        · rw [if_neg hw] at h
          exact ⟨undef, .inr ⟨by simpa using hw, rfl⟩, h⟩
      obtain ⟨v, hy, hK⟩ := hy
      rw [show (o :: l).length + n = (l.length + n) + 1 by simp only [List.length_cons]; omega]
      exact wpAnyH_take h0 hs hf hr (fun c a w => hQ c a _ _ w) hy hS
        (segH hs hQ hS l (k + 1) _ _ (fun j hj => by have := hl (j + 1) (by simp only [List.length_cons]; omega); simpa [Nat.add_assoc, Nat.add_comm 1 j] using this) hB hK)
    · cases hB
/-- The operations from number k on, m of them. -/
theorem seg {l : List Oper} (k m n : Nat) {fuel : Nat} {listed : Array Bool} (L' : Array Bool) {a : Act} {w : World} (hs : Region.noSelect l.toArray = true) (hQ : ∀ c (a : Act) d v w, Q (.panic c) (a.put d v) w → Q (.panic c) a w) (hS : S w)
    (hB : segB md l.toArray m k listed = some L') (hn : fuel = m + n) (hm : decide (k + m ≤ l.length) = true)
    (h : wpQuiet P l.toArray S (fun a' => wpAnyH P md l.toArray Q S n L' a' w) ((l.drop k).take m) a) : wpAnyH P md l.toArray Q S fuel listed a w := by
  have hm := of_decide_eq_true hm
  have hlen : ((l.drop k).take m).length = m := by rw [List.length_take, List.length_drop]; omega
  have := segH (P := P) (ops := l.toArray) (Q := Q) (md := md) (S := S) hs hQ (n := n) (L' := L') hS ((l.drop k).take m) k listed a (fun j hj => by
    rw [hlen] at hj
    rw [List.getElem?_take_of_lt hj, List.getElem?_drop]; simp) (by rw [hlen]; exact hB) h
  rw [hlen] at this
  rw [hn]; exact this
end
/-- The worlds behind w. -/
theorem drawn_in (w : World) : ∃ p : Regrown, w.drew = Sort.grow (redrawn w p.d) p.os := ⟨⟨w.drawn + 1, #[]⟩, by rw [Sort.grow_empty]; rfl⟩
end Go.Proofs.Ytacbiiiadalocaa.Seg
