/- One element more, of any kind. Of no program but its numbers. -/
import Derived.Test.YtacbiiiadalocaaEdSl
namespace Go.Proofs.Ytacbiiiadalocaa.Ed
open Go.RowKit Go.Proofs.Ytacbiiiadalocaa.Con
set_option linter.unusedVariables false
set_option linter.unusedSimpArgs false
theorem info_parts {e : TypeId} {z : Value} {s b : Nat} (h : (Try.prog.info? e).map (fun i => (i.zero, i.size, i.bytes)) = some (some z, s, b)) : ∃ i, Try.prog.info? e = some i ∧ i.zero = some z ∧ i.size = s ∧ i.bytes = b := by
  obtain ⟨i, hi, hz⟩ := Option.map_eq_some_iff.1 h
  simp only [Prod.mk.injEq] at hz
  exact ⟨i, hi, hz⟩
theorem app_one {w : World} {B e size by_ n : Nat} {t ty : TypeId} {z v : Value} {xs : List Value} (ht : Try.prog.underlying t = some (.slice e)) (hI : (Try.prog.info? e).map (fun i => (i.zero, i.size, i.bytes)) = some (some z, size, by_)) (hzs : z.cells.size = size) (hsz : 0 < size) (hby : by_ ≤ 64)
    (h : w.ownsRow B e size v n xs) (hB : B ≤ w.heap.size) (hn : n ≤ 1000) (cs : Array Value) (hcs : cs.size = size) (h1 : ∀ u ∈ cs.toList, u.oneCell' = true) :
    ∃ p c w', (Builtin.append_ #[t, t] ty #[v, .slice (some ⟨w.heap.size, 0, none⟩) 1 1]).run Try.prog (w.alloc (.cells cs e)) = .ok (.slice p (n + 1) c) w' ∧ w'.ownsRow B e size (.slice p (n + 1) c) (n + 1) (xs ++ cs.toList) ∧
      w.grownBy w' v.ownBlock := by
  obtain ⟨i0, hi, hz0, hz1, hz2⟩ := info_parts hI
  have hr := rd_one (heap_alloc_new w (.cells cs e)) (size := size) hcs
  have hmul : (n + 1) * by_ ≤ 1001 * 64 := Nat.mul_le_mul (by omega) hby
  obtain ⟨p, c, w', r1, r2, r3, r4⟩ := run_append_rd (w.alloc (.cells cs e)) B t ty e i0 z size by_ ht hi hz0 hz1 hz2 hzs hsz v n xs (h.alloc _) _ _ 1 _ hr h1 (by unfold maxLen; omega) (by omega) (by simp; omega)
  exact ⟨p, c, w', r1, r2, ⟨r3.os, r3.tape, r3.output, by have := r3.size; simp at this; omega, fun k hk hn => (r3.block k (by simp; omega) hn).trans (heap_alloc_old w _ hk)⟩⟩
/-- .. in a walk. -/
theorem wpList_app {ops : Array Oper} {rest : List Oper} {o : Oper} {a : Act} {Q : Exit → Act → World → Prop} {w : World} (hgd : o.guard = none) (s x : Operand) (t : TypeId)
    (ho : o.op = .call { callee := .builtin .append, args := #[s, x], argTypes := #[t, t] }) {B e size by_ n : Nat} {z v : Value} {xs : List Value} (cs : Array Value)
    {g : Nat} (hs : a.eval s = v) (hx : a.eval x = .slice (some ⟨g, 0, none⟩) 1 1) (hgs : g = w.heap.size)
    (ht : Try.prog.underlying t = some (.slice e)) (hI : (Try.prog.info? e).map (fun i => (i.zero, i.size, i.bytes)) = some (some z, size, by_)) (hzs : z.cells.size = size) (hsz : 0 < size) (hby : by_ ≤ 64)
    (h : w.ownsRow B e size v n xs) (hB : B ≤ w.heap.size) (hn : n ≤ 1000) (hcs : cs.size = size) (h1 : ∀ u ∈ cs.toList, u.oneCell' = true)
    (k : ∀ p c w', Hid (w'.ownsRow B e size (.slice p (n + 1) c) (n + 1) (xs ++ cs.toList) ∧ w.grownBy w' v.ownBlock) → wpList Try.prog ops Q rest (a.put o.dst (.slice p (n + 1) c)) w') :
    wpList Try.prog ops Q (o :: rest) a (w.alloc (.cells cs e)) := by
  subst hgs
  refine wpList_plain hgd fun K hK => ?_
  obtain ⟨p, c, w', hr, h2, h3⟩ := app_one (ty := o.type) ht hI hzs hsz hby h hB hn cs hcs h1
  unfold Oper.wp execOp
  simp only [ho, resolve, invoke, builtin, Sem.run_bind, Sem.run_pure, Result.andThen_ok, List.map_toArray, List.map_cons, List.map_nil, hs, hx, hr]
  exact hK _ _ (k p c w' (hide ⟨h2, h3⟩))
theorem wpList_append_rd {ops : Array Oper} {rest : List Oper} {o : Oper} {a : Act} {Q : Exit → Act → World → Prop} {w : World} (hgd : o.guard = none) (s x : Operand) (t : TypeId)
    (ho : o.op = .call { callee := .builtin .append, args := #[s, x], argTypes := #[t, t] }) {base e size by_ n m B : Nat} {z v xv : Value} {xs news : List Value}
    (hs : a.eval s = v) (hx : a.eval x = xv)
    (ht : Try.prog.underlying t = some (.slice e)) (hI : (Try.prog.info? e).map (fun i => (i.zero, i.size, i.bytes)) = some (some z, size, by_)) (hzs : z.cells.size = size) (hsz : 0 < size) (hby : by_ ≤ 64)
    (h : w.ownsRow base e size v n xs) (hB : base ≤ w.heap.size) (hr : RdC w B size xv m news) (h1 : ∀ u ∈ news, u.oneCell' = true) (hn : n + m ≤ 1000)
    (k : ∀ p c w', Hid (w'.ownsRow base e size (.slice p (n + m) c) (n + m) (xs ++ news) ∧ w.grownBy w' v.ownBlock) → wpList Try.prog ops Q rest (a.put o.dst (.slice p (n + m) c)) w') :
    wpList Try.prog ops Q (o :: rest) a w := by
  refine wpList_plain hgd fun K hK => ?_
  obtain ⟨i0, hi, hz0, hz1, hz2⟩ := info_parts hI
  have hmul : (n + m) * by_ ≤ 1000 * 64 := Nat.mul_le_mul hn hby
  obtain ⟨p, c, w', hr1, h2, h3, _⟩ := run_append_rd w base t o.type e i0 z size by_ ht hi hz0 hz1 hz2 hzs hsz v n xs h B xv m news hr h1 (by unfold maxLen; omega) (by omega) hB
  unfold Oper.wp execOp
  simp only [ho, resolve, invoke, builtin, Sem.run_bind, Sem.run_pure, Result.andThen_ok, List.map_toArray, List.map_cons, List.map_nil, hs, hx, hr1]
  exact hK _ _ (k p c w' (hide ⟨h2, h3⟩))
theorem infoInt : (Try.prog.info? 3).map (fun i => (i.zero, i.size, i.bytes)) = some (some (.int .i64 0), 1, 8) := by kernel_rfl
theorem ownF {w : World} {B e size n : Nat} {v : Value} {xs : List Value} (h : w.ownsRow B e size v n xs) : ∃ p c, v = .slice p n c := by
  obtain ⟨_, ⟨rfl, rfl⟩ | ⟨g, cap, cur, rfl, _⟩⟩ := h
  · exact ⟨none, 0, rfl⟩
  · exact ⟨_, cap, rfl⟩
theorem ownN {w w' : World} {B e size n : Nat} {v : Value} {xs : List Value} (h : w.ownsRow B e size v n xs) (hB : Nx w w') : w'.ownsRow B e size v n xs := own_kept h (fun k hk => hB.block k (own_lt h k hk))
theorem ownB {w : World} {B B' e size n : Nat} {v : Value} {xs : List Value} (h : w.ownsRow B e size v n xs) (hB : B' ≤ B) : w.ownsRow B' e size v n xs := by
  obtain ⟨h1, ⟨h0, h2⟩ | ⟨g, cap, cur, rfl, h0, r⟩⟩ := h
  · exact ⟨h1, .inl ⟨h0, h2⟩⟩
  · exact ⟨h1, .inr ⟨g, cap, cur, rfl, Nat.le_trans hB h0, r⟩⟩
end Go.Proofs.Ytacbiiiadalocaa.Ed
