/- Slices of pairs that are read, rows of pairs that are made. -/
import Derived.Test.YtldccbinndbcdaaWnPl
import Derived.BigQuiet
import Derived.Deep.QuietTactic
import Derived.OwnWalk
import Derived.Deep.CutBlock
import Derived.Deep.CutRange
import Derived.Laws.ResultCell
import Derived.Test.YtldccbinndbcdaaApd
namespace Go.Proofs.Ytldccbinndbcdaa.Wn
open Go.RowKit Go.Proofs.Ytldccbinndbcdaa.Con
set_option linter.unusedVariables false
set_option linter.unusedSimpArgs false
/-- A pair, as a value. -/
abbrev prv (x : Pr) : Value := .agg #[.int .i64 x.1, .int .i64 x.2]
abbrev Nx (w w' : World) : Prop := Below w.heap.size w w'
theorem Nx.trans {a b c : World} (h : Nx a b) (k : Nx b c) : Nx a c := Below.trans h (Below.mono k h.size)
theorem Nx.refl (a : World) : Nx a a := Below.refl _ _
theorem bel1 {W : World} (o : Obj) : Below W.heap.size W (W.alloc o) := (Below.refl _ W).alloc (Nat.le_refl _) o
theorem Nx.alloc (w : World) (o : Obj) : Nx w (w.alloc o) := bel1 o
theorem bel_alloc2 {W w : World} (h : Below W.heap.size W w) (o : Obj) : Below W.heap.size W (w.alloc o) := h.alloc h.size o
/-- Preps, as cells. -/
def flat : List Pr → List Value
  | [] => []
  | s :: l => .int .i64 s.1 :: .int .i64 s.2 :: flat l
theorem flat_len (l : List Pr) : (flat l).length = l.length * 2 := by
  induction l with
  | nil => rfl
  | cons s l ih => simp only [flat, List.length_cons, ih]; omega
theorem flat_app (a b : List Pr) : flat (a ++ b) = flat a ++ flat b := by
  induction a with
  | nil => rfl
  | cons s a ih => simp [flat, ih]
theorem flat_one : ∀ (l : List Pr), ∀ u ∈ flat l, u.oneCell' = true := by
  intro l
  induction l with
  | nil => intro u hu; cases hu
  | cons s l ih =>
    intro u hu
    simp only [flat, List.mem_cons] at hu
    rcases hu with rfl | rfl | hu
    · rfl
    · rfl
    · exact ih u hu
theorem flat_get : ∀ (l : List Pr) (j : Nat) (s : Pr), l[j]? = some s → (flat l)[j * 2]? = some (.int .i64 s.1) ∧ (flat l)[j * 2 + 1]? = some (.int .i64 s.2) := by
  intro l
  induction l with
  | nil => intro j s h; simp at h
  | cons x l ih =>
    intro j s h
    cases j with
    | zero =>
      simp only [List.getElem?_cons_zero, Option.some.injEq] at h
      subst h
      exact ⟨rfl, rfl⟩
    | succ j =>
      rw [List.getElem?_cons_succ] at h
      have := ih j s h
      rw [show (j + 1) * 2 = j * 2 + 1 + 1 by omega]
      simpa [flat] using this
/-- A slice of pairs that is read. -/
abbrev Sl (W : World) (v : Value) (L : List Pr) : Prop := RdC W W.heap.size 2 v L.length (flat L)
theorem Sl.form {W : World} {v : Value} {L : List Pr} (h : Sl W v L) : ∃ p cap, v = .slice p L.length cap ∧ L.length ≤ cap ∧ cap ≤ maxLen := by
  obtain ⟨_, p, cap, rfl, h1, h2, _⟩ := h
  exact ⟨p, cap, rfl, h1, h2⟩
theorem Sl.at {W : World} {p : Option Addr} {n cap : Nat} {L : List Pr} (h : Sl W (.slice p n cap) L) {k : Nat} (hk : k < L.length) :
    ∃ b o, p = some ⟨b, o, none⟩ ∧ b < W.heap.size ∧ W.cell? ⟨b, o + k * 2, none⟩ = some (.int .i64 (at' L k).1) ∧ W.cell? ⟨b, o + k * 2 + 1, none⟩ = some (.int .i64 (at' L k).2) := by
  obtain ⟨_, p', cap', e, _, _, h4⟩ := h
  simp only [Value.slice.injEq] at e
  obtain ⟨rfl, rfl, rfl⟩ := e
  obtain ⟨b, o, rfl, hb, hc⟩ := h4 (by omega)
  have hg := flat_get L k _ (at_eq hk)
  exact ⟨b, o, rfl, hb, hc (k * 2) _ hg.1, by have := hc (k * 2 + 1) _ hg.2; rwa [show o + (k * 2 + 1) = o + k * 2 + 1 by omega] at this⟩
theorem Sl.below {W W' : World} {v : Value} {L : List Pr} (h : Sl W v L) (hB : Below W.heap.size W W') : Sl W' v L := (RdC.below h hB).mono hB.size
theorem Sl.nil (W : World) : Sl W (.slice none 0 0) [] := ⟨rfl, none, 0, rfl, Nat.le_refl _, by unfold maxLen; omega, fun h => by simp at h⟩
theorem Sl.own {W : World} {base e : Nat} {v : Value} {L : List Pr} (h : W.ownsRow base e 2 v L.length (flat L)) : Sl W v L := RdC.own h
theorem flat_get2 {L : List Pr} {j : Nat} {u : Value} (h : (flat L)[j]? = some u) : ∃ i, i < L.length ∧ ((j = i * 2 ∧ u = .int .i64 (at' L i).1) ∨ (j = i * 2 + 1 ∧ u = .int .i64 (at' L i).2)) := by
  have hj : j < L.length * 2 := by
    have := (List.getElem?_eq_some_iff.1 h).1
    rwa [flat_len] at this
  have hi : j / 2 < L.length := by omega
  obtain ⟨e1, e2⟩ := flat_get L (j / 2) _ (at_eq hi)
  rcases Nat.mod_two_eq_zero_or_one j with hm | hm
  · refine ⟨j / 2, hi, .inl ⟨by omega, ?_⟩⟩
    rw [show j / 2 * 2 = j by omega, h] at e1
    exact Option.some.inj e1
  · refine ⟨j / 2, hi, .inr ⟨by omega, ?_⟩⟩
    rw [show j / 2 * 2 + 1 = j by omega, h] at e2
    exact Option.some.inj e2
/-- A slice that is handed in. -/
def lof (N : Nat) (Z : Nat → Nat → Int) : List Pr := (List.range N).map fun j => (Z j 0, Z j 1)
theorem lof_len (N : Nat) (Z : Nat → Nat → Int) : (lof N Z).length = N := by simp [lof]
theorem lof_at {N : Nat} {Z : Nat → Nat → Int} {i : Nat} (hi : i < N) : at' (lof N Z) i = (Z i 0, Z i 1) := by
  unfold at' lof
  rw [List.getD_eq_getElem?_getD, List.getElem?_map, List.getElem?_range hi]; rfl
theorem sl_of {W : World} {P : Option Addr} {N C : Nat} {Z : Nat → Nat → Int} (lc : N ≤ C) (mc : C ≤ maxLen)
    (cl : 0 < N → ∃ b o, P = some ⟨b, o, none⟩ ∧ b < W.heap.size ∧ ∀ j i, j < N → i < 2 → W.cell? ⟨b, o + (j * 2 + i), none⟩ = some (.int .i64 (Z j i))) : Sl W (.slice P N C) (lof N Z) := by
  refine ⟨flat_len _, P, C, by rw [lof_len], by rw [lof_len]; exact lc, mc, fun h0 => ?_⟩
  rw [lof_len] at h0
  obtain ⟨b, o, rfl, hb, hc⟩ := cl h0
  refine ⟨b, o, rfl, hb, fun j u hu => ?_⟩
  obtain ⟨i, hi, h2⟩ := flat_get2 hu
  rw [lof_len] at hi
  rw [lof_at hi] at h2
  rcases h2 with ⟨rfl, rfl⟩ | ⟨rfl, rfl⟩
  · exact hc i 0 hi (by omega)
  · exact hc i 1 hi (by omega)
/-- A slice over a block that was written whole. -/
theorem Sl.lit {w : World} {b e : Nat} {L : List Pr} (h : w.heap[b]? = some (.cells (flat L).toArray e (0, 0))) (hl : L.length ≤ 100) : Sl w (.slice (some ⟨b, 0, none⟩) L.length L.length) L :=
  ⟨flat_len _, _, _, rfl, Nat.le_refl _, by unfold maxLen; omega, fun _ => ⟨b, 0, rfl, (Array.getElem?_eq_some_iff.1 h).1, fun j u hu => by
    rw [Nat.zero_add, cell_of_row w b j _ e _ h]; simpa using hu⟩⟩
theorem flat_snoc (L : List Pr) (k : Nat) (h : k < L.length) : flat (L.take (k + 1)) = flat (L.take k) ++ [.int .i64 (at' L k).1, .int .i64 (at' L k).2] := by
  rw [take_snoc L k h, flat_app]; rfl
theorem flat_drop (L : List Pr) (k : Nat) : (flat L).drop (k * 2) = flat (L.drop k) := by
  induction L generalizing k with
  | nil => simp [flat]
  | cons x L ih =>
    cases k with
    | zero => simp
    | succ k => rw [show (k + 1) * 2 = k * 2 + 2 by omega]; simp only [flat, List.drop_succ_cons]; exact ih k
theorem flat_take (L : List Pr) (k : Nat) : (flat L).take (k * 2) = flat (L.take k) := by
  induction L generalizing k with
  | nil => simp [flat]
  | cons x L ih =>
    cases k with
    | zero => simp [flat]
    | succ k => rw [show (k + 1) * 2 = k * 2 + 2 by omega]; simp only [flat, List.take_succ_cons]; rw [ih k]
theorem info_parts {e : TypeId} {z : Value} {s b : Nat} (h : (Try.prog.info? e).map (fun i => (i.zero, i.size, i.bytes)) = some (some z, s, b)) : ∃ i, Try.prog.info? e = some i ∧ i.zero = some z ∧ i.size = s ∧ i.bytes = b := by
  obtain ⟨i, hi, hz⟩ := Option.map_eq_some_iff.1 h
  simp only [Prod.mk.injEq] at hz
  exact ⟨i, hi, hz⟩
theorem app_one {w : World} {B e size by_ n : Nat} {t ty : TypeId} {z v : Value} {xs : List Value} (ht : Try.prog.underlying t = some (.slice e)) (hI : (Try.prog.info? e).map (fun i => (i.zero, i.size, i.bytes)) = some (some z, size, by_)) (hzs : z.cells.size = size) (hsz : 0 < size) (hby : by_ ≤ 64)
    (h : w.ownsRow B e size v n xs) (hB : B ≤ w.heap.size) (hn : n ≤ 1000) (cs : Array Value) (hcs : cs.size = size) (h1 : ∀ u ∈ cs.toList, u.oneCell' = true) :
    ∃ p c w', (Builtin.append_ #[t, t] ty #[v, .slice (some ⟨w.heap.size, 0, none⟩) 1 1]).run Try.prog (w.alloc (.cells cs e)) = .ok (.slice p (n + 1) c) w' ∧ w'.ownsRow B e size (.slice p (n + 1) c) (n + 1) (xs ++ cs.toList) ∧
      w.grownBy w' v.ownBlock := by
  obtain ⟨i0, hi, hz0, hz1, hz2⟩ := info_parts hI
  have hr := rd_one (heap_alloc_new w (.cells cs e)) (size := size) hcs
  have hmul : (n + 1) * by_ ≤ 1001 * 64 := Nat.mul_le_mul (by omega) hby
  obtain ⟨p, c, w', r1, r2, r3, r4⟩ := run_append_rd (w.alloc (.cells cs e)) B t ty e i0 z size by_ ht hi hz0 hz1 hz2 hzs hsz v n xs (h.alloc _) _ _ 1 _ hr h1 (by unfold maxLen; omega) (by omega) (by simp; omega)
  exact ⟨p, c, w', r1, r2, ⟨r3.os, r3.tape, r3.output, by have := r3.size; simp at this; omega, fun k hk hn => (r3.block k (by simp; omega) hn).trans (heap_alloc_old w _ hk)⟩⟩
/-- .. in a walk. -/
theorem wpList_app {ops : Array Oper} {rest : List Oper} {o : Oper} {a : Act} {Q : Exit → Act → World → Prop} {w : World} (hgd : o.guard = none) (s x : Operand) (t : TypeId)
    (ho : o.op = .call { callee := .builtin .append, args := #[s, x], argTypes := #[t, t] }) {B e size by_ n : Nat} {z v : Value} {xs : List Value} (cs : Array Value)
    {g : Nat} (hs : a.eval s = v) (hx : a.eval x = .slice (some ⟨g, 0, none⟩) 1 1) (hgs : g = w.heap.size)
    (ht : Try.prog.underlying t = some (.slice e)) (hI : (Try.prog.info? e).map (fun i => (i.zero, i.size, i.bytes)) = some (some z, size, by_)) (hzs : z.cells.size = size) (hsz : 0 < size) (hby : by_ ≤ 64)
    (h : w.ownsRow B e size v n xs) (hB : B ≤ w.heap.size) (hn : n ≤ 1000) (hcs : cs.size = size) (h1 : ∀ u ∈ cs.toList, u.oneCell' = true)
    (k : ∀ p c w', Hid (w'.ownsRow B e size (.slice p (n + 1) c) (n + 1) (xs ++ cs.toList) ∧ w.grownBy w' v.ownBlock) → wpList Try.prog ops Q rest (a.put o.dst (.slice p (n + 1) c)) w') :
    wpList Try.prog ops Q (o :: rest) a (w.alloc (.cells cs e)) := by
  subst hgs
  refine wpList_plain hgd fun K hK => ?_
  obtain ⟨p, c, w', hr, h2, h3⟩ := app_one (ty := o.type) ht hI hzs hsz hby h hB hn cs hcs h1
  unfold Oper.wp execOp
  simp only [ho, resolve, invoke, builtin, Sem.run_bind, Sem.run_pure, Result.andThen_ok, List.map_toArray, List.map_cons, List.map_nil, hs, hx, hr]
  exact hK _ _ (k p c w' (hide ⟨h2, h3⟩))
theorem wpList_append_rd {ops : Array Oper} {rest : List Oper} {o : Oper} {a : Act} {Q : Exit → Act → World → Prop} {w : World} (hgd : o.guard = none) (s x : Operand) (t : TypeId)
    (ho : o.op = .call { callee := .builtin .append, args := #[s, x], argTypes := #[t, t] }) {base e size by_ n m B : Nat} {z v xv : Value} {xs news : List Value}
    (hs : a.eval s = v) (hx : a.eval x = xv)
    (ht : Try.prog.underlying t = some (.slice e)) (hI : (Try.prog.info? e).map (fun i => (i.zero, i.size, i.bytes)) = some (some z, size, by_)) (hzs : z.cells.size = size) (hsz : 0 < size) (hby : by_ ≤ 64)
    (h : w.ownsRow base e size v n xs) (hB : base ≤ w.heap.size) (hr : RdC w B size xv m news) (h1 : ∀ u ∈ news, u.oneCell' = true) (hn : n + m ≤ 1000)
    (k : ∀ p c w', Hid (w'.ownsRow base e size (.slice p (n + m) c) (n + m) (xs ++ news) ∧ w.grownBy w' v.ownBlock) → wpList Try.prog ops Q rest (a.put o.dst (.slice p (n + m) c)) w') :
    wpList Try.prog ops Q (o :: rest) a w := by
  refine wpList_plain hgd fun K hK => ?_
  obtain ⟨i0, hi, hz0, hz1, hz2⟩ := info_parts hI
  have hmul : (n + m) * by_ ≤ 1000 * 64 := Nat.mul_le_mul hn hby
  obtain ⟨p, c, w', hr1, h2, h3, _⟩ := run_append_rd w base t o.type e i0 z size by_ ht hi hz0 hz1 hz2 hzs hsz v n xs h B xv m news hr h1 (by unfold maxLen; omega) (by omega) hB
  unfold Oper.wp execOp
  simp only [ho, resolve, invoke, builtin, Sem.run_bind, Sem.run_pure, Result.andThen_ok, List.map_toArray, List.map_cons, List.map_nil, hs, hx, hr1]
  exact hK _ _ (k p c w' (hide ⟨h2, h3⟩))
theorem infoPr : (Try.prog.info? 28).map (fun i => (i.zero, i.size, i.bytes)) = some (some (.agg #[.int .i64 0, .int .i64 0]), 2, 16) := by kernel_rfl
theorem Sl.upto {W : World} {v : Value} {L : List Pr} (h : Sl W v L) (k : Nat) (hk : k ≤ L.length) :
    ∃ p c, (∀ w : World, (Instr.slice 48 v none (some (.int .i64 (k : Int))) none).run Try.prog w = .ok (.slice p k c) w) ∧ RdC W W.heap.size 2 (.slice p k c) k (flat (L.take k)) := by
  obtain ⟨i0, hi, hz0, hz1, hz2⟩ := info_parts infoPr
  obtain ⟨p, c, h1, h2⟩ := RdC.upto h 48 28 i0 Try.underlying48 hi hz1 k hk
  rw [flat_take] at h2
  exact ⟨p, c, h1, h2⟩
theorem Sl.from {W : World} {v : Value} {L : List Pr} (h : Sl W v L) (k : Nat) (hk : k ≤ L.length) :
    ∃ p c, (∀ w : World, (Instr.slice 48 v (some (.int .i64 (k : Int))) none none).run Try.prog w = .ok (.slice p (L.length - k) c) w) ∧ RdC W W.heap.size 2 (.slice p (L.length - k) c) (L.length - k) (flat (L.drop k)) := by
  obtain ⟨i0, hi, hz0, hz1, hz2⟩ := info_parts infoPr
  obtain ⟨p, c, h1, h2⟩ := RdC.from h 48 28 i0 Try.underlying48 hi hz1 k hk
  rw [flat_drop] at h2
  exact ⟨p, c, h1, h2⟩
theorem own_form {w : World} {B e n : Nat} {v : Value} {xs : List Value} (h : w.ownsRow B e 2 v n xs) : ∃ p c, v = .slice p n c := by
  obtain ⟨_, ⟨rfl, rfl⟩ | ⟨g, cap, cur, rfl, _⟩⟩ := h
  · exact ⟨none, 0, rfl⟩
  · exact ⟨_, cap, rfl⟩
theorem own_nil {w : World} {B e : Nat} : w.ownsRow B e 2 (.slice none 0 0) 0 (flat []) := World.ownsRow_nil _ _ _ _
end Go.Proofs.Ytldccbinndbcdaa.Wn
