/- One more element at the end of a row that is ours. -/
import Derived.Test.YtdbkdnjmiehlcaaDoorGNum
import Derived.OwnWalk
namespace Go.Proofs.YtdbkdnjmiehlcaaDoor.Con
open Go.RowKit Go.Proofs.YtdbkdnjmiehlcaaDoor.Pm
set_option linter.unusedVariables false
set_option linter.unusedSimpArgs false
theorem info_parts {e : TypeId} {z : Value} {s b : Nat} (h : (Tryd.prog.info? e).map (fun i => (i.zero, i.size, i.bytes)) = some (some z, s, b)) : ∃ i, Tryd.prog.info? e = some i ∧ i.zero = some z ∧ i.size = s ∧ i.bytes = b := by
  obtain ⟨i, hi, hz⟩ := Option.map_eq_some_iff.1 h
  simp only [Prod.mk.injEq] at hz
  exact ⟨i, hi, hz⟩
theorem app_one {w : World} {B e size by_ n : Nat} {t ty : TypeId} {z v : Value} {xs : List Value} (ht : Tryd.prog.underlying t = some (.slice e)) (hI : (Tryd.prog.info? e).map (fun i => (i.zero, i.size, i.bytes)) = some (some z, size, by_)) (hzs : z.cells.size = size) (hsz : 0 < size) (hby : by_ ≤ 64)
    (h : w.ownsRow B e size v n xs) (hB : B ≤ w.heap.size) (hn : n ≤ 1000) (cs : Array Value) (hcs : cs.size = size) (h1 : ∀ u ∈ cs.toList, u.oneCell' = true) :
    ∃ p c w', (Builtin.append_ #[t, t] ty #[v, .slice (some ⟨w.heap.size, 0, none⟩) 1 1]).run Tryd.prog (w.alloc (.cells cs e)) = .ok (.slice p (n + 1) c) w' ∧ w'.ownsRow B e size (.slice p (n + 1) c) (n + 1) (xs ++ cs.toList) ∧
      w.grownBy w' v.ownBlock := by
  obtain ⟨i0, hi, hz0, hz1, hz2⟩ := info_parts hI
  have hr := rd_one (heap_alloc_new w (.cells cs e)) (size := size) hcs
  have hmul : (n + 1) * by_ ≤ 1001 * 64 := Nat.mul_le_mul (by omega) hby
  obtain ⟨p, c, w', r1, r2, r3, r4⟩ := run_append_rd (w.alloc (.cells cs e)) B t ty e i0 z size by_ ht hi hz0 hz1 hz2 hzs hsz v n xs (h.alloc _) _ _ 1 _ hr h1 (by unfold maxLen; omega) (by omega) (by simp; omega)
  exact ⟨p, c, w', r1, r2, ⟨r3.os, r3.tape, r3.output, by have := r3.size; simp at this; omega, fun k hk hn => (r3.block k (by simp; omega) hn).trans (heap_alloc_old w _ hk)⟩⟩
/-- .. in a walk. -/
theorem wpList_app {ops : Array Oper} {rest : List Oper} {o : Oper} {a : Act} {Q : Exit → Act → World → Prop} {w : World} (hgd : o.guard = none) (s x : Operand) (t : TypeId)
    (ho : o.op = .call { callee := .builtin .append, args := #[s, x], argTypes := #[t, t] }) {B e size by_ n : Nat} {z v : Value} {xs : List Value} (cs : Array Value)
    {g : Nat} (hs : a.eval s = v) (hx : a.eval x = .slice (some ⟨g, 0, none⟩) 1 1) (hgs : g = w.heap.size)
    (ht : Tryd.prog.underlying t = some (.slice e)) (hI : (Tryd.prog.info? e).map (fun i => (i.zero, i.size, i.bytes)) = some (some z, size, by_)) (hzs : z.cells.size = size) (hsz : 0 < size) (hby : by_ ≤ 64)
    (h : w.ownsRow B e size v n xs) (hB : B ≤ w.heap.size) (hn : n ≤ 1000) (hcs : cs.size = size) (h1 : ∀ u ∈ cs.toList, u.oneCell' = true)
    (k : ∀ p c w', Hid (w'.ownsRow B e size (.slice p (n + 1) c) (n + 1) (xs ++ cs.toList) ∧ w.grownBy w' v.ownBlock) → wpList Tryd.prog ops Q rest (a.put o.dst (.slice p (n + 1) c)) w') :
    wpList Tryd.prog ops Q (o :: rest) a (w.alloc (.cells cs e)) := by
  subst hgs
  refine wpList_plain hgd fun K hK => ?_
  obtain ⟨p, c, w', hr, h2, h3⟩ := app_one (ty := o.type) ht hI hzs hsz hby h hB hn cs hcs h1
  unfold Oper.wp execOp
  simp only [ho, resolve, invoke, builtin, Sem.run_bind, Sem.run_pure, Result.andThen_ok, List.map_toArray, List.map_cons, List.map_nil, hs, hx, hr]
  exact hK _ _ (k p c w' (hide ⟨h2, h3⟩))
theorem infoU8 : (Tryd.prog.info? 5).map (fun i => (i.zero, i.size, i.bytes)) = some (some (.int .u8 0), 1, 1) := by kernel_rfl
theorem infoSt : (Tryd.prog.info? 29).map (fun i => (i.zero, i.size, i.bytes)) = some (some (.agg #[.int .i64 0, .int .i64 0]), 2, 16) := by kernel_rfl
theorem infoRs : (Tryd.prog.info? 57).map (fun i => (i.zero, i.size, i.bytes)) = some (some (.agg #[.int .i64 0, .int .i64 0]), 2, 16) := by kernel_rfl
theorem own_blk {B e size n : Nat} {w : World} {v : Value} {xs : List Value} (h : w.ownsRow B e size v n xs) {k : Nat} (hk : v.ownBlock = some k) : ∃ cur, w.heap[k]? = some (.cells cur e (0, 0)) := by
  obtain ⟨_, ⟨rfl, _⟩ | ⟨g, cap, cur, rfl, _, hg, _⟩⟩ := h
  · simp [Value.ownBlock] at hk
  · simp [Value.ownBlock] at hk; subst hk; exact ⟨cur, hg⟩
/-- A row that is ours keeps off a block of another kind. -/
theorem own_off {B e e' size n d : Nat} {w : World} {v : Value} {xs : List Value} (h : w.ownsRow B e size v n xs) {cs : Array Value} {fr : Nat × Nat} (hd : w.heap[d]? = some (.cells cs e' fr)) (he : e ≠ e') : v.ownBlock ≠ some d := fun hk => by
  obtain ⟨cur, hc⟩ := own_blk h hk
  rw [hd] at hc
  simp only [Option.some.injEq, Obj.cells.injEq] at hc
  exact he hc.2.1.symm
/-- The text so far, and the step that is told. -/
abbrev Tab (W : World) : Prop := Lib.TabIs Tryd.prog W "internal/strconv.uint64pow10" .u64 Lib.pow10Tab
theorem Tab.on {W W' : World} (h : Tab W) (hB : Below W.heap.size W W') : Tab W' := Lib.tabBelow_of_tabIs h W' hB
structure TX (W wr : World) (d : Nat) (s : St) (v : Value) (A : List UInt8) : Prop where
  row : wr.ownsRow W.heap.size 5 1 v A.length (Lib.byteCells A)
  blk : wr.heap[d]? = some (.cells #[.int .i64 s.1, .int .i64 s.2] 29 (0, 0))
  below : Below W.heap.size W wr
section
variable {W wr w' : World} {d : Nat} {s : St} {v : Value} {A : List UInt8}
theorem TX.cells (h : TX W wr d s v A) : wr.cell? ⟨d, 0, none⟩ = some (.int .i64 s.1) ∧ wr.cell? ⟨d, 1, none⟩ = some (.int .i64 s.2) := by
  refine ⟨?_, ?_⟩ <;> (rw [cell_of_row wr d _ _ _ _ h.blk]; rfl)
theorem TX.grown (h : TX W wr d s v A) {p : Option Addr} {c : Nat} {b : UInt8} (hO : w'.ownsRow W.heap.size 5 1 (.slice p (A.length + 1) c) (A.length + 1) (Lib.byteCells A ++ (#[Value.int .u8 (b.toNat : Int)] : Array Value).toList)) (hg : wr.grownBy w' v.ownBlock) : TX W w' d s (.slice p (A.length + 1) c) (A ++ [b]) := by
  refine ⟨?_, ?_, ?_⟩
  · rw [List.length_append, Lib.byteCells_append]
    exact hO
  · rw [hg.block d (Array.getElem?_eq_some_iff.1 h.blk).1 (fun e => own_off h.row h.blk (by decide) e.symm)]
    exact h.blk
  · exact below_grown h.below h.below.size hg (own_past h.row)
theorem TX.int (h : TX W wr d s v A) (hT : Tab W) (hl : A.length ≤ 500) (n : Int) (h0 : 0 ≤ n) (h1 : n ≤ 2147483648) :
    Calls Tryd.prog 25 #[v, .int .i64 n, .int .i64 10] wr fun e w' => ∃ v', e = .returned v' ∧ Hid (TX W w' d s v' (A ++ Lib.itoa n)) := by
  refine (Tryd.strconv_AppendInt_10 W.heap.size A.length n (by omega) (by omega) v (Lib.byteCells A) wr h.row h.below.size (by omega) ((Lib.tabBelow_of_tabIs hT).on h.below)).mono ?_
  rintro e w' ⟨v', rfl, hO, hb, hk⟩
  refine ⟨v', rfl, hide ⟨?_, ?_, h.below.trans hb⟩⟩
  · rw [List.length_append, Lib.byteCells_append]
    exact hO
  · exact hk d _ h.blk (by simp) (fun c fz e => by
      simp only [Obj.cells.injEq] at e
      exact absurd e.2.1 (by decide))
end
end Go.Proofs.YtdbkdnjmiehlcaaDoor.Con
