/- Two arrays compared. -/
import Derived.Test.YtkfddjmhoekjgaaWdC
import Derived.Laws.StructEq
namespace Go.Proofs.Ytkfddjmhoekjgaa.Wd
open Go.RowKit Go.Proofs.Ytkfddjmhoekjgaa.Con Go.Proofs.Ytkfddjmhoekjgaa.Wn
set_option linter.unusedVariables false
set_option linter.unusedSimpArgs false
theorem underU : Try.prog.underlying 51 = some (.int .u64) := by kernel_rfl
theorem aggU (w : World) : (isAgg 51).run Try.prog w = .ok false w := by kernel_rfl
theorem sizeU (w : World) : (sizeOf 51).run Try.prog w = .ok 1 w := by kernel_rfl
theorem part_wf (F : Nat → Nat) (j : Nat) (hj : j < 32) (w : World) : (part 51 (wf F) (j * 1)).run Try.prog w = .ok (.int .u64 ((F j : Nat) : Int)) w := by
  rw [Nat.mul_one]
  simp only [part, Sem.run_bind, aggU, Result.andThen_ok, Bool.false_eq_true, if_false, wf_get F j hj, Sem.run_pure]
theorem eq_wf (F G : Nat → Nat) (d : Nat) (w : World) : (Op.equalIn (d + 1 + 1) 53 (.agg (wf F)) (.agg (wf G))).run Try.prog w = .ok ((List.range' 0 32).all fun j => ((F j : Nat) : Int) == ((G j : Nat) : Int)) w := by
  rw [Op.equalIn]
  simp only [Sem.run_bind, run_underlying underW, Result.andThen_ok, sizeU]
  simp only [Std.Legacy.Range.forIn_eq_forIn_range', Std.Legacy.Range.size, Nat.sub_zero, Nat.add_sub_cancel, Nat.div_one]
  have hl : ∀ j ∈ List.range' 0 32, j < 32 := fun j hj => by simpa using hj
  generalize List.range' 0 32 = l at hl
  induction l with
  | nil => simp
  | cons j l ih =>
    have hj := hl j (by simp)
    have ih := ih (fun y hy => hl y (by simp [hy]))
    simp only [List.forIn_cons, Sem.run_bind, part_wf F j hj, part_wf G j hj, Result.andThen_ok, run_equalIn_int w d _ .u64 .u64 _ _ underU, List.all_cons]
    cases h : (((F j : Nat) : Int) == ((G j : Nat) : Int)) with
    | false => simp
    | true =>
      simp only [Bool.not_true, Bool.false_eq_true, if_false, Sem.run_pure, Result.andThen_ok, Bool.true_and]
      exact ih
theorem eq_wide (n : Nat) (hn : n < pw 32) (w : World) : (binOp .eql 53 (.agg (wf (dg n))) (.agg (wf fun _ => 0))).run Try.prog w = .ok (.bool (decide (n = 0))) w := by
  rw [run_eql_struct, eq_wf (dg n) (fun _ => 0) 9998 w, Result.andThen_ok]
  congr 2
  by_cases h : n = 0
  · rw [decide_eq_true h, List.all_eq_true]
    intro j hj
    rw [h, dg_zero]; rfl
  · rw [decide_eq_false h, List.all_eq_false]
    have : ¬ ∀ i, i < 32 → dg n i = 0 := fun h' => h (zero_of hn h')
    obtain ⟨i, hi⟩ := Classical.not_forall.1 this
    obtain ⟨h1, h2⟩ := Classical.not_imp.1 hi
    exact ⟨i, by simpa using h1, by simp; omega⟩
theorem exec_load {P : Program} {a : Act} {o : Oper} {w : World} (ty : TypeId) (x : Operand) (ho : o.op = .load ty x)
    (g : Nat) (hx : a.eval x = .pointer (some ⟨g, 0, none⟩)) (t : TypeId) (cs : Array Value) (fr : Nat × Nat) (d : TypeDesc) (hg : w.heap[g]? = some (.cells cs t fr))
    (hu : P.underlying ty = some d) (hd : (match d with | .struct _ | .array _ _ => true | _ => false) = true) (hi : (P.info? ty).map (·.size) = some cs.size) :
    (execOp a.eval o).run P w = .ok (.value (.agg cs)) w := by
  unfold execOp
  simp only [ho, hx, Instr.loadAt, Instr.sureAddr, Sem.run_bind, Sem.run_pure, Result.andThen_ok, run_loadVar_row w g t ty cs fr d hg hu hd hi]
theorem wf_one1 : #[Value.int .u64 1, .int .u64 0, .int .u64 0, .int .u64 0, .int .u64 0, .int .u64 0, .int .u64 0, .int .u64 0, .int .u64 0, .int .u64 0, .int .u64 0, .int .u64 0, .int .u64 0, .int .u64 0, .int .u64 0, .int .u64 0, .int .u64 0, .int .u64 0, .int .u64 0, .int .u64 0, .int .u64 0, .int .u64 0, .int .u64 0, .int .u64 0, .int .u64 0, .int .u64 0, .int .u64 0, .int .u64 0, .int .u64 0, .int .u64 0, .int .u64 0, .int .u64 0] = wf (fun i => if i = 0 then 1 else 0) := by kernel_rfl
theorem wf_one' : #[Value.int .u64 1, .int .u64 0, .int .u64 0, .int .u64 0, .int .u64 0, .int .u64 0, .int .u64 0, .int .u64 0, .int .u64 0, .int .u64 0, .int .u64 0, .int .u64 0, .int .u64 0, .int .u64 0, .int .u64 0, .int .u64 0, .int .u64 0, .int .u64 0, .int .u64 0, .int .u64 0, .int .u64 0, .int .u64 0, .int .u64 0, .int .u64 0, .int .u64 0, .int .u64 0, .int .u64 0, .int .u64 0, .int .u64 0, .int .u64 0, .int .u64 0, .int .u64 0] = wf (dg 1) := wf_one1.trans (wf_congr fun j _ => dg_one.symm)
theorem wpList_val {P : Program} {ops : Array Oper} {rest : List Oper} {o : Oper} {a : Act} {w w' : World} {Q : Exit → Act → World → Prop} (hg : o.guard = none) (dst : Option Tmp) (hdst : o.dst = dst)
    (v : Value) (hrun : (execOp a.eval o).run P w = .ok (.value v) w') (h : wpList P ops Q rest (a.put dst v) w') : wpList P ops Q (o :: rest) a w := by
  subst hdst
  refine wpList_plain hg fun K hK => ?_
  unfold Oper.wp
  rw [hrun, Oper.upon_value]
  exact hK _ _ h
theorem exec_build {P : Program} {a : Act} {o : Oper} {w : World} (t : TypeId) (parts : Array (Nat × Operand)) (ho : o.op = .build t parts) (L : List (Nat × Value))
    (hL : (parts.map fun (i, x) => (i, a.eval x)).toList = L) (cs : Array Value) (hc : P.built t L = some cs) : (execOp a.eval o).run P w = .ok (.value (.agg cs)) w := by
  subst hL
  unfold execOp
  simp only [ho, Sem.run_bind, run_build w t _ cs hc, Result.andThen_ok, Sem.run_pure]
theorem exec_bin {P : Program} {a : Act} {o : Oper} {w : World} (b : BinOp) (t t' : TypeId) (x y : Operand) (ho : o.op = .binOp b t x y t') (vx vy v : Value) (hx : a.eval x = vx) (hy : a.eval y = vy)
    (hg : (eqGuard b t x y vx vy).run P w = .ok () w) (h : (binOp b t vx vy).run P w = .ok v w) : (execOp a.eval o).run P w = .ok (.value v) w := by
  unfold execOp
  simp only [ho, hx, hy, Sem.run_bind, hg, Result.andThen_ok, h, Sem.run_pure]
theorem built1 : Try.prog.built 53 [(0, .int .u64 1)] = some (wf (dg 1)) := by rw [← wf_one']; kernel_rfl
theorem built0 : Try.prog.built 53 [] = some (wf (fun _ => 0)) := by rw [← wf_zeros]; kernel_rfl
theorem guardW : Try.prog.eqGuardType Try.prog.depth 53 = false := by kernel_rfl
/-! What Use holds: top and bottom. -/
structure Us (V w : World) (t b : Nat) : Prop where
  top : w.heap[V.heap.size]? = some (.cells (wf (dg t)) 53 (0, 0))
  bot : w.heap[V.heap.size + 1]? = some (.cells (wf (dg b)) 53 (0, 0))
  nx : Nx V w
theorem Us.lt {V w : World} {t b : Nat} (h : Us V w t b) : V.heap.size + 1 < w.heap.size := (Array.getElem?_eq_some_iff.1 h.bot).1
theorem Us.on {V w w' : World} {t b : Nat} (h : Us V w t b) (hb : Nx w w') : Us V w' t b :=
  ⟨(hb.block _ (by have := h.lt; omega)).trans h.top, (hb.block _ h.lt).trans h.bot, Nx.trans h.nx hb⟩
theorem Us.setTop {V w : World} {t b : Nat} (h : Us V w t b) (t' : Nat) : Us V (w.setRow V.heap.size (wf (dg t'))) t' b :=
  ⟨setRow_heap w _ _ _ _ _ h.top, (setRow_other w _ _ _ (by omega)).trans h.bot, below_setRow h.nx (Nat.le_refl _) _⟩
theorem Us.setBot {V w : World} {t b : Nat} (h : Us V w t b) (b' : Nat) : Us V (w.setRow (V.heap.size + 1) (wf (dg b'))) t b' :=
  ⟨(setRow_other w _ _ _ (by omega)).trans h.top, setRow_heap w _ _ _ _ _ h.bot, below_setRow h.nx (by omega) _⟩
/-- A row further on. -/
theorem row_on {w w' : World} {x : Nat} {o : Obj} (h : w.heap[x]? = some o) (hb : Nx w w') : w'.heap[x]? = some o := (hb.block _ (Array.getElem?_eq_some_iff.1 h).1).trans h
theorem row_past {w : World} {x g : Nat} {o : Obj} (h : w.heap[x]? = some o) (hne : x ≠ g) (cs : Array Value) : (w.setRow g cs).heap[x]? = some o := (setRow_other w _ _ _ hne).trans h
theorem nx_row {V w : World} (h : Nx V w) {g : Nat} (hg : V.heap.size ≤ g) (cs : Array Value) : Nx V (w.setRow g cs) := below_setRow h hg cs
end Go.Proofs.Ytkfddjmhoekjgaa.Wd
