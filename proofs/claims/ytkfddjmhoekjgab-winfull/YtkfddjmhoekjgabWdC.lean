/- Arrays of 32 words in memory; the library's carries. -/
import Derived.Test.YtkfddjmhoekjgabWdM
import Derived.Test.YtkfddjmhoekjgabWnSl
import Derived.Test.YtkfddjmhoekjgabShelf
import Derived.Deep.RegionHeld3
import Derived.Deep.WholeRow
namespace Go.Proofs.Ytkfddjmhoekjgab.Wd
open Go.RowKit Go.Proofs.Ytkfddjmhoekjgab.Con Go.Proofs.Ytkfddjmhoekjgab.Wn
set_option linter.unusedVariables false
set_option linter.unusedSimpArgs false
/-- 32 words, as cells. -/
def wf (F : Nat → Nat) : Array Value := ((List.range 32).map fun j => Value.int .u64 ((F j : Nat) : Int)).toArray
theorem wf_dg (n : Nat) : wf (dg n) = wv n := rfl
theorem wf_size (F : Nat → Nat) : (wf F).size = 32 := by simp [wf]
theorem wf_get (F : Nat → Nat) (j : Nat) (h : j < 32) : (wf F)[j]? = some (.int .u64 ((F j : Nat) : Int)) := by
  unfold wf
  rw [List.getElem?_toArray, List.getElem?_map, List.getElem?_range h]; rfl
theorem wf_one (F : Nat → Nat) : (wf F).all (·.oneCell') = true := by
  rw [Array.all_eq_true_iff_forall_mem]
  intro v hv
  simp [wf] at hv
  obtain ⟨j, _, rfl⟩ := hv
  rfl
theorem wf_ext {a : Array Value} {F : Nat → Nat} (hs : a.size = 32) (h : ∀ j, j < 32 → a[j]? = some (.int .u64 ((F j : Nat) : Int))) : a = wf F := by
  apply Array.ext_getElem?
  intro j
  by_cases hj : j < 32
  · rw [h j hj, wf_get F j hj]
  · rw [Array.getElem?_eq_none (by omega), Array.getElem?_eq_none (by rw [wf_size]; omega)]
theorem wf_congr {F G : Nat → Nat} (h : ∀ j, j < 32 → F j = G j) : wf F = wf G := wf_ext (wf_size F) fun j hj => by rw [wf_get F j hj, h j hj]
theorem wf_zeros : #[Value.int .u64 0, .int .u64 0, .int .u64 0, .int .u64 0, .int .u64 0, .int .u64 0, .int .u64 0, .int .u64 0, .int .u64 0, .int .u64 0, .int .u64 0, .int .u64 0, .int .u64 0, .int .u64 0, .int .u64 0, .int .u64 0, .int .u64 0, .int .u64 0, .int .u64 0, .int .u64 0, .int .u64 0, .int .u64 0, .int .u64 0, .int .u64 0, .int .u64 0, .int .u64 0, .int .u64 0, .int .u64 0, .int .u64 0, .int .u64 0, .int .u64 0, .int .u64 0] = wf (fun _ => 0) := by kernel_rfl
theorem wf_zero : wf (fun _ => 0) = Array.replicate 32 (.int .u64 0) := by
  apply Array.ext_getElem?
  intro j
  by_cases hj : j < 32
  · rw [wf_get _ j hj]; simp [hj]
  · rw [Array.getElem?_eq_none (by rw [wf_size]; omega), Array.getElem?_eq_none (by simp; omega)]
def upd (F : Nat → Nat) (k v : Nat) : Nat → Nat := fun j => if j = k then v else F j
/-- The first k of G, the others of F. -/
def mix (F G : Nat → Nat) (k : Nat) : Nat → Nat := fun j => if j < k then G j else F j
theorem mix_0 (F G : Nat → Nat) : mix F G 0 = F := by funext j; simp [mix]
theorem mix_at (F G : Nat → Nat) (k : Nat) : mix F G k k = F k := by simp [mix]
theorem mix_s (F G : Nat → Nat) (k : Nat) : upd (mix F G k) k (G k) = mix F G (k + 1) := by
  funext j
  unfold upd mix
  by_cases h : j = k
  · subst h; simp
  · rw [if_neg h]
    by_cases h2 : j < k
    · rw [if_pos h2, if_pos (by omega)]
    · rw [if_neg h2, if_neg (by omega)]
theorem mix_32 (F G : Nat → Nat) : wf (mix F G 32) = wf G := wf_congr fun j hj => by simp [mix, hj]
/-- An array in a block of its own. -/
def An (W : World) (g : Nat) (F : Nat → Nat) : Prop := W.heap[g]? = some (.cells (wf F) 40 (0, 0))
theorem An.lt {W : World} {g : Nat} {F : Nat → Nat} (h : An W g F) : g < W.heap.size := (Array.getElem?_eq_some_iff.1 h).1
theorem An.cell {W : World} {g : Nat} {F : Nat → Nat} (h : An W g F) (j : Nat) (hj : j < 32) : W.cell? ⟨g, j, none⟩ = some (.int .u64 ((F j : Nat) : Int)) := by
  rw [cell_of_row W g j _ _ _ h, wf_get F j hj]
theorem An.frozen {W : World} {g : Nat} {F : Nat → Nat} (h : An W g F) (j : Nat) : W.frozen? ⟨g, j, none⟩ = false := by
  unfold An at h
  simp [World.frozen?, h]
theorem An.set {W : World} {g : Nat} {F : Nat → Nat} (h : An W g F) (k : Nat) (hk : k < 32) (v : Nat) : An (W.setCell ⟨g, k, none⟩ (.int .u64 ((v : Nat) : Int))) g (upd F k v) := by
  have := heap_setCell_same W g k _ _ (.int .u64 ((v : Nat) : Int)) h
  unfold An
  rw [this]
  congr 2
  apply wf_ext
  · simp [wf_size]
  · intro j hj
    unfold upd
    by_cases e : j = k
    · subst e
      rw [if_pos rfl]
      simp [wf_size, hj]
    · rw [if_neg e, Array.getElem?_setIfInBounds_ne (by omega), wf_get F j hj]
theorem An.other {W : World} {g : Nat} {F : Nat → Nat} (h : An W g F) (a : Addr) (hne : g ≠ a.block) (v : Value) : An (W.setCell a v) g F := by
  unfold An
  rw [heap_setCell_other W a g v hne]; exact h
theorem An.below {W W' : World} {g n : Nat} {F : Nat → Nat} (h : An W g F) (hb : Below n W W') (hg : g < n) : An W' g F := (hb.block g hg).trans h
theorem An.nx {W W' : World} {g : Nat} {F : Nat → Nat} (h : An W g F) (hb : Nx W W') : An W' g F := h.below hb h.lt
theorem An.alloc {W : World} {g : Nat} {F : Nat → Nat} (h : An W g F) (o : Obj) : An (W.alloc o) g F := (Below.heap_alloc W o g h.lt).trans h
theorem An.new (W : World) (F : Nat → Nat) : An (W.alloc (.cells (wf F) 40)) W.heap.size F := heap_alloc_new W _
theorem An.zero (W : World) : An (W.alloc (.cells (Array.replicate 32 (.int .u64 0)) 40)) W.heap.size (fun _ => 0) := by
  have := An.new W (fun _ => 0); rwa [wf_zero] at this
theorem An.row {W : World} {g : Nat} {F : Nat → Nat} (G : Nat → Nat) (h : An W g F) : An (W.setRow g (wf G)) g G := setRow_heap W g (wf F) (wf G) _ _ h
theorem An.rowOther {W : World} {g g' : Nat} {F : Nat → Nat} (h : An W g F) (hne : g ≠ g') (cs : Array Value) : An (W.setRow g' cs) g F := by
  unfold An
  rw [setRow_other W g' g cs hne]; exact h
theorem below_setRow {B : Nat} {a w : World} (h : Below B a w) {g : Nat} (hg : B ≤ g) (cs : Array Value) : Below B a (w.setRow g cs) :=
  h.trans ⟨rfl, rfl, rfl, by simp, fun k hk => setRow_other w g k cs (by omega)⟩
theorem underW : Try.prog.underlying 40 = some (.array 32 38) := by kernel_rfl
theorem sizeW (F : Nat → Nat) : (Try.prog.info? 40).map (·.size) = some (wf F).size := by rw [wf_size]; kernel_rfl
/-! The library. -/
theorem add64 (x y c s d : Nat) (hc : c ≤ 1) (hs : (x + y + c) % 18446744073709551616 = s) (hd : (x + y + c) / 18446744073709551616 = d) (w : World) :
    (callFunc 19 #[.int .u64 (x : Int), .int .u64 (y : Int), .int .u64 (c : Int)]).run Try.prog w = .ok (.value (.tuple #[.int .u64 (s : Int), .int .u64 (d : Int)])) w := by
  have := Try.bits_Add64 x y c hc w
  rwa [hs, hd] at this
theorem add64_0 (x y s d : Nat) (hs : (x + y) % 18446744073709551616 = s) (hd : (x + y) / 18446744073709551616 = d) (w : World) :
    (callFunc 19 #[.int .u64 (x : Int), .int .u64 (y : Int), .int .u64 0]).run Try.prog w = .ok (.value (.tuple #[.int .u64 (s : Int), .int .u64 (d : Int)])) w :=
  add64 x y 0 s d (by omega) hs hd w
theorem sub64 (x y c s d : Nat) (hc : c ≤ 1) (hs : (x + 18446744073709551616 - y - c) % 18446744073709551616 = s) (hd : (if x < y + c then 1 else 0) = d) (w : World) :
    (callFunc 21 #[.int .u64 (x : Int), .int .u64 (y : Int), .int .u64 (c : Int)]).run Try.prog w = .ok (.value (.tuple #[.int .u64 (s : Int), .int .u64 (d : Int)])) w := by
  have := Try.bits_Sub64 x y c hc w
  rwa [hs, hd] at this
theorem mul64 (x y h l : Nat) (hx : x < 18446744073709551616) (hy : y < 18446744073709551616) (hh : x * y / 18446744073709551616 = h) (hl : x * y % 18446744073709551616 = l) (w : World) :
    Calls Try.prog 20 #[.int .u64 (x : Int), .int .u64 (y : Int)] w fun e w' => e = .returned (.tuple #[.int .u64 (h : Int), .int .u64 (l : Int)]) ∧ w' = w := by
  have := Try.bits_Mul64 x y hx hy w
  rwa [hh, hl] at this
/-- An operation that calls what the model answers at once. -/
theorem exec_call {P : Program} {a : Act} {o : Oper} {w : World} {f : FuncId} {args : Array Operand} {vals : Array Value} {tys : Array TypeId} {v : Value}
    (ho : o.op = .call { callee := .value (.func f), args := args, argTypes := tys }) (hv : args.map a.eval = vals) (h : (callFunc f vals).run P w = .ok (.value v) w) :
    (execOp a.eval o).run P w = .ok (.value v) w := by
  unfold execOp
  simp only [ho, resolve, hv]
  simp only [Act.eval, Deferred.ofValue, Sem.run_bind, Sem.run_pure, Result.andThen_ok, invoke, Array.append_empty, Array.empty_append, h]
theorem res_row {P : Program} {w : World} {g : Nat} {t : TypeId} {v u : Value} (h : (loadVar t ⟨g, 0, none⟩).run P w = .ok v w) :
    ((asAddr (.pointer (some ⟨g, 0, none⟩))).run P w).andThen (fun a w₁ => ((loadVar t a).run P w₁).andThen fun v w₂ => .ok (Value.tuple #[v, u]) w₂) = .ok (Value.tuple #[v, u]) w := by
  simp only [asAddr, Sem.run_pure, Result.andThen_ok, h]
end Go.Proofs.Ytkfddjmhoekjgab.Wd
