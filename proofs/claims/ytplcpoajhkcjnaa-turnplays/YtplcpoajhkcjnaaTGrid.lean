/- A region that draws, whose operations that make memory lie in two chains: whatever order they come up in, one end. -/
import Derived.Test.YtplcpoajhkcjnaaOrdT
import Derived.Test.YtplcpoajhkcjnaaTPl
namespace Go.Proofs.Ytplcpoajhkcjnaa.OrdT
open Con Go.RowKit
set_option linter.unusedVariables false
set_option linter.unusedSimpArgs false
section
variable {P : Program} {ops : Array Oper} {Q : Exit → Act → World → Prop} {md : Region.Mode} {S : World → Prop} {t : Nat}
def puts (a : Act) : List Nat → List Value → Act
  | d :: ds, v :: vs => puts (a.put (some d) v) ds vs
  | _, _ => a
theorem put_comm (a : Act) {d e : Nat} (h : d ≠ e) (u v : Value) : (a.put (some d) u).put (some e) v = (a.put (some e) v).put (some d) u := by
  simp only [Act.put]
  rw [Array.setIfInBounds_comm _ _ h]
theorem puts_put {d : Nat} (u : Value) : ∀ (ds : List Nat) (vs : List Value) (a : Act), d ∉ ds → (puts a ds vs).put (some d) u = puts (a.put (some d) u) ds vs
  | [], _, a, _ => by simp [puts]
  | _ :: _, [], a, _ => by simp [puts]
  | e :: ds, v :: vs, a, h => by
    unfold puts
    rw [puts_put u ds vs _ (fun h' => h (List.mem_cons_of_mem _ h')), put_comm a (fun e' => h (by simp [e']))]
theorem puts_snoc : ∀ (ds : List Nat) (vs : List Value) (a : Act) (d : Nat) (x : Value), ds[vs.length]? = some d → (puts a ds vs).put (some d) x = puts a ds (vs ++ [x])
  | [], vs, a, d, x, h => by simp at h
  | e :: ds, [], a, d, x, h => by
    simp at h
    subst h
    cases ds <;> rfl
  | e :: ds, v :: vs, a, d, x, h => by
    have ih := puts_snoc ds vs (a.put (some e) v) d x (by simpa using h)
    exact ih
theorem eval_put_ne (a : Act) {d k : Nat} (h : d ≠ k) (u : Value) : (a.put (some d) u).eval (.tmp k) = a.eval (.tmp k) := by
  simp only [Act.put, Act.eval]
  rw [Array.getD_eq_getD_getElem?, Array.getD_eq_getD_getElem?, Array.getElem?_setIfInBounds_ne h]
theorem eval_puts_ne {k : Nat} : ∀ (ds : List Nat) (vs : List Value) (a : Act), k ∉ ds → (puts a ds vs).eval (.tmp k) = a.eval (.tmp k)
  | [], _, a, _ => by simp [puts]
  | _ :: _, [], a, _ => by simp [puts]
  | e :: ds, v :: vs, a, h => by
    unfold puts
    rw [eval_puts_ne ds vs _ (fun h' => h (List.mem_cons_of_mem _ h')), eval_put_ne a (fun e' => h (by simp [e']))]
theorem size_put (a : Act) (d : Nat) (u : Value) : (a.put (some d) u).tmps.size = a.tmps.size := by simp [Act.put]
theorem size_puts : ∀ (ds : List Nat) (vs : List Value) (a : Act), (puts a ds vs).tmps.size = a.tmps.size
  | [], _, a => by simp [puts]
  | _ :: _, [], a => by simp [puts]
  | e :: ds, v :: vs, a => by
    unfold puts
    rw [size_puts, size_put]
theorem eval_put_same (a : Act) {d : Nat} (h : d < a.tmps.size) (u : Value) : (a.put (some d) u).eval (.tmp d) = u := by
  simp only [Act.put, Act.eval]
  rw [Array.getD_eq_getD_getElem?, Array.getElem?_setIfInBounds_self_of_lt h]; rfl
theorem eval_puts_last {ds : List Nat} {vs : List Value} {a : Act} {d : Nat} {x : Value} (hd : ds[vs.length]? = some d) (h : d < a.tmps.size) : (puts a ds (vs ++ [x])).eval (.tmp d) = x := by
  rw [← puts_snoc ds vs a d x hd]
  exact eval_put_same _ (by rw [size_puts]; exact h) x
theorem grid (pA pB : List Nat) (L : Nat → Nat → Array Bool) (fr : List Value → List Value → Act) (Inv : List Value → List Value → World → Prop) (n : Nat) (hS : ∀ u, S u)
    (hr : ∀ i j, i ≤ pA.length → j ≤ pB.length → i + j < pA.length + pB.length → Region.ready md ops (L i j) ≠ [] ∧ ∀ p ∈ Region.ready md ops (L i j), (pA[i]? = some p ∧ (L i j).setIfInBounds p true = L (i + 1) j) ∨ (pB[j]? = some p ∧ (L i j).setIfInBounds p true = L i (j + 1)))
    (sA : ∀ xs ys w p, pA[xs.length]? = some p → Inv xs ys w → wpOp P ops Q p (fun b u => ∃ x, b = fr (xs ++ [x]) ys ∧ Inv (xs ++ [x]) ys u) (fr xs ys) w)
    (sB : ∀ xs ys w p, pB[ys.length]? = some p → Inv xs ys w → wpOp P ops Q p (fun b u => ∃ y, b = fr xs (ys ++ [y]) ∧ Inv xs (ys ++ [y]) u) (fr xs ys) w)
    (fin : ∀ xs ys w, xs.length = pA.length → ys.length = pB.length → Inv xs ys w → AnyT P md ops Q S t n (L pA.length pB.length) (fr xs ys) w) :
    ∀ k xs ys w, k + (xs.length + ys.length) = pA.length + pB.length → xs.length ≤ pA.length → ys.length ≤ pB.length → Inv xs ys w → AnyT P md ops Q S t (n + k) (L xs.length ys.length) (fr xs ys) w := by
  intro k
  induction k with
  | zero =>
    intro xs ys w h hx hy hI
    have h1 : xs.length = pA.length := by omega
    have h2 : ys.length = pB.length := by omega
    have := fin xs ys w h1 h2 hI
    rw [h1, h2]; exact this
  | succ k ih =>
    intro xs ys w h hx hy hI
    obtain ⟨hne, hm⟩ := hr xs.length ys.length hx hy (by omega)
    refine ⟨fun h0 => absurd h0 hne, fun p hp => ?_⟩
    rcases hm p hp with ⟨h1, h2⟩ | ⟨h1, h2⟩
    · refine wpOp_mono (fun b u hb => ?_) (sA xs ys w p h1 hI)
      obtain ⟨x, rfl, hI'⟩ := hb
      refine ⟨fun _ => hS u, ?_⟩
      rw [h2]
      have hl := (List.getElem?_eq_some_iff.1 h1).1
      have := ih (xs ++ [x]) ys u (by simp; omega) (by simp; omega) hy hI'
      rwa [List.length_append] at this
    · refine wpOp_mono (fun b u hb => ?_) (sB xs ys w p h1 hI)
      obtain ⟨y, rfl, hI'⟩ := hb
      refine ⟨fun _ => hS u, ?_⟩
      rw [h2]
      have hl := (List.getElem?_eq_some_iff.1 h1).1
      have := ih xs (ys ++ [y]) u (by simp; omega) hx (by simp; omega) hI'
      rwa [List.length_append] at this
/-- What has come up at a place of the grid, written out. -/
def gridL (T : List (List (Array Bool))) (i j : Nat) : Array Bool := (T.getD i []).getD j #[]
def gridB (md : Region.Mode) (ops : Array Oper) (T : List (List (Array Bool))) (pA pB : List Nat) : Bool :=
  (List.range (pA.length + 1)).all fun i => (List.range (pB.length + 1)).all fun j => (i + j == pA.length + pB.length) || (!(Region.ready md ops (gridL T i j)).isEmpty &&
    (Region.ready md ops (gridL T i j)).all fun p => (((pA.drop i).take 1).contains p && ((gridL T i j).setIfInBounds p true).toList == (gridL T (i + 1) j).toList) || (((pB.drop j).take 1).contains p && ((gridL T i j).setIfInBounds p true).toList == (gridL T i (j + 1)).toList))
theorem one_of {l : List Nat} {i p : Nat} (h : p ∈ (l.drop i).take 1) : l[i]? = some p := by
  by_cases hi : i < l.length
  · rw [List.drop_eq_getElem_cons hi, List.take_succ_cons, List.take_zero] at h
    have e : p = l[i] := List.mem_singleton.1 h
    rw [List.getElem?_eq_getElem hi, e]
  · rw [List.drop_of_length_le (by omega)] at h
    simp at h
theorem gridB_spec {T : List (List (Array Bool))} {pA pB : List Nat} (h : gridB md ops T pA pB = true) : ∀ i j, i ≤ pA.length → j ≤ pB.length → i + j < pA.length + pB.length → Region.ready md ops (gridL T i j) ≠ [] ∧ ∀ p ∈ Region.ready md ops (gridL T i j), (pA[i]? = some p ∧ (gridL T i j).setIfInBounds p true = gridL T (i + 1) j) ∨ (pB[j]? = some p ∧ (gridL T i j).setIfInBounds p true = gridL T i (j + 1)) := by
  intro i j hi hj hij
  unfold gridB at h
  have h1 := List.all_eq_true.1 h i (List.mem_range.2 (by omega))
  have h2 := List.all_eq_true.1 h1 j (List.mem_range.2 (by omega))
  have h3 : (i + j == pA.length + pB.length) = false := by simp; omega
  rw [h3, Bool.false_or, Bool.and_eq_true] at h2
  obtain ⟨h4, h5⟩ := h2
  refine ⟨fun e => by rw [e] at h4; simp at h4, fun p hp => ?_⟩
  have h6 := List.all_eq_true.1 h5 p hp
  rw [Bool.or_eq_true, Bool.and_eq_true, Bool.and_eq_true, List.contains_iff_mem, List.contains_iff_mem] at h6
  rcases h6 with ⟨h6, h7⟩ | ⟨h6, h7⟩
  · exact .inl ⟨one_of h6, Array.toList_inj.1 (eq_of_beq h7)⟩
  · exact .inr ⟨one_of h6, Array.toList_inj.1 (eq_of_beq h7)⟩
end
/-- A chain: an empty row is made; what lies in one slot is appended, then what lies in another. -/
structure Ch where
  t : TypeId
  e : TypeId
  q : IntKind
  by_ : Nat
  p0 : Nat
  p1 : Nat
  p2 : Nat
  d0 : Nat
  d1 : Nat
  d2 : Nat
  s1 : Nat
  s2 : Nat
  v1 : Value
  v2 : Value
  c1 : List Int
  c2 : List Int
def Ch.p (c : Ch) : List Nat := [c.p0, c.p1, c.p2]
def Ch.d (c : Ch) : List Nat := [c.d0, c.d1, c.d2]
def Ch.row (c : Ch) : Nat → List Int
  | 0 => []
  | 1 => c.c1
  | _ => c.c1 ++ c.c2
def Ch.inv (c : Ch) (B : Nat) (xs : List Value) (w : World) : Prop := ∀ x, xs.getLast? = some x → NRow c.e c.q B w x (c.row (xs.length - 1))
structure Ch.Ok (c : Ch) (ops : Array Oper) (a : Act) (w0 : World) : Prop where
  o0 : ∃ o, ops[c.p0]? = some o ∧ o.guard = none ∧ o.dst = some c.d0 ∧ o.op = .buildSlice c.t 0 #[]
  o1 : ∃ o, ops[c.p1]? = some o ∧ o.guard = none ∧ o.dst = some c.d1 ∧ o.op = .call { callee := .builtin .append, args := #[.tmp c.d0, .tmp c.s1], argTypes := #[c.t, c.t] }
  o2 : ∃ o, ops[c.p2]? = some o ∧ o.guard = none ∧ o.dst = some c.d2 ∧ o.op = .call { callee := .builtin .append, args := #[.tmp c.d1, .tmp c.s2], argTypes := #[c.t, c.t] }
  ht : Try.prog.underlying c.t = some (.slice c.e)
  hI : (Try.prog.info? c.e).map (fun i => (i.zero, i.size, i.bytes)) = some (some (.int c.q 0), 1, c.by_)
  hby : c.by_ ≤ 8
  e1 : a.eval (.tmp c.s1) = c.v1
  e2 : a.eval (.tmp c.s2) = c.v2
  r1 : RdC w0 w0.heap.size 1 c.v1 c.c1.length (numV c.q c.c1)
  r2 : RdC w0 w0.heap.size 1 c.v2 c.c2.length (numV c.q c.c2)
  len : c.c1.length + c.c2.length ≤ 1000
  z : (decide (c.d0 < a.tmps.size) && decide (c.d1 < a.tmps.size)) = true
theorem Ch.Ok.zz {c : Ch} {ops : Array Oper} {a : Act} {w0 : World} (h : c.Ok ops a w0) : c.d0 < a.tmps.size ∧ c.d1 < a.tmps.size := by
  have := h.z
  simpa using this
/-- The frame in which the chain goes on. -/
structure Ch.Fr (c : Ch) (a f : Act) (xs : List Value) : Prop where
  f1 : f.eval (.tmp c.s1) = a.eval (.tmp c.s1)
  f2 : f.eval (.tmp c.s2) = a.eval (.tmp c.s2)
  last : ∀ ys x d, xs = ys ++ [x] → c.d[ys.length]? = some d → d < a.tmps.size → f.eval (.tmp d) = x
theorem ownsRow_alloc {w : World} {base e size n : Nat} {v : Value} {xs : List Value} (h : w.ownsRow base e size v n xs) (o : Obj) : (w.alloc o).ownsRow base e size v n xs :=
  own_kept h fun k hk => heap_alloc_old w _ (own_lt h k hk)
theorem wanted_of {ops : Array Oper} {o : Oper} {a : Act} (h : o.guard = none) : Region.wanted o (yielded ops a.tmps) = true := by simp [Region.wanted, h]
/-- One step of a chain; what another chain holds stays. -/
theorem Ch.step {ops : Array Oper} {Q : Exit → Act → World → Prop} {a f : Act} {w0 w : World} {xs : List Value} {p : Nat} (c : Ch) (h : c.Ok ops a w0) (hf : c.Fr a f xs) (hp : c.p[xs.length]? = some p) (hB : Below w0.heap.size w0 w) (hi : c.inv w0.heap.size xs w)
    (K : Act → World → Prop) (hK : ∀ x w', Below w0.heap.size w0 w' → (∀ e' q' v ys, e' ≠ c.e → NRow e' q' w0.heap.size w v ys → NRow e' q' w0.heap.size w' v ys) → c.inv w0.heap.size (xs ++ [x]) w' → ∀ d, c.d[xs.length]? = some d → K (f.put (some d) x) w') :
    wpOp Try.prog ops Q p K f w := by
  obtain ⟨i0, hi0, hz0, hz1, hz2⟩ := info_parts h.hI
  match xs, hf, hp, hi, hK with
  | [], hf, hp, hi, hK =>
    simp [Ch.p] at hp
    subst hp
    obtain ⟨o, ho, hg, hd, hop⟩ := h.o0
    unfold wpOp
    simp only [ho]
    rw [if_pos (wanted_of hg)]
    left
    have hrun : (Instr.buildSlice c.t 0 #[]).run Try.prog w = .ok (.slice (some ⟨w.heap.size, 0, none⟩) 0 0) (w.alloc (.cells #[] c.e)) := by
      simp [Instr.buildSlice, run_underlying h.ht, sizeOf, typeInfo, hi0, hz1, newRow, Instr.fill]
      congr 2
      exact Array.eq_empty_of_size_eq_zero (by simp)
    unfold Oper.wp execOp
    simp only [hop, Array.map_empty, List.map_toArray, List.map_nil, Sem.run_bind, hrun, Result.andThen_ok]
    have := hK (.slice (some ⟨w.heap.size, 0, none⟩) 0 0) (w.alloc (.cells #[] c.e)) (hB.alloc hB.size _) (fun e' q' v ys _ hr => ownsRow_alloc hr _) (by
      intro x hx
      simp at hx
      subst hx
      exact own_empty (heap_alloc_new w _) hB.size) c.d0 rfl
    rw [← hd] at this
    exact this
  | [x0], hf, hp, hi, hK =>
    simp [Ch.p] at hp
    subst hp
    obtain ⟨o, ho, hg, hd, hop⟩ := h.o1
    have hx0 : f.eval (.tmp c.d0) = x0 := hf.last [] x0 c.d0 rfl rfl h.zz.1
    have hr0 := hi x0 rfl
    have h8 : (0 + c.c1.length) * c.by_ ≤ (0 + c.c1.length) * 8 := Nat.mul_le_mul_left _ h.hby
    have hl := h.len
    have key := step_append_rd (w := w) (ops := ops) (o := o) (a := f) (K := K) (Q := Q) (E := False) (some c.d1) hd hg (.tmp c.d0) (.tmp c.s1) c.t hop w0.heap.size c.e i0 (.int c.q 0) 1 c.by_ h.ht hi0 hz0 hz1 hz2 rfl (by decide) x0 0 [] hx0 hr0 w0.heap.size _ c.c1.length (numV c.q c.c1) (hf.f1.trans h.e1) (h.r1.below hB) (numV_one _) (0 + c.c1.length) rfl (numV c.q c.c1) rfl (by unfold maxLen; omega) (by omega) hB.size (by
      intro pp cap w' ho' hgr _ hpast
      refine hK _ w' (below_grown hB hB.size hgr hpast) (fun e' q' v ys he hr => own_beside hr hr0 he hgr) ?_ c.d1 rfl
      intro x hx
      simp at hx
      subst hx
      unfold NRow
      rw [Nat.zero_add] at ho' ⊢
      exact ho')
    unfold wpOp
    simp only [ho]
    rw [if_pos (wanted_of hg)] at key ⊢
    exact .inl key
  | [x0, x1], hf, hp, hi, hK =>
    simp [Ch.p] at hp
    subst hp
    obtain ⟨o, ho, hg, hd, hop⟩ := h.o2
    have hx1 : f.eval (.tmp c.d1) = x1 := hf.last [x0] x1 c.d1 rfl rfl h.zz.2
    have hr0 : NRow c.e c.q w0.heap.size w x1 c.c1 := hi x1 rfl
    have h8 : (c.c1.length + c.c2.length) * c.by_ ≤ (c.c1.length + c.c2.length) * 8 := Nat.mul_le_mul_left _ h.hby
    have hl := h.len
    have key := step_append_rd (w := w) (ops := ops) (o := o) (a := f) (K := K) (Q := Q) (E := False) (some c.d2) hd hg (.tmp c.d1) (.tmp c.s2) c.t hop w0.heap.size c.e i0 (.int c.q 0) 1 c.by_ h.ht hi0 hz0 hz1 hz2 rfl (by decide) x1 c.c1.length (numV c.q c.c1) hx1 hr0 w0.heap.size _ c.c2.length (numV c.q c.c2) (hf.f2.trans h.e2) (h.r2.below hB) (numV_one _) (c.c1.length + c.c2.length) rfl (numV c.q c.c1 ++ numV c.q c.c2) rfl (by unfold maxLen; omega) (by omega) hB.size (by
      intro pp cap w' ho' hgr _ hpast
      refine hK _ w' (below_grown hB hB.size hgr hpast) (fun e' q' v ys he hr => own_beside hr hr0 he hgr) ?_ c.d2 rfl
      intro x hx
      simp at hx
      subst hx
      show World.ownsRow _ _ _ _ _ (c.c1 ++ c.c2).length (numV c.q (c.c1 ++ c.c2))
      rw [List.length_append, numV_app]
      exact ho')
    unfold wpOp
    simp only [ho]
    rw [if_pos (wanted_of hg)] at key ⊢
    exact .inl key
  | _ :: _ :: _ :: r, hf, hp, hi, hK => simp [Ch.p] at hp
theorem two_rows {ops : Array Oper} {Q : Exit → Act → World → Prop} {S : World → Prop} {t n : Nat} {md : Region.Mode} {L : Array Bool} {a : Act} {w0 w : World} (A B : Ch) (T : List (List (Array Bool))) (hL : L = gridL T 0 0) (hS : ∀ u, S u) (hg : gridB md ops T A.p B.p = true) (hA : A.Ok ops a w0) (hB : B.Ok ops a w0)
    (he : A.e ≠ B.e) (a1 : A.s1 ∉ A.d ++ B.d) (a2 : A.s2 ∉ A.d ++ B.d) (b1 : B.s1 ∉ A.d ++ B.d) (b2 : B.s2 ∉ A.d ++ B.d) (dj : ∀ d ∈ A.d, d ∉ B.d) (hw : Below w0.heap.size w0 w)
    (fin : ∀ x0 x1 x2 y0 y1 y2 w', Below w0.heap.size w0 w' → NRow A.e A.q w0.heap.size w' x2 (A.c1 ++ A.c2) → NRow B.e B.q w0.heap.size w' y2 (B.c1 ++ B.c2) → AnyT Try.prog md ops Q S t n (gridL T 3 3) (puts (puts a A.d [x0, x1, x2]) B.d [y0, y1, y2]) w') :
    AnyT Try.prog md ops Q S t (n + 6) L a w := by
  rw [hL]
  clear hL
  simp only [List.mem_append, not_or] at a1 a2 b1 b2
  have dj' : ∀ d ∈ B.d, d ∉ A.d := fun d h1 h2 => dj d h2 h1
  have FA : ∀ xs ys, A.Fr a (puts (puts a A.d xs) B.d ys) xs := fun xs ys => ⟨by rw [eval_puts_ne _ _ _ a1.2, eval_puts_ne _ _ _ a1.1], by rw [eval_puts_ne _ _ _ a2.2, eval_puts_ne _ _ _ a2.1], by
    rintro zs x d rfl hd hz
    rw [eval_puts_ne _ _ _ (dj d (List.mem_of_getElem? hd))]
    exact eval_puts_last hd hz⟩
  have FB : ∀ xs ys, B.Fr a (puts (puts a A.d xs) B.d ys) ys := fun xs ys => ⟨by rw [eval_puts_ne _ _ _ b1.2, eval_puts_ne _ _ _ b1.1], by rw [eval_puts_ne _ _ _ b2.2, eval_puts_ne _ _ _ b2.1], by
    rintro zs x d rfl hd hz
    exact eval_puts_last hd (by rw [size_puts]; exact hz)⟩
  have := grid (P := Try.prog) (ops := ops) (Q := Q) (md := md) (S := S) (t := t) A.p B.p (gridL T) (fun xs ys => puts (puts a A.d xs) B.d ys) (fun xs ys w => Below w0.heap.size w0 w ∧ A.inv w0.heap.size xs w ∧ B.inv w0.heap.size ys w) n hS (gridB_spec hg)
    (by
      rintro xs ys w p hp ⟨h1, h2, h3⟩
      refine Ch.step A hA (FA xs ys) hp h1 h2 _ ?_
      intro x w' k1 k2 k3 d hd
      refine ⟨x, ?_, k1, k3, fun y hy => k2 _ _ _ _ he.symm (h3 y hy)⟩
      show _ = puts (puts a A.d (xs ++ [x])) B.d ys
      rw [puts_put x _ _ _ (dj d (List.mem_of_getElem? hd)), puts_snoc _ _ _ _ _ hd])
    (by
      rintro xs ys w p hp ⟨h1, h2, h3⟩
      refine Ch.step B hB (FB xs ys) hp h1 h3 _ ?_
      intro x w' k1 k2 k3 d hd
      refine ⟨x, ?_, k1, fun y hy => k2 _ _ _ _ he (h2 y hy), k3⟩
      exact puts_snoc _ _ _ _ _ hd)
    (by
      rintro xs ys w hx hy ⟨h1, h2, h3⟩
      match xs, ys, hx, hy, h2, h3 with
      | [x0, x1, x2], [y0, y1, y2], hx, hy, h2, h3 => exact fin x0 x1 x2 y0 y1 y2 w h1 (h2 x2 rfl) (h3 y2 rfl))
    6 [] [] w rfl (by simp) (by simp) ⟨hw, fun x hx => by simp at hx, fun x hx => by simp at hx⟩
  exact this
end Go.Proofs.Ytplcpoajhkcjnaa.OrdT
