/- RobinPlays: a robin, the law's own row, an act in a box; a map from ids to int64s. -/
import Derived.Test.YtndmmhikhfndaaaRbMany
import Derived.Test.YtndmmhikhfndaaaOrdT
import Derived.Deep.CutBlock
import Derived.Maps.AppendAt
import Derived.Maps.OwnSet
namespace Go.Proofs.Ytndmmhikhfndaaa.Rb
open Go.RowKit Go.Proofs.Ytndmmhikhfndaaa.Con Go.Proofs.Ytndmmhikhfndaaa.Fp
set_option linter.unusedVariables false
set_option linter.unusedSimpArgs false
def in64 (x : Int) : Prop := (Lit.int .i64 x).wf = true
theorem in64_iff (x : Int) : in64 x ↔ -9223372036854775808 ≤ x ∧ x ≤ 9223372036854775807 := by
  have h1 : IntKind.i64.min = -9223372036854775808 := by decide
  have h2 : IntKind.i64.max = 9223372036854775807 := by decide
  unfold in64
  simp only [Lit.wf, h1, h2, Bool.and_eq_true, decide_eq_true_eq]
/-- A map from int to int64, told as a function; n keys. -/
def Mp (w : World) (b n : Nat) (f : Int → Option Int) : Prop :=
  ∃ D : DataW Unit, w.ownsMap Try.prog 3 (plainElem Try.prog 2) b n D ∧ Maps.size D = n ∧ ∀ x, in64 x → Maps.has D (.int .i64 x) = (f x).isSome ∧ ∀ c, f x = some c → D.atKey (.int .i64 x) (.lit (.int .i64 0)) = .lit (.int .i64 c)
theorem keyI : Maps.Keyed Try.prog 3 := Maps.int_keyed Try.underlying3
theorem key_of {x : Int} (h : in64 x) : keyOf Try.prog 3 (.int .i64 x) = some (.int .i64 x) := Maps.keyOf_int_mk Try.underlying3 h
theorem zeroL (w : World) : (zeroValue 2).run Try.prog w = .ok (.int .i64 0) w := by kernel_rfl
theorem lit_ne {x y : Int} (h : y ≠ x) : (Lit.int .i64 y) ≠ .int .i64 x := by intro e; injection e with _ e; exact h e
theorem lit_key {x : Int} (hx : in64 x) : WideAt.IsKeyLit (.int .i64 x) := (keyI.one).key ⟨_, key_of hx⟩
def upd (f : Int → Option Int) (x : Int) (c : Option Int) (y : Int) : Option Int := if y = x then c else f y
section
variable {w : World} {b n : Nat} {f : Int → Option Int}
theorem Mp.lt (h : Mp w b n f) : b < w.heap.size := by obtain ⟨D, h, _⟩ := h; exact h.lt
theorem Mp.kept {w' : World} (h : Mp w b n f) (hk : w'.heap[b]? = w.heap[b]?) : Mp w' b n f := by
  obtain ⟨D, ⟨es, c, hb, r⟩, s⟩ := h
  exact ⟨D, ⟨es, c, hk.trans hb, r⟩, s⟩
theorem Mp.made (w : World) : Mp (w.alloc (.map #[] 0)) w.heap.size 0 (fun _ => none) :=
  ⟨.map [], World.ownsMap_made w _ _ _, rfl, fun x _ => ⟨rfl, by simp⟩⟩
theorem Mp.look (h : Mp w b n f) {x : Int} (hx : in64 x) :
    (Instr.lookup 36 (.map (some b)) (.int .i64 x) false).run Try.prog w = .ok (.int .i64 ((f x).getD 0)) w := by
  obtain ⟨D, hown, hs, hf⟩ := h
  obtain ⟨c, hrun, hc, _⟩ := hown.lookup_int keyI Try.underlying36 Try.underlying2 (zeroL w) (key_of hx)
  obtain ⟨h1, h2⟩ := hf x hx
  rw [hrun]
  cases e' : f x with
  | none =>
    have : Maps.has D (.int .i64 x) = false := by rw [h1, e']; rfl
    have h3 := Maps.atKey_of_not_has this (.lit (.int .i64 0))
    rw [h3] at hc
    have : c = 0 := by simpa using hc.symm
    rw [this]; rfl
  | some d =>
    rw [h2 d e'] at hc
    have : c = d := by simpa using hc.symm
    rw [this]; rfl
theorem tight {D : DataW Unit} {m : Nat} (h : w.ownsMap Try.prog 3 (plainElem Try.prog 2) b m D) (hn : Maps.size D = n) : w.ownsMap Try.prog 3 (plainElem Try.prog 2) b n D := by
  obtain ⟨es, c, hb, F, hs, rfl⟩ := h
  refine ⟨es, c, hb, F, ?_, rfl⟩
  have e1 : Maps.size (DataW.map ((es.toList.map (Go.WideElems.rg Try.prog 3 (plainElem (H := Unit) Try.prog 2))).foldr DataW.insert [])) = es.size := by simp [Maps.size, length_sorted]
  omega
theorem Mp.put (h : Mp w b n f) (hn : n < maxLen) {x c : Int} (hx : in64 x) (hc : in64 c) :
    ∃ w', (Instr.mapUpdate 36 (.map (some b)) (.int .i64 x) (.int .i64 c)).run Try.prog w = .ok () w' ∧ Mp w' b (if (f x).isSome then n else n + 1) (upd f x (some c)) ∧ w.grownBy w' (some b) := by
  obtain ⟨D, hown, hs, hf⟩ := h
  have ht' := hown.tidy keyI
  obtain ⟨w', hrun, ho, hg⟩ := hown.update keyI Try.underlying36 hn (key_of hx) (plainElem_int Try.underlying2 hc)
  have hsz := Maps.size_put (k := .int .i64 x) ht' (.lit (.int .i64 c))
  rw [(hf x hx).1, hs] at hsz
  refine ⟨w', hrun, ⟨_, tight ho hsz, hsz, ?_⟩, hg⟩
  intro y hy
  unfold upd
  by_cases e' : y = x
  · subst e'
    rw [if_pos rfl]
    exact ⟨by rw [Maps.has_put_same ht'.isMap (lit_key hx)]; rfl, fun d hd => by rw [Maps.atKey_put_same ht'.isMap (lit_key hx)]; simpa using hd⟩
  · rw [if_neg e', Maps.has_put_other (lit_ne e'), Maps.atKey_put_other (lit_ne e')]
    exact hf y hy
theorem Mp.congr {f' : Int → Option Int} (h : Mp w b n f) (hf : ∀ x, in64 x → f' x = f x) : Mp w b n f' := by
  obtain ⟨D, hown, hs, hq⟩ := h
  exact ⟨D, hown, hs, fun x hx => by rw [hf x hx]; exact hq x hx⟩
end
/-- The map counts: how often each was among the first q taken of l; so many of them at most were asked for. -/
def Cm (w : World) (mb : Nat) (l : List Int) (q : Nat) : Prop := ∃ n f, n ≤ q ∧ Mp w mb n f ∧ ∀ x, in64 x → (f x).getD 0 = ((seen l q x : Nat) : Int)
section
variable {w w' : World} {mb q : Nat} {l : List Int}
theorem Cm.lt (h : Cm w mb l q) : mb < w.heap.size := by obtain ⟨_, _, _, h, _⟩ := h; exact h.lt
theorem Cm.kept (h : Cm w mb l q) (hk : w'.heap[mb]? = w.heap[mb]?) : Cm w' mb l q := by
  obtain ⟨n, f, h1, h2, h3⟩ := h
  exact ⟨n, f, h1, h2.kept hk, h3⟩
theorem Cm.made (l : List Int) (w : World) : Cm (w.alloc (.map #[] 0)) w.heap.size l 0 := ⟨0, fun _ => none, Nat.le_refl _, Mp.made w, fun x _ => rfl⟩
theorem Cm.look (h : Cm w mb l q) {x : Int} (hx : in64 x) : (Instr.lookup 36 (.map (some mb)) (.int .i64 x) false).run Try.prog w = .ok (.int .i64 ((seen l q x : Nat) : Int)) w := by
  obtain ⟨n, f, h1, h2, h3⟩ := h
  rw [h2.look hx, h3 x hx]
theorem seen_succ (l : List Int) (q : Nat) (x : Int) : seen l (q + 1) x = seen l q x + (if l[q % l.length]? = some x then 1 else 0) := rfl
theorem Cm.put (h : Cm w mb l q) (hq : q < 1000000) {x : Int} (hx : in64 x) (hl : l[q % l.length]? = some x) :
    ∃ w', (Instr.mapUpdate 36 (.map (some mb)) (.int .i64 x) (.int .i64 (((seen l q x : Nat) : Int) + 1))).run Try.prog w = .ok () w' ∧ Cm w' mb l (q + 1) ∧ w.grownBy w' (some mb) := by
  obtain ⟨n, f, h1, h2, h3⟩ := h
  have hs := seen_le l x q
  obtain ⟨w', r1, r2, r3⟩ := h2.put (c := ((seen l q x : Nat) : Int) + 1) (by unfold maxLen; omega) hx (by rw [in64_iff]; omega)
  refine ⟨w', r1, ⟨_, _, ?_, r2, fun y hy => ?_⟩, r3⟩
  · split <;> omega
  · rw [seen_succ]
    unfold upd
    rw [hl]
    by_cases e : y = x
    · subst e
      simp
    · rw [if_neg e, h3 y hy, if_neg (by simp; exact fun e' => e e'.symm)]; simp
end
/-- Where one is. -/
def pla (xs : List Int) (x : Int) : Int := if x ∈ xs then ((xs.idxOf x : Nat) : Int) else -1
theorem pla_snoc (xs : List Int) (z x : Int) : pla (xs ++ [z]) x = if x ∈ xs then pla xs x else if z = x then (xs.length : Int) else -1 := by
  unfold pla
  by_cases h : x ∈ xs
  · rw [if_pos h, if_pos h, if_pos (List.mem_append_left _ h), List.idxOf_append, if_pos h]
  · rw [if_neg h]
    by_cases e : z = x
    · subst e
      rw [if_pos (by simp), if_pos rfl, List.idxOf_append, if_neg h]; simp
    · rw [if_neg e, if_neg (by simp [h]; exact fun q => e q.symm)]
theorem take_snocP (zs : List Int) (k : Nat) (h : k < zs.length) : zs.take (k + 1) = zs.take k ++ [zs.getD k 0] := by
  rw [List.take_succ_eq_append_getElem h, List.getD_eq_getElem?_getD, List.getElem?_eq_getElem h]; rfl
theorem pla_hit {xs : List Int} {x : Int} {j : Nat} (hd : xs.Nodup) (hj : j < xs.length) (h : xs.getD j 0 = x) : pla (xs.take (j + 1)) x = (j : Int) := by
  rw [take_snocP xs j hj, pla_snoc, h, if_pos rfl, if_neg, List.length_take]
  · congr 1; omega
  · intro hm
    obtain ⟨i, hi, e⟩ := List.mem_iff_getElem.1 hm
    rw [List.length_take] at hi
    rw [List.getElem_take] at e
    have e2 : xs[j] = x := by rw [← h, List.getD_eq_getElem?_getD, List.getElem?_eq_getElem hj]; rfl
    have := (List.getElem_inj hd).1 (e.trans e2.symm)
    omega
theorem pla_miss {xs : List Int} {x : Int} {j : Nat} (hj : j < xs.length) (h : ¬ xs.getD j 0 = x) : pla (xs.take (j + 1)) x = pla (xs.take j) x := by
  rw [take_snocP xs j hj, pla_snoc, if_neg h]
  by_cases hm : x ∈ xs.take j
  · rw [if_pos hm]
  · rw [if_neg hm]; unfold pla; rw [if_neg hm]
/-- Not there, or there at its place; what is left without it. -/
theorem at_cases (L : List Int) (x : Int) : (pla L x = -1 ∧ x ∉ L) ∨ ∃ j : Nat, pla L x = (j : Int) ∧ j < L.length ∧ x ∈ L ∧ L.erase x = L.take j ++ L.drop (j + 1) := by
  by_cases h : x ∈ L
  · refine .inr ⟨L.idxOf x, by unfold pla; rw [if_pos h], List.idxOf_lt_length_of_mem h, h, ?_⟩
    rw [List.erase_eq_eraseIdx_of_idxOf rfl, List.eraseIdx_eq_take_drop_succ]
  · exact .inl ⟨by unfold pla; rw [if_neg h], h⟩
/-- A call: what, with what. -/
structure Ac where
  op : Int
  id : Int
  n : Int
  t : Int
def ac' (l : List Ac) (i : Nat) : Ac := l.getD i ⟨0, 0, 0, 0⟩
/-- A robin, and the law's own row beside it; its ids are int64s. -/
structure Pw (I : RbI) (W w : World) (b : Nat) (s : Rs) (F : Nat → Prop) (u : Value) (ys : List Int) : Prop where
  it : At I W w b s F
  row : Sf w F u ys
  key : ∀ x ∈ s.l, in64 x
/-- An act in a box that no call on what lies in F turns. -/
structure Bx (w : World) (F : Nat → Prop) (g : Nat) (a : Ac) : Prop where
  str : w.heap[g]? = some (.cells #[.int .i64 a.op, .int .i64 a.id, .int .i64 a.n, .int .i64 a.t] 35 (0, 0))
  off : ¬ F g
section
variable {I : RbI} {W w w' : World} {b g : Nat} {s s' : Rs} {F F' : Nat → Prop} {u u' : Value} {ys zs : List Int} {a : Ac}
theorem Bx.lt (h : Bx w F g a) : g < w.heap.size := (Array.getElem?_eq_some_iff.1 h.str).1
theorem Bx.cells (h : Bx w F g a) : w.cell? ⟨g, 0, none⟩ = some (.int .i64 a.op) ∧ w.cell? ⟨g, 1, none⟩ = some (.int .i64 a.id) ∧ w.cell? ⟨g, 2, none⟩ = some (.int .i64 a.n) ∧ w.cell? ⟨g, 3, none⟩ = some (.int .i64 a.t) := by
  refine ⟨?_, ?_, ?_, ?_⟩ <;> (rw [cell_of_row w g _ _ _ _ h.str]; rfl)
theorem Bx.nx (h : Bx w F g a) (hB : Nx w w') : Bx w' F g a := ⟨(hB.block g h.lt).trans h.str, h.off⟩
theorem Bx.tn (h : Bx w F g a) (hT : Tn w w' F F') : Bx w' F' g a := ⟨(hT.keep g h.lt h.off).trans h.str, fun hf => by
  rcases hT.new g hf with e | e
  · exact h.off e
  · have := h.lt; omega⟩
theorem Pw.nx (K : Rk I) (h : Pw I W w b s F u ys) (hB : Nx w w') : Pw I W w' b s F u ys := ⟨h.it.on K hB, h.row.nx hB, h.key⟩
theorem Pw.turn (h : Pw I W w b s F u ys) (hA : At I W w' b s' F') (hT : Tn w w' F F') (hk : ∀ x ∈ s'.l, in64 x) : Pw I W w' b s' F' u ys := ⟨hA, h.row.tn hT, hk⟩
/-- The law's row is made anew. -/
theorem Pw.fresh (K : Rk I) (h : Pw I W w b s F u ys) (hB : Nx w w') {n : Nat} (hn : zs.length = n) (hr : w'.ownsRow w.heap.size 3 1 u' n (ivs zs)) : Pw I W w' b s F u' zs := by
  subst hn
  exact ⟨h.it.on K hB, ⟨RdC.own hr, fun k hk _ hf => by have := own_past hr k hk; have := K.kept.lt h.it.it k hf; omega⟩, h.key⟩
theorem Pw.len (h : Pw I W w b s F u ys) : s.l.length ≤ 256 := by have := h.it.gd.len; have := h.it.gd.most; omega
theorem key_perm {L M : List Int} (h : ∀ x ∈ L, in64 x) (hp : M.Perm L) : ∀ x ∈ M, in64 x := fun x hx => h x (hp.mem_iff.1 hx)
theorem key_add {id : Int} (h : ∀ x ∈ s.l, in64 x) (hi : in64 id) : ∀ x ∈ (addS s id).l, in64 x := by
  intro x hx
  unfold addS at hx
  split at hx
  · rcases List.mem_append.1 hx with e | e
    · exact h x e
    · rw [List.mem_singleton.1 e]; exact hi
  · exact h x hx
theorem key_drop {id : Int} (h : ∀ x ∈ s.l, in64 x) : ∀ x ∈ (dropS s id).l, in64 x := fun x hx => h x (List.mem_of_mem_erase hx)
end
end Go.Proofs.Ytndmmhikhfndaaa.Rb
