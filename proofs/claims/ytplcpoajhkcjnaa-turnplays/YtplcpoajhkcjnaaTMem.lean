/- A map from int to uint32 as a function; a lock in memory, told by the list of who has which ticket. -/
import Derived.Test.YtplcpoajhkcjnaaNRow
import Derived.Maps.AppendAt
import Derived.Maps.OwnSet
import Derived.Maps.RangeWalk
namespace Go.Proofs.Ytplcpoajhkcjnaa.Con
open Go.RowKit
set_option linter.unusedVariables false
set_option linter.unusedSimpArgs false
def in64 (x : Int) : Prop := (Lit.int .i64 x).wf = true
theorem in64_iff (x : Int) : in64 x ↔ -9223372036854775808 ≤ x ∧ x ≤ 9223372036854775807 := by
  have h1 : IntKind.i64.min = -9223372036854775808 := by decide
  have h2 : IntKind.i64.max = 9223372036854775807 := by decide
  unfold in64
  simp only [Lit.wf, h1, h2, Bool.and_eq_true, decide_eq_true_eq]
def in32 (x : Int) : Prop := (Lit.int .u32 x).wf = true
theorem in32_iff (x : Int) : in32 x ↔ 0 ≤ x ∧ x ≤ 4294967295 := by
  have h1 : IntKind.u32.min = 0 := by decide
  have h2 : IntKind.u32.max = 4294967295 := by decide
  unfold in32
  simp only [Lit.wf, h1, h2, Bool.and_eq_true, decide_eq_true_eq]
/-- What the map's reading says, as a function. -/
def Agr (D : DataW Unit) (f : Int → Option Nat) : Prop := ∀ x, in64 x → Maps.has D (.int .i64 x) = (f x).isSome ∧ ∀ c, f x = some c → D.atKey (.int .i64 x) (.lit (.int .u32 0)) = .lit (.int .u32 (c : Int))
def Mp (w : World) (b n : Nat) (f : Int → Option Nat) : Prop :=
  ∃ D : DataW Unit, w.ownsMap Try.prog 3 (plainElem Try.prog 25) b n D ∧ Maps.size D = n ∧ Agr D f
theorem keyI : Maps.Keyed Try.prog 3 := Maps.int_keyed Try.underlying3
theorem key_of {x : Int} (h : in64 x) : keyOf Try.prog 3 (.int .i64 x) = some (.int .i64 x) := Maps.keyOf_int_mk Try.underlying3 h
theorem zeroU (w : World) : (zeroValue 25).run Try.prog w = .ok (.int .u32 0) w := by kernel_rfl
theorem lit_ne {x y : Int} (h : y ≠ x) : (Lit.int .i64 y) ≠ .int .i64 x := by intro e; injection e with _ e; exact h e
theorem lit_key {x : Int} (hx : in64 x) : WideAt.IsKeyLit (.int .i64 x) := (keyI.one).key ⟨_, key_of hx⟩
def upd (f : Int → Option Nat) (x : Int) (c : Option Nat) (y : Int) : Option Nat := if y = x then c else f y
section
variable {w : World} {b n : Nat} {f : Int → Option Nat}
theorem Mp.lt (h : Mp w b n f) : b < w.heap.size := by obtain ⟨D, h, _⟩ := h; exact h.lt
theorem Mp.isMap (h : Mp w b n f) : ∃ es c, w.heap[b]? = some (.map es c) := by
  obtain ⟨D, h, _⟩ := h
  obtain ⟨es, c, h, _⟩ := h
  exact ⟨es, c, h⟩
theorem Mp.kept {w' : World} (h : Mp w b n f) (hk : w'.heap[b]? = w.heap[b]?) : Mp w' b n f := by
  obtain ⟨D, ⟨es, c, hb, r⟩, s⟩ := h
  exact ⟨D, ⟨es, c, hk.trans hb, r⟩, s⟩
theorem Mp.made (w : World) : Mp (w.alloc (.map #[] 0)) w.heap.size 0 (fun _ => none) :=
  ⟨.map [], World.ownsMap_made w _ _ _, rfl, fun x _ => ⟨rfl, by simp⟩⟩
theorem Mp.look (h : Mp w b n f) {x : Int} (hx : in64 x) :
    (Instr.lookup 32 (.map (some b)) (.int .i64 x) true).run Try.prog w = .ok (.tuple #[.int .u32 (((f x).getD 0 : Nat) : Int), .bool (f x).isSome]) w := by
  obtain ⟨D, hown, hs, hf⟩ := h
  obtain ⟨v, ps, hrun, hv⟩ := hown.look_ok keyI Try.underlying32 (zeroU w) (plainElem_int Try.underlying25 (by decide)) (key_of hx)
  obtain ⟨c, rfl, hc, _⟩ := plainElem_int_inv Try.underlying25 hv
  simp only [Prod.mk.injEq] at hc
  obtain ⟨h1, h2⟩ := hf x hx
  rw [hrun, h1]
  cases e' : f x with
  | none =>
    have : Maps.has D (.int .i64 x) = false := by rw [h1, e']; rfl
    have h3 := Maps.atKey_of_not_has this (.lit (.int .u32 0))
    rw [h3] at hc
    have : c = 0 := by simpa using hc.1.symm
    rw [this]; rfl
  | some d =>
    rw [h2 d e'] at hc
    have : c = d := by simpa using hc.1.symm
    rw [this]; rfl
theorem tight {D : DataW Unit} {m : Nat} (h : w.ownsMap Try.prog 3 (plainElem Try.prog 25) b m D) (hn : Maps.size D = n) : w.ownsMap Try.prog 3 (plainElem Try.prog 25) b n D := by
  obtain ⟨es, c, hb, F, hs, rfl⟩ := h
  refine ⟨es, c, hb, F, ?_, rfl⟩
  have e1 : Maps.size (DataW.map ((es.toList.map (Go.WideElems.rg Try.prog 3 (plainElem (H := Unit) Try.prog 25))).foldr DataW.insert [])) = es.size := by simp [Maps.size, length_sorted]
  omega
theorem Mp.put (h : Mp w b n f) (hn : n < maxLen) {x : Int} {c : Nat} (hx : in64 x) (hc : c < 4294967296) :
    ∃ w', (Instr.mapUpdate 32 (.map (some b)) (.int .i64 x) (.int .u32 (c : Int))).run Try.prog w = .ok () w' ∧ Mp w' b (if (f x).isSome then n else n + 1) (upd f x (some c)) ∧ w.grownBy w' (some b) := by
  obtain ⟨D, hown, hs, hf⟩ := h
  have ht' := hown.tidy keyI
  obtain ⟨w', hrun, ho, hg⟩ := hown.update keyI Try.underlying32 hn (key_of hx) (plainElem_int Try.underlying25 (show in32 (c : Int) by rw [in32_iff]; omega))
  have hsz := Maps.size_put (k := .int .i64 x) ht' (.lit (.int .u32 c))
  rw [(hf x hx).1, hs] at hsz
  refine ⟨w', hrun, ⟨_, tight ho hsz, hsz, ?_⟩, hg⟩
  intro y hy
  unfold upd
  by_cases e' : y = x
  · subst e'
    rw [if_pos rfl]
    exact ⟨by rw [Maps.has_put_same ht'.isMap (lit_key hx)]; rfl, fun d hd => by rw [Maps.atKey_put_same ht'.isMap (lit_key hx)]; injection hd with hd; rw [hd]⟩
  · rw [if_neg e', Maps.has_put_other (lit_ne e'), Maps.atKey_put_other (lit_ne e')]
    exact hf y hy
theorem Mp.del (h : Mp w b n f) (ty : TypeId) {x : Int} (hx : in64 x) :
    ∃ w', (Builtin.delete_ #[32, 3] ty #[.map (some b), .int .i64 x]).run Try.prog w = .ok (.tuple #[]) w' ∧ Mp w' b (if (f x).isSome then n - 1 else n) (upd f x none) ∧ w.grownBy w' (some b) := by
  obtain ⟨D, hown, hs, hf⟩ := h
  have ht' := hown.tidy keyI
  obtain ⟨w', hrun, ho, hg⟩ := hown.drop keyI Try.underlying32 (key_of hx) ty
  have hsz := Maps.size_del (k := .int .i64 x) ht'
  rw [(hf x hx).1, hs] at hsz
  have hsz' : Maps.size (D.del (.int .i64 x)) = if (f x).isSome then n - 1 else n := by
    cases e' : (f x).isSome <;> simp [e'] at hsz ⊢ <;> omega
  refine ⟨w', hrun, ⟨_, tight ho hsz', hsz', ?_⟩, hg.grown⟩
  intro y hy
  unfold upd
  by_cases e' : y = x
  · subst e'
    rw [if_pos rfl, Maps.has_del_same]
    exact ⟨rfl, by simp⟩
  · rw [if_neg e', Maps.has_del_other (lit_ne e'), Maps.atKey_del_other (lit_ne e')]
    exact hf y hy
theorem Mp.size (h : Mp w b n f) (ty : TypeId) : (Builtin.len_ #[32] ty #[.map (some b)]).run Try.prog w = .ok (.int .i64 n) w := by
  obtain ⟨D, hown, hs, hf⟩ := h
  rw [← hs]; exact hown.len Try.underlying32 ty
theorem Mp.congr {f' : Int → Option Nat} (h : Mp w b n f) (hf : ∀ x, in64 x → f' x = f x) : Mp w b n f' := by
  obtain ⟨D, hown, hs, hq⟩ := h
  exact ⟨D, hown, hs, fun x hx => by rw [hf x hx]; exact hq x hx⟩
end
/- Who has which ticket, in the order in which they were drawn. -/
abbrev Tk := Int × Nat
def tkOf : List Tk → Int → Option Nat
  | [], _ => none
  | p :: r, x => if x = p.1 then some p.2 else tkOf r x
/-- In order, no who twice, no ticket twice. -/
def Ord (L : List Tk) : Prop := L.Pairwise (fun p q => p.1 ≠ q.1 ∧ p.2 < q.2)
theorem tkOf_none {x : Int} : ∀ {L : List Tk}, (∀ p ∈ L, p.1 ≠ x) → tkOf L x = none
  | [], _ => rfl
  | p :: r, h => by
    unfold tkOf
    rw [if_neg (fun e => h p (by simp) e.symm)]
    exact tkOf_none fun q hq => h q (by simp [hq])
theorem tkOf_mem {x : Int} {c : Nat} : ∀ {L : List Tk}, tkOf L x = some c → (x, c) ∈ L
  | [], h => by cases h
  | p :: r, h => by
    unfold tkOf at h
    split at h
    · rename_i e
      injection h with h
      subst e
      subst h
      simp
    · exact List.mem_cons_of_mem _ (tkOf_mem h)
theorem tkOf_of {x : Int} {c : Nat} : ∀ {L : List Tk}, Ord L → (x, c) ∈ L → tkOf L x = some c
  | [], _, h => by cases h
  | p :: r, ho, h => by
    unfold Ord at ho
    rw [List.pairwise_cons] at ho
    unfold tkOf
    rcases List.mem_cons.1 h with e | h
    · subst e
      rw [if_pos rfl]
    · rw [if_neg (fun e => (ho.1 _ h).1 e.symm)]
      exact tkOf_of ho.2 h
theorem tkOf_snoc {x : Int} {c : Nat} : ∀ {L : List Tk}, (∀ p ∈ L, p.1 ≠ x) → ∀ y, tkOf (L ++ [(x, c)]) y = upd (tkOf L) x (some c) y
  | [], _, y => by simp [tkOf, upd]
  | p :: r, h, y => by
    have h1 := h p (by simp)
    have ih := tkOf_snoc (x := x) (c := c) (L := r) (fun q hq => h q (by simp [hq])) y
    rw [List.cons_append]
    unfold upd at ih ⊢
    unfold tkOf
    by_cases e : y = p.1
    · rw [if_pos e, if_neg (by omega), if_pos e]
    · rw [if_neg e, ih, if_neg e]
theorem tkOf_erase {x : Int} : ∀ {L : List Tk}, ∀ y, tkOf (L.filter (fun p => decide (p.1 ≠ x))) y = upd (tkOf L) x none y
  | [], y => by simp [tkOf, upd]
  | p :: r, y => by
    have ih := tkOf_erase (x := x) (L := r) y
    unfold upd at ih ⊢
    by_cases e : p.1 = x
    · rw [List.filter_cons_of_neg (by simpa using e), ih]
      by_cases e2 : y = x
      · rw [if_pos e2, if_pos e2]
      · rw [if_neg e2, if_neg e2, tkOf, if_neg (by omega)]
    · rw [List.filter_cons_of_pos (by simpa using e)]
      unfold tkOf
      by_cases e2 : y = p.1
      · rw [if_pos e2, if_neg (by omega), if_pos e2]
      · rw [if_neg e2, ih, if_neg e2]
/-- A lock at b, its map at m: next, served, who has which ticket. -/
structure LK (W : World) (b m n s : Nat) (L : List Tk) : Prop where
  str : W.heap[b]? = some (.cells #[.int .u32 (n : Int), .int .u32 (s : Int), .map (some m)] 34 (0, 0))
  map : Mp W m L.length (tkOf L)
  ord : Ord L
  who : ∀ p ∈ L, 0 ≤ p.1 ∧ p.1 ≤ 255
  tic : ∀ p ∈ L, s ≤ p.2 ∧ p.2 < n
  sle : s ≤ n
  hi : n ≤ 1000000
  len : L.length ≤ 64
/-- What a call may turn. -/
structure Stp (W W' : World) (b m : Nat) : Prop where
  os : W'.os = W.os
  tape : W'.tape = W.tape
  output : W'.output = W.output
  size : W.heap.size ≤ W'.heap.size
  block : ∀ k, k < W.heap.size → k ≠ b → k ≠ m → W'.heap[k]? = W.heap[k]?
theorem Stp.refl (W : World) (b m : Nat) : Stp W W b m := ⟨rfl, rfl, rfl, Nat.le_refl _, fun _ _ _ _ => rfl⟩
theorem Stp.trans {W W' W'' : World} {b m : Nat} (h : Stp W W' b m) (k : Stp W' W'' b m) : Stp W W'' b m :=
  ⟨k.os.trans h.os, k.tape.trans h.tape, k.output.trans h.output, Nat.le_trans h.size k.size, fun i hi h1 h2 => (k.block i (by have := h.size; omega) h1 h2).trans (h.block i hi h1 h2)⟩
theorem Stp.below {W W' : World} (h : Below W.heap.size W W') (b m : Nat) : Stp W W' b m := ⟨h.os, h.tape, h.output, h.size, fun k hk _ _ => h.block k hk⟩
theorem Stp.toBelow {W W' : World} {b m B : Nat} (h : Stp W W' b m) (hB : B ≤ W.heap.size) (hb : B ≤ b) (hm : B ≤ m) : Below B W W' :=
  ⟨h.os, h.tape, h.output, h.size, fun k hk => h.block k (by omega) (by omega) (by omega)⟩
section
variable {W W' : World} {b m n s : Nat} {L : List Tk}
theorem LK.blt (h : LK W b m n s L) : b < W.heap.size := (Array.getElem?_eq_some_iff.1 h.str).1
theorem LK.mlt (h : LK W b m n s L) : m < W.heap.size := h.map.lt
theorem LK.ne (h : LK W b m n s L) : b ≠ m := by
  intro e
  obtain ⟨es, c, hm⟩ := h.map.isMap
  rw [← e, h.str] at hm
  cases hm
theorem LK.kept (h : LK W b m n s L) (h1 : W'.heap[b]? = W.heap[b]?) (h2 : W'.heap[m]? = W.heap[m]?) : LK W' b m n s L := ⟨h1.trans h.str, h.map.kept h2, h.ord, h.who, h.tic, h.sle, h.hi, h.len⟩
theorem LK.below (h : LK W b m n s L) (hB : Below W.heap.size W W') : LK W' b m n s L := h.kept (hB.block _ h.blt) (hB.block _ h.mlt)
theorem LK.cells (h : LK W b m n s L) : W.cell? ⟨b, 0, none⟩ = some (.int .u32 (n : Int)) ∧ W.cell? ⟨b, 1, none⟩ = some (.int .u32 (s : Int)) ∧ W.cell? ⟨b, 2, none⟩ = some (.map (some m)) ∧ W.frozen? ⟨b, 0, none⟩ = false ∧ W.frozen? ⟨b, 1, none⟩ = false := by
  refine ⟨?_, ?_, ?_, ?_, ?_⟩
  · rw [cell_of_row W b _ _ _ _ h.str]; rfl
  · rw [cell_of_row W b _ _ _ _ h.str]; rfl
  · rw [cell_of_row W b _ _ _ _ h.str]; rfl
  · simp [World.frozen?, h.str]
  · simp [World.frozen?, h.str]
end
end Go.Proofs.Ytplcpoajhkcjnaa.Con
