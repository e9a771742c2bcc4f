/- A heap's blocks: the struct, the row of its items, the map of their places; and what a call may turn. -/
import Derived.Test.YtmdendffbjhdbaaHCmp2
import Derived.Maps.AppendAt
namespace Go.Proofs.Ytmdendffbjhdbaa.Con
open Go.RowKit Go.Proofs.Ytmdendffbjhdbaa.Hq
set_option linter.unusedVariables false
/-- An int64. -/
def in64 (x : Int) : Prop := (Lit.int .i64 x).wf = true
theorem in64_iff (x : Int) : in64 x ↔ -9223372036854775808 ≤ x ∧ x ≤ 9223372036854775807 := by
  have h1 : IntKind.i64.min = -9223372036854775808 := by decide
  have h2 : IntKind.i64.max = 9223372036854775807 := by decide
  unfold in64
  simp only [Lit.wf, h1, h2, Bool.and_eq_true, decide_eq_true_eq]
/-- A map from int to integers, told as a function; n keys. -/
def Mp (e : TypeId) (w : World) (b n : Nat) (f : Int → Option Int) : Prop :=
  ∃ D : DataW Unit, w.ownsMap Try.prog 3 (plainElem Try.prog e) b n D ∧ Maps.size D = n ∧ ∀ x, in64 x → Maps.has D (.int .i64 x) = (f x).isSome ∧ ∀ c, f x = some c → D.atKey (.int .i64 x) (.lit (.int .i64 0)) = .lit (.int .i64 c)
theorem keyI : Maps.Keyed Try.prog 3 := Maps.int_keyed Try.underlying3
theorem key_of {x : Int} (h : in64 x) : keyOf Try.prog 3 (.int .i64 x) = some (.int .i64 x) := Maps.keyOf_int_mk Try.underlying3 h
section
variable {e t : TypeId} {w : World} {b n : Nat} {f : Int → Option Int}
theorem Mp.lt (h : Mp e w b n f) : b < w.heap.size := by obtain ⟨D, h, _⟩ := h; exact h.lt
theorem Mp.isMap (h : Mp e w b n f) : ∃ es c, w.heap[b]? = some (.map es c) := by
  obtain ⟨D, h, _⟩ := h
  obtain ⟨es, c, h, _⟩ := h
  exact ⟨es, c, h⟩
theorem Mp.kept {w' : World} (h : Mp e w b n f) (hk : w'.heap[b]? = w.heap[b]?) : Mp e w' b n f := by
  obtain ⟨D, ⟨es, c, hb, r⟩, s⟩ := h
  exact ⟨D, ⟨es, c, hk.trans hb, r⟩, s⟩
theorem Mp.made (e : TypeId) (w : World) : Mp e (w.alloc (.map #[] 0)) w.heap.size 0 (fun _ => none) :=
  ⟨.map [], World.ownsMap_made w _ _ _, rfl, fun x _ => ⟨rfl, by simp⟩⟩
theorem Mp.look (h : Mp e w b n f) (ht : Try.prog.underlying t = some (.map 3 e)) (he : Try.prog.underlying e = some (.int .i64)) (hz : (zeroValue e).run Try.prog w = .ok (.int .i64 0) w) {x : Int} (hx : in64 x) :
    (Instr.lookup t (.map (some b)) (.int .i64 x) true).run Try.prog w = .ok (.tuple #[.int .i64 ((f x).getD 0), .bool (f x).isSome]) w := by
  obtain ⟨D, hown, hs, hf⟩ := h
  obtain ⟨v, ps, hrun, hv⟩ := hown.look_ok keyI ht hz (plainElem_int he (by decide)) (key_of hx)
  obtain ⟨c, rfl, hc, _⟩ := plainElem_int_inv he hv
  simp only [Prod.mk.injEq] at hc
  obtain ⟨h1, h2⟩ := hf x hx
  rw [hrun, h1]
  cases e' : f x with
  | none =>
    have : Maps.has D (.int .i64 x) = false := by rw [h1, e']; rfl
    have h3 := Maps.atKey_of_not_has this (.lit (.int .i64 0))
    rw [h3] at hc
    have : c = 0 := by simpa using hc.1.symm
    rw [this]; rfl
  | some d =>
    rw [h2 d e'] at hc
    have : c = d := by simpa using hc.1.symm
    rw [this]; rfl
theorem Mp.look1 (h : Mp e w b n f) (ht : Try.prog.underlying t = some (.map 3 e)) (he : Try.prog.underlying e = some (.int .i64)) (hz : (zeroValue e).run Try.prog w = .ok (.int .i64 0) w) {x : Int} (hx : in64 x) :
    (Instr.lookup t (.map (some b)) (.int .i64 x) false).run Try.prog w = .ok (.int .i64 ((f x).getD 0)) w := by
  obtain ⟨D, hown, hs, hf⟩ := h
  obtain ⟨c, hrun, hc, _⟩ := hown.lookup_int keyI ht he hz (key_of hx)
  obtain ⟨h1, h2⟩ := hf x hx
  rw [hrun]
  cases e' : f x with
  | none =>
    have : Maps.has D (.int .i64 x) = false := by rw [h1, e']; rfl
    have h3 := Maps.atKey_of_not_has this (.lit (.int .i64 0))
    rw [h3] at hc
    have : c = 0 := by simpa using hc.symm
    rw [this]; rfl
  | some d =>
    rw [h2 d e'] at hc
    have : c = d := by simpa using hc.symm
    rw [this]; rfl
def upd (f : Int → Option Int) (x : Int) (c : Option Int) (y : Int) : Option Int := if y = x then c else f y
theorem tight {D : DataW Unit} {m : Nat} (h : w.ownsMap Try.prog 3 (plainElem Try.prog e) b m D) (hn : Maps.size D = n) : w.ownsMap Try.prog 3 (plainElem Try.prog e) b n D := by
  obtain ⟨es, c, hb, F, hs, rfl⟩ := h
  refine ⟨es, c, hb, F, ?_, rfl⟩
  have e1 : Maps.size (DataW.map ((es.toList.map (Go.WideElems.rg Try.prog 3 (plainElem (H := Unit) Try.prog e))).foldr DataW.insert [])) = es.size := by simp [Maps.size, length_sorted]
  omega
theorem lit_ne {x y : Int} (h : y ≠ x) : (Lit.int .i64 y) ≠ .int .i64 x := by intro e; injection e with _ e; exact h e
theorem lit_key {x : Int} (hx : in64 x) : WideAt.IsKeyLit (.int .i64 x) := (keyI.one).key ⟨_, key_of hx⟩
theorem Mp.put (h : Mp e w b n f) (ht : Try.prog.underlying t = some (.map 3 e)) (he : Try.prog.underlying e = some (.int .i64)) (hn : n < maxLen) {x c : Int} (hx : in64 x) (hc : in64 c) :
    ∃ w', (Instr.mapUpdate t (.map (some b)) (.int .i64 x) (.int .i64 c)).run Try.prog w = .ok () w' ∧ Mp e w' b (if (f x).isSome then n else n + 1) (upd f x (some c)) ∧ w.grownBy w' (some b) := by
  obtain ⟨D, hown, hs, hf⟩ := h
  have ht' := hown.tidy keyI
  obtain ⟨w', hrun, ho, hg⟩ := hown.update keyI ht hn (key_of hx) (plainElem_int he hc)
  have hsz := Maps.size_put (k := .int .i64 x) ht' (.lit (.int .i64 c))
  rw [(hf x hx).1, hs] at hsz
  refine ⟨w', hrun, ⟨_, tight ho hsz, hsz, ?_⟩, hg⟩
  intro y hy
  unfold upd
  by_cases e' : y = x
  · subst e'
    rw [if_pos rfl]
    exact ⟨by rw [Maps.has_put_same ht'.isMap (lit_key hx)]; rfl, fun d hd => by rw [Maps.atKey_put_same ht'.isMap (lit_key hx)]; simpa using hd⟩
  · rw [if_neg e', Maps.has_put_other (lit_ne e'), Maps.atKey_put_other (lit_ne e')]
    exact hf y hy
theorem Mp.del (h : Mp e w b n f) (ht : Try.prog.underlying t = some (.map 3 e)) (ty : TypeId) {x : Int} (hx : in64 x) :
    ∃ w', (Builtin.delete_ #[t, 3] ty #[.map (some b), .int .i64 x]).run Try.prog w = .ok (.tuple #[]) w' ∧ Mp e w' b (if (f x).isSome then n - 1 else n) (upd f x none) ∧ w.grownBy w' (some b) := by
  obtain ⟨D, hown, hs, hf⟩ := h
  have ht' := hown.tidy keyI
  obtain ⟨w', hrun, ho, hg⟩ := hown.drop keyI ht (key_of hx) ty
  have hsz := Maps.size_del (k := .int .i64 x) ht'
  rw [(hf x hx).1, hs] at hsz
  have hsz' : Maps.size (D.del (.int .i64 x)) = if (f x).isSome then n - 1 else n := by
    cases e' : (f x).isSome <;> simp [e'] at hsz ⊢ <;> omega
  refine ⟨w', hrun, ⟨_, tight ho hsz', hsz', ?_⟩, hg.grown⟩
  intro y hy
  unfold upd
  by_cases e' : y = x
  · subst e'
    rw [if_pos rfl, Maps.has_del_same]
    exact ⟨rfl, by simp⟩
  · rw [if_neg e', Maps.has_del_other (lit_ne e'), Maps.atKey_del_other (lit_ne e')]
    exact hf y hy
theorem Mp.size (h : Mp e w b n f) (ht : Try.prog.underlying t = some (.map 3 e)) (ty : TypeId) : (Builtin.len_ #[t] ty #[.map (some b)]).run Try.prog w = .ok (.int .i64 n) w := by
  obtain ⟨D, hown, hs, hf⟩ := h
  rw [← hs]; exact hown.len ht ty
theorem Mp.congr {f' : Int → Option Int} (h : Mp e w b n f) (hf : ∀ x, in64 x → f' x = f x) : Mp e w b n f' := by
  obtain ⟨D, hown, hs, hq⟩ := h
  exact ⟨D, hown, hs, fun x hx => by rw [hf x hx]; exact hq x hx⟩
end
end Go.Proofs.Ytmdendffbjhdbaa.Con
