/- Names: Place, Gen, join, Make; a table in memory. -/
import Derived.Test.YtmegbbgolmejnaaRows
import Derived.Test.YtmegbbgolmejnaaApd
import Derived.WalkKit
import Derived.Maps.OwnSet
import Derived.Deep.RegionHeld3
import Derived.Deep.DrawnRows
import Derived.BigQuiet
import Derived.Deep.QuietTactic
import Derived.Lib.QuietBelow
import Derived.Laws.BitsAllLaws
import Derived.Laws.MakeOwn
namespace Go.Proofs.Ytmegbbgolmejnaa.Con
open Go.RowKit
set_option linter.unusedVariables false
set_option linter.unusedSimpArgs false
attribute [local go_sem ↓] Go.wp_at_zero Go.wp_at_succ
theorem hide {p : Prop} (h : p) : Hid p := h
theorem unhide {p : Prop} (h : Hid p) : p := h.out
theorem ret_i64 {a b : Int} (h : a = b) : Ending.returned (.int .i64 a) = .returned (.int .i64 b) := by rw [h]
theorem ret_bool {a b : Bool} (h : a = b) : Ending.returned (.bool a) = .returned (.bool b) := by rw [h]
theorem place_any (n : Nat) (hn : n < 4294967296) (w : World) : Calls Try.prog 14 #[.int .u32 n] w fun e w' => e = .returned (.int .i64 (n % 256 : Nat)) ∧ w' = w := by
  go_enter Try.func14, Try.ntmps14
  go_wp2
  go_ret
  exact ⟨ret_i64 (by omega), rfl⟩
theorem gen_any (n : Nat) (hn : n < 4294967296) (w : World) : Calls Try.prog 20 #[.int .u32 n] w fun e w' => e = .returned (.int .i64 (n / 256 : Nat)) ∧ w' = w := by
  go_enter Try.func20, Try.ntmps20
  go_wp2
  go_ret
  exact ⟨ret_i64 (by omega), rfl⟩
/-- A name: its place and gen. -/
def nm (p g : Nat) : Nat := g * 256 + p
theorem nm_lt {p g : Nat} (hp : p < 256) (hg : g < 16777216) : nm p g < 4294967296 := by unfold nm; omega
theorem nm_place {p g : Nat} (hp : p < 256) : nm p g % 256 = p := by unfold nm; omega
theorem nm_gen {p g : Nat} (hp : p < 256) : nm p g / 256 = g := by unfold nm; omega
theorem or_nm (p g : Nat) (hp : p < 256) (hg : g < 16777216) : bits BinOp.or IntKind.u32 ((g : Int) * 256) (p : Int) = (nm p g : Int) := by
  have e : (g : Int) * 256 = ((g * 256 : Nat) : Int) := by omega
  have e2 : g * 256 ||| p = g * 256 + p := by
    rw [Nat.mul_comm, show (256 : Nat) = 2 ^ 8 from rfl, ← Nat.two_pow_add_eq_or_of_lt (show p < 2 ^ 8 from hp)]
  rw [e, u32_or_nat _ _ (by omega) (by omega), e2]; rfl
theorem join_any (p g : Nat) (hp : p < 256) (hg : g < 16777216) (w : World) : Calls Try.prog 21 #[.int .i64 p, .int .i64 g] w fun e w' => e = .returned (.int .u32 (nm p g : Nat)) ∧ w' = w := by
  have ho := or_nm p g hp hg
  go_enter Try.func21, Try.ntmps21
  go_wp2
  go_ret
  exact ⟨rfl, rfl⟩
/-- A place and a gen that may be. -/
def fine (p g : Int) : Bool := decide (0 ≤ p) && decide (p < 256) && decide (0 ≤ g) && decide (g < 16777216)
def MakePost (p g : Int) (w : World) (e : Ending) (w' : World) : Prop :=
  e = .returned (.tuple #[.int .u32 (if fine p g then (nm p.toNat g.toNat : Int) else 0), .bool (fine p g)]) ∧ w' = w
set_option maxRecDepth 100000 in
theorem make_any (p g : Int) (w : World) : Calls Try.prog 13 #[.int .i64 p, .int .i64 g] w fun e w' => MakePost p g w e w' := by
  unfold MakePost
  cases hf : fine p g with
  | true =>
    unfold fine at hf
    simp at hf
    obtain ⟨⟨⟨h1, h2⟩, h3⟩, h4⟩ := hf
    have J := hide (join_any p.toNat g.toNat (by omega) (by omega) w)
    rw [Int.toNat_of_nonneg h1, Int.toNat_of_nonneg h3] at J
    generalize nm p.toNat g.toNat = N at J ⊢
    have h1' : ¬ p < 0 := by omega
    have h2' : ¬ 256 ≤ p := by omega
    have h3' : ¬ g < 0 := by omega
    have h4' : ¬ 16777216 ≤ g := by omega
    clear h1 h2 h3 h4
    rw [if_pos rfl]
    go_enter Try.func13, Try.ntmps13
    go_wp2_with (go_at_call 21; refine J.out.mono ?_; rintro e w' ⟨rfl, rfl⟩)
    go_ret2
    exact ⟨rfl, rfl⟩
  | false =>
    unfold fine at hf
    simp at hf
    by_cases h1 : p < 0
    · clear hf
      go_enter Try.func13, Try.ntmps13
      go_wp2
      go_ret2
      exact ⟨rfl, rfl⟩
    · by_cases h2 : 256 ≤ p
      · clear hf
        go_enter Try.func13, Try.ntmps13
        go_wp2
        go_ret2
        exact ⟨rfl, rfl⟩
      · by_cases h3 : g < 0
        · clear hf
          go_enter Try.func13, Try.ntmps13
          go_wp2
          go_ret2
          exact ⟨rfl, rfl⟩
        · have h4 : 16777216 ≤ g := hf (by omega) (by omega) (by omega)
          clear hf
          go_enter Try.func13, Try.ntmps13
          go_wp2
          go_ret2
          exact ⟨rfl, rfl⟩
/-- A place: its gen, whether it is taken. -/
abbrev Sp := Nat × Bool
def sp (l : List Sp) (i : Nat) : Sp := l.getD i (0, false)
theorem sp_set (l : List Sp) (i k : Nat) (x : Sp) (hi : i < l.length) : sp (l.set i x) k = if k = i then x else sp l k := by
  unfold sp
  rw [List.getD_eq_getElem?_getD, List.getD_eq_getElem?_getD, List.getElem?_set]
  by_cases e : k = i
  · subst e; simp [hi]
  · rw [if_neg (fun h => e h.symm), if_neg e]
theorem sp_rep (n i : Nat) : sp (List.replicate n (0, false)) i = (0, false) := by
  unfold sp
  rw [List.getD_eq_getElem?_getD, List.getElem?_replicate]
  split <;> rfl
theorem sp_out (l : List Sp) (i : Nat) (h : l.length ≤ i) : sp l i = (0, false) := by
  unfold sp
  rw [List.getD_eq_getElem?_getD, List.getElem?_eq_none h]; rfl
theorem sp_ext {l m : List Sp} (hl : l.length = m.length) (h : ∀ i, i < l.length → sp l i = sp m i) : l = m := by
  apply List.ext_getElem hl
  intro i h1 h2
  have := h i h1
  unfold sp at this
  rw [List.getD_eq_getElem?_getD, List.getD_eq_getElem?_getD, List.getElem?_eq_getElem h1, List.getElem?_eq_getElem h2] at this
  simpa using this
/-- The places' cells. -/
def cellv (l : List Sp) (j : Nat) : Value := if j % 2 = 0 then .int .i64 ((sp l (j / 2)).1 : Nat) else .bool (sp l (j / 2)).2
def flat (l : List Sp) : List Value := (List.range (l.length * 2)).map (cellv l)
theorem flat_len (l : List Sp) : (flat l).length = l.length * 2 := by simp [flat]
theorem flat_get (l : List Sp) (j : Nat) (h : j < l.length * 2) : (flat l)[j]? = some (cellv l j) := by
  unfold flat; rw [List.getElem?_map, List.getElem?_range h]; rfl
theorem flat_rep (n : Nat) : (flat (List.replicate n (0, false))).toArray = madeCells #[.int .i64 0, .bool false] (n * 2) := by
  unfold flat madeCells
  apply Array.ext
  · simp
  · intro j h1 h2
    simp [cellv, sp_rep]
    rcases (show j % 2 = 0 ∨ j % 2 = 1 by omega) with h | h <;> simp [h]
theorem infoSp : (Try.prog.info? 58).map (fun i => (i.zero, i.size, i.bytes)) = some (some (.agg #[.int .i64 0, .bool false]), 2, 16) := by kernel_rfl
theorem underSp : Try.prog.underlying 53 = some (.slice 58) := by kernel_rfl
theorem mk_spots (n : Nat) (hn : n ≤ 256) (w : World) : (Instr.makeSlice 53 (.int .i64 (n : Int)) (.int .i64 (n : Int))).run Try.prog w = .ok (.slice (some ⟨w.heap.size, 0, none⟩) n n) (w.alloc (.cells (flat (List.replicate n (0, false))).toArray 58)) := by
  obtain ⟨i, hi, hz⟩ := Option.map_eq_some_iff.1 infoSp
  simp only [Prod.mk.injEq] at hz
  have := run_make (P := Try.prog) w 53 58 i _ underSp hi hz.1 .i64 .i64 n n (by omega) (by omega) (by rw [hz.2.2]; omega) (by omega)
  rw [this, hz.2.1, flat_rep]
  rfl
/-- A table at tb: its n places at rb. -/
structure Tb (W : World) (tb rb n : Nat) (l : List Sp) : Prop where
  str : W.heap[tb]? = some (.cells #[.slice (some ⟨rb, 0, none⟩) n n] 55 (0, 0))
  row : W.heap[rb]? = some (.cells (flat l).toArray 58 (0, 0))
  len : l.length = n
  lo : 1 ≤ n
  hi : n ≤ 256
  fit : ∀ i, (sp l i).1 < 16777216
section
variable {W W' : World} {tb rb n : Nat} {l : List Sp}
theorem Tb.tlt (h : Tb W tb rb n l) : tb < W.heap.size := (Array.getElem?_eq_some_iff.1 h.str).1
theorem Tb.rlt (h : Tb W tb rb n l) : rb < W.heap.size := (Array.getElem?_eq_some_iff.1 h.row).1
theorem Tb.ne (h : Tb W tb rb n l) : tb ≠ rb := by
  rintro rfl
  have := h.str.symm.trans h.row
  simp at this
theorem Tb.kept (h : Tb W tb rb n l) (h1 : W'.heap[tb]? = W.heap[tb]?) (h2 : W'.heap[rb]? = W.heap[rb]?) : Tb W' tb rb n l := ⟨h1.trans h.str, h2.trans h.row, h.len, h.lo, h.hi, h.fit⟩
theorem Tb.below (h : Tb W tb rb n l) (hB : Below W.heap.size W W') : Tb W' tb rb n l := h.kept (hB.block _ h.tlt) (hB.block _ h.rlt)
theorem Tb.cell (h : Tb W tb rb n l) : W.cell? ⟨tb, 0, none⟩ = some (.slice (some ⟨rb, 0, none⟩) n n) := by
  rw [cell_of_row W tb _ _ _ _ h.str]; rfl
theorem Tb.item (h : Tb W tb rb n l) (i : Nat) (hi : i < n) :
    W.cell? ⟨rb, i * 2, none⟩ = some (.int .i64 ((sp l i).1 : Nat)) ∧ W.cell? ⟨rb, i * 2 + 1, none⟩ = some (.bool (sp l i).2) ∧ W.frozen? ⟨rb, i * 2, none⟩ = false ∧ W.frozen? ⟨rb, i * 2 + 1, none⟩ = false := by
  have hl := h.len
  refine ⟨?_, ?_, ?_, ?_⟩
  · rw [cell_of_row W rb _ _ _ _ h.row, List.getElem?_toArray, flat_get l _ (by omega)]
    unfold cellv; rw [if_pos (by omega), show i * 2 / 2 = i by omega]
  · rw [cell_of_row W rb _ _ _ _ h.row, List.getElem?_toArray, flat_get l _ (by omega)]
    unfold cellv; rw [if_neg (by omega), show (i * 2 + 1) / 2 = i by omega]
  · simp [World.frozen?, h.row]
  · simp [World.frozen?, h.row]
theorem Tb.put (h : Tb W tb rb n l) (i : Nat) (hi : i < n) (x : Sp) (hx : x.1 < 16777216) (h1 : W'.heap[tb]? = W.heap[tb]?) {cur : Array Value} (h2 : W'.heap[rb]? = some (.cells cur 58 (0, 0)))
    (hs : cur.size = n * 2) (hc : ∀ j, j < n * 2 → cur[j]? = some (if j = i * 2 then .int .i64 (x.1 : Nat) else if j = i * 2 + 1 then .bool x.2 else cellv l j)) : Tb W' tb rb n (l.set i x) := by
  have hl := h.len
  refine ⟨h1.trans h.str, ?_, by simp [hl], h.lo, h.hi, ?_⟩
  · rw [h2]
    congr 2
    apply Array.ext
    · simp [flat_len, hs, hl]
    · intro j j1 j2
      have e1 := hc j (by omega)
      rw [Array.getElem?_eq_getElem j1] at e1
      have e2 := flat_get (l.set i x) j (by simp; omega)
      have e3 : (flat (l.set i x)).toArray[j]? = some (cellv (l.set i x) j) := by rw [List.getElem?_toArray]; exact e2
      rw [Array.getElem?_eq_getElem j2] at e3
      rw [Option.some.inj e1, Option.some.inj e3]
      unfold cellv
      rw [sp_set l i _ x (by omega)]
      by_cases q : j = i * 2
      · rw [if_pos q, if_pos (show j % 2 = 0 by omega), if_pos (show j / 2 = i by omega)]
      · by_cases q' : j = i * 2 + 1
        · rw [if_neg q, if_pos q', if_neg (show ¬ j % 2 = 0 by omega), if_pos (show j / 2 = i by omega)]
        · rw [if_neg q, if_neg q', if_neg (show ¬ j / 2 = i by omega)]
  · intro k
    rw [sp_set l i _ x (by omega)]
    split
    · exact hx
    · exact h.fit k
end
def held (n : Int) : Nat := (min (max n 1) 256).toNat
theorem held_lo (n : Int) : 1 ≤ held n := by unfold held; omega
theorem held_hi (n : Int) : held n ≤ 256 := by unfold held; omega
def NewPost (n : Int) (w : World) (e : Ending) (w' : World) : Prop :=
  ∃ tb rb, e = .returned (.pointer (some ⟨tb, 0, none⟩)) ∧ Tb w' tb rb (held n) (List.replicate (held n) (0, false)) ∧ Below w.heap.size w w' ∧ w.heap.size ≤ tb ∧ w.heap.size ≤ rb
theorem new_any (n : Int) (w : World) :
    Calls Try.prog 8 #[.int .i64 n] w fun e w' => NewPost n w e w' := by
  obtain ⟨m, hm⟩ : ∃ m, m = held n := ⟨_, rfl⟩
  have h1 := held_lo n
  have h2 := held_hi n
  rw [← hm] at h1 h2
  have he : min (max n 1) 256 = (m : Int) := by rw [hm]; unfold held; omega
  obtain ⟨O, mk, FIN⟩ : ∃ O : Obj, (∀ w : World, (Instr.makeSlice 53 (.int .i64 (m : Int)) (.int .i64 (m : Int))).run Try.prog w = .ok (.slice (some ⟨w.heap.size, 0, none⟩) m m) (w.alloc O)) ∧
      Hid (∀ w1 : World, w1 = (w.alloc O).alloc (.cells #[.slice (some ⟨w.heap.size, 0, none⟩) m m] 55) → NewPost n w (.returned (.pointer (some ⟨w.heap.size + 1, 0, none⟩))) w1) := by
    refine ⟨_, fun w => mk_spots m h2 w, hide ?_⟩
    rintro w1 rfl
    unfold NewPost
    rw [← hm]
    refine ⟨w.heap.size + 1, w.heap.size, rfl, ⟨?_, ?_, by simp, h1, h2, fun i => by rw [sp_rep]; decide⟩, ?_, by omega, by omega⟩
    · rw [show w.heap.size + 1 = (w.alloc (.cells (flat (List.replicate m (0, false))).toArray 58)).heap.size by simp, heap_alloc_new]
    · rw [heap_alloc_old _ _ (by simp), heap_alloc_new]
    · exact ((Below.refl _ _).alloc (Nat.le_refl _) _).alloc (by simp) _
  clear hm
  rcases (show (n < 1 ∧ m = 1) ∨ (1 ≤ n ∧ n ≤ 256 ∧ n = (m : Int)) ∨ (256 < n ∧ m = 256) by omega) with ⟨q1, rfl⟩ | ⟨q1, q2, rfl⟩ | ⟨q1, rfl⟩
  · clear he
    have mk1 : ∀ w : World, (Instr.makeSlice 53 (.int .i64 1) (.int .i64 1)).run Try.prog w = _ := mk
    go_enter Try.func8, Try.ntmps8
    go_wp2
    go_ret
    exact FIN.out _ rfl
  · clear he
    go_enter Try.func8, Try.ntmps8
    go_wp2
    go_ret
    exact FIN.out _ rfl
  · clear he
    have mk1 : ∀ w : World, (Instr.makeSlice 53 (.int .i64 256) (.int .i64 256)).run Try.prog w = _ := mk
    go_enter Try.func8, Try.ntmps8
    go_wp2
    go_ret
    exact FIN.out _ rfl
end Go.Proofs.Ytmegbbgolmejnaa.Con
