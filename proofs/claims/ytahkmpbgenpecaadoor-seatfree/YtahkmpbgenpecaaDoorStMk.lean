/- What First and List of package mask answer, the table of the lowest bits laid. -/
import Derived.Test.YtahkmpbgenpecaaDoorMsCon
import Derived.Shelf.Spec.TrailingZeros
import Derived.OwnWalk
import Derived.Lib.MinMax
import Derived.Deep.QuietTactic
import Derived.BigQuiet
namespace Go.Proofs.YtahkmpbgenpecaaDoor.Con
open Go.RowKit Go.Proofs.YtahkmpbgenpecaaDoor.Mk
set_option linter.unusedVariables false
set_option linter.unusedSimpArgs false
theorem info_parts {e : TypeId} {z : Value} {s b : Nat} (h : (Tryd.prog.info? e).map (fun i => (i.zero, i.size, i.bytes)) = some (some z, s, b)) : ∃ i, Tryd.prog.info? e = some i ∧ i.zero = some z ∧ i.size = s ∧ i.bytes = b := by
  obtain ⟨i, hi, hz⟩ := Option.map_eq_some_iff.1 h
  simp only [Prod.mk.injEq] at hz
  exact ⟨i, hi, hz⟩
set_option maxHeartbeats 400000 in
theorem full_any (n : Int) (w : World) :
    Calls Tryd.prog 25 #[.int .i64 n] w fun e w' => e = .returned (.int .u64 (fullN n)) ∧ w' = w := by
  go_enter Tryd.func25, Tryd.ntmps25
  go_wp2
  go_ret
  exact ⟨ret_u64 (full_wrap n), rfl⟩

/-- The table of the lowest bits is as its initialiser lays it. -/
def Tab (w : World) : Prop := TabAt 0 Lib.deBruijn64tab w
theorem Tab.lt {w : World} (h : Tab w) : 0 < w.heap.size := by
  rcases Nat.lt_or_ge 0 w.heap.size with h' | h'
  · exact h'
  · have := h 0 (by decide)
    simp [World.cell?, Array.getElem?_eq_none h'] at this
theorem Tab.below {w w' : World} {n : Nat} (h : Tab w) (hn : 0 < n) (hb : Below n w w') : Tab w' :=
  fun j hj => (hb.cell (p := ⟨0, j, none⟩) hn).trans (h j hj)
theorem Tab.on {w w' : World} (h : Tab w) (hb : Below w.heap.size w w') : Tab w' := h.below h.lt hb

set_option maxHeartbeats 1000000 in
theorem tz_core (x k idx : Nat) (w : World) (hx0 : ((x : Int) == 0) = false)
    (key : IntKind.u64.wrap (bits BinOp.and IntKind.u64 (x : Int) (IntKind.u64.wrap (-(x : Int))) * 285870213051353865) / 288230376151711744 = (idx : Int))
    (hi : idx < 64) (hk : k < 64) (hcell : w.cell? ⟨0, idx, none⟩ = some (.int .u8 k)) :
    Calls Tryd.prog 26 #[.int .u64 x] w fun e w' => e = .returned (.int .i64 k) ∧ w' = w := by
  go_enter Tryd.func26, Tryd.ntmps26
  go_wp2_with (simp only [key])
  go_ret
  exact ⟨rfl, rfl⟩
theorem tz_any (x : Nat) (w : World) (hx : x < 18446744073709551616) (hx0 : x ≠ 0) (hT : Tab w) :
    Calls Tryd.prog 26 #[.int .u64 x] w fun e w' => e = .returned (.int .i64 (Lib.ctz 64 x)) ∧ w' = w := by
  obtain ⟨hlow, hk⟩ := Lib.lowest_bit 64 x hx0 hx
  obtain ⟨hi, htab⟩ := Lib.deBruijn64_at _ hk
  have hcell := hT _ hi
  rw [htab] at hcell
  exact tz_core x _ _ w (by simp; omega) (tz64_key x _ hx hx0 hlow) hi hk hcell

set_option maxHeartbeats 400000 in
theorem first_any (m : Nat) (f : Int) (w : World) (hm : m < 18446744073709551616) (hT : Tab w) :
    Calls Tryd.prog 23 #[.int .u64 m, .int .i64 f] w fun e w' => e = .returned (.tuple #[.int .i64 (firstN m f).1, .bool (firstN m f).2]) ∧ w' = w := by
  have hb := u64_andNot_nat m (fullN f) hm (by have := fullN_le f; omega)
  have hr := restN_lt f hm
  have hd : (m &&& (18446744073709551615 - fullN f)) = restN m f := rfl
  rw [hd] at hb
  clear hd
  by_cases h0 : restN m f = 0
  · have hg := hideM (show firstN m f = (0, false) by unfold firstN; rw [if_pos h0])
    rw [h0] at hb
    clear h0 hr
    go_enter Tryd.func23, Tryd.ntmps23
    go_wp2_with (go_at_call 25; refine (full_any _ _).mono ?_; rintro e w' ⟨rfl, rfl⟩)
    go_ret2
    exact ⟨by rw [unhide hg]; rfl, rfl⟩
  · have hg := hideM (show firstN m f = (Lib.ctz 64 (restN m f), true) by unfold firstN; rw [if_neg h0])
    have hz : (((restN m f : Nat) : Int) == 0) = false := by simp; omega
    have hT' := hideM hT
    clear hT
    generalize restN m f = x at *
    have hx0 := hideM h0
    clear h0
    go_enter Tryd.func23, Tryd.ntmps23
    go_wp2_with (first
      | (go_at_call 25; refine (full_any _ _).mono ?_; rintro e w' ⟨rfl, rfl⟩)
      | (go_at_call 26; refine (tz_any x _ hr (unhide hx0) (unhide hT')).mono ?_; rintro e w' ⟨rfl, rfl⟩))
    go_ret2
    exact ⟨by rw [unhide hg]; rfl, rfl⟩
theorem lenN_le (m : Nat) : lenN m ≤ 64 := by
  unfold lenN ones onesFrom
  have := List.length_filter_le m.testBit (List.range' 0 (64 - 0))
  rw [List.length_range'] at this
  exact this
theorem infoInt : (Tryd.prog.info? 3).map (fun i => (i.zero, i.size, i.bytes)) = some (some (.int .i64 0), 1, 8) := by kernel_rfl
/-- Numbers as values. -/
def numsV (l : List Nat) : List Value := l.map fun j : Nat => Value.int .i64 (j : Int)
theorem numsV_len (l : List Nat) : (numsV l).length = l.length := by simp [numsV]
/-- How far a loop over a set is from its end. -/
def left (i ok : Value) : Nat := match ok with
  | .bool true => 65 - (intOf i).toNat
  | _ => 0
/-- The loop of List: pre is gathered, rest is to come. -/
def ListRel (m : Nat) (w : World) (v i ok : Value) (wr : World) : Prop :=
  ∃ (pre : List Nat) (k : Nat), ones m = pre ++ onesFrom m k ∧ i = .int .i64 (headOf (onesFrom m k)).1 ∧ ok = .bool (headOf (onesFrom m k)).2 ∧ wr.ownsRow w.heap.size 3 1 v pre.length (numsV pre) ∧ Below w.heap.size w wr
theorem first_head (m k : Nat) (hm : m < 18446744073709551616) : firstN m (k : Int) = headOf (onesFrom m k) := by
  rw [firstN_eq m _ hm]; rfl
theorem first_head0 (m : Nat) (hm : m < 18446744073709551616) : firstN m 0 = headOf (onesFrom m 0) := first_head m 0 hm
theorem first_head1 (m j : Nat) (hm : m < 18446744073709551616) : firstN m ((j : Int) + 1) = headOf (onesFrom m (j + 1)) := first_head m (j + 1) hm
theorem left_lt (m k j : Nat) (h : j < k) (hj : j < 64) : left (.int .i64 (headOf (onesFrom m k)).1) (.bool (headOf (onesFrom m k)).2) < left (.int .i64 j) (.bool true) := by
  cases hq : onesFrom m k with
  | nil => simp [left, headOf, intOf]; omega
  | cons j' l =>
    have := (onesFrom_cons hq).1
    simp [left, headOf, intOf]; omega
theorem pre_le {m k : Nat} {pre : List Nat} (h : ones m = pre ++ onesFrom m k) : pre.length ≤ 64 := by
  have := lenN_le m
  unfold lenN at this
  rw [h, List.length_append] at this
  omega
theorem listRel_step {m k j : Nat} {w wr w1 : World} {pre : List Nat} {v v' : Value} {o : Obj} (h : ones m = pre ++ onesFrom m k) (hj : onesFrom m k = j :: onesFrom m (j + 1))
    (hown : (wr.alloc o).ownsRow w.heap.size 3 1 v pre.length (numsV pre)) (hB : Below w.heap.size w wr)
    (hown' : w1.ownsRow w.heap.size 3 1 v' (pre.length + 1) (numsV pre ++ [.int .i64 j])) (hg : (wr.alloc o).grownBy w1 v.ownBlock) :
    ListRel m w v' (.int .i64 (headOf (onesFrom m (j + 1))).1) (.bool (headOf (onesFrom m (j + 1))).2) w1 := by
  refine ⟨pre ++ [j], j + 1, ?_, rfl, rfl, ?_, ?_⟩
  · rw [h, hj]; simp
  · rw [List.length_append, numsV, List.map_append]; exact hown'
  · exact (hB.alloc hB.size o).grown hg (by have := hB.size; simp; omega) (fun k hk => (hown.lt k hk).1)

set_option maxHeartbeats 1600000 in
set_option maxRecDepth 100000 in
theorem list_any (m : Nat) (w : World) (hm : m < 18446744073709551616) (hT : Tab w) :
    Calls Tryd.prog 18 #[.int .u64 m] w fun e w' => ∃ v, e = .returned v ∧ w'.ownsRow w.heap.size 3 1 v (lenN m) (numsV (ones m)) ∧ Below w.heap.size w w' := by
  obtain ⟨i0, hi, hz0, hz1, hz2⟩ := info_parts infoInt
  have hl := lenN_le m
  have hT' := hideM hT
  clear hT
  go_enter Tryd.func18, Tryd.ntmps18
  go_wp2_with (first
    | (go_at_call 15; refine (len_any _ _ hm).mono ?_; rintro e w' ⟨rfl, rfl⟩)
    | (at_make; refine wpList_make_own _ rfl _ _ 23 rfl w'.heap.size 3 i0 (.int .i64 0) 1 Tryd.underlying23 hi hz0 hz1 _ _ _ (lenN m) rfl rfl rfl ?b2 ?b3 (Nat.le_refl _) ?_))
  case b2 => rw [hz2]; omega
  case b3 => unfold maxLen; omega
  intro w0 hown0 hgrow0
  have hB0 : Below w'.heap.size w' w0 := (Below.refl _ _).grown hgrow0 (Nat.le_refl _) (fun k h => by cases h)
  have hR := hideM (And.intro hown0 hB0)
  have hT0 := hideM ((unhide hT').on hB0)
  clear hown0 hgrow0 hB0
  have hF := hideM (first_any m 0 w0 hm (unhide hT0))
  go_wp2_with fail
  refine (unhide hF).mono ?_
  rintro e w1 ⟨rfl, hw1⟩
  subst hw1
  clear hF
  go_wp2
  go_loopw [3, 4, 5] (fun v i ok wr => ListRel m w' v i ok wr) (fun _ i ok _ => left i ok)
  case atStart => exact ⟨[], 0, rfl, by rw [first_head0 m hm], by rw [first_head0 m hm], (unhide hR).1, (unhide hR).2⟩
  case round =>
    obtain ⟨pre, k, hpre, rfl, rfl, hown, hB⟩ := hrel
    have hle := pre_le hpre
    have hP := hideM hpre
    have hTr := hideM ((unhide hT').on hB)
    have hsz := hB.size
    clear hpre
    cases hq : onesFrom m k with
    | nil =>
      have hq' := hideM hq
      clear hq
      simp only [headOf]
      go_wp2
      go_ret
      refine ⟨_, rfl, ?_, hB⟩
      have e : ones m = pre := by rw [unhide hP, unhide hq', List.append_nil]
      unfold lenN
      rw [e]; exact hown
    | cons j l =>
      obtain ⟨h1, h2, h3, h4, h5⟩ := onesFrom_cons hq
      have hq' := hideM (show onesFrom m k = j :: onesFrom m (j + 1) by rw [hq, h4])
      clear hq h3 h4 h5
      simp only [headOf]
      have hF := hideM (fun W (hW : Tab W) => first_any m ((j + 1 : Nat) : Int) W hm hW)
      go_wp2_with (first
        | (at_builtin; refine wpList_append_own _ rfl _ _ 23 rfl w'.heap.size 3 i0 (.int .i64 0) 1 8 Tryd.underlying23 hi hz0 hz1 hz2 rfl (by decide) _ _ _ rfl (hown.alloc _) ⟨wr.heap.size, 0, none⟩ 1 1 [.int .i64 (j : Int)] rfl rfl ?c1 ?c2 ?c3 ?c4 ?c5 ?_))
      case c1 =>
        intro t u hj
        match t, hj with
        | 0, hj => simp at hj; subst hj; simp [Addr.add]
      case c2 => intro u hu; simp at hu; subst hu; rfl
      case c3 => unfold maxLen; omega
      case c4 => omega
      case c5 => simp; omega
      intro v' w1 hown' hgrow _
      have hB1 : Below w'.heap.size w' w1 := (hB.alloc hB.size _).grown hgrow (by simp; omega) (fun k hk => (hown.lt k hk).1)
      have hT1 := hideM ((unhide hT').on hB1)
      have R := hideM (listRel_step (unhide hP) (unhide hq') (hown.alloc _) hB hown' hgrow)
      clear hown' hgrow hown hB1 hB
      go_wp2_with fail
      rw [show ((j : Int) + 1) = ((j + 1 : Nat) : Int) by omega]
      refine (unhide hF w1 (unhide hT1)).mono ?_
      rintro e w2 ⟨rfl, hw2⟩
      subst hw2
      go_wp2
      go_roundw
      case rel => rw [first_head1 m j hm]; exact unhide R
      case measure => rw [first_head1 m j hm]; exact left_lt m (j + 1) j (by omega) h2

end Go.Proofs.YtahkmpbgenpecaaDoor.Con
