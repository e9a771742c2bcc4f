/- What List answers, in new memory; what the law's ints says of two lists that hold the same. -/
import Derived.Test.YtpibejjhldnplaaDoorMCon2
import Derived.OwnWalk
import Derived.Deep.QuietTactic
import Derived.BigQuiet
namespace Go.Proofs.YtpibejjhldnplaaDoor.Con
open Go.RowKit Go.Proofs.YtpibejjhldnplaaDoor.Mk
set_option linter.unusedVariables false

theorem infoInt : (Tryd.prog.info? 3).map (fun i => (i.zero, i.size, i.bytes)) = some (some (.int .i64 0), 1, 8) := by kernel_rfl
/-- Numbers as values. -/
def numsV (l : List Nat) : List Value := l.map fun j : Nat => Value.int .i64 (j : Int)
theorem numsV_len (l : List Nat) : (numsV l).length = l.length := by simp [numsV]
/-- How far a loop over a set is from its end. -/
def left (i ok : Value) : Nat := match ok with
  | .bool true => 65 - (intOf i).toNat
  | _ => 0
/-- The loop of List: pre is gathered, rest is to come. -/
def ListRel (m : Nat) (w : World) (v i ok : Value) (wr : World) : Prop :=
  ∃ (pre : List Nat) (k : Nat), ones m = pre ++ onesFrom m k ∧ i = .int .i64 (headOf (onesFrom m k)).1 ∧ ok = .bool (headOf (onesFrom m k)).2 ∧ wr.ownsRow w.heap.size 3 1 v pre.length (numsV pre) ∧ Below w.heap.size w wr
theorem first_head (m k : Nat) (hm : m < 18446744073709551616) : firstN m (k : Int) = headOf (onesFrom m k) := by
  rw [firstN_eq m _ hm]; rfl
theorem first_head0 (m : Nat) (hm : m < 18446744073709551616) : firstN m 0 = headOf (onesFrom m 0) := first_head m 0 hm
theorem first_head1 (m j : Nat) (hm : m < 18446744073709551616) : firstN m ((j : Int) + 1) = headOf (onesFrom m (j + 1)) := first_head m (j + 1) hm
theorem left_lt (m k j : Nat) (h : j < k) (hj : j < 64) : left (.int .i64 (headOf (onesFrom m k)).1) (.bool (headOf (onesFrom m k)).2) < left (.int .i64 j) (.bool true) := by
  cases hq : onesFrom m k with
  | nil => simp [left, headOf, intOf]; omega
  | cons j' l =>
    have := (onesFrom_cons hq).1
    simp [left, headOf, intOf]; omega
theorem pre_le {m k : Nat} {pre : List Nat} (h : ones m = pre ++ onesFrom m k) : pre.length ≤ 64 := by
  have := lenN_le m
  unfold lenN at this
  rw [h, List.length_append] at this
  omega
theorem listRel_step {m k j : Nat} {w wr w1 : World} {pre : List Nat} {v v' : Value} {o : Obj} (h : ones m = pre ++ onesFrom m k) (hj : onesFrom m k = j :: onesFrom m (j + 1))
    (hown : (wr.alloc o).ownsRow w.heap.size 3 1 v pre.length (numsV pre)) (hB : Below w.heap.size w wr)
    (hown' : w1.ownsRow w.heap.size 3 1 v' (pre.length + 1) (numsV pre ++ [.int .i64 j])) (hg : (wr.alloc o).grownBy w1 v.ownBlock) :
    ListRel m w v' (.int .i64 (headOf (onesFrom m (j + 1))).1) (.bool (headOf (onesFrom m (j + 1))).2) w1 := by
  refine ⟨pre ++ [j], j + 1, ?_, rfl, rfl, ?_, ?_⟩
  · rw [h, hj]; simp
  · rw [List.length_append, numsV, List.map_append]; exact hown'
  · exact (hB.alloc hB.size o).grown hg (by have := hB.size; simp; omega) (fun k hk => (hown.lt k hk).1)

set_option maxHeartbeats 1600000 in
set_option maxRecDepth 100000 in
theorem list_any (m : Nat) (w : World) (hm : m < 18446744073709551616) (hT : Tab w) :
    Calls Tryd.prog 22 #[.int .u64 m] w fun e w' => ∃ v, e = .returned v ∧ w'.ownsRow w.heap.size 3 1 v (lenN m) (numsV (ones m)) ∧ Below w.heap.size w w' := by
  obtain ⟨i0, hi, hz0, hz1, hz2⟩ := info_parts infoInt
  have hl := lenN_le m
  have hT' := hide hT
  clear hT
  go_enter Tryd.func22, Tryd.ntmps22
  go_wp2_with (first
    | (go_at_call 23; refine (len_any _ _ hm).mono ?_; rintro e w' ⟨rfl, rfl⟩)
    | (at_make; refine wpList_make_own _ rfl _ _ 32 rfl w'.heap.size 3 i0 (.int .i64 0) 1 Tryd.underlying32 hi hz0 hz1 _ _ _ (lenN m) rfl rfl rfl ?b2 ?b3 (Nat.le_refl _) ?_))
  case b2 => rw [hz2]; omega
  case b3 => unfold maxLen; omega
  intro w0 hown0 hgrow0
  have hB0 : Below w'.heap.size w' w0 := (Below.refl _ _).grown hgrow0 (Nat.le_refl _) (fun k h => by cases h)
  have hR := hide (And.intro hown0 hB0)
  have hT0 := hide ((unhide hT').on hB0)
  clear hown0 hgrow0 hB0
  have hF := hide (first_any m 0 w0 hm (unhide hT0))
  go_wp2_with fail
  refine (unhide hF).mono ?_
  rintro e w1 ⟨rfl, hw1⟩
  subst hw1
  clear hF
  go_wp2
  go_loopw [3, 4, 5] (fun v i ok wr => ListRel m w' v i ok wr) (fun _ i ok _ => left i ok)
  case atStart => exact ⟨[], 0, rfl, by rw [first_head0 m hm], by rw [first_head0 m hm], (unhide hR).1, (unhide hR).2⟩
  case round =>
    obtain ⟨pre, k, hpre, rfl, rfl, hown, hB⟩ := hrel
    have hle := pre_le hpre
    have hP := hide hpre
    have hTr := hide ((unhide hT').on hB)
    have hsz := hB.size
    clear hpre
    cases hq : onesFrom m k with
    | nil =>
      have hq' := hide hq
      clear hq
      simp only [headOf]
      go_wp2
      go_ret
      refine ⟨_, rfl, ?_, hB⟩
      have e : ones m = pre := by rw [unhide hP, unhide hq', List.append_nil]
      unfold lenN
      rw [e]; exact hown
    | cons j l =>
      obtain ⟨h1, h2, h3, h4, h5⟩ := onesFrom_cons hq
      have hq' := hide (show onesFrom m k = j :: onesFrom m (j + 1) by rw [hq, h4])
      clear hq h3 h4 h5
      simp only [headOf]
      have hF := hide (fun W (hW : Tab W) => first_any m ((j + 1 : Nat) : Int) W hm hW)
      go_wp2_with (first
        | (at_builtin; refine wpList_append_own _ rfl _ _ 32 rfl w'.heap.size 3 i0 (.int .i64 0) 1 8 Tryd.underlying32 hi hz0 hz1 hz2 rfl (by decide) _ _ _ rfl (hown.alloc _) ⟨wr.heap.size, 0, none⟩ 1 1 [.int .i64 (j : Int)] rfl rfl ?c1 ?c2 ?c3 ?c4 ?c5 ?_))
      case c1 =>
        intro t u hj
        match t, hj with
        | 0, hj => simp at hj; subst hj; simp [Addr.add]
      case c2 => intro u hu; simp at hu; subst hu; rfl
      case c3 => unfold maxLen; omega
      case c4 => omega
      case c5 => simp; omega
      intro v' w1 hown' hgrow _
      have hB1 : Below w'.heap.size w' w1 := (hB.alloc hB.size _).grown hgrow (by simp; omega) (fun k hk => (hown.lt k hk).1)
      have hT1 := hide ((unhide hT').on hB1)
      have R := hide (listRel_step (unhide hP) (unhide hq') (hown.alloc _) hB hown' hgrow)
      clear hown' hgrow hown hB1 hB
      go_wp2_with fail
      rw [show ((j : Int) + 1) = ((j + 1 : Nat) : Int) by omega]
      refine (unhide hF w1 (unhide hT1)).mono ?_
      rintro e w2 ⟨rfl, hw2⟩
      subst hw2
      go_wp2
      go_roundw
      case rel => rw [first_head1 m j hm]; exact unhide R
      case measure => rw [first_head1 m j hm]; exact left_lt m (j + 1) j (by omega) h2

/-- A slice of ints in memory. -/
def Ints (w : World) (v : Value) (zs : List Int) : Prop :=
  ∃ p c, v = .slice p zs.length c ∧ zs.length ≤ c ∧ c ≤ 9223372036854775807 ∧ (zs = [] ∨ ∃ b o, p = some ⟨b, o, none⟩ ∧ ∀ j, j < zs.length → w.cell? ⟨b, o + j, none⟩ = some (.int .i64 (zs.getD j 0)))
theorem Ints.below {w w' : World} {v : Value} {zs : List Int} (h : Ints w v zs) (hb : Below w.heap.size w w') : Ints w' v zs := by
  obtain ⟨p, c, h1, h2, h3, h4⟩ := h
  refine ⟨p, c, h1, h2, h3, h4.imp_right ?_⟩
  rintro ⟨b, o, rfl, h5⟩
  refine ⟨b, o, rfl, fun j hj => ?_⟩
  have hlt : b < w.heap.size := World.block_lt_of_cell? w _ (h5 j hj)
  exact (hb.cell (p := ⟨b, o + j, none⟩) hlt).trans (h5 j hj)
theorem ints_of_row {w : World} {base : Nat} {v : Value} {l : List Nat} (h : w.ownsRow base 3 1 v l.length (numsV l)) : Ints w v (l.map (fun j : Nat => (j : Int))) := by
  rcases h.2 with ⟨rfl, h0⟩ | ⟨g, cap, cur, rfl, hb, hg, h1, h2, h3, h4⟩
  · refine ⟨none, 0, by simp [h0], by simp [h0], by omega, .inl ?_⟩
    simpa using h0
  · refine ⟨some ⟨g, 0, none⟩, cap, by simp, by simpa using h1, by unfold maxLen at h2; omega, .inr ⟨g, 0, rfl, fun j hj => ?_⟩⟩
    have hj' : j < l.length := by simpa using hj
    have := h.cells (g := g) rfl j (.int .i64 ((l[j] : Nat) : Int)) (by unfold numsV; rw [List.getElem?_map, List.getElem?_eq_getElem hj']; rfl)
    have e : (⟨g, 0, none⟩ : Addr).add j = ⟨g, 0 + j, none⟩ := by unfold Addr.add; split <;> simp_all
    rw [e] at this
    rw [this, List.getD_eq_getElem?_getD, List.getElem?_map, List.getElem?_eq_getElem hj']
    rfl

set_option maxHeartbeats 1600000 in
set_option maxRecDepth 100000 in
theorem ints_some (b1 o1 c1 b2 o2 c2 : Nat) (zs : List Int) (w : World) (h1 : ∀ j, j < zs.length → w.cell? ⟨b1, o1 + j, none⟩ = some (.int .i64 (zs.getD j 0))) (h2 : ∀ j, j < zs.length → w.cell? ⟨b2, o2 + j, none⟩ = some (.int .i64 (zs.getD j 0))) (hl : zs.length ≤ 9223372036854775807) :
    Calls Tryd.prog 21 #[.slice (some ⟨b1, o1, none⟩) zs.length c1, .slice (some ⟨b2, o2, none⟩) zs.length c2] w fun e w' => e = .returned (.bool true) ∧ ∃ n, w' = w.drewN n := by
  go_enter Tryd.func21, Tryd.ntmps21
  go_wp2
  go_loopw [5] (fun i wr => ∃ k n : Nat, k ≤ zs.length ∧ i = .int .i64 k ∧ wr = w.drewN n) (fun i _ => zs.length - (intOf i).toNat)
  case atStart => exact ⟨0, 0, Nat.zero_le _, rfl, rfl⟩
  case round =>
    obtain ⟨k, n, hk, rfl, rfl⟩ := hrel
    by_cases hlt : k < zs.length
    · have e1 := h1 k hlt
      have e2 := h2 k hlt
      clear h1 h2
      go_wp2
      go_quiet (fail)
      go_wp2
      go_roundw
      case rel => exact ⟨k + 1, _, by omega, by go_num, rfl⟩
      case measure => simp [intOf]; omega
    · go_wp2
      go_ret
      exact ⟨rfl, n, rfl⟩
set_option maxHeartbeats 400000 in
theorem ints_none (p1 p2 : Option Addr) (c1 c2 : Nat) (w : World) :
    Calls Tryd.prog 21 #[.slice p1 0 c1, .slice p2 0 c2] w fun e w' => e = .returned (.bool true) ∧ ∃ n, w' = w.drewN n := by
  go_enter Tryd.func21, Tryd.ntmps21
  go_wp2
  go_loop [5] (fun i => i = .int .i64 0) (fun _ => 0)
  case atStart => exact rfl
  case round =>
    obtain rfl := hrel
    go_wp2
    go_ret
    exact ⟨rfl, 0, rfl⟩
/-- The law's ints: two lists that hold the same. -/
theorem ints_same (v1 v2 : Value) (zs : List Int) (w : World) (h1 : Ints w v1 zs) (h2 : Ints w v2 zs) :
    Calls Tryd.prog 21 #[v1, v2] w fun e w' => e = .returned (.bool true) ∧ ∃ n, w' = w.drewN n := by
  obtain ⟨p1, c1, rfl, l1, m1, q1⟩ := h1
  obtain ⟨p2, c2, rfl, l2, m2, q2⟩ := h2
  rcases q1 with rfl | ⟨b1, o1, rfl, k1⟩
  · exact ints_none p1 p2 c1 c2 w
  · rcases q2 with rfl | ⟨b2, o2, rfl, k2⟩
    · exact ints_none _ p2 c1 c2 w
    · exact ints_some b1 o1 c1 b2 o2 c2 zs w k1 k2 (by omega)
end Go.Proofs.YtpibejjhldnplaaDoor.Con
