/- compare; the sort. -/
import Derived.Test.YtmdendffbjhdbaaHCmp2
import Derived.Test.YtmdendffbjhdbaaAShelf
import Derived.Sort.OwnSortedInts
namespace Go.Proofs.Ytmdendffbjhdbaa.Con
open Go.RowKit Go.Proofs.Ytmdendffbjhdbaa.Hq
open Go.Sort (grow grow_grow alloc_eq_grow HoldsK flatK putRowK SWO PermIn SortedIn)
set_option linter.unusedVariables false
set_option linter.unusedSimpArgs false
attribute [local go_sem ↓] Go.wp_at_zero Go.wp_at_succ
/-- One that rang: CPU, id, tick. -/
abbrev Rg := Int × Int × Int
def encR (x : Rg) : List Value := [.int .i64 x.1, .int .i64 x.2.1, .int .i64 x.2.2]
def or3 (x y z : Int) : Int := if x ≠ 0 then x else if y ≠ 0 then y else z
def cfR (x y : Rg) : Int := or3 (c3 x.2.2 y.2.2) (c3 x.1 y.1) (c3 x.2.1 y.2.1)
def rlt (x y : Rg) : Prop := x.2.2 < y.2.2 ∨ (x.2.2 = y.2.2 ∧ (x.1 < y.1 ∨ (x.1 = y.1 ∧ x.2.1 < y.2.1)))
instance (x y : Rg) : Decidable (rlt x y) := by unfold rlt; infer_instance
theorem ltR (x y : Rg) : ltOf cfR x y = decide (rlt x y) := by
  unfold ltOf cfR or3 c3 rlt
  apply decide_eq_decide.2
  by_cases h1 : x.2.2 < y.2.2
  · simp [h1]
  · by_cases h2 : y.2.2 < x.2.2
    · simp [h1, h2]; omega
    · have e : x.2.2 = y.2.2 := by omega
      by_cases h3 : x.1 < y.1
      · simp [h1, h2, h3, e]
      · by_cases h4 : y.1 < x.1
        · simp [h1, h2, h3, h4, e]; omega
        · have e' : x.1 = y.1 := by omega
          by_cases h5 : x.2.1 < y.2.1
          · simp [e, e', h5]
          · by_cases h6 : y.2.1 < x.2.1
            · simp [e, e', h5, h6]
            · simp [e, e', h5, h6]
theorem swoR : SWO (ltOf cfR) where
  irrefl x := by rw [ltR]; unfold rlt; simp
  trans x y z h1 h2 := by
    rw [ltR, decide_eq_true_eq] at *
    unfold rlt at *; omega
  ntrans x y z h1 h2 := by
    rw [ltR, decide_eq_false_iff_not] at *
    unfold rlt at *; omega
set_option maxHeartbeats 1600000 in
theorem or3_any (b : Nat) (x y z : Int) (w : World) (h0 : w.cell? ⟨b, 0, none⟩ = some (.int .i64 x)) (h1 : w.cell? ⟨b, 1, none⟩ = some (.int .i64 y)) (h2 : w.cell? ⟨b, 2, none⟩ = some (.int .i64 z)) :
    Calls Try.prog 39 #[.slice (some ⟨b, 0, none⟩) 3 3] w fun e w' => e = .returned (.int .i64 (or3 x y z)) ∧ w' = w := by
  have ho := hide (show or3 x y z = if x ≠ 0 then x else if y ≠ 0 then y else z from rfl)
  go_enter Try.func39, Try.ntmps39
  go_wp2
  go_loop [8] (fun i => ∃ k : Nat, k ≤ 3 ∧ i = .int .i64 k ∧ (0 < k → x = 0) ∧ (1 < k → y = 0) ∧ (2 < k → z = 0)) (fun i => 3 - (intOf i).toNat)
  case atStart => exact ⟨0, by omega, rfl, by omega, by omega, by omega⟩
  case round =>
    obtain ⟨k, hk, rfl, hx, hy, hz⟩ := hrel
    rcases (show k = 0 ∨ k = 1 ∨ k = 2 ∨ k = 3 by omega) with rfl | rfl | rfl | rfl
    · clear hx hy hz
      by_cases hx : x = 0
      · subst hx
        go_wp2
        go_round
        case rel => exact ⟨1, by omega, rfl, by simp, by omega, by omega⟩
        case measure => simp [intOf]
      · go_wp2
        go_ret
        exact ⟨ret_i64 (by rw [ho.out, if_pos hx]), rfl⟩
    · have hx' := hx (by omega)
      subst hx'
      clear hx hy hz
      by_cases hy : y = 0
      · subst hy
        go_wp2
        go_round
        case rel => exact ⟨2, by omega, rfl, by simp, by simp, by omega⟩
        case measure => simp [intOf]
      · go_wp2
        go_ret
        exact ⟨ret_i64 (by rw [ho.out]; simp [hy]), rfl⟩
    · have hx' := hx (by omega)
      have hy' := hy (by omega)
      subst hx'; subst hy'
      clear hx hy hz
      by_cases hz : z = 0
      · subst hz
        go_wp2
        go_round
        case rel => exact ⟨3, by omega, rfl, by simp, by simp, by simp⟩
        case measure => simp [intOf]
      · go_wp2
        go_ret
        exact ⟨ret_i64 (by rw [ho.out]; simp), rfl⟩
    · have hx' := hx (by omega)
      have hy' := hy (by omega)
      have hz' := hz (by omega)
      subst hx'; subst hy'; subst hz'
      clear hx hy hz
      go_wp2
      go_ret
      exact ⟨ret_i64 (by rw [ho.out]; simp), rfl⟩
def GW (w w' : World) : Prop := ∃ q os', w' = grow (w.drewN q) os'
theorem GW.refl (w : World) : GW w w := ⟨0, #[], by simp [grow, World.drewN]⟩
theorem GW.alloc {w w' : World} (h : GW w w') (o : Obj) : GW w (w'.alloc o) := by
  obtain ⟨q, os, rfl⟩ := h
  exact ⟨q, os ++ #[o], by rw [alloc_eq_grow, grow_grow]⟩
theorem GW.drewN {w w' : World} (h : GW w w') (n : Nat) : GW w (w'.drewN n) := by
  obtain ⟨q, os, rfl⟩ := h
  exact ⟨q + n, os, by simp [grow, World.drewN, Nat.add_assoc]⟩
set_option maxHeartbeats 4000000 in
theorem compareR (x y : Rg) (w : World) : Calls Try.prog 31 #[.agg #[.int .i64 x.1, .int .i64 x.2.1, .int .i64 x.2.2], .agg #[.int .i64 y.1, .int .i64 y.2.1, .int .i64 y.2.2]] w fun e w' => e = .returned (.int .i64 (cfR x y)) ∧ GW w w' := by
  obtain ⟨a, b, c⟩ := x
  obtain ⟨a', b', c'⟩ := y
  have hc := hide (show cfR (a, b, c) (a', b', c') = or3 (c3 c c') (c3 a a') (c3 b b') from rfl)
  generalize cfR (a, b, c) (a', b', c') = R at *
  go_enter Try.func31, Try.ntmps31
  go_wp2
  generalize hW : (w.alloc (Obj.cells #[Value.int IntKind.i64 a, Value.int IntKind.i64 b, Value.int IntKind.i64 c] 52)).alloc (Obj.cells #[Value.int IntKind.i64 a', Value.int IntKind.i64 b', Value.int IntKind.i64 c'] 52) = W
  have hG : Hid (GW w W) := by rw [← hW]; exact hide (((GW.refl _).alloc _).alloc _)
  have e0 : W.cell? ⟨w.heap.size, 0, none⟩ = some (.int .i64 a) := by rw [← hW]; simp [go_sem]
  have e1 : W.cell? ⟨w.heap.size, 1, none⟩ = some (.int .i64 b) := by rw [← hW]; simp [go_sem]
  have e2 : W.cell? ⟨w.heap.size, 2, none⟩ = some (.int .i64 c) := by rw [← hW]; simp [go_sem]
  have f0 : W.cell? ⟨w.heap.size + 1, 0, none⟩ = some (.int .i64 a') := by rw [← hW]; simp [go_sem]
  have f1 : W.cell? ⟨w.heap.size + 1, 1, none⟩ = some (.int .i64 b') := by rw [← hW]; simp [go_sem]
  have f2 : W.cell? ⟨w.heap.size + 1, 2, none⟩ = some (.int .i64 c') := by rw [← hW]; simp [go_sem]
  have hs : w.heap.size + 1 < W.heap.size := World.block_lt_of_cell? W _ f0
  generalize hBe : w.heap.size = B at *
  clear hW
  go_region_held3 (fun w' => w'.cell? ⟨B, 0, none⟩ = some (.int .i64 a) ∧ w'.cell? ⟨B, 1, none⟩ = some (.int .i64 b) ∧ w'.cell? ⟨B, 2, none⟩ = some (.int .i64 c) ∧ w'.cell? ⟨B + 1, 0, none⟩ = some (.int .i64 a') ∧ w'.cell? ⟨B + 1, 1, none⟩ = some (.int .i64 b') ∧ w'.cell? ⟨B + 1, 2, none⟩ = some (.int .i64 c')) (go_keep)
    (first
      | (go_at_call 40; refine (cmp64 _ _ _).mono ?_; rintro e w' ⟨rfl, rfl⟩)
      | (go_at_call 41; refine (cmpI _ _ _).mono ?_; rintro e w' ⟨rfl, rfl⟩)
      | (go_at_call 39; refine (or3_any _ (c3 c c') (c3 a a') (c3 b b') _ ?_ ?_ ?_).mono ?_; (simp [go_sem]); (simp [go_sem]); (simp [go_sem]); rintro e w' ⟨rfl, rfl⟩))
  all_goals
    go_wp2
    go_ret
    refine ⟨ret_i64 hc.out.symm, ?_⟩
    first
      | exact (hG.out.drewN 1).alloc _
      | exact (hG.out.alloc _).drewN 1
      | exact hG.out.alloc _
theorem cmpLaysR (blk off size : Nat) (w : World) : CmpLays Try.prog 31 #[] encR 3 cfR blk off size w :=
  fun _ _ _ _ x y => compareR x y _
/-- The cells of some that rang. -/
def ringsV (rs : List Rg) : List Value := (flatK encR 3 rs.toArray).toList
theorem ringsV_len (rs : List Rg) : (ringsV rs).length = rs.length * 3 := by simp [ringsV]
theorem encR_get (x : Rg) (j : Nat) (hj : j < 3) : (encR x)[j]? = some ((encR x)[j]!) := by
  rw [List.getElem?_eq_getElem (by simp [encR]; omega), getElem!_pos]
theorem ringsV_get (rs : List Rg) (j : Nat) (h : j < rs.length * 3) : (ringsV rs)[j]? = some ((encR (rs.getD (j / 3) (0, 0, 0)))[j % 3]!) := by
  unfold ringsV
  rw [Array.getElem?_toList, Array.getElem?_eq_getElem (by simpa using h), ← getElem!_pos (flatK encR 3 rs.toArray) j (by simpa using h), Go.Sort.get_flatK _ _ _ _ (by simpa using h)]
  congr 3
  have : j / 3 < rs.length := by omega
  simp [List.getD, this]
theorem ringsV_snoc (rs : List Rg) (x : Rg) : ringsV (rs ++ [x]) = ringsV rs ++ encR x := by
  apply List.ext_getElem?
  intro j
  by_cases h : j < rs.length * 3
  · rw [ringsV_get _ _ (by simp; omega), List.getElem?_append_left (by rw [ringsV_len]; exact h), ringsV_get _ _ h]
    have : j / 3 < rs.length := by omega
    simp [List.getD, List.getElem?_append_left this]
  · rw [List.getElem?_append_right (by rw [ringsV_len]; omega), ringsV_len]
    by_cases h2 : j < rs.length * 3 + 3
    · rw [ringsV_get _ _ (by simp; omega), show j / 3 = rs.length by omega, show j % 3 = j - rs.length * 3 by omega, encR_get _ _ (by omega)]
      simp [List.getD]
    · rw [List.getElem?_eq_none (by rw [ringsV_len]; simp; omega), List.getElem?_eq_none (by simp [encR]; omega)]
def RRow (B : Nat) (w : World) (v : Value) (rs : List Rg) : Prop := w.ownsRow B 52 3 v rs.length (ringsV rs)
section
variable {B : Nat} {w w' : World} {v : Value} {rs : List Rg}
theorem RRow.form (h : RRow B w v rs) : (v = .slice none 0 0 ∧ rs = []) ∨ ∃ g cap cur, v = .slice (some ⟨g, 0, none⟩) rs.length cap ∧ B ≤ g ∧ w.heap[g]? = some (.cells cur 52 (0, 0)) ∧ rs.length ≤ cap ∧ cap ≤ maxLen ∧ cur.size = cap * 3 ∧ cur.toList.take (rs.length * 3) = ringsV rs := by
  obtain ⟨h1, ⟨h0, h2⟩ | ⟨g, cap, cur, h0, hg, r1, r2, r3, r4, r5⟩⟩ := h
  · exact .inl ⟨h0, List.eq_nil_of_length_eq_zero (by omega)⟩
  · exact .inr ⟨g, cap, cur, h0, hg, r1, r2, r3, r4, r5⟩
/-- Sorted. -/
def Srt (rs : List Rg) : Prop := rs.Pairwise fun x y => ¬ rlt y x
def SortP (B : Nat) (w : World) (v : Value) (rs : List Rg) (e : Ending) (w' : World) : Prop := e = .returned (.tuple #[]) ∧ ∃ rs', rs'.Perm rs ∧ Srt rs' ∧ RRow B w' v rs' ∧ w.grownBy w' v.ownBlock
theorem sortR_any (h : RRow B w v rs) (hl : rs.length < 4611686018427387904) :
    Calls Try.prog 30 #[v, .func (.func 31) #[] #[]] w fun e w' => SortP B w v rs e w' := by
  rcases h.form with ⟨rfl, rfl⟩ | ⟨g, cap, cur, rfl, hB, hb, r1, r2, r3, r4⟩
  · have hn := AnyF.slices_SortFunc_none Try.sortR none 0 (.func (.func 31) #[] #[]) w
    refine Calls.mono hn ?_
    rintro e w' ⟨rfl, rfl⟩
    exact ⟨rfl, [], List.Perm.refl _, List.Pairwise.nil, h, ⟨rfl, rfl, rfl, Nat.le_refl _, fun _ _ _ => rfl⟩⟩
  · have hg : g < w.heap.size := (Array.getElem?_eq_some_iff.1 hb).1
    have eg : ∀ args w, (callFunc 31 args).run Try.prog w = .ok (.enter 31 args) w := enters_of Try.func31 (by kernel_rfl) rfl
    have hH : HoldsK encR 3 w g 0 rs.toArray := by
      intro j hj
      have hj' : j < rs.length * 3 := by simpa using hj
      refine ⟨?_, by simp [World.frozen?, hb]⟩
      have h1 : (cur.toList.take (rs.length * 3))[j]? = (ringsV rs)[j]? := by rw [r4]
      rw [List.getElem?_take_of_lt hj'] at h1
      simp only [World.cell?, hb, Nat.zero_add, Option.isSome_none, Bool.false_eq_true, if_false, id]
      rw [← Array.getElem?_toList, h1]
      unfold ringsV
      rw [Array.getElem?_toList, Array.getElem?_eq_getElem hj, getElem!_pos (flatK encR 3 rs.toArray) j hj]
    have hcon := AnyQ.slices_SortFunc Try.sortR 3 Try.isAgg52 Try.sizeOf52 encR (fun _ => rfl) (fun x u hu => by simp [encR] at hu; rcases hu with rfl | rfl | rfl <;> rfl) cfR swoR 31 #[] g 0 cap rs.toArray w eg (cmpLaysR g 0 rs.toArray.size w) hH hg (by simpa using hl)
    rw [show (rs.toArray.size) = rs.length by simp] at hcon
    refine Calls.mono hcon ?_
    rintro e w' ⟨rfl, d', n, os, hp, hs, rfl⟩
    obtain ⟨p1, p2, p3⟩ := hp
    have hsz : d'.size = rs.length := by simpa using p1
    have e1 : (d'.extract 0 rs.length).toList = d'.toList := by rw [← hsz]; simp
    have e2 : (rs.toArray.extract 0 rs.length).toList = rs := by simp
    rw [e1, e2] at p3
    have hlen : d'.toList.length = rs.length := by simpa using hsz
    refine ⟨rfl, d'.toList, p3, ?_, ?_, ?_⟩
    · unfold Srt
      rw [List.pairwise_iff_getElem]
      intro i j hi hj hij
      have := hs i j (by omega) hij (by omega)
      rw [ltR, decide_eq_false_iff_not] at this
      have a1 : i < d'.size := by simpa using hi
      have a2 : j < d'.size := by simpa using hj
      rw [getElem!_pos d' i a1, getElem!_pos d' j a2] at this
      simpa using this
    · unfold RRow
      rw [hlen]
      refine ⟨by rw [ringsV_len, hlen], .inr ⟨g, cap, Go.Sort.putCells id 0 (flatK encR 3 d') cur, rfl, hB, ?_, r1, r2, by simp [Go.Sort.putCells, r3], ?_⟩⟩
      · unfold sortWorldK putRowK
        rw [Go.Sort.heap_grow_old _ _ (by simpa using hg)]
        simp [Go.Sort.putRow, Go.Sort.mapBlock, Go.Sort.ahead, Array.getElem?_modify, hb, Go.Sort.onCells]
      · apply List.ext_getElem?
        intro j
        by_cases hj : j < rs.length * 3
        · rw [List.getElem?_take_of_lt hj, Array.getElem?_toList]
          unfold ringsV
          have hj2 : j < (flatK encR 3 d').size := by simp [hsz]; exact hj
          have hj3 : j < cur.size := by rw [r3]; omega
          rw [show d'.toList.toArray = d' by simp, Array.getElem?_toList, Array.getElem?_eq_getElem hj2, ← getElem!_pos (flatK encR 3 d') j hj2]
          simp only [Go.Sort.putCells, Array.getElem?_mapIdx, Array.getElem?_eq_getElem hj3, Option.map_some, Nat.zero_le, true_and, Nat.zero_add, Nat.sub_zero, id]
          rw [if_pos hj2]
        · rw [List.getElem?_take_eq_none (by omega), List.getElem?_eq_none (by rw [ringsV_len, hlen]; omega)]
    · refine ⟨rfl, rfl, rfl, by simp [sortWorldK, putRowK, Go.Sort.putRow, Go.Sort.mapBlock, Go.Sort.ahead, grow], fun k hk hne => ?_⟩
      have hgk : g ≠ k := fun e => hne (by rw [e]; rfl)
      unfold sortWorldK putRowK
      rw [Go.Sort.heap_grow_old _ _ (by simpa using hk)]
      simp [Go.Sort.putRow, Go.Sort.mapBlock, Go.Sort.ahead, Array.getElem?_modify, hgk]
end
end Go.Proofs.Ytmdendffbjhdbaa.Con
