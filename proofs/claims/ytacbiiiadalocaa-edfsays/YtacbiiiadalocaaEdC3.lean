/- Clone, Grow, Concat, Contains at entries; Sort at ints. -/
import Derived.Test.YtacbiiiadalocaaEdC1
import Derived.Test.YtacbiiiadalocaaShelf
import Derived.Laws.StructEq
import Derived.Sort.OwnSortedInts
import Derived.Shelf.Sort.Plain
import Derived.Shelf.Spec.SlicesGrow
import Derived.Shelf.SlicesQ.Contains
namespace Go.Proofs.Ytacbiiiadalocaa.Ed
open Go.RowKit Go.Proofs.Ytacbiiiadalocaa.Con Go.Shelf Go.Lib
open Go.Sort (grow grow_grow alloc_eq_grow putRow Holds)
set_option linter.unusedVariables false
set_option linter.unusedSimpArgs false
attribute [local go_sem ↓] Go.wp_at_zero Go.wp_at_succ
theorem infoEt : (Try.prog.info? 24).map (fun i => (i.zero, i.size, i.bytes)) = some (some (.agg #[.int .i64 0, .int .i64 0, .bool false]), 3, 24) := by kernel_rfl
theorem infoEt' : ∃ b, (Try.prog.info? 24).map (fun i => (i.zero, i.size, i.bytes)) = some (some (.agg #[.int .i64 0, .int .i64 0, .bool false]), 3, b) ∧ b ≤ 64 := ⟨_, infoEt, by decide⟩
/-- A row of the call's own. -/
abbrev Ow (B : Nat) (W : World) (v : Value) (L : List Et) : Prop := W.ownsRow B 24 3 v L.length (flatE L)
set_option maxRecDepth 100000 in
set_option maxHeartbeats 4000000 in
theorem clone_any {w : World} {v : Value} {L : List Et} (h : Sl w v L) (hl : L.length ≤ 200) :
    Calls Try.prog 33 #[v] w fun e w' => ∃ v', e = .returned v' ∧ Hid (Ow w.heap.size w' v' L) ∧ Nx w w' := by
  obtain ⟨p, cap, rfl, hn, hm⟩ := h.form
  have H := hide h
  clear h
  cases p with
  | none =>
    have h0 : L = [] := by
      rcases Nat.eq_zero_or_pos L.length with h | h
      · exact List.eq_nil_of_length_eq_zero h
      · obtain ⟨_, _, e, _⟩ := H.out.at h; cases e
    subst h0
    refine (AnyE.slices_Clone_nil Try.cloneEt _ _ w).mono fun e w' hh => ?_
    obtain ⟨rfl, rfl⟩ := hh
    exact ⟨_, rfl, hide (World.ownsRow_nil _ _ _ _), Nx.refl _⟩
  | some a =>
    obtain ⟨bt, hI, hbt⟩ := infoEt'
    have HI := hide hI
    clear hI
    have HO := hide (H.out.below (Nx.alloc w (.cells #[] 24)))
    have HE := hide (own_empty (size := 3) (B := w.heap.size) (heap_alloc_new w (.cells #[] 24)) (Nat.le_refl _))
    have hq : ∀ (w : World) (n c : Nat), (binOp .eql 25 (.slice (some a) n c) (.slice none 0 0)).run Try.prog w = .ok (.bool false) w := fun w n c => Lib.run_eql_slice_nil w _ _ (some a) n c 0 0 Try.underlying25
    go_enter Try.func33, Try.ntmps33
    go_wp2_with (at_builtin; refine wpList_append_rd rfl _ _ 25 rfl rfl rfl Try.underlying25 HI.out rfl (by decide) hbt HE.out (by simp) HO.out (flatE_one L) (by omega) ?_; intro p2 c2 w2 hk2)
    go_ret
    have e2 := hk2.out.1
    rw [Nat.zero_add, List.nil_append] at e2
    refine ⟨_, rfl, hide (by simpa using e2), ?_⟩
    exact below_grown (Nx.alloc w _) (by simp) hk2.out.2 (own_past HE.out)
theorem eqEt : EqlAt Try.prog 24 (fun x : Et => .agg [Value.int .i64 x.1, .int .i64 x.2.1, .bool x.2.2].toArray) (fun x y => decide (x = y)) := by
  refine ⟨fun x y w => ?_, GuardAt.agg _ (by kernel_rfl)⟩
  have u3 := Try.underlying3
  have a3 := Try.isAgg3
  have z3 := Try.sizeOf3
  have u2 := Try.underlying2
  have a2 := Try.isAgg2
  have z2 := Try.sizeOf2
  have u4 := Try.underlying4
  have a4 := Try.isAgg4
  have z4 := Try.sizeOf4
  have hS : Try.prog.underlying 24 = some (.struct (Try.prog.fieldsOf 24)) := by kernel_rfl
  have hp : Try.prog.stoodInHeld 24 = false := by kernel_rfl
  rw [run_eql_struct, show (10000 : Nat) = 9999 + 1 from rfl, run_equalIn_agg w 9999 24 _ _ hS hp]
  simp only [Program.fieldsOf, Try.underlying24]
  go_simp
  obtain ⟨x0, x1, x2⟩ := x
  obtain ⟨y0, y1, y2⟩ := y
  by_cases h1 : x0 = y0 <;> by_cases h2 : x1 = y1 <;> by_cases h3 : x2 = y2 <;> simp [h1, h2, h3]
theorem get_atE (L : List Et) (i : Nat) : L[i]! = at' L i := by
  unfold at'
  rw [List.getElem!_eq_getElem?_getD, List.getD_eq_getElem?_getD]; rfl
set_option maxHeartbeats 2000000 in
theorem index0 (p : Option Addr) (c : Nat) (x : Et) (w : World) : Calls Try.prog 37 #[.slice p 0 c, ev x] w fun e w' => e = .returned (.int .i64 (-1)) ∧ Nx w w' := by
  have HB := hide (Nx.alloc w (.cells #[.int .i64 x.1, .int .i64 x.2.1, .bool x.2.2] 24))
  go_enter Try.func37, Try.ntmps37
  go_wp2
  go_loopw [5, 8] (fun _ i wr => i = .int .i64 0 ∧ Hid (Nx w wr)) (fun _ _ _ => 0)
  case atStart => exact ⟨rfl, HB⟩
  case round =>
    obtain ⟨rfl, HN⟩ := hrel
    go_wp2
    go_ret
    exact ⟨rfl, HN.out⟩
set_option maxHeartbeats 2000000 in
theorem has_any {w : World} {v : Value} {R : List Et} (h : Sl w v R) (hl : R.length ≤ 200) (x : Et) :
    Calls Try.prog 27 #[v, ev x] w fun e w' => e = .returned (.bool (R.any (fun y => decide (y = x)))) ∧ Nx w w' := by
  obtain ⟨p, cap, rfl, hn, hm⟩ := h.form
  rcases Nat.eq_zero_or_pos R.length with h0 | h0
  · have hR : R = [] := List.eq_nil_of_length_eq_zero h0
    subst hR
    have HB := hide (Nx.alloc w (.cells #[.int .i64 x.1, .int .i64 x.2.1, .bool x.2.2] 24))
    clear h hl hm hn h0
    go_enter Try.func27, Try.ntmps27
    go_wp2_with (go_at_call 37; refine (index0 _ _ x _).mono ?_; rintro e w9 ⟨rfl, hw9⟩; have HN9 := hide (Nx.trans HB.out hw9); clear hw9)
    go_ret
    exact ⟨rfl, HN9.out⟩
  · obtain ⟨b, o, rfl, hb, _⟩ := h.at h0
    have hc : ∀ j, j < R.length → ∀ i u, ([Value.int .i64 (R[j]!).1, .int .i64 (R[j]!).2.1, .bool (R[j]!).2.2])[i]? = some u → w.cell? ⟨b, o + j * 3 + i, none⟩ = some u := fun j hj i u hi => by
      obtain ⟨b', o', e, _, c0, c1, c2⟩ := h.at hj
      simp only [Option.some.injEq, Addr.mk.injEq, and_true] at e
      obtain ⟨rfl, rfl⟩ := e
      rw [get_atE] at hi
      match i, hi with
      | 0, hi => simp only [List.getElem?_cons_zero, Option.some.injEq] at hi; rw [← hi]; exact c0
      | 1, hi => simp only [List.getElem?_cons_succ, List.getElem?_cons_zero, Option.some.injEq] at hi; rw [← hi]; exact c1
      | 2, hi => simp only [List.getElem?_cons_succ, List.getElem?_cons_zero, Option.some.injEq] at hi; rw [← hi]; exact c2
    have hcon := AnyQ.slices_Contains Try.hasEt 3 Try.isAgg24 Try.sizeOf24 (fun x : Et => [Value.int .i64 x.1, .int .i64 x.2.1, .bool x.2.2]) (fun _ => rfl) (fun x y => decide (x = y)) eqEt b o R.length cap R x w (Nat.le_refl _) (by omega) hc
    change Calls Try.prog 27 #[.slice (some ⟨b, o, none⟩) R.length cap, ev x] w _ at hcon
    refine hcon.mono fun e w' hh => ⟨hh.1.trans ?_, hh.2⟩
    rw [List.take_length]
    congr 3
    funext y
    exact decide_eq_decide.2 eq_comm
theorem grow_any (n : Nat) (h0 : 0 < n) (hn : n ≤ 1000) (w : World) : Calls Try.prog 36 #[.slice none 0 0, .int .i64 n] w fun e w' => ∃ v', e = .returned v' ∧ Hid (Ow w.heap.size w' v' []) ∧ Nx w w' := by
  obtain ⟨i0, hi, hz0, hz1, hz2⟩ := info_parts infoEt
  have hcon := Any8.slices_Grow_grow Try.growEt i0 _ hi hz0 (by rw [hz1]; decide) none 0 0 n [] w (Nat.le_refl _) (by omega) (by rw [hz2]; omega) (by omega) (by simp) (fun _ => rfl) (fun a ha => by cases ha)
  change Calls Try.prog 36 #[.slice none 0 0, .int .i64 n] w _ at hcon
  refine hcon.mono fun e w' hh => ?_
  obtain ⟨rfl, rfl⟩ := hh
  have hge := grownCap_ge w (0 + n) 0 (Try.growEt_ren.t 25)
  have hle := grownCap_le_maxLen w (0 + n) 0 (Try.growEt_ren.t 25) (by unfold maxLen; omega)
  refine ⟨_, rfl, hide ?_, ?_⟩
  · refine World.ownsRow_made w.drew _ _ (Nat.le_refl _) hle ?_
    simp only [Array.size_append, size_zeroCells, Value.cells, List.size_toArray, List.length_nil, List.length_cons]
    omega
  · exact Below.trans (a := w) (b := w.drew) ⟨rfl, rfl, rfl, Nat.le_refl _, fun _ _ => rfl⟩ (Nx.alloc w.drew _)
def cl (L M : List Et) : Nat → List Et
  | 0 => []
  | 1 => L
  | _ => L ++ M
set_option maxRecDepth 100000 in
set_option maxHeartbeats 4000000 in
theorem concat_any {w : World} {q : Nat} {v u : Value} {L M : List Et} (h : Sl w v L) (h' : Sl w u M) (c0 : w.cell? ⟨q, 0, none⟩ = some v) (c1 : w.cell? ⟨q, 1, none⟩ = some u) (h0 : 0 < L.length + M.length) (hl : L.length + M.length ≤ 200) :
    Calls Try.prog 26 #[.slice (some ⟨q, 0, none⟩) 2 2] w fun e w' => ∃ v', e = .returned v' ∧ Hid (Ow w.heap.size w' v' (L ++ M)) ∧ Nx w w' := by
  have hq := World.block_lt_of_cell? w _ c0
  obtain ⟨p, cap, rfl, hn, hm⟩ := h.form
  obtain ⟨p', cap', rfl, hn', hm'⟩ := h'.form
  have H := hide h
  have H' := hide h'
  obtain ⟨bt, hI, hbt⟩ := infoEt'
  have HI := hide hI
  clear h h' hI
  have HG := hide (fun w => grow_any (L.length + M.length) h0 (by omega) w)
  go_enter Try.func26, Try.ntmps26
  go_wp2
  go_loopw [3, 5, 11] (fun s _ i wr => wr = w ∧ ((i = .int .i64 0 ∧ s = .int .i64 0) ∨ (i = .int .i64 1 ∧ s = .int .i64 (L.length : Int)) ∨ (i = .int .i64 2 ∧ s = .int .i64 ((L.length + M.length : Nat) : Int)))) (fun _ _ i _ => 2 - (intOf i).toNat)
  case atStart => exact ⟨rfl, .inl ⟨rfl, rfl⟩⟩
  case round =>
    obtain ⟨hw, hrel⟩ := hrel
    have hw2 := hw.symm; clear hw; subst hw2
    rcases hrel with ⟨rfl, rfl⟩ | ⟨rfl, rfl⟩ | ⟨rfl, rfl⟩
    · go_wp2
      go_round
      case rel => exact ⟨trivial, .inr (.inl ⟨rfl, by go_num⟩)⟩
      case measure => simp [intOf]
    · go_wp2
      go_round
      case rel => exact ⟨trivial, .inr (.inr ⟨rfl, by go_num⟩)⟩
      case measure => simp [intOf]
    · go_wp2_with (go_at_call 36; refine (HG.out _).mono ?_; rintro e w2 ⟨v2, rfl, h2, n2⟩; have HN2 := hide n2; clear n2)
      have HC0 := hide (fun wr (h : Nx w wr) => (h.cell (p := ⟨q, 0, none⟩) hq).trans c0)
      have HC1 := hide (fun wr (h : Nx w wr) => (h.cell (p := ⟨q, 1, none⟩) hq).trans c1)
      clear c0 c1
      go_loopw [6, 8, 27] (fun s _ i wr => ∃ k : Nat, k ≤ 2 ∧ i = .int .i64 (k : Int) ∧ Hid (Ow w.heap.size wr s (cl L M k)) ∧ Hid (Nx w wr)) (fun _ _ i _ => 2 - (intOf i).toNat)
      case atStart => exact ⟨0, by omega, rfl, h2, HN2⟩
      case round =>
        clear h2 HN2
        obtain ⟨k, hk, rfl, HO, HN⟩ := hrel
        obtain ⟨p3, c3, rfl⟩ := ownF HO.out
        have x0 := HC0.out wr HN.out
        have x1 := HC1.out wr HN.out
        rcases (show k = 0 ∨ k = 1 ∨ k = 2 by omega) with rfl | rfl | rfl
        · have HO' : Hid (wr.ownsRow w.heap.size 24 3 (.slice p3 0 c3) 0 []) := HO
          have HR := hide (H.out.below HN.out)
          have HZ := hide HN.out.size
          go_wp2_with (at_builtin; refine wpList_append_rd rfl _ _ 25 rfl rfl rfl Try.underlying25 HI.out rfl (by decide) hbt HO'.out HZ.out HR.out (flatE_one L) (by omega) ?_; intro p4 c4 w4 hk4; have HN4 := hide (below_grown HN.out HZ.out hk4.out.2 (own_past HO'.out)); have hk5 := hk4.out.1; clear hk4; rw [Nat.zero_add, List.nil_append] at hk5; have HK5 := hide hk5; clear hk5)
          go_round
          case rel => exact ⟨1, by omega, by go_num, by simpa [cl, Ow] using HK5, HN4⟩
          case measure => simp [intOf]
        · have HO' : Hid (wr.ownsRow w.heap.size 24 3 (.slice p3 L.length c3) L.length (flatE L)) := HO
          have HR := hide (H'.out.below HN.out)
          have HZ := hide HN.out.size
          go_wp2_with (at_builtin; refine wpList_append_rd rfl _ _ 25 rfl rfl rfl Try.underlying25 HI.out rfl (by decide) hbt HO'.out HZ.out HR.out (flatE_one M) (by omega) ?_; intro p4 c4 w4 hk4; have HN4 := hide (below_grown HN.out HZ.out hk4.out.2 (own_past HO'.out)); have hk5 := hk4.out.1; clear hk4; rw [← flatE_app, ← List.length_append] at hk5; have HK5 := hide hk5; clear hk5)
          go_round
          case rel => exact ⟨2, by omega, by go_num, by simpa [cl, Ow] using HK5, HN4⟩
          case measure => simp [intOf]
        · go_wp2
          go_ret
          exact ⟨_, rfl, HO, HN.out⟩
end Go.Proofs.Ytacbiiiadalocaa.Ed
