/- What Who answers of a chain: the ID of the outermost Fault with that Op. -/
import Derived.Test.YtlfmlbkpkkegpaaFmtFIter
import Derived.RangeFuncBox
namespace Go.Proofs.YtlfmlbkpkkegpaaFmt.Con
open Go.RowKit Go.Extern.Stop Go.Stop Go.Extern Go.Shelf
set_option linter.unusedVariables false
attribute [local go_sem] Oper.semAt_some

/-- The outermost one with that Op. -/
def whoL (op : ByteArray) (l : List (ByteArray × Int)) : Option (ByteArray × Int) := l.find? fun x => x.1.toList == op.toList
def whoE (r : Option (ByteArray × Int)) : Ending := .returned (.tuple #[.int .i64 (r.elim 0 (·.2)), .bool r.isSome])

theorem whoL_none {op : ByteArray} {l : List (ByteArray × Int)} (h : ∀ x ∈ l, (x.1.toList == op.toList) = false) : whoL op l = none := by
  unfold whoL; rw [List.find?_eq_none]; intro x hx; simp [h x hx]
theorem whoL_some {op : ByteArray} {l pre : List (ByteArray × Int)} {y : ByteArray × Int} (hp : pre ++ [y] <+: l) (h : ∀ x ∈ pre, (x.1.toList == op.toList) = false) (hy : (y.1.toList == op.toList) = true) : whoL op l = some y := by
  obtain ⟨r, rfl⟩ := hp
  unfold whoL
  rw [List.append_assoc, List.find?_append, List.find?_eq_none.2 (by intro x hx; simp [h x hx])]
  simp [hy]

set_option maxRecDepth 100000 in
set_option maxHeartbeats 4000000 in
theorem who_x (B : Value) (hIn : Inner B) (t0 : TypeId) (u0 : Value) (op : ByteArray) (w : World) (xs : List (El w.heap.size w)) (hx : ChainX w.heap.size w w B xs (.iface t0 u0)) (hg : Laid w) :
    Calls Tryf.prog 10 #[.iface t0 u0, .string op] w fun e w' => e = whoE (whoL op (xs.map nm)) ∧ Below w.heap.size w w' := by
  refine (callsIn_wide (n := 3)).1 ?_
  refine callsIn_of_wp_marks Tryf.func10 rfl trivial ?_ rfl
  simp only [Tryf.ntmps10, List.size_toArray, List.length_cons, List.length_nil, Nat.reduceAdd, Nat.reduceSub, Array.replicate_succ, Array.replicate_zero, List.push_toArray, List.append_toArray, List.nil_append, List.cons_append]
  gi_wp2_with (refine ⟨trivial, ?_⟩; gi_at_call 21; refine (callsIn_wide.2 (faults_any _ _ _)).mono ?_; rintro e w' ⟨rfl, rfl⟩)
  have c0 := cell_new w (.string op) 9
  have c1 := cell_new (w.alloc (.cells #[.string op] 9)) (.int .i64 0) 3
  have c2 := cell_new ((w.alloc (.cells #[.string op] 9)).alloc (.cells #[.int .i64 0] 3)) (.bool false) 4
  have c3 := cell_new (((w.alloc (.cells #[.string op] 9)).alloc (.cells #[.int .i64 0] 3)).alloc (.cells #[.bool false] 4)) (.iface t0 u0) 24
  simp only [World.size_alloc] at c1 c2 c3
  have hB0 : Below w.heap.size w ((((w.alloc (.cells #[.string op] 9)).alloc (.cells #[.int .i64 0] 3)).alloc (.cells #[.bool false] 4)).alloc (.cells #[.iface t0 u0] 24)) := ((((Below.refl _ w).alloc (Nat.le_refl _) _).alloc (by simp) _).alloc (by simp; omega) _).alloc (by simp; omega) _
  refine wpIn_rangeFunc_ownF rfl (by decide) (gf := 35) (lb := #[.pointer (some ⟨w.heap.size + 1 + 1 + 1, 0, none⟩)]) rfl trivial (enters_of Tryf.func35 (by kernel_rfl) rfl)
    (faults_stops (3 - 1) (by decide) (w.heap.size + 1 + 1 + 1) w B hIn (.iface t0 u0) xs _ (by simp) hB0 hg c3.1 hx) belowK_t (belowK_b (by simp; omega)) (Below.refl _ _) (fun _ => rfl)
    (fun pre W => ((∀ y ∈ pre, ((nm y).1.toList == op.toList) = false) ∧ W.cell? ⟨w.heap.size, 0, none⟩ = some (.string op) ∧ (W.cell? ⟨w.heap.size + 1, 0, none⟩ = some (.int .i64 0) ∧ W.frozen? ⟨w.heap.size + 1, 0, none⟩ = false) ∧ W.cell? ⟨w.heap.size + 1 + 1, 0, none⟩ = some (.bool false) ∧ W.frozen? ⟨w.heap.size + 1 + 1, 0, none⟩ = false) ∧ Below w.heap.size w W)
    (fun c pre W => (c = .ret ∧ (∃ pre' y, pre = pre' ++ [y] ∧ (∀ z ∈ pre', ((nm z).1.toList == op.toList) = false) ∧ ((nm y).1.toList == op.toList) = true ∧ W.cell? ⟨w.heap.size + 1, 0, none⟩ = some (.int .i64 (nm y).2)) ∧ W.cell? ⟨w.heap.size + 1 + 1, 0, none⟩ = some (.bool true)) ∧ Below w.heap.size w W)
    (OwnFrom.and (Own.from (fun s A B row hs hg hr => ⟨hs.1, cell_kept hs.2.1 hg hr, ⟨cell_kept hs.2.2.1.1 hg hr, (frozen_kept hs.2.2.1.1 hg hr).trans hs.2.2.1.2⟩, cell_kept hs.2.2.2.1 hg hr, (frozen_kept hs.2.2.2.1 hg hr).trans hs.2.2.2.2⟩) _) (ownFrom_below (Nat.le_refl _) (by simp; omega)))
    (fun c => OwnFrom.and (Own.from (fun s A B row hs hg hr => ⟨hs.1, by obtain ⟨pre', y, e, h1, h2, h3⟩ := hs.2.1; exact ⟨pre', y, e, h1, h2, cell_kept h3 hg hr⟩, cell_kept hs.2.2 hg hr⟩) _) (ownFrom_below (Nat.le_refl _) (by simp; omega)))
    ⟨⟨by simp, cell_al _ (cell_al _ (cell_al _ c0.1)), ⟨cell_al _ (cell_al _ c1.1), frozen_al _ (cell_al _ c1.1) (frozen_al _ c1.1 c1.2)⟩, cell_al _ c2.1, frozen_al _ c2.1 c2.2⟩, hB0⟩
    (fun x => { tmps := #[.iface t0 u0, .string op, undef, .pointer (some ⟨w.heap.size, 0, none⟩), .pointer (some ⟨w.heap.size + 1, 0, none⟩), .pointer (some ⟨w.heap.size + 1 + 1, 0, none⟩), .pointer (some ⟨x.1.1, 0, none⟩), .iface t0 u0, .func (.func 35) #[] #[.pointer (some ⟨w.heap.size + 1 + 1 + 1, 0, none⟩)], .pointer (some ⟨x.1.1, 0, none⟩), undef, undef, undef, undef, undef, undef, undef, undef, undef, undef], defers := [] }) ?assign ?body ?done ?stop
  case assign =>
    intro l x W K hK
    gi_wp2
    exact hK
  case body =>
    rintro l pre x W ⟨⟨hp, hco, ⟨hci, hfi⟩, hcb, hfb⟩, hB⟩ hlt
    have hxo : W.cell? ⟨x.1.1, 0, none⟩ = some (.string (nm x).1) := (hB.cell (p := ⟨x.1.1, 0, none⟩) x.2.1).trans x.2.2.1
    have hxi : W.cell? ⟨x.1.1, 1, none⟩ = some (.int .i64 (nm x).2) := (hB.cell (p := ⟨x.1.1, 1, none⟩) x.2.1).trans x.2.2.2
    have hmx : Tryf.prog.follows .mixedOrders = true := by kernel_rfl
    have hne : x.1.1 ≠ w.heap.size + 1 := by have := x.2.1; omega
    cases hq : ((nm x).1.toList == op.toList)
    · gi_wp2
      gi_region_with_o (fail)
      all_goals gi_wp2
      all_goals exact ⟨KeepsOthers.drew _, Below.drew (Below.refl _ _), ⟨fun y hy => (List.mem_append.1 hy).elim (hp y) (fun e => by simp at e; subst e; exact hq), hco, ⟨hci, hfi⟩, hcb, hfb⟩, hB.drew⟩
    · have hc5 : ((W.setCell ⟨w.heap.size + 1, 0, none⟩ (.int .i64 (nm x).2)).setCell ⟨w.heap.size + 1 + 1, 0, none⟩ (.bool true)).cell? ⟨w.heap.size + 1, 0, none⟩ = some (.int .i64 (nm x).2) := by
        rw [World.cell?_setCell_other _ _ _ _ (by simp)]
        exact World.cell?_setCell_same' _ _ _ (by rw [hci]; rfl)
      have hc6 : ((W.setCell ⟨w.heap.size + 1, 0, none⟩ (.int .i64 (nm x).2)).setCell ⟨w.heap.size + 1 + 1, 0, none⟩ (.bool true)).cell? ⟨w.heap.size + 1 + 1, 0, none⟩ = some (.bool true) := by
        refine World.cell?_setCell_same' _ _ _ ?_
        rw [World.cell?_setCell_other _ _ _ _ (by simp), hcb]; rfl
      have HC := hide (And.intro hc5 hc6)
      clear hc5 hc6
      gi_wp2
      gi_region_with_o (fail)
      all_goals gi_wp2
      all_goals exact ⟨((KeepsOthers.setCell _ _ _).trans (KeepsOthers.setCell _ _ _)).trans (KeepsOthers.drew _), ⟨rfl, ⟨pre, x, rfl, hp, hq, (unhide HC).1⟩, (unhide HC).2⟩, ((hB.setCell (p := ⟨w.heap.size + 1, 0, none⟩) (by simp) _).setCell (p := ⟨w.heap.size + 1 + 1, 0, none⟩) (by simp; omega) _).drew⟩
  case done =>
    rintro D ys W hD rfl ⟨⟨hne, _, ⟨hci, hfi⟩, hcb, hfb⟩, hB⟩ hK
    have hc5 : ((W.setCell ⟨w.heap.size + 1, 0, none⟩ (.int .i64 0)).setCell ⟨w.heap.size + 1 + 1, 0, none⟩ (.bool false)).cell? ⟨w.heap.size + 1, 0, none⟩ = some (.int .i64 0) := by
      rw [World.cell?_setCell_other _ _ _ _ (by simp)]
      exact World.cell?_setCell_same' _ _ _ (by rw [hci]; rfl)
    have hc6 : ((W.setCell ⟨w.heap.size + 1, 0, none⟩ (.int .i64 0)).setCell ⟨w.heap.size + 1 + 1, 0, none⟩ (.bool false)).cell? ⟨w.heap.size + 1 + 1, 0, none⟩ = some (.bool false) := by
      refine World.cell?_setCell_same' _ _ _ ?_
      rw [World.cell?_setCell_other _ _ _ _ (by simp), hcb]; rfl
    have HC := hide (And.intro hc5 hc6)
    clear hc5 hc6
    gi_wp2
    have hK' := ((KeepsOthers.setCell W ⟨w.heap.size + 1, 0, none⟩ (.int .i64 0)).trans (KeepsOthers.setCell _ ⟨w.heap.size + 1 + 1, 0, none⟩ (.bool false))).same D _ hK rfl
    refine ⟨by simp, .inl ⟨_, _, rfl, run_takeDeferred hK', ?_⟩⟩
    have e3 := cell_kept (unhide HC).1 (grownBy_putObj' _ D (.deferred none)) (fun r e => by cases e; exact ⟨_, hK', rfl⟩)
    have eb := cell_kept (unhide HC).2 (grownBy_putObj' _ D (.deferred none)) (fun r e => by cases e; exact ⟨_, hK', rfl⟩)
    refine ⟨.tuple #[.int .i64 0, .bool false], ?_, ?_, ((hB.setCell (p := ⟨w.heap.size + 1, 0, none⟩) (by simp) _).setCell (p := ⟨w.heap.size + 1 + 1, 0, none⟩) (by simp; omega) _).trans (belowK_b (w := w) (Nat.le_refl _) _ D _ _ (by simp at hD; omega) hK' rfl rfl)⟩
    · simp [results, Tryf.f10, go_sem, e3, eb]
    · rw [whoL_none (by intro z hz; obtain ⟨q, hq, rfl⟩ := List.mem_map.1 hz; exact hne q hq)]; rfl
  case stop =>
    rintro D c pre W hD hpre ⟨⟨rfl, ⟨pre', y, rfl, h1, h2, h3⟩, hcb⟩, hB⟩ hK
    gi_wp2
    refine ⟨by simp, .inl ⟨_, _, rfl, run_takeDeferred hK, ?_⟩⟩
    have e3 := cell_kept h3 (grownBy_putObj' _ D (.deferred none)) (fun r e => by cases e; exact ⟨_, hK, rfl⟩)
    have eb := cell_kept hcb (grownBy_putObj' _ D (.deferred none)) (fun r e => by cases e; exact ⟨_, hK, rfl⟩)
    refine ⟨.tuple #[.int .i64 (nm y).2, .bool true], ?_, ?_, hB.trans (belowK_b (w := w) (Nat.le_refl _) W D _ _ (by simp at hD; omega) hK rfl rfl)⟩
    · simp [results, Tryf.f10, go_sem, e3, eb]
    · rw [whoL_some (pre := pre'.map nm) (y := nm y) (by obtain ⟨r, e⟩ := hpre; exact ⟨r.map nm, by rw [← e]; simp⟩) (by intro z hz; obtain ⟨q, hq, rfl⟩ := List.mem_map.1 hz; exact h1 q hq) h2]; rfl
end Go.Proofs.YtlfmlbkpkkegpaaFmt.Con
