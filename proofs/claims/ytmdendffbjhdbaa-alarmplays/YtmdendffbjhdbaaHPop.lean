/- Pop. -/
import Derived.Test.YtmdendffbjhdbaaHOps
namespace Go.Proofs.Ytmdendffbjhdbaa.Con
open Go.RowKit Go.Proofs.Ytmdendffbjhdbaa.Hq
set_option linter.unusedVariables false
set_option linter.unusedSimpArgs false
section
variable {W : World} {hb mb : Nat} {most : Int} {g : Bool} {v : Value} {l : List It}
theorem pop_none (h : HQ W hb mb most g v l) (hl : l = []) :
    Calls Try.prog 36 #[.pointer (some ⟨hb, 0, none⟩)] W fun e w' => e = .returned (.tuple #[.agg #[.int .i64 0, .int .i64 0], .bool false]) ∧ Below W.heap.size W w' := by
  subst hl
  have hbl := h.hp.lt
  have TP := hide (fun W' (hB : Below W.heap.size W W') => top_any (h.below hB))
  go_enter Try.func36, Try.ntmps36
  go_wp2_with (go_at_call 28; refine (TP.out _ ((Below.refl _ _).alloc (Nat.le_refl _) _)).mono ?_; rintro e w1 ⟨rfl, hB⟩; rw [show decide (0 < ([] : List It).length) = false from rfl, show at' [] 0 = (0, 0) from rfl]; obtain ⟨hcl, hfr⟩ := bcell hB; have hz : W.heap.size < w1.heap.size := (by have := hB.size; simp at this; omega))
  refine bodyPost_ret (v := .tuple #[.agg #[.int .i64 0, .int .i64 0], .bool false]) (by simp [results, Try.results36, go_sem, hcl, hz]) rfl ⟨rfl, ?_⟩
  exact ((((Below.refl _ _).alloc (Nat.le_refl _) _).trans (hB.mono (by simp))).setCell (by simp) _ |>.setCell (by simp) _).alloc (by simp; omega) _
theorem HQ.setNew {w : World} {B o : Nat} {u : Value} (h : HQ w hb mb most g v l) (h1 : hb ≠ B) (h2 : mb ≠ B) (h3 : v.ownBlock ≠ some B) : HQ (w.setCell ⟨B, o, none⟩ u) hb mb most g v l :=
  ⟨h.hp.kept fun k _ hk => heap_setCell_other w _ k _ (by
    rcases hk with rfl | rfl | hk
    · exact h1
    · exact h2
    · rintro rfl; exact h3 hk), h.heap, h.room, h.lo, h.hi⟩
theorem Turn.setNew {w : World} {B o : Nat} {u v' : Value} (h : Turn W w hb mb v v') (hB : W.heap.size ≤ B) : Turn W (w.setCell ⟨B, o, none⟩ u) hb mb v v' :=
  ⟨h.os, h.tape, h.output, by simpa using h.size, fun k hk k1 k2 k3 => (heap_setCell_other w _ k _ (by intro e; have e' : k = B := e; omega)).trans (h.block k hk k1 k2 k3), h.own⟩
theorem HQ.far {w2 w3 : World} {v' : Value} {b : Nat} (h : HQ W hb mb most g v l) (hT : Turn w2 w3 hb mb v v') (hb1 : W.heap.size ≤ b) (hb2 : b < w2.heap.size) : w3.heap[b]? = w2.heap[b]? :=
  hT.block b hb2 (by have := h.hp.lt; omega) (by have := h.hp.map.lt; omega) (fun e => by have := (h.hp.row.blk e.symm).1; omega)
def PopPost (W : World) (hb mb : Nat) (most : Int) (g : Bool) (v : Value) (l : List It) (e : Ending) (w' : World) : Prop :=
  e = .returned (.tuple #[.agg #[.int .i64 (at' l 0).1, .int .i64 (at' l 0).2], .bool true]) ∧ ∃ (v' : Value) (l' : List It), HQ w' hb mb most g v' l' ∧ (at' l 0 :: l').Perm l ∧ Turn W w' hb mb v v'
set_option maxHeartbeats 1600000 in
theorem pop_ok (h : HQ W hb mb most g v l) (hl : 0 < l.length) :
    Calls Try.prog 36 #[.pointer (some ⟨hb, 0, none⟩)] W fun e w' => PopPost W hb mb most g v l e w' := by
  have hbl := h.hp.lt
  have TP := hide (fun W' (hB : Below W.heap.size W W') => top_any (h.below hB))
  have TK := hide (fun W' (hB : Below W.heap.size W W') => takeOut_any (h.below hB).hp h.heap 0 hl h.len)
  have HD := hide (decide_eq_true hl)
  have H := hide h
  clear h
  have X0 : ∃ x, x = (at' l 0).1 := ⟨_, rfl⟩
  have Y0 : ∃ y, y = (at' l 0).2 := ⟨_, rfl⟩
  obtain ⟨x, hx⟩ := X0
  obtain ⟨y, hy⟩ := Y0
  rw [← hx, ← hy] at TP
  have HX := hide hx
  have HY := hide hy
  clear hx hy
  go_enter Try.func36, Try.ntmps36
  go_wp2_with (first
    | (go_at_call 28; refine (TP.out _ ((Below.refl _ _).alloc (Nat.le_refl _) _)).mono ?_; rintro e w1 ⟨rfl, hB⟩; rw [HD.out]; obtain ⟨hcl, hfr⟩ := bcell hB; have hz : W.heap.size < w1.heap.size := (by have := hB.size; simp at this; omega); have HB := hide hB; clear hB))
  have HB2 : Hid (Below W.heap.size W (w1.alloc (.cells #[.int .i64 x, .int .i64 y] 63))) := hide ((((Below.refl _ _).alloc (Nat.le_refl _) _).trans (HB.out.mono (by simp))).alloc (by omega) _)
  refine (TK.out _ HB2.out).mono ?_
  rintro e w3 ⟨rfl, l', v', k1, k2, k3, k4⟩
  have q0 := (H.out.far k4 (Nat.le_refl _) (by simp; omega)).trans ((Below.heap_alloc w1 _ _ hz).trans ((HB.out.block W.heap.size (by simp)).trans (heap_alloc_new W _)))
  have q1 := (H.out.far (b := w1.heap.size) k4 (by omega) (by simp)).trans (heap_alloc_new w1 _)
  have c0 : w3.cell? ⟨W.heap.size, 0, none⟩ = some (.int .i64 0) := by rw [cell_of_row w3 _ _ _ _ _ q0]; rfl
  have c1 : w3.cell? ⟨W.heap.size, 1, none⟩ = some (.int .i64 0) := by rw [cell_of_row w3 _ _ _ _ _ q0]; rfl
  have c2 : w3.cell? ⟨w1.heap.size, 0, none⟩ = some (.int .i64 x) := by rw [cell_of_row w3 _ _ _ _ _ q1]; rfl
  have c3 : w3.cell? ⟨w1.heap.size, 1, none⟩ = some (.int .i64 y) := by rw [cell_of_row w3 _ _ _ _ _ q1]; rfl
  have f0 : w3.frozen? ⟨W.heap.size, 0, none⟩ = false := by simp [World.frozen?, q0]
  have f1 : w3.frozen? ⟨W.heap.size, 1, none⟩ = false := by simp [World.frozen?, q0]
  have K1 := hide k1
  have K2 := hide k2
  have K3 := hide k3
  have K4 := hide k4
  clear k1 k2 k3 k4 q0 q1 hcl hfr
  go_wp2
  refine bodyPost_ret (v := .tuple #[.agg #[.int .i64 x, .int .i64 y], .bool true]) (by simp [results, Try.results36, go_sem, c0, c1]) rfl ?_
  unfold PopPost
  refine ⟨by rw [HX.out, HY.out], v', l', ?_, K1.out, ?_⟩
  · have h1 : hb ≠ W.heap.size := by omega
    have h2 : mb ≠ W.heap.size := by have := H.out.hp.map.lt; omega
    have h3 : v'.ownBlock ≠ some W.heap.size := by
      intro e
      rcases K4.out.own _ e with e' | e'
      · have := (H.out.hp.row.blk e').1; omega
      · simp at e'; omega
    have hq : HQ w3 hb mb most g v' l' := ⟨K3.out, K2.out, by have := K1.out.length_eq; have := H.out.room; simp at *; omega, H.out.lo, H.out.hi⟩
    exact (hq.setNew h1 h2 h3).setNew h1 h2 h3
  · exact (((Turn.below HB2.out hb mb v).trans K4.out).setNew (Nat.le_refl _)).setNew (Nat.le_refl _)
end
end Go.Proofs.Ytmdendffbjhdbaa.Con
