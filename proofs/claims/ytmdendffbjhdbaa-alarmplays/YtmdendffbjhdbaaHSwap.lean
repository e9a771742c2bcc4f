/- swap. -/
import Derived.Test.YtmdendffbjhdbaaHSwp
import Derived.BigRegion
namespace Go.Proofs.Ytmdendffbjhdbaa.Con
open Go.RowKit Go.Proofs.Ytmdendffbjhdbaa.Hq
set_option linter.unusedVariables false
theorem swap_mid {W W2 : World} {hb mb r n cap i j : Nat} {most : Int} {g : Bool} {l : List It} {x0 x1 y0 y1 : Int} (h : Hp W hb mb most g (.slice (some ⟨r, 0, none⟩) n cap) l) (hn : l.length = n) (hi : i < n) (hj : j < n)
    (hx0 : (at' l i).1 = x0) (hx1 : (at' l i).2 = x1) (hy0 : (at' l j).1 = y0) (hy1 : (at' l j).2 = y1)
    (hW : W2 = ((((W.setCell ⟨r, i * 2, none⟩ (.int .i64 y0)).setCell ⟨r, i * 2 + 1, none⟩ (.int .i64 y1)).setCell ⟨r, j * 2, none⟩ (.int .i64 x0)).setCell ⟨r, j * 2 + 1, none⟩ (.int .i64 x1)).drew) :
    W2.cell? ⟨hb, 2, none⟩ = some (.slice (some ⟨r, 0, none⟩) n cap) ∧ W2.cell? ⟨hb, 3, none⟩ = some (.map (some mb)) ∧ (in64 y0 ∧ in64 x0) ∧ W2.cell? ⟨r, i * 2, none⟩ = some (.int .i64 y0) ∧ W2.cell? ⟨r, j * 2, none⟩ = some (.int .i64 x0) ∧
      Hid (W.grownBy W2 (some r)) ∧ Hid (Row W2 (.slice (some ⟨r, 0, none⟩) n cap) (swp l i j)) ∧ Hid (Mp 3 W2.drew mb n (pos l)) := by
  have hW' : W2 = swapW W r i j l := by rw [hW]; unfold swapW; rw [hx0, hx1, hy0, hy1]
  subst hn
  have hG := swapW_grown W r i j l
  have hR := swapW_row h.row hi hj
  rw [← hW'] at hG hR
  have hne : some hb ≠ some r := fun e => h.row_hb (by simp [Value.ownBlock]; exact (Option.some.injEq _ _ ▸ e).symm)
  have hnm : some mb ≠ some r := fun e => h.row_mb (by simp [Value.ownBlock]; exact (Option.some.injEq _ _ ▸ e).symm)
  obtain ⟨_, _, c2, c3⟩ := h.cells
  obtain ⟨r', cap', cur, e, hg, _, _, _, hc⟩ := hR.form (by rw [swp_length]; omega)
  simp at e
  obtain ⟨rfl, _, rfl⟩ := e
  have A := fun k => at_swp l i j k hi hj
  refine ⟨hG.cell c2 hne, hG.cell c3 hne, ⟨hy0 ▸ (h.fit _ (at_mem hj)).1, hx0 ▸ (h.fit _ (at_mem hi)).1⟩, ?_, ?_, hide hG, hide hR, hide (h.map.kept (hG.block mb h.map.lt hnm))⟩
  · rw [cell_of_row W2 r _ _ _ _ hg, hc _ (by rw [swp_length]; omega)]
    unfold cellv
    rw [if_pos (by omega), show i * 2 / 2 = i by omega, A]
    by_cases e : i = j
    · subst e; rw [if_pos rfl, hy0]
    · rw [if_neg e, if_pos rfl, hy0]
  · rw [cell_of_row W2 r _ _ _ _ hg, hc _ (by rw [swp_length]; omega)]
    unfold cellv
    rw [if_pos (by omega), show j * 2 / 2 = j by omega, A, if_pos rfl, hx0]
theorem swap_fin {W W2 W3 W4 : World} {hb mb r n cap i j : Nat} {most : Int} {g : Bool} {l : List It} {x0 y0 : Int} (h : Hp W hb mb most g (.slice (some ⟨r, 0, none⟩) n cap) l) (hn : l.length = n) (hi : i < n) (hj : j < n)
    (hx0 : (at' l i).1 = x0) (hy0 : (at' l j).1 = y0) (hG : W.grownBy W2 (some r)) (hR : Row W2 (.slice (some ⟨r, 0, none⟩) n cap) (swp l i j)) (h3 : W2.drew.grownBy W3 (some mb)) (h4 : W3.drew.grownBy W4 (some mb))
    (hm : Mp 3 W4 mb (if (upd (pos l) y0 (some (i : Int)) x0).isSome then (if (pos l y0).isSome then n else n + 1) else (if (pos l y0).isSome then n else n + 1) + 1) (upd (upd (pos l) y0 (some (i : Int))) x0 (some (j : Int)))) :
    Hp W4 hb mb most g (.slice (some ⟨r, 0, none⟩) n cap) (swp l i j) ∧ Turn W W4 hb mb (.slice (some ⟨r, 0, none⟩) n cap) (.slice (some ⟨r, 0, none⟩) n cap) := by
  subst hn; subst hx0; subst hy0
  have e1 : pos l (at' l j).1 = some (j : Int) := pos_some h.ids hj
  have e2 : (upd (pos l) (at' l j).1 (some (i : Int)) (at' l i).1).isSome = true := by
    unfold upd; split
    · rfl
    · rw [pos_some h.ids hi]; rfl
  rw [e2, e1] at hm
  simp only [Option.isSome_some, if_true] at hm
  have hne : some hb ≠ some r := fun e => h.row_hb (by simpa [Value.ownBlock] using e.symm)
  have hnm : some mb ≠ some r := fun e => h.row_mb (by simpa [Value.ownBlock] using e.symm)
  have hnb : some hb ≠ some mb := fun e => h.ne (by simpa using e.symm)
  have blk : ∀ k, k < W.heap.size → some k ≠ some r → some k ≠ some mb → W4.heap[k]? = W.heap[k]? := by
    intro k hk k1 k2
    have s2 : W.heap.size ≤ W2.drew.heap.size := hG.size
    have s3 : W2.drew.heap.size ≤ W3.drew.heap.size := h3.size
    exact (h4.block k (by omega) k2).trans ((h3.block k (by omega) k2).trans (hG.block k hk k1))
  have hsw := swp_length l i j
  refine ⟨⟨(blk hb h.lt hne hnb).trans h.str, ?_, ?_, h.ids.perm (swp_perm l i j hi hj), fun x hx => h.fit x ((swp_perm l i j hi hj).mem_iff.1 hx)⟩, ⟨?_, ?_, ?_, ?_, ?_, fun _ e => .inl e⟩⟩
  · refine hR.kept fun k hk => ?_
    have hlt := (hR.blk hk).1
    have hkr : k = r := by simpa [Value.ownBlock] using hk.symm
    have hkm : some k ≠ some mb := fun e => hnm (by rw [← e, hkr])
    exact (h4.block k (by have : W2.drew.heap.size ≤ W3.drew.heap.size := h3.size; show k < W3.drew.heap.size; have : W2.drew.heap.size = W2.heap.size := rfl; omega) hkm).trans (h3.block k hlt hkm)
  · rw [hsw]
    exact hm.congr fun x _ => pos_swp h.ids hi hj x
  · exact h4.os.trans (h3.os.trans hG.os)
  · exact h4.tape.trans (h3.tape.trans hG.tape)
  · exact h4.output.trans (h3.output.trans hG.output)
  · have s2 : W.heap.size ≤ W2.drew.heap.size := hG.size
    have s3 : W2.drew.heap.size ≤ W3.drew.heap.size := h3.size
    have s4 : W3.drew.heap.size ≤ W4.heap.size := h4.size
    omega
  · intro k hk _ k2 k3
    exact blk k hk (by simpa [Value.ownBlock] using k3) (by simpa using k2)
set_option maxHeartbeats 8000000 in
theorem swap_any {W : World} {hb mb : Nat} {most : Int} {g : Bool} {v : Value} {l : List It} (h : Hp W hb mb most g v l) (i j : Nat) (hi : i < l.length) (hj : j < l.length) (hl : l.length ≤ 1024) :
    Calls Try.prog 44 #[.pointer (some ⟨hb, 0, none⟩), .int .i64 i, .int .i64 j] W fun e w' => e = .returned (.tuple #[]) ∧ Hp w' hb mb most g v (swp l i j) ∧ Turn W w' hb mb v v := by
  obtain ⟨r, cap, rfl, hn, hm⟩ := h.form (by omega)
  obtain ⟨_, hg, c2, c3⟩ := h.cells
  obtain ⟨a0, a1, fa0, fa1⟩ := h.item rfl i hi
  obtain ⟨b0, b1, fb0, fb1⟩ := h.item rfl j hj
  have i1 : (i : Int) < (l.length : Int) := by omega
  have j1 : (j : Int) < (l.length : Int) := by omega
  have hne : r ≠ hb := fun e => h.row_hb (by simp [Value.ownBlock, e])
  have hne' : hb ≠ r := fun e => hne e.symm
  have H := hide h
  clear h
  generalize hx0 : (at' l i).1 = x0 at *
  generalize hx1 : (at' l i).2 = x1 at *
  generalize hy0 : (at' l j).1 = y0 at *
  generalize hy1 : (at' l j).2 = y1 at *
  generalize hnn : l.length = n at *
  obtain ⟨z0, hz0⟩ := cell?_setCell_some (w := W) (p := ⟨r, i * 2, none⟩) (x := .int .i64 y0) (q := ⟨r, j * 2, none⟩) (v := .int .i64 y0) b0
  obtain ⟨z1, hz1⟩ := cell?_setCell_some (w := W) (p := ⟨r, i * 2, none⟩) (x := .int .i64 y0) (q := ⟨r, j * 2 + 1, none⟩) (v := .int .i64 y1) b1
  obtain ⟨z2, hz2⟩ := cell?_setCell_some (w := W) (p := ⟨r, i * 2 + 1, none⟩) (x := .int .i64 y1) (q := ⟨r, j * 2 + 1, none⟩) (v := .int .i64 y1) b1
  obtain ⟨z3, hz3⟩ := cell?_setCell_some (w := W.setCell ⟨r, i * 2, none⟩ (.int .i64 y0)) (p := ⟨r, i * 2 + 1, none⟩) (x := .int .i64 y1) (q := ⟨r, j * 2 + 1, none⟩) (v := z1) hz1
  go_enter Try.func44, Try.ntmps44
  go_wp2
  go_region
  go_wp2
  clear hz0 hz1 hz2 hz3 a0 a1 b0 b1 fa0 fa1 fb0 fb1
  generalize hW2 : ((((W.setCell ⟨r, i * 2, none⟩ (.int .i64 y0)).setCell ⟨r, i * 2 + 1, none⟩ (.int .i64 y1)).setCell ⟨r, j * 2, none⟩ (.int .i64 x0)).setCell ⟨r, j * 2 + 1, none⟩ (.int .i64 x1)).drew = W2
  obtain ⟨k2, k3, kr, d0, e0, HG, HR, HM⟩ := swap_mid H.out hnn hi hj hx0 hx1 hy0 hy1 hW2.symm
  obtain ⟨W3, hrun, hm3, hg3⟩ := HM.out.put underM underI (by show n < maxLen; unfold maxLen; omega) (c := (i : Int)) kr.1 ((in64_iff _).2 (by omega))
  have hnb : some hb ≠ some mb := fun e => H.out.ne (by simpa using e.symm)
  have hnr : some r ≠ some mb := fun e => H.out.row_mb (by simpa [Value.ownBlock] using e)
  have f2 : W3.cell? ⟨hb, 2, none⟩ = some (.slice (some ⟨r, 0, none⟩) n cap) := hg3.cell k2 hnb
  have f3 : W3.cell? ⟨hb, 3, none⟩ = some (.map (some mb)) := hg3.cell k3 hnb
  have f4 : W3.cell? ⟨r, i * 2, none⟩ = some (.int .i64 y0) := hg3.cell d0 hnr
  have f5 : W3.cell? ⟨r, j * 2, none⟩ = some (.int .i64 x0) := hg3.cell e0 hnr
  have Hg3 := hide hg3
  have Hm3 := hide hm3
  clear hg3 hm3 hnb hnr
  go_region_held3 (fun w' => w'.cell? ⟨hb, 2, none⟩ = some (.slice (some ⟨r, 0, none⟩) n cap) ∧ w'.cell? ⟨hb, 3, none⟩ = some (.map (some mb)) ∧ w'.cell? ⟨r, i * 2, none⟩ = some (.int .i64 y0)) (go_keep) (fail)
  go_wp2
  obtain ⟨W4, hrun4, hm4, hg4⟩ := (show Mp 3 W3.drew mb _ _ from Hm3.out).put underM underI (by show _ < maxLen; unfold maxLen; split <;> omega) (c := (j : Int)) kr.2 ((in64_iff _).2 (by omega))
  have hnb : some hb ≠ some mb := fun e => H.out.ne (by simpa using e.symm)
  have hnr : some r ≠ some mb := fun e => H.out.row_mb (by simpa [Value.ownBlock] using e)
  have g2 : W4.cell? ⟨hb, 2, none⟩ = some (.slice (some ⟨r, 0, none⟩) n cap) := hg4.cell f2 hnb
  have g3 : W4.cell? ⟨hb, 3, none⟩ = some (.map (some mb)) := hg4.cell f3 hnb
  have g5 : W4.cell? ⟨r, j * 2, none⟩ = some (.int .i64 x0) := hg4.cell f5 hnr
  have Hg4 := hide hg4
  have Hm4 := hide hm4
  clear hg4 hm4 hnb hnr k2 k3 d0 e0 hrun
  go_region_held3 (fun w' => w'.cell? ⟨hb, 2, none⟩ = some (.slice (some ⟨r, 0, none⟩) n cap) ∧ w'.cell? ⟨hb, 3, none⟩ = some (.map (some mb)) ∧ w'.cell? ⟨r, j * 2, none⟩ = some (.int .i64 x0)) (go_keep) (fail)
  go_wp2
  go_end0
  exact ⟨rfl, swap_fin H.out hnn hi hj hx0 hy0 HG.out HR.out Hg3.out Hg4.out Hm4.out⟩
end Go.Proofs.Ytmdendffbjhdbaa.Con
