/- takeOut. -/
import Derived.Test.YtmdendffbjhdbaaHSink
namespace Go.Proofs.Ytmdendffbjhdbaa.Con
open Go.RowKit Go.Proofs.Ytmdendffbjhdbaa.Hq
set_option linter.unusedVariables false
theorem pos_take {l : List It} (hd : Ids l) (h0 : 0 < l.length) (x : Int) : pos (l.take (l.length - 1)) x = upd (pos l) (at' l (l.length - 1)).1 none x := by
  have hl : (l.take (l.length - 1)).length = l.length - 1 := by simp
  have hd' : Ids (l.take (l.length - 1)) := by
    unfold Ids at *
    exact List.Nodup.sublist ((List.take_sublist _ l).map _) hd
  unfold upd
  by_cases e : x = (at' l (l.length - 1)).1
  · rw [if_pos e]
    apply pos_none
    intro y hy e'
    obtain ⟨i, hi, rfl⟩ := mem_at hy
    rw [at_take l _ i (by omega)] at e'
    have := hd.inj (i := i) (j := l.length - 1) (by omega) (by omega) (e'.trans e)
    omega
  · rw [if_neg e]
    rcases pos_cases hd x with ⟨k, hk, e', hp⟩ | ⟨hne, hp⟩
    · have hk' : k < l.length - 1 := by
        have : k ≠ l.length - 1 := by rintro rfl; exact e e'.symm
        omega
      have := pos_some hd' (i := k) (by omega)
      rw [at_take l _ k hk', e'] at this
      rw [this, hp]
    · rw [hp]
      exact pos_none fun y hy => hne y (List.mem_of_mem_take hy)
/-- The last one struck off: its place, then the row's length. -/
theorem out_mid {W W2 : World} {hb mb r cap : Nat} {most : Int} {g : Bool} {l : List It} (h : Hp W hb mb most g (.slice (some ⟨r, 0, none⟩) l.length cap) l) (h0 : 0 < l.length)
    (hg : W.drew.grownBy W2 (some mb)) (hm : Mp 3 W2 mb (if (pos l (at' l (l.length - 1)).1).isSome then l.length - 1 else l.length) (upd (pos l) (at' l (l.length - 1)).1 none)) :
    Hp (W2.setCell ⟨hb, 2, none⟩ (.slice (some ⟨r, 0, none⟩) (l.length - 1) cap)) hb mb most g (.slice (some ⟨r, 0, none⟩) (l.length - 1) cap) (l.take (l.length - 1)) ∧
    Turn W (W2.setCell ⟨hb, 2, none⟩ (.slice (some ⟨r, 0, none⟩) (l.length - 1) cap)) hb mb (.slice (some ⟨r, 0, none⟩) l.length cap) (.slice (some ⟨r, 0, none⟩) (l.length - 1) cap) := by
  have hl : (l.take (l.length - 1)).length = l.length - 1 := by simp
  have hnr : some r ≠ some mb := fun e => h.row_mb (by simpa [Value.ownBlock] using e)
  have hrb : r ≠ hb := fun e => h.row_hb (by simp [Value.ownBlock, e])
  have hnb : some hb ≠ some mb := fun e => h.ne (by simpa using e.symm)
  have hs2 : W2.heap[hb]? = _ := (hg.block hb h.lt hnb).trans h.str
  have hs3 := heap_setCell_same W2 hb 2 _ _ (.slice (some ⟨r, 0, none⟩) (l.length - 1) cap) hs2
  rw [pos_some h.ids (show l.length - 1 < l.length by omega)] at hm
  simp only [Option.isSome_some, if_true] at hm
  obtain ⟨r', cap', cur, e, hgr, hn, hmx, hs, hc⟩ := h.row.form h0
  simp at e
  obtain ⟨rfl, rfl⟩ := e
  have hr2 : W2.heap[r]? = _ := (hg.block r (h.row.blk (k := r) rfl).1 hnr).trans hgr
  refine ⟨⟨?_, ?_, ?_, ?_, fun x hx => h.fit x (List.mem_of_mem_take hx)⟩, ⟨hg.os, hg.tape, hg.output, by simpa using hg.size, ?_, fun _ e => .inl (by simpa [Value.ownBlock] using e)⟩⟩
  · rw [hs3]; rfl
  · have := Row.of (W := W2.setCell ⟨hb, 2, none⟩ (.slice (some ⟨r, 0, none⟩) (l.length - 1) cap)) (l := l.take (l.length - 1)) (cap := cap) (g := r) (cur := cur) ((heap_setCell_other W2 _ r _ hrb).trans hr2) (by omega) hmx hs ?_
    · rw [hl] at this; exact this
    · intro j hj
      rw [hc j (by omega)]
      unfold cellv
      rw [at_take l _ (j / 2) (by omega)]
  · rw [hl]
    exact (hm.kept (heap_setCell_other W2 _ mb _ h.ne)).congr fun x _ => pos_take h.ids h0 x
  · have := h.ids
    unfold Ids at *
    exact List.Nodup.sublist ((List.take_sublist _ l).map _) this
  · intro k hk k1 k2 k3
    rw [heap_setCell_other W2 _ k _ k1]
    exact hg.block k hk (by simpa using k2)
set_option maxHeartbeats 4000000 in
theorem takeOut_any {W : World} {hb mb : Nat} {most : Int} {g : Bool} {v : Value} {l : List It} (h : Hp W hb mb most g v l) (hh : Heap g l) (a : Nat) (ha : a < l.length) (hl : l.length ≤ 1024) :
    Calls Try.prog 35 #[.pointer (some ⟨hb, 0, none⟩), .int .i64 a] W fun e w' => e = .returned (.tuple #[]) ∧ ∃ (l' : List It) (v' : Value), (at' l a :: l').Perm l ∧ Heap g l' ∧ Hp w' hb mb most g v' l' ∧ Turn W w' hb mb v v' := by
  obtain ⟨r, cap, rfl, hn, hm⟩ := h.form (by omega)
  obtain ⟨_, hg, c2, c3⟩ := h.cells
  have hsw := hide (swap_any h a (l.length - 1) ha (by omega) hl)
  have hp := hide (out_perm l a ha)
  have hx1 := hide (fun h1 => out_hx hh a h1)
  have hx2 := hide (fun h1 => out_heap hh a ha h1)
  have hA := hide (at_swp l a (l.length - 1) (l.length - 1) ha (by omega))
  have hlen := hide (swp_length l a (l.length - 1))
  clear h hh
  obtain ⟨n, hnn⟩ : ∃ n, l.length - 1 = n := ⟨_, rfl⟩
  rw [hnn] at hsw hp hx1 hx2 hA hlen
  obtain ⟨m, hm'⟩ : ∃ m, swp l a n = m := ⟨_, rfl⟩
  rw [hm'] at hsw hp hx1 hx2 hA hlen
  have e1 : (l.length : Int) - 1 = (n : Int) := by omega
  have hn1 : n < l.length := by omega
  have NN := hide hnn
  clear hnn
  go_enter Try.func35, Try.ntmps35
  go_wp2_with (go_at_call 44; refine hsw.out.mono ?_; rintro e w1 ⟨rfl, hH1, hT1⟩; have HH1 := hide hH1; have HT1 := hide hT1; clear hH1 hT1)
  obtain ⟨_, _, d2, d3⟩ := HH1.out.cells
  obtain ⟨d4, _, _, _⟩ := HH1.out.item (by rw [hlen.out]) n (by rw [hlen.out]; exact hn1)
  have hne0 : 0 < m.length := by rw [hlen.out]; omega
  have hml : m.length - 1 = n := by rw [hlen.out]; exact NN.out
  obtain ⟨W2, hrun, hm2, hg2⟩ := (show Mp 3 w1.drew mb _ _ from HH1.out.map).del underM 0 (HH1.out.fit _ (at_mem (show n < m.length by omega))).1
  have hnb : some hb ≠ some mb := fun e => HH1.out.ne (by simpa using e.symm)
  have hnr : some r ≠ some mb := fun e => HH1.out.row_mb (by simpa [Value.ownBlock] using e)
  have f2 : W2.cell? ⟨hb, 2, none⟩ = some (.slice (some ⟨r, 0, none⟩) l.length cap) := hg2.cell d2 hnb
  have f3 : W2.cell? ⟨hb, 3, none⟩ = some (.map (some mb)) := hg2.cell d3 hnb
  have f4 : W2.cell? ⟨r, n * 2, none⟩ = some (.int .i64 (at' m n).1) := hg2.cell d4 hnr
  have z2 : W2.frozen? ⟨hb, 2, none⟩ = false := by
    have := (hg2.block hb HH1.out.lt hnb).trans HH1.out.str
    simp [World.frozen?, this]
  have HO := hide (out_mid (W := w1) (W2 := W2) (by rw [hlen.out]; exact HH1.out) hne0 hg2 (by rw [hml]; rw [hml] at hm2; exact hm2))
  rw [hml, hlen.out] at HO
  clear hm2 hg2 hnb hnr
  have n1 : (n : Int) < (l.length : Int) := by omega
  have n2 : (n : Int) ≤ (cap : Int) := by omega
  have me := hide (fun w' v' (h' : Hp w' hb mb most g v' (m.take n)) => mend_any h' a)
  generalize (at' m n).1 = x at *
  go_region_held3 (fun w' => w'.cell? ⟨hb, 2, none⟩ = some (.slice (some ⟨r, 0, none⟩) l.length cap) ∧ w'.cell? ⟨hb, 3, none⟩ = some (.map (some mb)) ∧ w'.cell? ⟨r, n * 2, none⟩ = some (.int .i64 x)) (go_keep) (fail)
  clear hrun d2 d3 d4 c2 c3
  by_cases han : a < n
  · have han' : (a : Int) < (n : Int) := by omega
    have hln : (m.take n).length = n := by simp; omega
    go_wp2_with (go_at_call 42; refine (me.out _ _ HO.out.1 (by omega) (by omega) (hx1.out han)).mono ?_; rintro e w2 ⟨rfl, m', k1, k2, k3, k4, k5⟩)
    go_end0
    exact ⟨rfl, m', _, (k2.cons _).trans hp.out, k3, k4, HT1.out.trans (HO.out.2.trans k5)⟩
  · have han' : ¬ (a : Int) < (n : Int) := by omega
    go_wp2
    go_end0
    exact ⟨rfl, m.take n, hp.out, hx2.out (by omega), _, HO.out.1, HT1.out.trans HO.out.2⟩
end Go.Proofs.Ytmdendffbjhdbaa.Con
