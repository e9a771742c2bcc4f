/- Put; Place; takeOut. -/
import Derived.Test.YtndmmhikhfndaaaQCon
namespace Go.Proofs.Ytndmmhikhfndaaa.Con
open Go.RowKit
set_option linter.unusedVariables false
set_option linter.unusedSimpArgs false
attribute [local go_sem ↓] Go.wp_at_zero Go.wp_at_succ
section
variable {W : World} {B fb m : Nat} {v : Value} {xs : List Int}
theorem put_full (h : Fi W B fb m v xs) (x : Int) (hf : xs.length = m) :
    Calls Try.prog 18 #[.pointer (some ⟨fb, 0, none⟩), .int .i64 x] W fun e w' => e = .returned (.bool false) ∧ Below W.heap.size W w' := by
  obtain ⟨c0, c1, z1⟩ := h.cells
  obtain ⟨p, c, rfl⟩ := h.row.form
  obtain ⟨n, hn⟩ : ∃ n, xs.length = n := ⟨_, rfl⟩
  rw [hn] at c1 hf
  subst hf
  clear h hn
  go_enter Try.func18, Try.ntmps18
  go_wp2
  go_region
  go_wp2
  go_ret
  exact ⟨rfl, bel_drew (Below.refl _ _)⟩
def PutPost (W : World) (B fb m : Nat) (v : Value) (xs ys : List Int) (e : Ending) (w' : World) : Prop :=
  e = .returned (.bool true) ∧ ∃ v', Fi w' B fb m v' ys ∧ Turn W w' fb v v'
/-- Behind the append: the new row is laid in. -/
theorem put_mid {w1 : World} {v' : Value} {ys : List Int} (h : Fi W B fb m v xs) (hr : IRow B w1 v' ys) (hl : ys.length ≤ m) (hg : W.grownBy w1 v.ownBlock) (ho : v'.ownBlock = v.ownBlock ∨ v'.ownBlock = some (W.heap.size + 1)) :
    (w1.cell? ⟨fb, 1, none⟩ = some v ∧ w1.frozen? ⟨fb, 1, none⟩ = false) ∧ Fi (w1.setCell ⟨fb, 1, none⟩ v') B fb m v' ys ∧ Turn W (w1.setCell ⟨fb, 1, none⟩ v') fb v v' := by
  have hlt := h.lt
  have s1 : w1.heap[fb]? = _ := (hg.block fb hlt (fun e => h.own e.symm)).trans h.str
  have hne : ∀ k, v'.ownBlock = some k → k ≠ fb := by
    rintro k hk rfl
    obtain ⟨cur, hc⟩ := hr.blk hk
    have := s1.symm.trans hc
    simp at this
  refine ⟨⟨?_, ?_⟩, ⟨?_, ?_, h.lo, h.hi, hl, h.past⟩, ⟨hg.os, hg.tape, hg.output, by simpa using hg.size, ?_, ?_⟩⟩
  · rw [cell_of_row w1 fb _ _ _ _ s1]; rfl
  · simp [World.frozen?, s1]
  · rw [heap_setCell_same w1 fb 1 _ _ v' s1]; rfl
  · exact hr.kept fun k hk => heap_setCell_other w1 _ k _ (hne k hk)
  · intro k hk k1 k2
    exact (heap_setCell_other w1 _ k _ k1).trans (hg.block k hk (fun e => k2 e.symm))
  · intro k hk
    rcases ho with e | e
    · exact .inl (e ▸ hk)
    · rw [hk] at e; simp at e; exact .inr (by omega)
theorem put_ok (h : Fi W B fb m v xs) (x : Int) (hf : xs.length < m) :
    Calls Try.prog 18 #[.pointer (some ⟨fb, 0, none⟩), .int .i64 x] W fun e w' => PutPost W B fb m v xs (xs ++ [x]) e w' := by
  obtain ⟨c0, c1, z1⟩ := h.cells
  have hhi := h.hi
  obtain ⟨p, c, hv⟩ := h.row.form
  have H := hide (h.below (bel_drew (Below.refl W.heap.size W)))
  rw [hv] at H
  have V := hide hv
  rw [hv] at c1
  have n1 : ¬ ((m : Int) ≤ (xs.length : Int)) := by omega
  clear h hv
  go_enter Try.func18, Try.ntmps18
  go_wp2
  go_region
  go_wp2_with (at_builtin; refine wpList_iapp (w := W.drew) rfl _ _ rfl B x _ xs rfl rfl (by exact H.out.row) (by exact H.out.base) (by omega) ?_; intro p2 c2 w2 HA; obtain ⟨⟨e1, e2⟩, e3, e4⟩ := put_mid H.out HA.out.1 (by simp; omega) HA.out.2.1 HA.out.2.2; have E3 := hide e3; have E4 := hide e4; clear e3 e4)
  go_ret
  refine ⟨rfl, _, E3.out, ?_⟩
  rw [V.out]
  exact (Turn.below (bel_drew (Below.refl _ _)) _ _).trans E4.out
theorem place_any (h : Fi W B fb m v xs) (x : Int) :
    Calls Try.prog 17 #[.pointer (some ⟨fb, 0, none⟩), .int .i64 x] W fun e w' => e = .returned (.int .i64 (Lib.idxOf xs x)) ∧ w' = W := by
  obtain ⟨c0, c1, z1⟩ := h.cells
  have hhi := h.hi
  have hfit := h.fit
  have IX : ∃ p c, v = .slice p xs.length c ∧ Hid (Calls Try.prog 24 #[.slice p xs.length c, .int .i64 x] W fun e w' => e = .returned (.int .i64 (Lib.idxOf xs x)) ∧ w' = W) := by
    by_cases h0 : 0 < xs.length
    · obtain ⟨g, c, e, g1, g2, g3, g4, gc⟩ := h.row.at h0
      refine ⟨_, c, e, hide ?_⟩
      have := Try.slices_Index_int g 0 xs.length c xs x W (Nat.le_refl _) (by omega) (fun j hj => by rw [Nat.zero_add]; exact gc j hj)
      rwa [List.take_length] at this
    · obtain rfl : xs = [] := List.eq_nil_of_length_eq_zero (by omega)
      obtain ⟨p, c, e⟩ := h.row.form
      exact ⟨p, c, e, hide (Try.slices_Index_int_empty p c x W)⟩
  obtain ⟨p, c, rfl, IX⟩ := IX
  generalize Lib.idxOf xs x = N at *
  clear h
  go_enter Try.func17, Try.ntmps17
  go_wp2_with (go_at_call 24; refine IX.out.mono ?_; rintro e w' ⟨rfl, rfl⟩)
  go_ret
  exact ⟨rfl, rfl⟩
def OutPost (W : World) (B fb m : Nat) (v : Value) (ys : List Int) (w' : World) : Prop := ∃ v', Fi w' B fb m v' ys ∧ Turn W w' fb v v'
theorem out_mid {i g c q : Nat} {zs : List Int} (h : Fi W B fb m (.slice (some ⟨g, 0, none⟩) xs.length c) xs) (hi : i < xs.length) (hz : zs = xs.take i ++ xs.drop (i + 1) ++ List.replicate (i + 1 - i) 0) {w1 : World} (hw : w1 = Sort.putRow (Value.int .i64) (Sort.ahead W q) g 0 zs.toArray) :
    (w1.cell? ⟨fb, 1, none⟩ = some (.slice (some ⟨g, 0, none⟩) xs.length c) ∧ w1.frozen? ⟨fb, 1, none⟩ = false) ∧ Hid (OutPost W B fb m (.slice (some ⟨g, 0, none⟩) xs.length c) (xs.eraseIdx i) (w1.setCell ⟨fb, 1, none⟩ (.slice (some ⟨g, 0, none⟩) (xs.length - (i + 1 - i)) c))) := by
  have hlt := h.lt
  have hgf : g ≠ fb := fun e => h.own (by rw [← e]; rfl)
  have hzl : zs.length = xs.length := by rw [hz]; simp; omega
  have hz1 : zs.take (xs.length - (i + 1 - i)) = xs.eraseIdx i := by
    rw [hz, List.take_append_of_le_length (by simp; omega), List.take_of_length_le (by simp; omega), List.eraseIdx_eq_take_drop_succ]
  have hb : ∀ k, k ≠ g → w1.heap[k]? = W.heap[k]? := by
    intro k hk
    rw [hw]
    simp [Sort.putRow, Sort.mapBlock, Sort.ahead, Array.getElem?_modify, show g ≠ k from fun e => hk e.symm]
  have s1 : w1.heap[fb]? = _ := (hb fb (fun e => hgf e.symm)).trans h.str
  have hsz : w1.heap.size = W.heap.size := by rw [hw]; simp [Sort.putRow, Sort.mapBlock, Sort.ahead]
  have hlen : (xs.eraseIdx i).length = xs.length - (i + 1 - i) := by rw [List.length_eraseIdx, if_pos hi]; omega
  have hrow : IRow B w1 (.slice (some ⟨g, 0, none⟩) (xs.length - (i + 1 - i)) c) (xs.eraseIdx i) := by
    have := Lib.ownsRow_putRow (enc := Value.int .i64) (q := q) (k := xs.length - (i + 1 - i)) h.row (ys := zs) hzl (by omega)
    rw [← hw, hz1] at this
    unfold IRow
    rw [hlen]; exact this
  refine ⟨⟨?_, ?_⟩, hide ⟨.slice (some ⟨g, 0, none⟩) (xs.length - (i + 1 - i)) c, ⟨?_, ?_, h.lo, h.hi, ?_, h.past⟩, ⟨?_, ?_, ?_, ?_, ?_, ?_⟩⟩⟩
  · rw [cell_of_row w1 fb _ _ _ _ s1]; rfl
  · simp [World.frozen?, s1]
  · rw [heap_setCell_same w1 fb 1 _ _ _ s1]; rfl
  · exact hrow.kept fun k hk => heap_setCell_other w1 _ k _ (by simp [Value.ownBlock] at hk; subst hk; exact hgf)
  · have := h.fit; omega
  · rw [hw]; rfl
  · rw [hw]; rfl
  · rw [hw]; rfl
  · simp [hsz]
  · intro k hk k1 k2
    exact (heap_setCell_other w1 _ k _ k1).trans (hb k (fun e => k2 (by rw [e]; rfl)))
  · intro k hk
    exact .inl hk
theorem takeOut_any (h : Fi W B fb m v xs) (i : Nat) (hi : i < xs.length) :
    Calls Try.prog 25 #[.pointer (some ⟨fb, 0, none⟩), .int .i64 (i : Int)] W fun e w' => e = .returned (.tuple #[]) ∧ OutPost W B fb m v (xs.eraseIdx i) w' := by
  obtain ⟨c0, c1, z1⟩ := h.cells
  have hhi := h.hi
  have hfit := h.fit
  obtain ⟨g, c, rfl, g1, g2, g3, g4, gc⟩ := h.row.at (by omega)
  obtain ⟨g', c', e, _, _, _, _, _, hH⟩ := Lib.holds_of_ownsRow (enc := Value.int .i64) (zs := xs) h.row (by simp)
  injection e with e1 _ e2
  injection e1 with e1
  injection e1 with e1
  subst e1
  subst e2
  have DL := hide (Try.slices_Delete_int g 0 c i (i + 1) xs W hH g3 (by unfold maxLen at g4; omega) (by omega) (by omega))
  obtain ⟨zs, hz⟩ : ∃ zs, zs = xs.take i ++ xs.drop (i + 1) ++ List.replicate (i + 1 - i) 0 := ⟨_, rfl⟩
  rw [← hz] at DL
  have MID := hide (fun (q : Nat) (w1 : World) (hw : w1 = Sort.putRow (Value.int .i64) (Sort.ahead W q) g 0 zs.toArray) => out_mid h hi hz hw)
  have hin : (i : Int) + 1 = ((i + 1 : Nat) : Int) := by omega
  rw [← hin] at DL
  generalize xs.length - (i + 1 - i) = N at *
  clear h hH gc hz hin
  go_enter Try.func25, Try.ntmps25
  go_wp2_with (go_at_call 27; refine DL.out.mono ?_; rintro e w1 ⟨rfl, q, hw⟩; obtain ⟨⟨e1, e2⟩, FIN⟩ := MID.out q w1 hw; clear hw)
  go_end0
  exact ⟨rfl, FIN.out⟩
end
end Go.Proofs.Ytndmmhikhfndaaa.Con
