/- The reference's heap: one taken out. -/
import Derived.Test.YtocgeplpehioeaaRfI
namespace Go.Proofs.Ytocgeplpehioeaa.Con
open Go.RowKit Go.Proofs.Ytocgeplpehioeaa.Hq
set_option linter.unusedVariables false
set_option linter.unusedSimpArgs false
attribute [local go_sem ↓] Go.wp_at_zero Go.wp_at_succ
theorem rdrop_none {W : World} {rb : Nat} {most : Int} {g : Bool} {v : Value} {L : List It} (h : Rf W rb most g v L) (hd : Ids L) (id : Int) (hth : ∀ y ∈ L, y.1 ≠ id) :
    Calls Try.prog 21 #[.pointer (some ⟨rb, 0, none⟩), .int .i64 id] W fun e w' => e = .returned (.bool false) ∧ w' = W := by
  have FI := hide (rfind_any h hd id)
  rw [pos_none hth] at FI
  simp only [Option.getD_none] at FI
  go_enter Try.func21, Try.ntmps21
  go_wp2_with (go_at_call 22; refine FI.out.mono ?_; rintro e w1 ⟨rfl, rfl⟩)
  go_ret
  exact ⟨rfl, rfl⟩
def RDropPost (W : World) (rb : Nat) (most : Int) (g : Bool) (L : List It) (k : Nat) (e : Ending) (w' : World) : Prop :=
  e = .returned (.bool true) ∧ ∃ v' L', Rf w' rb most g v' L' ∧ RT W w' rb v' ∧ (at' L k :: L').Perm L ∧ (Asc g L → Asc g L')
theorem perm_cut (L : List It) (k : Nat) (h : k < L.length) : (at' L k :: (L.take k ++ L.drop (k + 1))).Perm L := by
  have hd : L.drop k = at' L k :: L.drop (k + 1) := by
    rw [List.drop_eq_getElem_cons h]
    congr 1
    have := at_eq h
    rw [List.getElem?_eq_getElem h] at this
    simpa using this
  refine (List.perm_middle (a := at' L k) (l₁ := L.take k) (l₂ := L.drop (k + 1))).symm.trans ?_
  rw [← hd, List.take_append_drop]
theorem asc_cut {g : Bool} {L : List It} (k : Nat) (h : Asc g L) : Asc g (L.take k ++ L.drop (k + 1)) := by
  unfold Asc at *
  refine List.Pairwise.sublist ?_ h
  have : (L.take k ++ L.drop (k + 1)).Sublist (L.take k ++ L.drop k) := List.Sublist.append (List.Sublist.refl _) (by rw [← List.drop_drop]; exact List.drop_sublist _ _)
  rwa [List.take_append_drop] at this
set_option maxRecDepth 100000 in
set_option maxHeartbeats 4000000 in
theorem rdrop_some {W : World} {rb : Nat} {most : Int} {g : Bool} {v : Value} {L : List It} (h : Rf W rb most g v L) (hd : Ids L) (id : Int) (k : Nat) (hkl : k < L.length) (hid : (at' L k).1 = id) :
    Calls Try.prog 21 #[.pointer (some ⟨rb, 0, none⟩), .int .i64 id] W fun e w' => RDropPost W rb most g L k e w' := by
  have FI := hide (rfind_any h hd id)
  rw [← hid, pos_some hd hkl, hid] at FI
  simp only [Option.getD_some] at FI
  obtain ⟨p, cap, rfl, hn, hm⟩ := h.form
  obtain ⟨_, _, c2⟩ := h.cells
  have rl := h.lt
  have f2 := h.frozen 2
  have hl := h.len
  obtain ⟨i0, hi, hz⟩ : ∃ i, Try.prog.info? 45 = some i ∧ (i.zero, i.size, i.bytes) = (some (.agg #[.int .i64 0, .int .i64 0]), 2, 16) := by
    have := info45
    rw [Option.map_eq_some_iff] at this
    exact this
  simp only [Prod.mk.injEq] at hz
  obtain ⟨hz0, hz1', hz2⟩ := hz
  obtain ⟨p1, c1, hs1, r1⟩ := h.row.upto 42 45 i0 Try.underlying42 hi hz1' k (by omega)
  obtain ⟨p2, c2', hs2, r2⟩ := h.row.from 42 45 i0 Try.underlying42 hi hz1' (k + 1) (by omega)
  rw [show ((k + 1 : Nat) : Int) = (k : Int) + 1 by omega] at hs2
  have R1 := hide r1
  have R2 := hide r2
  obtain ⟨m, hm'⟩ : ∃ m, L.length - (k + 1) = m := ⟨_, rfl⟩
  obtain ⟨N, hN⟩ : ∃ N, k + m = N := ⟨_, rfl⟩
  rw [hm'] at hs2 R2
  obtain ⟨TK, hTK⟩ : ∃ TK, List.take (k * 2) (flat L) = TK := ⟨_, rfl⟩
  obtain ⟨DK, hDK⟩ : ∃ DK, List.drop ((k + 1) * 2) (flat L) = DK := ⟨_, rfl⟩
  obtain ⟨TK2, hTK2⟩ : ∃ TK2, TK ++ DK = TK2 := ⟨_, rfl⟩
  rw [hTK] at R1
  rw [hDK] at R2
  have ON1 : Hid (∀ u ∈ TK, u.oneCell' = true) := hide (by rw [← hTK]; exact fun u hu => one_flat L u (List.mem_of_mem_take hu))
  have ON2 : Hid (∀ u ∈ DK, u.oneCell' = true) := hide (by rw [← hDK]; exact fun u hu => one_flat L u (List.mem_of_mem_drop hu))
  have SZ1 : Hid (k ≤ maxLen ∧ k * 16 ≤ 140737488355328) := hide (by unfold maxLen; omega)
  have SZ2 : Hid (N ≤ maxLen ∧ N * 16 ≤ 140737488355328) := hide (by unfold maxLen; omega)
  have TE2 := hide hTK2
  have KM : Hid (k + m = N) := hide hN
  have KS : Hid (∀ w' : World, Below W.heap.size W w' → w'.cell? ⟨rb, 2, none⟩ = some (.slice p L.length cap) ∧ w'.frozen? ⟨rb, 2, none⟩ = false) := hide (fun w' hB => ⟨(hB.cell (p := ⟨rb, 2, none⟩) rl).trans c2, (hB.frozen (p := ⟨rb, 2, none⟩) rl).trans f2⟩)
  have FL : Hid (TK2 = flat (L.take k ++ L.drop (k + 1))) := hide (by
    rw [← hTK2, ← hTK, ← hDK, flat_take L k (by omega), flat_drop L (k + 1) (by omega), flat_app])
  have FIN : Hid (∀ q d w3, Below W.heap.size W w3 → w3.ownsRow W.heap.size 45 2 (.slice q N d) N TK2 → RDropPost W rb most g L k (.returned (.bool true)) (w3.setCell ⟨rb, 2, none⟩ (.slice q N d))) := hide (fun q d w3 hB ho => by
    rw [FL.out] at ho
    obtain ⟨f1, f2⟩ := rf_store h hB ho (by simp; omega) (by omega)
    exact ⟨rfl, _, _, f1, f2, perm_cut L k hkl, asc_cut k⟩)
  have k1 : (k : Int) ≤ 1024 := by omega
  have k0 : ¬ (k : Int) < 0 := by omega
  have kw : IntKind.i64.wrap ((k : Int) + 1) = (k : Int) + 1 := by have := wrapN (k + 1) (by omega); rwa [show ((k + 1 : Nat) : Int) = (k : Int) + 1 by omega] at this
  clear h hd hid hkl r1 r2 hm' hN hTK hDK hTK2 hn hm hl
  go_enter Try.func21, Try.ntmps21
  go_wp2_with (go_at_call 22; refine FI.out.mono ?_; rintro e w1 ⟨rfl, hw⟩; have hw2 := hw.symm; clear hw; subst hw2)
  refine wp_region_noPanic ?_
  refine OrdT.region_T (S := fun w' => w'.cell? ⟨rb, 2, none⟩ = some (.slice p L.length cap) ∧ w'.frozen? ⟨rb, 2, none⟩ = false) 19 (by kernel_rfl) ?_ (fun hHeld => ?_)
  · exact KS.out _ (bel_drew (Below.refl _ _))
  refine OrdT.AnyT.take (i := 0) (v := ?_) (some 11) (by rfl) (by rfl) (by kernel_rfl) (by kernel_rfl) (by kernel_rfl) (by kernel_rfl) (fun _ _ _ h => h) (Or.inl ⟨by rfl, ?_⟩) (by assumption) ?_
  rotate_left
  · intro w hSw; (try dsimp only at hSw); first | (go_simp; done) | (go_simp; with_reducible rfl)
  (try simp only [Act.put, List.setIfInBounds_toArray, List.set_cons_zero, List.set_cons_succ])
  refine OrdT.AnyT.take (i := 2) (v := ?_) (some 13) (by rfl) (by rfl) (by kernel_rfl) (by kernel_rfl) (by kernel_rfl) (by kernel_rfl) (fun _ _ _ h => h) (Or.inl ⟨by rfl, ?_⟩) (by assumption) ?_
  rotate_left
  · intro w hSw; (try dsimp only at hSw); first | (go_simp; done) | (go_simp; with_reducible rfl)
  (try simp only [Act.put, List.setIfInBounds_toArray, List.set_cons_zero, List.set_cons_succ])
  refine OrdT.AnyT.take (i := 3) (v := ?_) (some 14) (by rfl) (by rfl) (by kernel_rfl) (by kernel_rfl) (by kernel_rfl) (by kernel_rfl) (fun _ _ _ h => h) (Or.inl ⟨by rfl, ?_⟩) (by assumption) ?_
  rotate_left
  · intro w hSw; (try dsimp only at hSw); first | (go_simp; done) | (go_simp; with_reducible rfl)
  (try simp only [Act.put, List.setIfInBounds_toArray, List.set_cons_zero, List.set_cons_succ])
  refine OrdT.AnyT.take (i := 4) (v := ?_) (some 15) (by rfl) (by rfl) (by kernel_rfl) (by kernel_rfl) (by kernel_rfl) (by kernel_rfl) (fun _ _ _ h => h) (Or.inl ⟨by rfl, ?_⟩) (by assumption) ?_
  rotate_left
  · intro w hSw; (try dsimp only at hSw); first | (go_simp; done) | (go_simp; with_reducible rfl)
  (try simp only [Act.put, List.setIfInBounds_toArray, List.set_cons_zero, List.set_cons_succ])
  refine OrdT.AnyT.take (i := 5) (v := ?_) (some 16) (by rfl) (by rfl) (by kernel_rfl) (by kernel_rfl) (by kernel_rfl) (by kernel_rfl) (fun _ _ _ h => h) (Or.inl ⟨by rfl, ?_⟩) (by assumption) ?_
  rotate_left
  · intro w hSw; (try dsimp only at hSw); first | (go_simp; done) | (go_simp; with_reducible rfl)
  (try simp only [Act.put, List.setIfInBounds_toArray, List.set_cons_zero, List.set_cons_succ])
  refine OrdT.AnyT.take (i := 6) (v := ?_) (some 17) (by rfl) (by rfl) (by kernel_rfl) (by kernel_rfl) (by kernel_rfl) (by kernel_rfl) (fun _ _ _ h => h) (Or.inl ⟨by rfl, ?_⟩) (by assumption) ?_
  rotate_left
  · intro w hSw; (try dsimp only at hSw); first | (go_simp; done) | (go_simp; with_reducible rfl)
  (try simp only [Act.put, List.setIfInBounds_toArray, List.set_cons_zero, List.set_cons_succ])
  refine OrdT.AnyT.take (i := 7) (v := ?_) (some 18) (by rfl) (by rfl) (by kernel_rfl) (by kernel_rfl) (by kernel_rfl) (by kernel_rfl) (fun _ _ _ h => h) (Or.inl ⟨by rfl, ?_⟩) (by assumption) ?_
  rotate_left
  · intro w hSw; (try dsimp only at hSw); first | (go_simp; done) | (go_simp; with_reducible rfl)
  (try simp only [Act.put, List.setIfInBounds_toArray, List.set_cons_zero, List.set_cons_succ])
  refine OrdT.AnyT.take (i := 9) (v := ?_) (some 20) (by rfl) (by rfl) (by kernel_rfl) (by kernel_rfl) (by kernel_rfl) (by kernel_rfl) (fun _ _ _ h => h) (Or.inl ⟨by rfl, ?_⟩) (by assumption) ?_
  rotate_left
  · intro w hSw; (try dsimp only at hSw); first | (go_simp; done) | (go_simp; with_reducible rfl)
  (try simp only [Act.put, List.setIfInBounds_toArray, List.set_cons_zero, List.set_cons_succ])
  refine OrdT.AnyT.take (i := 10) (v := ?_) (some 21) (by rfl) (by rfl) (by kernel_rfl) (by kernel_rfl) (by kernel_rfl) (by kernel_rfl) (fun _ _ _ h => h) (Or.inl ⟨by rfl, ?_⟩) (by assumption) ?_
  rotate_left
  · intro w hSw; (try dsimp only at hSw); first | (go_simp; done) | (go_simp; with_reducible rfl)
  (try simp only [Act.put, List.setIfInBounds_toArray, List.set_cons_zero, List.set_cons_succ])
  refine OrdT.AnyT.take (i := 11) (v := ?_) (some 22) (by rfl) (by rfl) (by kernel_rfl) (by kernel_rfl) (by kernel_rfl) (by kernel_rfl) (fun _ _ _ h => h) (Or.inl ⟨by rfl, ?_⟩) (by assumption) ?_
  rotate_left
  · intro w hSw; (try dsimp only at hSw); first | (go_simp; done) | (go_simp; with_reducible rfl)
  (try simp only [Act.put, List.setIfInBounds_toArray, List.set_cons_zero, List.set_cons_succ])
  refine OrdT.AnyT.take (i := 12) (v := ?_) (some 23) (by rfl) (by rfl) (by kernel_rfl) (by kernel_rfl) (by kernel_rfl) (by kernel_rfl) (fun _ _ _ h => h) (Or.inl ⟨by rfl, ?_⟩) (by assumption) ?_
  rotate_left
  · intro w hSw; (try dsimp only at hSw); first | (go_simp; done) | (go_simp; with_reducible rfl)
  (try simp only [Act.put, List.setIfInBounds_toArray, List.set_cons_zero, List.set_cons_succ])
  refine OrdT.AnyT.take (i := 13) (v := ?_) (some 24) (by rfl) (by rfl) (by kernel_rfl) (by kernel_rfl) (by kernel_rfl) (by kernel_rfl) (fun _ _ _ h => h) (Or.inl ⟨by rfl, ?_⟩) (by assumption) ?_
  rotate_left
  · intro w hSw; (try dsimp only at hSw); first | (go_simp; done) | (go_simp; with_reducible rfl)
  (try simp only [Act.put, List.setIfInBounds_toArray, List.set_cons_zero, List.set_cons_succ])
  refine OrdT.AnyT.take (i := 14) (v := ?_) (some 25) (by rfl) (by rfl) (by kernel_rfl) (by kernel_rfl) (by kernel_rfl) (by kernel_rfl) (fun _ _ _ h => h) (Or.inl ⟨by rfl, ?_⟩) (by assumption) ?_
  rotate_left
  · intro w hSw; (try dsimp only at hSw); first | (go_simp; done) | (go_simp; with_reducible rfl)
  (try simp only [Act.put, List.setIfInBounds_toArray, List.set_cons_zero, List.set_cons_succ])
  refine OrdT.AnyT.take (i := 15) (v := ?_) (some 26) (by rfl) (by rfl) (by kernel_rfl) (by kernel_rfl) (by kernel_rfl) (by kernel_rfl) (fun _ _ _ h => h) (Or.inl ⟨by rfl, ?_⟩) (by assumption) ?_
  rotate_left
  · intro w hSw; (try dsimp only at hSw); first | (go_simp; done) | (go_simp; with_reducible rfl)
  (try simp only [Act.put, List.setIfInBounds_toArray, List.set_cons_zero, List.set_cons_succ])
  clear hHeld
  refine OrdT.AnyT.one (i := 1) (by kernel_rfl) (by rfl) (fun K hK => ?_)
  go_simp
  refine hK.out _ _ (fun _ => KS.out _ (by repeat (first | exact Below.refl _ _ | exact HB2 | exact HB1 | refine bel_drew ?_ | refine bel_alloc ?_ (Nat.le_refl _) _))) ?_
  clear hK K
  (try simp only [Act.put, List.setIfInBounds_toArray, List.set_cons_zero, List.set_cons_succ])
  refine OrdT.AnyT.one (i := 8) (by kernel_rfl) (by rfl) (fun K hK => ?_)
  refine step_append_rd (some 19) (by rfl) (by rfl) _ _ 42 (by rfl) W.heap.size 45 i0 (.agg #[.int .i64 0, .int .i64 0]) 2 16 Try.underlying42 hi hz0 hz1' hz2 rfl (by decide) (.slice (some ⟨W.heap.size, 0, none⟩) 0 0) 0 [] (by rfl) (by exact own_empty (by exact heap_alloc_at _ _ _ (by simp)) (Nat.le_refl _)) _ (.slice p1 k c1) k TK (by rfl) (by exact (R1.out.below (by repeat (first | exact Below.refl _ _ | exact HB2 | exact HB1 | refine bel_drew ?_ | refine bel_alloc ?_ (Nat.le_refl _) _)))) (by exact ON1.out) k (by exact Nat.zero_add k) TK (by exact List.nil_append TK) (by exact SZ1.out.1) (by exact SZ1.out.2) (by exact bel_le (W := W) (Nat.le_refl _) (by repeat (first | exact Below.refl _ _ | exact HB2 | exact HB1 | refine bel_drew ?_ | refine bel_alloc ?_ (Nat.le_refl _) _))) ?_
  intro q1 d1 w1 ho1 hg1 ha1 hp1
  have HB1 : Below W.heap.size W w1 := below_grown (by repeat (first | exact Below.refl _ _ | exact HB2 | exact HB1 | refine bel_drew ?_ | refine bel_alloc ?_ (Nat.le_refl _) _)) (by exact bel_le (W := W) (Nat.le_refl _) (by repeat (first | exact Below.refl _ _ | exact HB2 | exact HB1 | refine bel_drew ?_ | refine bel_alloc ?_ (Nat.le_refl _) _))) hg1 hp1
  clear ha1 hp1
  refine hK.out _ _ (fun _ => KS.out _ HB1) ?_
  clear hK K
  (try simp only [Act.put, List.setIfInBounds_toArray, List.set_cons_zero, List.set_cons_succ])
  refine OrdT.AnyT.one (i := 16) (by kernel_rfl) (by rfl) (fun K hK => ?_)
  refine step_append_rd (some 27) (by rfl) (by rfl) _ _ 42 (by rfl) W.heap.size 45 i0 (.agg #[.int .i64 0, .int .i64 0]) 2 16 Try.underlying42 hi hz0 hz1' hz2 rfl (by decide) (.slice q1 k d1) k TK (by rfl) (by exact ho1) _ (.slice p2 m c2') m DK (by rfl) (by exact (R2.out.below (by repeat (first | exact Below.refl _ _ | exact HB2 | exact HB1 | refine bel_drew ?_ | refine bel_alloc ?_ (Nat.le_refl _) _)))) (by exact ON2.out) N (by exact KM.out) TK2 (by exact TE2.out) (by exact SZ2.out.1) (by exact SZ2.out.2) (by exact bel_le (W := W) (Nat.le_refl _) (by repeat (first | exact Below.refl _ _ | exact HB2 | exact HB1 | refine bel_drew ?_ | refine bel_alloc ?_ (Nat.le_refl _) _))) ?_
  intro q2 d2 w2 ho2 hg2 ha2 hp2
  have HB2 : Below W.heap.size W w2 := below_grown (by repeat (first | exact Below.refl _ _ | exact HB2 | exact HB1 | refine bel_drew ?_ | refine bel_alloc ?_ (Nat.le_refl _) _)) (by exact bel_le (W := W) (Nat.le_refl _) (by repeat (first | exact Below.refl _ _ | exact HB2 | exact HB1 | refine bel_drew ?_ | refine bel_alloc ?_ (Nat.le_refl _) _))) hg2 hp2
  clear ha2 hp2
  refine hK.out _ _ (fun _ => KS.out _ HB2) ?_
  clear hK K
  (try simp only [Act.put, List.setIfInBounds_toArray, List.set_cons_zero, List.set_cons_succ])
  refine OrdT.AnyT.one (i := 17) (by kernel_rfl) (by rfl) (fun K hK => ?_)
  go_simp
  refine hK.out _ _ (fun _ => KS.out _ HB2) ?_
  clear hK K
  (try simp only [Act.put, List.setIfInBounds_toArray, List.set_cons_zero, List.set_cons_succ])
  refine OrdT.AnyT.one (i := 18) (by kernel_rfl) (by rfl) (fun K hK => ?_)
  go_simp
  refine hK.out _ _ (fun _ => KS.out _ HB2) ?_
  clear hK K
  (try simp only [Act.put, List.setIfInBounds_toArray, List.set_cons_zero, List.set_cons_succ])
  refine OrdT.AnyT.one (i := 19) (by kernel_rfl) (by rfl) (fun K hK => ?_)
  obtain ⟨e2, e3⟩ := KS.out _ HB2
  go_simp
  refine hK.out _ _ (fun h => absurd rfl h) ?_
  clear hK K
  (try simp only [Act.put, List.setIfInBounds_toArray, List.set_cons_zero, List.set_cons_succ])
  refine OrdT.AnyT.done (by kernel_rfl) ?_ _
  refine NoPanic.normal ?_
  go_wp2
  go_ret
  exact FIN.out _ _ _ HB2 ho2
end Go.Proofs.Ytocgeplpehioeaa.Con
