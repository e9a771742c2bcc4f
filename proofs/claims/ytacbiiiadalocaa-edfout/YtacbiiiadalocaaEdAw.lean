/- Awake. -/
import Derived.Test.YtacbiiiadalocaaEdCon
import Derived.Test.YtacbiiiadalocaaEdOwn
import Derived.Test.YtacbiiiadalocaaOrdU
namespace Go.Proofs.Ytacbiiiadalocaa.Ed
open Go.RowKit Go.Proofs.Ytacbiiiadalocaa.Con
set_option linter.unusedVariables false
set_option linter.unusedSimpArgs false
attribute [local go_sem ↓] Go.wp_at_zero Go.wp_at_succ
def l2 : List Et := [(1, 5, false), (2, 3, false)]
theorem aw_good : goodE 1 l2 = true := by decide +kernel
theorem aw_pick : pickL 1 l2 = [2] := by decide +kernel
theorem aw_less : lessB (2, 3, false) (1, 5, false) = true := by decide +kernel
theorem Sl.lit {w : World} {b e : Nat} {L : List Et} (h : w.heap[b]? = some (.cells (flatE L).toArray e (0, 0))) (hl : L.length ≤ 100) : Sl w (.slice (some ⟨b, 0, none⟩) L.length L.length) L :=
  ⟨flatE_len _, _, _, rfl, Nat.le_refl _, by unfold maxLen; omega, fun _ => ⟨b, 0, rfl, (Array.getElem?_eq_some_iff.1 h).1, fun j u hu => by
    rw [Nat.zero_add, cell_of_row w b j _ e _ h]; simpa using hu⟩⟩
theorem Is.lit {w : World} {b e : Nat} {l : List Int} (h : w.heap[b]? = some (.cells (ivs l).toArray e (0, 0))) (hl : l.length ≤ 100) : Is w (.slice (some ⟨b, 0, none⟩) l.length l.length) l :=
  ⟨by rw [ivs_len]; omega, _, _, rfl, Nat.le_refl _, by unfold maxLen; omega, fun _ => ⟨b, 0, rfl, (Array.getElem?_eq_some_iff.1 h).1, fun j u hu => by
    rw [Nat.zero_add, cell_of_row w b j _ e _ h]; simpa using hu⟩⟩
set_option maxHeartbeats 8000000 in
set_option maxRecDepth 100000 in
theorem awake_of (hG : Hid GoodC) (hL : Hid LessC) (hP : Hid PickC) : AwakeC := by
  intro W
  have R0 := hide (heap_alloc_new W (.cells #[.int .i64 1, .int .i64 5, .bool false, .int .i64 2, .int .i64 3, .bool false] 24))
  have N0 := hide (Nx.alloc W (.cells #[.int .i64 1, .int .i64 5, .bool false, .int .i64 2, .int .i64 3, .bool false] 24))
  go_enter Try.func9, Try.ntmps9
  go_upto_region 2 with fail
  generalize hgg : W.heap.size = g at *
  generalize W.alloc (.cells #[.int .i64 1, .int .i64 5, .bool false, .int .i64 2, .int .i64 3, .bool false] 24) = w1 at *
  clear hgg
  have KR : Hid (∀ w, Nx w1 w → w.heap[g]? = some (.cells (flatE l2).toArray 24 (0, 0))) := hide (fun w h => row_nx R0.out h)
  have KS : Hid (∀ w, Nx w1 w → w.cell? ⟨g, 0, none⟩ = some (.int .i64 1) ∧ w.cell? ⟨g, 1, none⟩ = some (.int .i64 5) ∧ w.cell? ⟨g, 2, none⟩ = some (.bool false) ∧ w.cell? ⟨g, 3, none⟩ = some (.int .i64 2) ∧ w.cell? ⟨g, 4, none⟩ = some (.int .i64 3) ∧ w.cell? ⟨g, 5, none⟩ = some (.bool false)) := hide (fun w h => by
    have r := row_nx R0.out h
    exact ⟨(cell_of_row w g 0 _ _ _ r).trans rfl, (cell_of_row w g 1 _ _ _ r).trans rfl, (cell_of_row w g 2 _ _ _ r).trans rfl, (cell_of_row w g 3 _ _ _ r).trans rfl, (cell_of_row w g 4 _ _ _ r).trans rfl, (cell_of_row w g 5 _ _ _ r).trans rfl⟩)
  have HG1 : Hid (∀ w, Nx w1 w → Calls Try.prog 13 #[.int .i64 1, .slice (some ⟨g, 0, none⟩) 2 2] w fun e w' => e = .returned (.bool true) ∧ Nx w w') := hide (fun w h => by
    have := hG.out 1 l2 _ w (Sl.lit (KR.out w h) (by decide)) (by decide)
    rwa [aw_good] at this)
  have HP1 : Hid (∀ w, Nx w1 w → Calls Try.prog 14 #[.int .i64 1, .slice (some ⟨g, 0, none⟩) 2 2] w fun e w' => ∃ v', e = .returned v' ∧ Hid (Is w' v' [2]) ∧ Nx w w') := hide (fun w h => by
    have := hP.out 1 l2 _ w (Sl.lit (KR.out w h) (by decide)) (by decide)
    rwa [aw_pick] at this)
  have HL1 : Hid (∀ w, Calls Try.prog 21 #[.agg #[.int .i64 2, .int .i64 3, .bool false], .agg #[.int .i64 1, .int .i64 5, .bool false]] w fun e w' => e = .returned (.bool true) ∧ Nx w w') := hide (fun w => by
    have := hL.out (2, 3, false) (1, 5, false) w
    rwa [aw_less] at this)
  have HE2 : Hid (∀ w v b, Is w v [2] → w.heap[b]? = some (.cells #[.int .i64 2] 3 (0, 0)) → Calls Try.prog 15 #[v, .slice (some ⟨b, 0, none⟩) 1 1] w fun e w' => e = .returned (.bool true) ∧ Nx w w') := hide (fun w v b h hb => by
    have := ints_any h (Is.lit (l := [2]) hb (by decide))
    rwa [decide_eq_true rfl] at this)
  have ND := hide (bel_drew (Nx.refl w1))
  clear R0 KR hG hP hL
  refine wp_region_noPanic ?_
  refine OrdU.region_U (S := fun w' => w'.cell? ⟨g, 0, none⟩ = some (.int .i64 1) ∧ w'.cell? ⟨g, 1, none⟩ = some (.int .i64 5) ∧ w'.cell? ⟨g, 2, none⟩ = some (.bool false) ∧ w'.cell? ⟨g, 3, none⟩ = some (.int .i64 2) ∧ w'.cell? ⟨g, 4, none⟩ = some (.int .i64 3) ∧ w'.cell? ⟨g, 5, none⟩ = some (.bool false)) [] (by kernel_rfl) ?_ (fun hHeld => ?_)
  · exact KS.out _ ND.out
  refine OrdU.AnyU.takeP (i := 0) (v := ?_) (some 5) (by rfl) (by rfl) (by kernel_rfl) (by kernel_rfl) (by kernel_rfl) (fun _ _ _ h => h) (Or.inl ⟨by rfl, ?_⟩) ?_
  rotate_left
  · intro w _; first | (go_simp; done) | (go_simp; with_reducible rfl)
  (try simp only [Act.put, List.setIfInBounds_toArray, List.set_cons_zero, List.set_cons_succ])
  clear hHeld
  refine OrdU.AnyU.one (i := 1) (by kernel_rfl) (by rfl) (fun K hK => ?_)
  go_simp
  refine (HG1.out _ ND.out).mono ?_
  rintro e w2 ⟨rfl, hb⟩
  have N2 := hide (Nx.trans ND.out hb)
  clear hb
  (try dsimp only)
  refine hK.out _ _ (fun _ _ => KS.out _ N2.out) ?_
  clear hK K
  (try simp only [Act.put, List.setIfInBounds_toArray, List.set_cons_zero, List.set_cons_succ])
  refine OrdU.AnyU.takeP (i := 2) (v := ?_) (some 7) (by rfl) (by rfl) (by kernel_rfl) (by kernel_rfl) (by kernel_rfl) (fun _ _ _ h => h) (Or.inl ⟨by rfl, ?_⟩) ?_
  rotate_left
  · intro w _; first | (go_simp; done) | (go_simp; with_reducible rfl)
  (try simp only [Act.put, List.setIfInBounds_toArray, List.set_cons_zero, List.set_cons_succ])
  refine OrdU.AnyU.takeP (i := 3) (v := ?_) (some 8) (by rfl) (by rfl) (by kernel_rfl) (by kernel_rfl) (by kernel_rfl) (fun _ _ _ h => h) (Or.inl ⟨by rfl, ?_⟩) ?_
  rotate_left
  · intro w _; first | (go_simp; done) | (go_simp; with_reducible rfl)
  (try simp only [Act.put, List.setIfInBounds_toArray, List.set_cons_zero, List.set_cons_succ])
  refine OrdU.AnyU.two (i := 4) (j := 5) (by kernel_rfl) (by rfl) (by rfl) (fun K hK => ?_) (fun K hK => ?_)
  · go_simp
    refine (HP1.out _ N2.out).mono ?_
    rintro e w4 ⟨v4, rfl, hI, hb⟩
    have N4 := hide (Nx.trans N2.out hb)
    have I4 := hide hI.out
    clear hb hI
    (try dsimp only)
    refine hK.out _ _ (fun _ _ => KS.out _ N4.out) ?_
    clear hK K
    (try simp only [Act.put, List.setIfInBounds_toArray, List.set_cons_zero, List.set_cons_succ])
    refine OrdU.AnyU.one (i := 5) (by kernel_rfl) (by rfl) (fun K hK => ?_)
    go_simp
    have N5 := hide (bel_alloc2 N4.out (.cells #[.int .i64 2] 3))
    have I5 := hide (I4.out.below (Nx.alloc w4 (.cells #[.int .i64 2] 3)))
    refine hK.out _ _ (fun _ _ => KS.out _ N5.out) ?_
    clear hK K
    (try simp only [Act.put, List.setIfInBounds_toArray, List.set_cons_zero, List.set_cons_succ])
    refine OrdU.AnyU.one (i := 6) (by kernel_rfl) (by rfl) (fun K hK => ?_)
    go_simp
    refine (HE2.out _ _ _ I5.out (heap_alloc_new w4 _)).mono ?_
    rintro e w6 ⟨rfl, hb⟩
    have N6 := hide (Nx.trans N5.out hb)
    clear hb
    (try dsimp only)
    refine hK.out _ _ (fun _ _ => KS.out _ N6.out) ?_
    clear hK K
    (try simp only [Act.put, List.setIfInBounds_toArray, List.set_cons_zero, List.set_cons_succ])
    refine OrdU.AnyU.takeP (i := 7) (v := ?_) (some 12) (by rfl) (by rfl) (by kernel_rfl) (by kernel_rfl) (by kernel_rfl) (fun _ _ _ h => h) (Or.inl ⟨by rfl, ?_⟩) ?_
    rotate_left
    · intro w _; first | (go_simp; done) | (go_simp; with_reducible rfl)
    (try simp only [Act.put, List.setIfInBounds_toArray, List.set_cons_zero, List.set_cons_succ])
    refine OrdU.AnyU.takeP (i := 8) (v := ?_) (some 13) (by rfl) (by rfl) (by kernel_rfl) (by kernel_rfl) (by kernel_rfl) (fun _ _ _ h => h) (Or.inl ⟨by rfl, ?_⟩) ?_
    rotate_left
    · intro w _; first | (go_simp; done) | (go_simp; with_reducible rfl)
    (try simp only [Act.put, List.setIfInBounds_toArray, List.set_cons_zero, List.set_cons_succ])
    refine OrdU.AnyU.takeP (i := 9) (v := ?_) (some 14) (by rfl) (by rfl) (by kernel_rfl) (by kernel_rfl) (by kernel_rfl) (fun _ _ _ h => h) (Or.inl ⟨by rfl, ?_⟩) ?_
    rotate_left
    · intro w _; first | (go_simp; done) | (go_simp; with_reducible rfl)
    (try simp only [Act.put, List.setIfInBounds_toArray, List.set_cons_zero, List.set_cons_succ])
    refine OrdU.AnyU.takeP (i := 10) (v := ?_) (some 15) (by rfl) (by rfl) (by kernel_rfl) (by kernel_rfl) (by kernel_rfl) (fun _ _ _ h => h) (Or.inl ⟨by rfl, ?_⟩) ?_
    rotate_left
    · intro w _; first | (go_simp; done) | (go_simp; with_reducible rfl)
    (try simp only [Act.put, List.setIfInBounds_toArray, List.set_cons_zero, List.set_cons_succ])
    have hSS := KS.out _ N6.out
    refine OrdU.AnyU.take (i := 11) (v := ?_) (some 16) (by rfl) (by rfl) (by kernel_rfl) (by kernel_rfl) (by kernel_rfl) (by kernel_rfl) (fun _ _ _ h => h) (Or.inl ⟨by rfl, ?_⟩) (by exact hSS) ?_
    rotate_left
    · intro w hSw; (try dsimp only at hSw); first | (go_simp; done) | (go_simp; with_reducible rfl)
    (try simp only [Act.put, List.setIfInBounds_toArray, List.set_cons_zero, List.set_cons_succ])
    refine OrdU.AnyU.takeP (i := 12) (v := ?_) (some 17) (by rfl) (by rfl) (by kernel_rfl) (by kernel_rfl) (by kernel_rfl) (fun _ _ _ h => h) (Or.inl ⟨by rfl, ?_⟩) ?_
    rotate_left
    · intro w _; first | (go_simp; done) | (go_simp; with_reducible rfl)
    (try simp only [Act.put, List.setIfInBounds_toArray, List.set_cons_zero, List.set_cons_succ])
    refine OrdU.AnyU.takeP (i := 13) (v := ?_) (some 18) (by rfl) (by rfl) (by kernel_rfl) (by kernel_rfl) (by kernel_rfl) (fun _ _ _ h => h) (Or.inl ⟨by rfl, ?_⟩) ?_
    rotate_left
    · intro w _; first | (go_simp; done) | (go_simp; with_reducible rfl)
    (try simp only [Act.put, List.setIfInBounds_toArray, List.set_cons_zero, List.set_cons_succ])
    refine OrdU.AnyU.take (i := 14) (v := ?_) (some 19) (by rfl) (by rfl) (by kernel_rfl) (by kernel_rfl) (by kernel_rfl) (by kernel_rfl) (fun _ _ _ h => h) (Or.inl ⟨by rfl, ?_⟩) (by exact hSS) ?_
    rotate_left
    · intro w hSw; (try dsimp only at hSw); first | (go_simp; done) | (go_simp; with_reducible rfl)
    (try simp only [Act.put, List.setIfInBounds_toArray, List.set_cons_zero, List.set_cons_succ])
    clear hSS
    refine OrdU.AnyU.one (i := 15) (by kernel_rfl) (by rfl) (fun K hK => ?_)
    go_simp
    refine (HL1.out _).mono ?_
    rintro e w7 ⟨rfl, hb⟩
    have N7 := hide (Nx.trans N6.out hb)
    clear hb
    (try dsimp only)
    refine hK.out _ _ (fun _ _ => KS.out _ N7.out) ?_
    clear hK K
    (try simp only [Act.put, List.setIfInBounds_toArray, List.set_cons_zero, List.set_cons_succ])
    refine OrdU.AnyU.takeP (i := 16) (v := ?_) (some 21) (by rfl) (by rfl) (by kernel_rfl) (by kernel_rfl) (by kernel_rfl) (fun _ _ _ h => h) (Or.inl ⟨by rfl, ?_⟩) ?_
    rotate_left
    · intro w _; first | (go_simp; done) | (go_simp; with_reducible rfl)
    (try simp only [Act.put, List.setIfInBounds_toArray, List.set_cons_zero, List.set_cons_succ])
    refine OrdU.AnyU.takeP (i := 17) (v := ?_) (some 0) (by rfl) (by rfl) (by kernel_rfl) (by kernel_rfl) (by kernel_rfl) (fun _ _ _ h => h) (Or.inl ⟨by rfl, ?_⟩) ?_
    rotate_left
    · intro w _; first | (go_simp; done) | (go_simp; with_reducible rfl)
    (try simp only [Act.put, List.setIfInBounds_toArray, List.set_cons_zero, List.set_cons_succ])
    refine OrdU.AnyU.done (by kernel_rfl) ?_ _
    refine NoPanic.normal ?_
    go_wp2
    go_ret
    exact ⟨rfl, Nx.trans N0.out N7.out⟩
  · go_simp
    have N4 := hide (bel_alloc2 N2.out (.cells #[.int .i64 2] 3))
    refine hK.out _ _ (fun _ _ => KS.out _ N4.out) ?_
    clear hK K
    (try simp only [Act.put, List.setIfInBounds_toArray, List.set_cons_zero, List.set_cons_succ])
    refine OrdU.AnyU.one (i := 4) (by kernel_rfl) (by rfl) (fun K hK => ?_)
    go_simp
    refine (HP1.out _ N4.out).mono ?_
    rintro e w5 ⟨v5, rfl, hI, hb⟩
    have N5 := hide (Nx.trans N4.out hb)
    have I5 := hide hI.out
    have RB := hide (row_nx (heap_alloc_new w2 (.cells #[.int .i64 2] 3)) hb)
    clear hb hI
    (try dsimp only)
    refine hK.out _ _ (fun _ _ => KS.out _ N5.out) ?_
    clear hK K
    (try simp only [Act.put, List.setIfInBounds_toArray, List.set_cons_zero, List.set_cons_succ])
    refine OrdU.AnyU.one (i := 6) (by kernel_rfl) (by rfl) (fun K hK => ?_)
    go_simp
    refine (HE2.out _ _ _ I5.out RB.out).mono ?_
    rintro e w6 ⟨rfl, hb⟩
    have N6 := hide (Nx.trans N5.out hb)
    clear hb
    (try dsimp only)
    refine hK.out _ _ (fun _ _ => KS.out _ N6.out) ?_
    clear hK K
    (try simp only [Act.put, List.setIfInBounds_toArray, List.set_cons_zero, List.set_cons_succ])
    refine OrdU.AnyU.takeP (i := 7) (v := ?_) (some 12) (by rfl) (by rfl) (by kernel_rfl) (by kernel_rfl) (by kernel_rfl) (fun _ _ _ h => h) (Or.inl ⟨by rfl, ?_⟩) ?_
    rotate_left
    · intro w _; first | (go_simp; done) | (go_simp; with_reducible rfl)
    (try simp only [Act.put, List.setIfInBounds_toArray, List.set_cons_zero, List.set_cons_succ])
    refine OrdU.AnyU.takeP (i := 8) (v := ?_) (some 13) (by rfl) (by rfl) (by kernel_rfl) (by kernel_rfl) (by kernel_rfl) (fun _ _ _ h => h) (Or.inl ⟨by rfl, ?_⟩) ?_
    rotate_left
    · intro w _; first | (go_simp; done) | (go_simp; with_reducible rfl)
    (try simp only [Act.put, List.setIfInBounds_toArray, List.set_cons_zero, List.set_cons_succ])
    refine OrdU.AnyU.takeP (i := 9) (v := ?_) (some 14) (by rfl) (by rfl) (by kernel_rfl) (by kernel_rfl) (by kernel_rfl) (fun _ _ _ h => h) (Or.inl ⟨by rfl, ?_⟩) ?_
    rotate_left
    · intro w _; first | (go_simp; done) | (go_simp; with_reducible rfl)
    (try simp only [Act.put, List.setIfInBounds_toArray, List.set_cons_zero, List.set_cons_succ])
    refine OrdU.AnyU.takeP (i := 10) (v := ?_) (some 15) (by rfl) (by rfl) (by kernel_rfl) (by kernel_rfl) (by kernel_rfl) (fun _ _ _ h => h) (Or.inl ⟨by rfl, ?_⟩) ?_
    rotate_left
    · intro w _; first | (go_simp; done) | (go_simp; with_reducible rfl)
    (try simp only [Act.put, List.setIfInBounds_toArray, List.set_cons_zero, List.set_cons_succ])
    have hSS := KS.out _ N6.out
    refine OrdU.AnyU.take (i := 11) (v := ?_) (some 16) (by rfl) (by rfl) (by kernel_rfl) (by kernel_rfl) (by kernel_rfl) (by kernel_rfl) (fun _ _ _ h => h) (Or.inl ⟨by rfl, ?_⟩) (by exact hSS) ?_
    rotate_left
    · intro w hSw; (try dsimp only at hSw); first | (go_simp; done) | (go_simp; with_reducible rfl)
    (try simp only [Act.put, List.setIfInBounds_toArray, List.set_cons_zero, List.set_cons_succ])
    refine OrdU.AnyU.takeP (i := 12) (v := ?_) (some 17) (by rfl) (by rfl) (by kernel_rfl) (by kernel_rfl) (by kernel_rfl) (fun _ _ _ h => h) (Or.inl ⟨by rfl, ?_⟩) ?_
    rotate_left
    · intro w _; first | (go_simp; done) | (go_simp; with_reducible rfl)
    (try simp only [Act.put, List.setIfInBounds_toArray, List.set_cons_zero, List.set_cons_succ])
    refine OrdU.AnyU.takeP (i := 13) (v := ?_) (some 18) (by rfl) (by rfl) (by kernel_rfl) (by kernel_rfl) (by kernel_rfl) (fun _ _ _ h => h) (Or.inl ⟨by rfl, ?_⟩) ?_
    rotate_left
    · intro w _; first | (go_simp; done) | (go_simp; with_reducible rfl)
    (try simp only [Act.put, List.setIfInBounds_toArray, List.set_cons_zero, List.set_cons_succ])
    refine OrdU.AnyU.take (i := 14) (v := ?_) (some 19) (by rfl) (by rfl) (by kernel_rfl) (by kernel_rfl) (by kernel_rfl) (by kernel_rfl) (fun _ _ _ h => h) (Or.inl ⟨by rfl, ?_⟩) (by exact hSS) ?_
    rotate_left
    · intro w hSw; (try dsimp only at hSw); first | (go_simp; done) | (go_simp; with_reducible rfl)
    (try simp only [Act.put, List.setIfInBounds_toArray, List.set_cons_zero, List.set_cons_succ])
    clear hSS
    refine OrdU.AnyU.one (i := 15) (by kernel_rfl) (by rfl) (fun K hK => ?_)
    go_simp
    refine (HL1.out _).mono ?_
    rintro e w7 ⟨rfl, hb⟩
    have N7 := hide (Nx.trans N6.out hb)
    clear hb
    (try dsimp only)
    refine hK.out _ _ (fun _ _ => KS.out _ N7.out) ?_
    clear hK K
    (try simp only [Act.put, List.setIfInBounds_toArray, List.set_cons_zero, List.set_cons_succ])
    refine OrdU.AnyU.takeP (i := 16) (v := ?_) (some 21) (by rfl) (by rfl) (by kernel_rfl) (by kernel_rfl) (by kernel_rfl) (fun _ _ _ h => h) (Or.inl ⟨by rfl, ?_⟩) ?_
    rotate_left
    · intro w _; first | (go_simp; done) | (go_simp; with_reducible rfl)
    (try simp only [Act.put, List.setIfInBounds_toArray, List.set_cons_zero, List.set_cons_succ])
    refine OrdU.AnyU.takeP (i := 17) (v := ?_) (some 0) (by rfl) (by rfl) (by kernel_rfl) (by kernel_rfl) (by kernel_rfl) (fun _ _ _ h => h) (Or.inl ⟨by rfl, ?_⟩) ?_
    rotate_left
    · intro w _; first | (go_simp; done) | (go_simp; with_reducible rfl)
    (try simp only [Act.put, List.setIfInBounds_toArray, List.set_cons_zero, List.set_cons_succ])
    refine OrdU.AnyU.done (by kernel_rfl) ?_ _
    refine NoPanic.normal ?_
    go_wp2
    go_ret
    exact ⟨rfl, Nx.trans N0.out N7.out⟩
end Go.Proofs.Ytacbiiiadalocaa.Ed
