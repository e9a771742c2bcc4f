/- The reference's Beats. -/
import Derived.Test.YtacbiiiadalocaaEdRs
import Derived.Test.YtacbiiiadalocaaOrdT
namespace Go.Proofs.Ytacbiiiadalocaa.Ed
open Go.RowKit Go.Proofs.Ytacbiiiadalocaa.Con
set_option linter.unusedVariables false
set_option linter.unusedSimpArgs false
attribute [local go_sem ↓] Go.wp_at_zero Go.wp_at_succ
theorem infoEnt : (Try.prog.info? 37).map (fun i => (i.zero, i.size, i.bytes)) = some (some (.agg #[.int .i64 0, .int .i64 0, .bool false]), 3, 24) := by kernel_rfl
theorem out_uniq {m : Int} {L : List Et} {x : Et} (h : goodE m (L ++ [x]) = true) {y z : Et} (hy : y ∈ L) (hz : z ∈ L) (h1 : (runs m L y && !runs m (L ++ [x]) y) = true) (h2 : (runs m L z && !runs m (L ++ [x]) z) = true) : y = z := by
  have h4 := (good_iff.1 (app_parts h).1).2.2.2.1
  have key : ∀ y, (runs m L y && !runs m (L ++ [x]) y) = true → (rank L y : Int) = m - 1 := fun y hd => by
    simp only [Bool.and_eq_true, Bool.not_eq_true'] at hd
    have a1 : (rank L y : Int) < m := of_decide_eq_true hd.1
    have a2 : ¬ (rank (L ++ [x]) y : Int) < m := of_decide_eq_false hd.2
    rw [rank_app] at a2
    split at a2 <;> omega
  have a := key y h1
  have b := key z h2
  exact rank_inj h4 hy hz (by omega)
theorem beats_out {m : Int} {L : List Et} {x : Et} (hb : beatsB m L x = true) {i : Int} (hi : i ∈ pickL m L) (hn : ¬ i ∈ pickL m (L ++ [x])) : beatsN m L x = i := by
  have hg : goodE m (L ++ [x]) = true := by unfold beatsB at hb; simp only [Bool.and_eq_true] at hb; exact hb.1
  have hgl := (app_parts hg).1
  obtain ⟨e, he, hr, rfl⟩ := (pick_mem hgl).1 hi
  have hnr : runs m (L ++ [x]) e = false := by
    cases k : runs m (L ++ [x]) e with
    | false => rfl
    | true => exact absurd ((pick_runs hg (by simp [he])).2 k) hn
  unfold beatsN
  rw [if_pos hb]
  have hp : (runs m L e && !runs m (L ++ [x]) e) = true := by rw [hr, hnr]; rfl
  have : outO m L x = some e := by
    unfold outO
    cases ho : L.find? (fun y => runs m L y && !runs m (L ++ [x]) y) with
    | none => exact absurd hp (List.find?_eq_none.1 ho e he)
    | some y => rw [out_uniq hg (List.mem_of_find?_eq_some ho) he (List.find?_some (p := fun y => runs m L y && !runs m (L ++ [x]) y) ho) hp]
  rw [this]; rfl
theorem beats_none {m : Int} {L : List Et} {x : Et} (hb : beatsB m L x = true) (h : ∀ i ∈ pickL m L, i ∈ pickL m (L ++ [x])) : beatsN m L x = -1 := by
  have hg : goodE m (L ++ [x]) = true := by unfold beatsB at hb; simp only [Bool.and_eq_true] at hb; exact hb.1
  have hgl := (app_parts hg).1
  unfold beatsN
  rw [if_pos hb]
  have : outO m L x = none := List.find?_eq_none.2 fun e he => by
    cases hr : runs m L e with
    | false => simp
    | true =>
      have := (pick_runs hg (by simp [he])).1 (h e.1 ((pick_runs hgl he).2 hr))
      rw [this]; simp
  rw [this]; rfl
theorem beats_bad {m : Int} {L : List Et} {x : Et} (hb : beatsB m L x = false) : beatsN m L x = 0 := if_neg (by rw [hb]; decide)
theorem beats_in {m : Int} {L : List Et} {x : Et} (hg : goodE m (L ++ [x]) = true) : beatsB m L x = decide (x.1 ∈ pickL m (L ++ [x])) := by
  unfold beatsB
  rw [hg, Bool.true_and, Bool.eq_iff_iff, decide_eq_true_iff, pick_runs hg (by simp)]
set_option maxHeartbeats 16000000 in
set_option maxRecDepth 100000 in
theorem rbeats_any {W : World} {v : Value} {L : List Et} (h : Sl W v L) (hl : L.length ≤ 90) (m : Int) (x : Et) : Calls Try.prog 19 #[.int .i64 m, v, ev x] W fun e w' =>
    e = .returned (.tuple #[.int .i64 (beatsN m L x), .bool (beatsB m L x)]) ∧ Nx W w' := by
  obtain ⟨xi, xd, xf⟩ := x
  obtain ⟨p, cap, rfl, hn, hm⟩ := h.form
  have N0 := hide (Nx.alloc W (.cells #[.int .i64 xi, .int .i64 xd, .bool xf] 37))
  have R0 := hide (heap_alloc_new W (.cells #[.int .i64 xi, .int .i64 xd, .bool xf] 37))
  have H0 := hide (h.below N0.out)
  clear h
  go_enter Try.func19, Try.ntmps19
  go_upto_region 1 with fail
  obtain ⟨xb, hxb⟩ : ∃ xb, W.heap.size = xb := ⟨_, rfl⟩
  rw [hxb] at R0
  (try rw [hxb])
  obtain ⟨wc, hwc⟩ : ∃ wc, W.alloc (.cells #[.int .i64 xi, .int .i64 xd, .bool xf] 37) = wc := ⟨_, rfl⟩
  rw [hwc] at R0 N0 H0
  rw [hwc]
  clear hwc hxb
  obtain ⟨i0, hi, hz0, hz1', hz2⟩ := info_parts infoEnt
  have KS : Hid (∀ w', Below wc.heap.size wc w' → w'.cell? ⟨xb, 0, none⟩ = some (.int .i64 xi) ∧ w'.cell? ⟨xb, 1, none⟩ = some (.int .i64 xd) ∧ w'.cell? ⟨xb, 2, none⟩ = some (.bool xf)) := hide (fun w' hB => row3 (row_nx R0.out hB))
  have FIN : Hid (∀ w', Below wc.heap.size wc w' → Nx W w') := hide (fun w' hB => Nx.trans N0.out hB)
  have HLL : Hid (∀ w', Below wc.heap.size wc w' → Sl w' (.slice p L.length cap) L) := hide (fun w' hB => H0.out.below hB)
  have RL := H0
  unfold Sl at RL
  obtain ⟨FL, hFL⟩ : ∃ FL, flatE L = FL := ⟨_, rfl⟩
  obtain ⟨FX, hFX⟩ : ∃ FX, FL ++ [.int .i64 xi, .int .i64 xd, .bool xf] = FX := ⟨_, rfl⟩
  have EFX := hide hFX
  have ON1 : Hid (∀ u ∈ FL, u.oneCell' = true) := hide (by rw [← hFL]; exact flatE_one _)
  have ON2 : Hid (∀ u ∈ [Value.int .i64 xi, .int .i64 xd, .bool xf], u.oneCell' = true) := hide (by intro u hu; simp at hu; rcases hu with rfl | rfl | rfl <;> rfl)
  have SLF : Hid (∀ p' c' w', w'.ownsRow wc.heap.size 37 3 (.slice p' (L.length + 1) c') (L.length + 1) FX → Sl w' (.slice p' (L.length + 1) c') (L ++ [(xi, xd, xf)])) := hide (fun p' c' w' ho => by
    have e2 : flatE (L ++ [(xi, xd, xf)]) = FX := by rw [flatE_app, hFL, ← hFX]; rfl
    have e1 : (L ++ [(xi, xd, xf)]).length = L.length + 1 := by simp
    have := Sl.own (L := L ++ [(xi, xd, xf)]) (by rw [e1, e2]; exact ho)
    exact this)
  rw [hFL] at RL
  have SZ1 : Hid (L.length ≤ maxLen ∧ L.length * 24 ≤ 140737488355328) := hide ⟨by unfold maxLen; omega, by omega⟩
  have SZ2 : Hid (L.length + 1 ≤ maxLen ∧ (L.length + 1) * 24 ≤ 140737488355328) := hide ⟨by unfold maxLen; omega, by omega⟩
  clear hFL hFX H0 R0 N0
  go_cut [8] from 12 to 49 (fun s w' => ∃ q d, s = .slice q (L.length + 1) d ∧ Hid (Sl w' (.slice q (L.length + 1) d) (L ++ [(xi, xd, xf)])) ∧ Hid (Below wc.heap.size wc w'))
  case first => as_aux_lemma =>
    have GO : True := trivial
    refine wp_region_noPanic ?_
    refine OrdT.region_T (S := fun w' => w'.cell? ⟨xb, 0, none⟩ = some (.int .i64 xi) ∧ w'.cell? ⟨xb, 1, none⟩ = some (.int .i64 xd) ∧ w'.cell? ⟨xb, 2, none⟩ = some (.bool xf)) 6 (by kernel_rfl) ?_ (fun hHeld => ?_)
    · exact KS.out _ (bel_drew (Below.refl _ _))
    refine OrdT.AnyT.take (i := 1) (v := ?_) (some 13) (by rfl) (by rfl) (by kernel_rfl) (by kernel_rfl) (by kernel_rfl) (by kernel_rfl) (fun _ _ _ h => h) (Or.inl ⟨by rfl, ?_⟩) (by assumption) ?_
    rotate_left
    · intro w hSw; (try dsimp only at hSw); first | (go_simp; done) | (go_simp; with_reducible rfl)
    (try simp only [Act.put, List.setIfInBounds_toArray, List.set_cons_zero, List.set_cons_succ])
    refine OrdT.AnyT.take (i := 3) (v := ?_) (some 15) (by rfl) (by rfl) (by kernel_rfl) (by kernel_rfl) (by kernel_rfl) (by kernel_rfl) (fun _ _ _ h => h) (Or.inl ⟨by rfl, ?_⟩) (by assumption) ?_
    rotate_left
    · intro w hSw; (try dsimp only at hSw); first | (go_simp; done) | (go_simp; with_reducible rfl)
    (try simp only [Act.put, List.setIfInBounds_toArray, List.set_cons_zero, List.set_cons_succ])
    clear hHeld
    refine OrdT.AnyT.two (i := 0) (j := 4) (by kernel_rfl) (by rfl) (by rfl) (fun K hK => ?_) (fun K hK => ?_)
    · go_simp
      refine hK.out _ _ (fun _ => KS.out _ (by repeat (first | (with_reducible exact Below.refl _ _) | (with_reducible exact HB2) | (with_reducible exact HB1) | refine bel_drew ?_ | refine bel_alloc ?_ (Nat.le_refl _) _))) ?_
      clear hK K
      (try simp only [Act.put, List.setIfInBounds_toArray, List.set_cons_zero, List.set_cons_succ])
      refine OrdT.AnyT.two (i := 2) (j := 4) (by kernel_rfl) (by rfl) (by rfl) (fun K hK => ?_) (fun K hK => ?_)
      · refine step_append_rd (some 14) (by rfl) (by rfl) _ _ 35 (by rfl) wc.heap.size 37 i0 (.agg #[.int .i64 0, .int .i64 0, .bool false]) 3 24 Try.underlying35 hi hz0 hz1' hz2 rfl (by decide) (.slice (some ⟨wc.heap.size, 0, none⟩) 0 0) 0 [] (by rfl) (by exact own_empty (by first | exact heap_alloc_at _ _ _ (by simp) | exact (Below.heap_alloc _ _ _ (by simp)).trans (heap_alloc_at _ _ _ (by simp))) (by first | exact Nat.le_refl _ | simp)) _ (.slice p L.length cap) L.length FL (by rfl) (by exact (RL.out.below (by repeat (first | (with_reducible exact Below.refl _ _) | (with_reducible exact HB2) | (with_reducible exact HB1) | refine bel_drew ?_ | refine bel_alloc ?_ (Nat.le_refl _) _)))) (by exact ON1.out) L.length (by exact Nat.zero_add _) FL (by exact List.nil_append FL) (by exact SZ1.out.1) (by exact SZ1.out.2) (by exact bel_le (W := wc) (Nat.le_refl _) (by repeat (first | (with_reducible exact Below.refl _ _) | (with_reducible exact HB2) | (with_reducible exact HB1) | refine bel_drew ?_ | refine bel_alloc ?_ (Nat.le_refl _) _))) ?_
        intro q1 d1 w1 ho1 hg1 ha1 hp1
        have HB1 : Below wc.heap.size wc w1 := below_grown (by repeat (first | (with_reducible exact Below.refl _ _) | (with_reducible exact HB2) | (with_reducible exact HB1) | refine bel_drew ?_ | refine bel_alloc ?_ (Nat.le_refl _) _)) (by exact bel_le (W := wc) (Nat.le_refl _) (by repeat (first | (with_reducible exact Below.refl _ _) | (with_reducible exact HB2) | (with_reducible exact HB1) | refine bel_drew ?_ | refine bel_alloc ?_ (Nat.le_refl _) _))) hg1 hp1
        clear ha1 hp1
        refine hK.out _ _ (fun _ => KS.out _ HB1) ?_
        clear hK K
        (try simp only [Act.put, List.setIfInBounds_toArray, List.set_cons_zero, List.set_cons_succ])
        refine OrdT.AnyT.one (i := 4) (by kernel_rfl) (by rfl) (fun K hK => ?_)
        go_simp
        refine hK.out _ _ (fun _ => KS.out _ (by repeat (first | (with_reducible exact Below.refl _ _) | (with_reducible exact HB2) | (with_reducible exact HB1) | refine bel_drew ?_ | refine bel_alloc ?_ (Nat.le_refl _) _))) ?_
        clear hK K
        (try simp only [Act.put, List.setIfInBounds_toArray, List.set_cons_zero, List.set_cons_succ])
        refine OrdT.AnyT.one (i := 5) (by kernel_rfl) (by rfl) (fun K hK => ?_)
        refine step_append_rd (some 17) (by rfl) (by rfl) _ _ 35 (by rfl) wc.heap.size 37 i0 (.agg #[.int .i64 0, .int .i64 0, .bool false]) 3 24 Try.underlying35 hi hz0 hz1' hz2 rfl (by decide) (.slice q1 L.length d1) L.length FL (by rfl) (by first | exact ho1 | exact own_kept ho1 (fun k e => Below.heap_alloc _ _ _ (own_lt ho1 k e))) _ _ 1 [.int .i64 xi, .int .i64 xd, .bool xf] (by rfl) (by exact rd_one (cs := #[.int .i64 xi, .int .i64 xd, .bool xf]) (by exact heap_alloc_at _ _ _ rfl) rfl) (by exact ON2.out) (L.length + 1) (by exact rfl) FX (by exact EFX.out) (by exact SZ2.out.1) (by exact SZ2.out.2) (by exact bel_le (W := wc) (Nat.le_refl _) (by repeat (first | (with_reducible exact Below.refl _ _) | (with_reducible exact HB2) | (with_reducible exact HB1) | refine bel_drew ?_ | refine bel_alloc ?_ (Nat.le_refl _) _))) ?_
        intro q2 d2 w2 ho2 hg2 ha2 hp2
        have HB2 : Below wc.heap.size wc w2 := below_grown (by repeat (first | (with_reducible exact Below.refl _ _) | (with_reducible exact HB2) | (with_reducible exact HB1) | refine bel_drew ?_ | refine bel_alloc ?_ (Nat.le_refl _) _)) (by exact bel_le (W := wc) (Nat.le_refl _) (by repeat (first | (with_reducible exact Below.refl _ _) | (with_reducible exact HB2) | (with_reducible exact HB1) | refine bel_drew ?_ | refine bel_alloc ?_ (Nat.le_refl _) _))) hg2 hp2
        clear ha2 hp2
        refine hK.out _ _ (fun _ => KS.out _ HB2) ?_
        clear hK K
        (try simp only [Act.put, List.setIfInBounds_toArray, List.set_cons_zero, List.set_cons_succ])
        refine OrdT.AnyT.one (i := 6) (by kernel_rfl) (by rfl) (fun K hK => ?_)
        go_simp
        refine hK.out _ _ (fun _ => KS.out _ HB2) ?_
        clear hK K
        (try simp only [Act.put, List.setIfInBounds_toArray, List.set_cons_zero, List.set_cons_succ])
        refine OrdT.AnyT.done (by kernel_rfl) ?_ _
        refine NoPanic.normal ?_
        go_wp2
        go_meet
        case rel => exact ⟨_, _, rfl, hide (SLF.out _ _ _ ho2), hide HB2⟩
      · go_simp
        refine hK.out _ _ (fun _ => KS.out _ (by repeat (first | (with_reducible exact Below.refl _ _) | (with_reducible exact HB2) | (with_reducible exact HB1) | refine bel_drew ?_ | refine bel_alloc ?_ (Nat.le_refl _) _))) ?_
        clear hK K
        (try simp only [Act.put, List.setIfInBounds_toArray, List.set_cons_zero, List.set_cons_succ])
        refine OrdT.AnyT.one (i := 2) (by kernel_rfl) (by rfl) (fun K hK => ?_)
        refine step_append_rd (some 14) (by rfl) (by rfl) _ _ 35 (by rfl) wc.heap.size 37 i0 (.agg #[.int .i64 0, .int .i64 0, .bool false]) 3 24 Try.underlying35 hi hz0 hz1' hz2 rfl (by decide) (.slice (some ⟨wc.heap.size, 0, none⟩) 0 0) 0 [] (by rfl) (by exact own_empty (by first | exact heap_alloc_at _ _ _ (by simp) | exact (Below.heap_alloc _ _ _ (by simp)).trans (heap_alloc_at _ _ _ (by simp))) (by first | exact Nat.le_refl _ | simp)) _ (.slice p L.length cap) L.length FL (by rfl) (by exact (RL.out.below (by repeat (first | (with_reducible exact Below.refl _ _) | (with_reducible exact HB2) | (with_reducible exact HB1) | refine bel_drew ?_ | refine bel_alloc ?_ (Nat.le_refl _) _)))) (by exact ON1.out) L.length (by exact Nat.zero_add _) FL (by exact List.nil_append FL) (by exact SZ1.out.1) (by exact SZ1.out.2) (by exact bel_le (W := wc) (Nat.le_refl _) (by repeat (first | (with_reducible exact Below.refl _ _) | (with_reducible exact HB2) | (with_reducible exact HB1) | refine bel_drew ?_ | refine bel_alloc ?_ (Nat.le_refl _) _))) ?_
        intro q1 d1 w1 ho1 hg1 ha1 hp1
        have HB1 : Below wc.heap.size wc w1 := below_grown (by repeat (first | (with_reducible exact Below.refl _ _) | (with_reducible exact HB2) | (with_reducible exact HB1) | refine bel_drew ?_ | refine bel_alloc ?_ (Nat.le_refl _) _)) (by exact bel_le (W := wc) (Nat.le_refl _) (by repeat (first | (with_reducible exact Below.refl _ _) | (with_reducible exact HB2) | (with_reducible exact HB1) | refine bel_drew ?_ | refine bel_alloc ?_ (Nat.le_refl _) _))) hg1 hp1
        clear ha1 hp1
        refine hK.out _ _ (fun _ => KS.out _ HB1) ?_
        clear hK K
        (try simp only [Act.put, List.setIfInBounds_toArray, List.set_cons_zero, List.set_cons_succ])
        refine OrdT.AnyT.one (i := 5) (by kernel_rfl) (by rfl) (fun K hK => ?_)
        refine step_append_rd (some 17) (by rfl) (by rfl) _ _ 35 (by rfl) wc.heap.size 37 i0 (.agg #[.int .i64 0, .int .i64 0, .bool false]) 3 24 Try.underlying35 hi hz0 hz1' hz2 rfl (by decide) (.slice q1 L.length d1) L.length FL (by rfl) (by first | exact ho1 | exact own_kept ho1 (fun k e => Below.heap_alloc _ _ _ (own_lt ho1 k e))) _ _ 1 [.int .i64 xi, .int .i64 xd, .bool xf] (by rfl) (by exact rd_one (cs := #[.int .i64 xi, .int .i64 xd, .bool xf]) (by exact (hg1.block _ (by first | (simp; done) | (simp; omega)) (by simp [Value.ownBlock])).trans (heap_alloc_at _ _ _ (by first | (simp; done) | (simp; omega)))) rfl) (by exact ON2.out) (L.length + 1) (by exact rfl) FX (by exact EFX.out) (by exact SZ2.out.1) (by exact SZ2.out.2) (by exact bel_le (W := wc) (Nat.le_refl _) (by repeat (first | (with_reducible exact Below.refl _ _) | (with_reducible exact HB2) | (with_reducible exact HB1) | refine bel_drew ?_ | refine bel_alloc ?_ (Nat.le_refl _) _))) ?_
        intro q2 d2 w2 ho2 hg2 ha2 hp2
        have HB2 : Below wc.heap.size wc w2 := below_grown (by repeat (first | (with_reducible exact Below.refl _ _) | (with_reducible exact HB2) | (with_reducible exact HB1) | refine bel_drew ?_ | refine bel_alloc ?_ (Nat.le_refl _) _)) (by exact bel_le (W := wc) (Nat.le_refl _) (by repeat (first | (with_reducible exact Below.refl _ _) | (with_reducible exact HB2) | (with_reducible exact HB1) | refine bel_drew ?_ | refine bel_alloc ?_ (Nat.le_refl _) _))) hg2 hp2
        clear ha2 hp2
        refine hK.out _ _ (fun _ => KS.out _ HB2) ?_
        clear hK K
        (try simp only [Act.put, List.setIfInBounds_toArray, List.set_cons_zero, List.set_cons_succ])
        refine OrdT.AnyT.one (i := 6) (by kernel_rfl) (by rfl) (fun K hK => ?_)
        go_simp
        refine hK.out _ _ (fun _ => KS.out _ HB2) ?_
        clear hK K
        (try simp only [Act.put, List.setIfInBounds_toArray, List.set_cons_zero, List.set_cons_succ])
        refine OrdT.AnyT.done (by kernel_rfl) ?_ _
        refine NoPanic.normal ?_
        go_wp2
        go_meet
        case rel => exact ⟨_, _, rfl, hide (SLF.out _ _ _ ho2), hide HB2⟩
    · go_simp
      refine hK.out _ _ (fun _ => KS.out _ (by repeat (first | (with_reducible exact Below.refl _ _) | (with_reducible exact HB2) | (with_reducible exact HB1) | refine bel_drew ?_ | refine bel_alloc ?_ (Nat.le_refl _) _))) ?_
      clear hK K
      (try simp only [Act.put, List.setIfInBounds_toArray, List.set_cons_zero, List.set_cons_succ])
      refine OrdT.AnyT.one (i := 0) (by kernel_rfl) (by rfl) (fun K hK => ?_)
      go_simp
      refine hK.out _ _ (fun _ => KS.out _ (by repeat (first | (with_reducible exact Below.refl _ _) | (with_reducible exact HB2) | (with_reducible exact HB1) | refine bel_drew ?_ | refine bel_alloc ?_ (Nat.le_refl _) _))) ?_
      clear hK K
      (try simp only [Act.put, List.setIfInBounds_toArray, List.set_cons_zero, List.set_cons_succ])
      refine OrdT.AnyT.one (i := 2) (by kernel_rfl) (by rfl) (fun K hK => ?_)
      refine step_append_rd (some 14) (by rfl) (by rfl) _ _ 35 (by rfl) wc.heap.size 37 i0 (.agg #[.int .i64 0, .int .i64 0, .bool false]) 3 24 Try.underlying35 hi hz0 hz1' hz2 rfl (by decide) (.slice (some ⟨wc.heap.size + 1, 0, none⟩) 0 0) 0 [] (by rfl) (by exact own_empty (by first | exact heap_alloc_at _ _ _ (by simp) | exact (Below.heap_alloc _ _ _ (by simp)).trans (heap_alloc_at _ _ _ (by simp))) (by first | exact Nat.le_refl _ | simp)) _ (.slice p L.length cap) L.length FL (by rfl) (by exact (RL.out.below (by repeat (first | (with_reducible exact Below.refl _ _) | (with_reducible exact HB2) | (with_reducible exact HB1) | refine bel_drew ?_ | refine bel_alloc ?_ (Nat.le_refl _) _)))) (by exact ON1.out) L.length (by exact Nat.zero_add _) FL (by exact List.nil_append FL) (by exact SZ1.out.1) (by exact SZ1.out.2) (by exact bel_le (W := wc) (Nat.le_refl _) (by repeat (first | (with_reducible exact Below.refl _ _) | (with_reducible exact HB2) | (with_reducible exact HB1) | refine bel_drew ?_ | refine bel_alloc ?_ (Nat.le_refl _) _))) ?_
      intro q1 d1 w1 ho1 hg1 ha1 hp1
      have HB1 : Below wc.heap.size wc w1 := below_grown (by repeat (first | (with_reducible exact Below.refl _ _) | (with_reducible exact HB2) | (with_reducible exact HB1) | refine bel_drew ?_ | refine bel_alloc ?_ (Nat.le_refl _) _)) (by exact bel_le (W := wc) (Nat.le_refl _) (by repeat (first | (with_reducible exact Below.refl _ _) | (with_reducible exact HB2) | (with_reducible exact HB1) | refine bel_drew ?_ | refine bel_alloc ?_ (Nat.le_refl _) _))) hg1 hp1
      clear ha1 hp1
      refine hK.out _ _ (fun _ => KS.out _ HB1) ?_
      clear hK K
      (try simp only [Act.put, List.setIfInBounds_toArray, List.set_cons_zero, List.set_cons_succ])
      refine OrdT.AnyT.one (i := 5) (by kernel_rfl) (by rfl) (fun K hK => ?_)
      refine step_append_rd (some 17) (by rfl) (by rfl) _ _ 35 (by rfl) wc.heap.size 37 i0 (.agg #[.int .i64 0, .int .i64 0, .bool false]) 3 24 Try.underlying35 hi hz0 hz1' hz2 rfl (by decide) (.slice q1 L.length d1) L.length FL (by rfl) (by first | exact ho1 | exact own_kept ho1 (fun k e => Below.heap_alloc _ _ _ (own_lt ho1 k e))) _ _ 1 [.int .i64 xi, .int .i64 xd, .bool xf] (by rfl) (by exact rd_one (cs := #[.int .i64 xi, .int .i64 xd, .bool xf]) (by exact (hg1.block _ (by first | (simp; done) | (simp; omega)) (by simp [Value.ownBlock])).trans ((heap_alloc_old _ _ (by first | (simp; done) | (simp; omega))).trans (heap_alloc_at _ _ _ (by first | (simp; done) | (simp; omega))))) rfl) (by exact ON2.out) (L.length + 1) (by exact rfl) FX (by exact EFX.out) (by exact SZ2.out.1) (by exact SZ2.out.2) (by exact bel_le (W := wc) (Nat.le_refl _) (by repeat (first | (with_reducible exact Below.refl _ _) | (with_reducible exact HB2) | (with_reducible exact HB1) | refine bel_drew ?_ | refine bel_alloc ?_ (Nat.le_refl _) _))) ?_
      intro q2 d2 w2 ho2 hg2 ha2 hp2
      have HB2 : Below wc.heap.size wc w2 := below_grown (by repeat (first | (with_reducible exact Below.refl _ _) | (with_reducible exact HB2) | (with_reducible exact HB1) | refine bel_drew ?_ | refine bel_alloc ?_ (Nat.le_refl _) _)) (by exact bel_le (W := wc) (Nat.le_refl _) (by repeat (first | (with_reducible exact Below.refl _ _) | (with_reducible exact HB2) | (with_reducible exact HB1) | refine bel_drew ?_ | refine bel_alloc ?_ (Nat.le_refl _) _))) hg2 hp2
      clear ha2 hp2
      refine hK.out _ _ (fun _ => KS.out _ HB2) ?_
      clear hK K
      (try simp only [Act.put, List.setIfInBounds_toArray, List.set_cons_zero, List.set_cons_succ])
      refine OrdT.AnyT.one (i := 6) (by kernel_rfl) (by rfl) (fun K hK => ?_)
      go_simp
      refine hK.out _ _ (fun _ => KS.out _ HB2) ?_
      clear hK K
      (try simp only [Act.put, List.setIfInBounds_toArray, List.set_cons_zero, List.set_cons_succ])
      refine OrdT.AnyT.done (by kernel_rfl) ?_ _
      refine NoPanic.normal ?_
      go_wp2
      go_meet
      case rel => exact ⟨_, _, rfl, hide (SLF.out _ _ _ ho2), hide HB2⟩
  case rest => as_aux_lemma =>
    obtain ⟨q2, d2, rfl, HSA, HBA⟩ := hcut
    have hl1 : (L ++ [(xi, xd, xf)]).length ≤ 100 := by simp; omega
    have hlen : (L ++ [(xi, xd, xf)]).length = L.length + 1 := by simp
    have HG := hide (rgood_any HSA.out hl1 m)
    have HPA := hide (fun w (hN : Nx wc w) => rpick_any (HSA.out.below hN) hl1 m)
    have HPL := hide (fun w (hN : Nx wc w) => rpick_any ((HLL.out _ HBA.out).below hN) (show L.length ≤ 100 by omega) m)
    have XC := hide (fun w' (hN : Nx wc w') => KS.out w' (HBA.out.trans (Below.mono hN HBA.out.size)))
    have FN := hide (fun w' (hN : Nx wc w') => FIN.out w' (HBA.out.trans (Below.mono hN HBA.out.size)))
    clear KS FIN HLL SLF RL EFX ON1 ON2 SZ1 SZ2 hi hz0 hz1' hz2 HBA hlen
    go_wp2_with fail
    refine HG.out.mono ?_
    rintro e w4 ⟨rfl, hb4⟩
    have N4 := hide hb4
    clear hb4 HG
    cases hg : goodE m (L ++ [(xi, xd, xf)]) with
    | false =>
      have hbb : beatsB m L (xi, xd, xf) = false := by unfold beatsB; rw [hg]; rfl
      have E := hide (And.intro hbb (beats_bad hbb))
      have F4 := hide (FN.out _ N4.out)
      clear hg hbb
      go_wp2
      go_ret2
      exact ⟨ret2 (by rw [E.out.2]; rfl) (by rw [E.out.1]; rfl), F4.out⟩
    | true =>
      have HBI := hide (beats_in hg)
      have HB0 := hide (fun h => beats_bad (m := m) (L := L) (x := (xi, xd, xf)) h)
      have HBO := hide (fun h i hi hn => beats_out (m := m) (L := L) (x := (xi, xd, xf)) h (i := i) hi hn)
      have HBN := hide (fun h ha => beats_none (m := m) (L := L) (x := (xi, xd, xf)) h ha)
      clear hg
      go_wp2_with fail
      refine (HPA.out _ N4.out).mono ?_
      rintro e w5 ⟨v5, rfl, hO5, hb5⟩
      have I5 : Hid (Is w5 v5 (pickL m (L ++ [(xi, xd, xf)]))) := hide (Is.own hO5.out)
      have N5 := hide (Nx.trans N4.out hb5)
      clear hO5 hb5 HPA N4
      obtain ⟨p5, c5, rfl, hn5, hm5⟩ := I5.out.form
      obtain ⟨x0, x1, x2⟩ := XC.out _ N5.out
      have HIN := hide (fun w i (hN : Nx w5 w) => rin_any (I5.out.below hN) i)
      generalize hPA : pickL m (L ++ [(xi, xd, xf)]) = PA at *
      clear hPA
      go_wp2_with fail
      refine (HIN.out _ xi (Nx.refl _)).mono ?_
      rintro e w6 ⟨rfl, hb6⟩
      have N6 := hide hb6
      have F6 := hide (FN.out _ (Nx.trans N5.out hb6))
      have N56 := hide (Nx.trans N5.out hb6)
      clear hb6 x0 x1 x2 XC
      have HBI2 : Hid (beatsB m L (xi, xd, xf) = decide (xi ∈ PA)) := hide HBI.out
      clear HBI
      generalize hdd : decide (xi ∈ PA) = dd at *
      clear hdd
      cases dd with
      | false =>
        have E := hide (And.intro HBI2.out (HB0.out HBI2.out))
        go_wp2
        go_ret2
        exact ⟨ret2 (by rw [E.out.2]; rfl) (by rw [E.out.1]; rfl), F6.out⟩
      | true =>
        go_wp2_with fail
        refine (HPL.out _ N56.out).mono ?_
        rintro e w7 ⟨v7, rfl, hO7, hb7⟩
        have I7 : Hid (Is w7 v7 (pickL m L)) := hide (Is.own hO7.out)
        have N57 := hide (Nx.trans N6.out hb7)
        have N7 := hide (Nx.trans N56.out hb7)
        clear hO7 hb7 HPL N56 F6 N6
        obtain ⟨p7, c7, rfl, hn7, hm7⟩ := I7.out.form
        have hmx : ((pickL m L).length : Int) ≤ 64 := by have := pick_le (m := m) (L := L); omega
        have HBO2 : Hid (∀ k, k < (pickL m L).length → ¬ (pickL m L).getD k 0 ∈ PA → beatsN m L (xi, xd, xf) = (pickL m L).getD k 0) := hide (fun k hk hn => HBO.out HBI2.out _ (getD_mem hk) hn)
        have HBN2 : Hid ((∀ k, k < (pickL m L).length → (pickL m L).getD k 0 ∈ PA) → beatsN m L (xi, xd, xf) = -1) := hide (fun h => HBN.out HBI2.out fun i hi => by
          obtain ⟨k, hk, rfl⟩ := mem_getD hi
          exact h k hk)
        clear HBO HBN HB0
        generalize pickL m L = PL at *
        go_wp2
        go_loopw [11] (fun i wr => ∃ k : Nat, k ≤ PL.length ∧ i = .int .i64 (k : Int) ∧ Hid (∀ j, j < k → PL.getD j 0 ∈ PA) ∧ Hid (Nx w7 wr)) (fun i _ => PL.length - (intOf i).toNat)
        case atStart => exact ⟨0, by omega, rfl, hide (fun j hj => by omega), hide (Nx.refl _)⟩
        case round =>
          obtain ⟨k, hk, rfl, HR, HN⟩ := hrel
          have HW := hide (FN.out _ (Nx.trans N7.out HN.out))
          by_cases hkn : k < PL.length
          rotate_left
          · obtain rfl : k = PL.length := by omega
            have E := hide (HBN2.out HR.out)
            go_wp2
            go_ret2
            exact ⟨ret2 (by rw [E.out]; rfl) (by rw [HBI2.out]; rfl), HW.out⟩
          have hk1 : (k : Int) < (PL.length : Int) := by omega
          obtain ⟨b, o, rfl, hb, y0⟩ := (I7.out.below HN.out).at hkn
          have HO := HBO2.out k hkn
          have HI := hide (HIN.out wr (PL.getD k 0) (Nx.trans N57.out HN.out))
          have hy1 := fun w (h : Nx wr w) => (h.cell (p := ⟨b, o + k, none⟩) hb).trans y0
          have HY1 := hide hy1
          clear hy1
          by_cases hin : PL.getD k 0 ∈ PA
          · have HR2 : Hid (∀ j, j < k + 1 → PL.getD j 0 ∈ PA) := hide (fun j hj => by
              rcases Nat.lt_or_ge j k with g | g
              · exact HR.out j g
              · obtain rfl : j = k := by omega
                exact hin)
            rw [decide_eq_true hin] at HI
            clear HR HO hin
            generalize PL.getD k 0 = c at *
            go_wp2_with fail
            refine HI.out.mono ?_
            rintro e w8 ⟨rfl, hb8⟩
            have N8 := hide (Nx.trans HN.out hb8)
            clear hb8
            go_wp2
            go_round
            case rel => exact ⟨k + 1, by omega, by go_num, HR2, N8⟩
            case measure => simp [intOf]; omega
          · have E := hide (HO hin)
            rw [decide_eq_false hin] at HI
            clear HR HO hin
            generalize PL.getD k 0 = c at *
            go_wp2_with fail
            refine HI.out.mono ?_
            rintro e w8 ⟨rfl, hb8⟩
            have y1 := HY1.out _ hb8
            have N8 := hide (FN.out _ (Nx.trans N7.out (Nx.trans HN.out hb8)))
            clear hb8
            go_wp2
            go_ret2
            exact ⟨ret2 (by rw [E.out]; rfl) (by rw [HBI2.out]; rfl), N8.out⟩
end Go.Proofs.Ytacbiiiadalocaa.Ed
