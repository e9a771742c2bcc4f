/- The reference's ahead, picked. -/
import Derived.Test.YtacbiiiadalocaaEdRf
import Derived.Test.YtacbiiiadalocaaJSeg
namespace Go.Proofs.Ytacbiiiadalocaa.Ed
open Go.RowKit Go.Proofs.Ytacbiiiadalocaa.Con
set_option linter.unusedVariables false
set_option linter.unusedSimpArgs false
attribute [local go_sem ↓] Go.wp_at_zero Go.wp_at_succ
/-- What ahead answers of those that do not run yet. -/
def Ah (L : List Et) (F : Nat → Bool) (k : Nat) (r : Int) : Prop :=
  (r = -1 ∧ ∀ j, j < k → F j = true) ∨ ∃ i : Nat, r = (i : Int) ∧ i < k ∧ F i = false ∧ ∀ j, j < k → F j = false → bef (at' L j) (at' L i) = false
theorem Ah.zero (L : List Et) (F : Nat → Bool) : Ah L F 0 (-1) := .inl ⟨rfl, fun j hj => by omega⟩
theorem Ah.skip {L : List Et} {F : Nat → Bool} {k : Nat} {r : Int} (h : Ah L F k r) (hF : F k = true) : Ah L F (k + 1) r := by
  rcases h with ⟨h1, h2⟩ | ⟨i, h1, h2, h3, h4⟩
  · exact .inl ⟨h1, fun j hj => by
      rcases Nat.lt_or_ge j k with g | g
      · exact h2 j g
      · obtain rfl : j = k := by omega
        exact hF⟩
  · exact .inr ⟨i, h1, by omega, h3, fun j hj hFj => by
      rcases Nat.lt_or_ge j k with g | g
      · exact h4 j g hFj
      · obtain rfl : j = k := by omega
        rw [hF] at hFj; cases hFj⟩
theorem Ah.first {L : List Et} {F : Nat → Bool} {k : Nat} (h : Ah L F k (-1)) (hF : F k = false) : Ah L F (k + 1) (k : Int) := by
  rcases h with ⟨h1, h2⟩ | ⟨i, h1, _⟩
  · exact .inr ⟨k, rfl, by omega, hF, fun j hj hFj => by
      rcases Nat.lt_or_ge j k with g | g
      · rw [h2 j g] at hFj; cases hFj
      · obtain rfl : j = k := by omega
        exact bef_irr _⟩
  · omega
theorem Ah.keep {L : List Et} {F : Nat → Bool} {k i : Nat} (h : Ah L F k (i : Int)) (hb : bef (at' L k) (at' L i) = false) : Ah L F (k + 1) (i : Int) := by
  rcases h with ⟨h1, h2⟩ | ⟨i', h1, h2, h3, h4⟩
  · omega
  · obtain rfl : i = i' := by omega
    exact .inr ⟨i, rfl, by omega, h3, fun j hj hFj => by
      rcases Nat.lt_or_ge j k with g | g
      · exact h4 j g hFj
      · obtain rfl : j = k := by omega
        exact hb⟩
theorem Ah.better {L : List Et} {F : Nat → Bool} {k i : Nat} (h : Ah L F k (i : Int)) (hF : F k = false) (hb : bef (at' L k) (at' L i) = true) : Ah L F (k + 1) (k : Int) := by
  rcases h with ⟨h1, h2⟩ | ⟨i', h1, h2, h3, h4⟩
  · omega
  · obtain rfl : i = i' := by omega
    exact .inr ⟨k, rfl, by omega, hF, fun j hj hFj => by
      rcases Nat.lt_or_ge j k with g | g
      · cases e : bef (at' L j) (at' L k) with
        | false => rfl
        | true => have := bef_trans e hb; rw [h4 j g hFj] at this; cases this
      · obtain rfl : j = k := by omega
        exact bef_irr _⟩
theorem Ah.lt {L : List Et} {F : Nat → Bool} {k : Nat} {r : Int} (h : Ah L F k r) : r = -1 ∨ ∃ i : Nat, r = (i : Int) ∧ i < k := by
  rcases h with ⟨h1, _⟩ | ⟨i, h1, h2, _⟩
  · exact .inl h1
  · exact .inr ⟨i, h1, h2⟩
theorem bef_f {a b : Et} (ha : a.2.2 = true) (hb : b.2.2 = false) : bef a b = true := bef_iff.2 (.inl ⟨ha, hb⟩)
theorem bef_nf {a b : Et} (ha : a.2.2 = false) (hb : b.2.2 = true) : bef a b = false := by unfold bef; rw [ha, hb]; rfl
theorem bef_tt {a b : Et} (ha : a.2.2 = true) (hb : b.2.2 = true) : bef a b = lessB a b := by unfold bef; rw [ha, hb]; rfl
set_option maxHeartbeats 16000000 in
theorem rahead_any {W : World} {v : Value} {L : List Et} {g : Nat} {F : Nat → Bool} (h : Sl W v L) (hB : Bn W g L.length F) (cb : Nat) :
    Calls Try.prog 30 #[v, .slice (some ⟨g, 0, none⟩) L.length cb] W fun e w' => ∃ r, e = .returned (.int .i64 r) ∧ Hid (Ah L F L.length r) ∧ Nx W w' := by
  obtain ⟨p, cap, rfl, hn, hm⟩ := h.form
  have hmx : (L.length : Int) ≤ 9223372036854775807 := by unfold maxLen at hm; omega
  have H := hide h
  have HB := hide hB
  have HL := hide (fun a b w => rless_any a b w)
  clear h hB
  go_enter Try.func30, Try.ntmps30
  go_wp2
  go_loopw [5, 6] (fun r i wr => ∃ k : Nat, k ≤ L.length ∧ i = .int .i64 (k : Int) ∧ ∃ r', r = .int .i64 r' ∧ Hid (Ah L F k r') ∧ Hid (Nx W wr)) (fun _ i _ => L.length - (intOf i).toNat)
  case atStart => exact ⟨0, by omega, rfl, _, rfl, hide (Ah.zero L F), hide (Nx.refl _)⟩
  case round =>
    obtain ⟨k, hk, rfl, r, rfl, HA, HN⟩ := hrel
    by_cases hkn : k < L.length
    rotate_left
    · obtain rfl : k = L.length := by omega
      go_wp2
      go_ret
      exact ⟨_, rfl, HA, HN.out⟩
    have hk1 : (k : Int) < (L.length : Int) := by omega
    have y0 := (HB.out.nx HN.out).cell k hkn
    cases hF : F k with
    | true =>
      have HA' := hide (HA.out.skip hF)
      rw [hF] at y0
      clear HA
      go_wp2
      go_round
      case rel => exact ⟨k + 1, by omega, by go_num, r, rfl, HA', HN⟩
      case measure => simp [intOf]; omega
    | false =>
      rw [hF] at y0
      rcases HA.out.lt with rfl | ⟨i, rfl, hik⟩
      · have HA' := hide (HA.out.first hF)
        clear HA
        have HN' : Hid (∀ n, Nx W (wr.drewN n)) := hide (fun n => bel_drewN HN.out n)
        go_wp2
        go_quiet (fail)
        go_wp2
        go_round
        case rel => exact ⟨k + 1, by omega, by go_num, _, rfl, HA', hide (HN'.out _)⟩
        case measure => simp [intOf]; omega
      · have hi1 : (i : Int) < (L.length : Int) := by omega
        have hil : i < L.length := by omega
        have hi0 : decide ((i : Int) < 0) = false := decide_eq_false (by omega)
        obtain ⟨b, o, rfl, hb, ⟨x0, x1, x2⟩, ⟨z0, z1, z2⟩⟩ := (H.out.below HN.out).two hkn hil
        have HK := hide (fun hb => Ah.keep HA.out (k := k) (i := i) hb)
        have HBt := hide (fun hb => Ah.better HA.out hF (k := k) (i := i) hb)
        have HLk : Hid (∀ w, Calls Try.prog 22 #[.agg #[.int .i64 (at' L k).1, .int .i64 (at' L k).2.1, .bool (at' L k).2.2], .agg #[.int .i64 (at' L i).1, .int .i64 (at' L i).2.1, .bool (at' L i).2.2]] w fun e w' => e = .returned (.bool (lessB (at' L k) (at' L i))) ∧ Nx w w') := hide (fun w => HL.out (at' L k) (at' L i) w)
        have HBf : Hid (((at' L k).2.2 = true → (at' L i).2.2 = false → bef (at' L k) (at' L i) = true) ∧ ((at' L k).2.2 = false → (at' L i).2.2 = true → bef (at' L k) (at' L i) = false) ∧ ((at' L k).2.2 = (at' L i).2.2 → bef (at' L k) (at' L i) = lessB (at' L k) (at' L i))) := hide ⟨bef_f, bef_nf, fun e => by
          cases e2 : (at' L i).2.2 with
          | false => exact bef_free (e.trans e2) e2
          | true => exact bef_tt (e.trans e2) e2⟩
        have QQ : Hid (∀ w', Nx wr w' → (w'.cell? ⟨b, o + k * 3, none⟩ = some (.int .i64 (at' L k).1) ∧ w'.cell? ⟨b, o + k * 3 + 1, none⟩ = some (.int .i64 (at' L k).2.1) ∧ w'.cell? ⟨b, o + k * 3 + 2, none⟩ = some (.bool (at' L k).2.2)) ∧ w'.cell? ⟨b, o + i * 3, none⟩ = some (.int .i64 (at' L i).1) ∧ w'.cell? ⟨b, o + i * 3 + 1, none⟩ = some (.int .i64 (at' L i).2.1) ∧ w'.cell? ⟨b, o + i * 3 + 2, none⟩ = some (.bool (at' L i).2.2)) := hide (fun w' hB =>
          ⟨⟨(hB.cell (p := ⟨b, o + k * 3, none⟩) hb).trans x0, (hB.cell (p := ⟨b, o + k * 3 + 1, none⟩) hb).trans x1, (hB.cell (p := ⟨b, o + k * 3 + 2, none⟩) hb).trans x2⟩, (hB.cell (p := ⟨b, o + i * 3, none⟩) hb).trans z0, (hB.cell (p := ⟨b, o + i * 3 + 1, none⟩) hb).trans z1, (hB.cell (p := ⟨b, o + i * 3 + 2, none⟩) hb).trans z2⟩)
        have ND : Hid (Nx wr wr.drew) := hide (bel_drew (Nx.refl wr))
        have HN' : Hid (∀ w, Nx wr w → Nx W w) := hide (fun w h => Nx.trans HN.out h)
        have HNn : Hid (∀ n, Nx W (wr.drewN n)) := hide (fun n => bel_drewN HN.out n)
        clear HA HN
        generalize bef (at' L k) (at' L i) = bb at *
        generalize hlb : lessB (at' L k) (at' L i) = lb at *
        clear hlb
        generalize (at' L k).1 = k0 at *
        generalize (at' L k).2.1 = k1 at *
        generalize (at' L k).2.2 = k2 at *
        generalize (at' L i).1 = i0 at *
        generalize (at' L i).2.1 = i1 at *
        generalize (at' L i).2.2 = i2 at *
        cases k2 with
        | true =>
          cases i2 with
          | false =>
            have HA' := hide (HBt.out (HBf.out.1 rfl rfl))
            clear HLk HBf HK HBt QQ
            go_wp2
            go_quiet (fail)
            go_wp2
            go_round
            case rel => exact ⟨k + 1, by omega, by go_num, _, rfl, HA', hide (HNn.out _)⟩
            case measure => simp [intOf]; omega
          | true =>
            have hbb := HBf.out.2.2 rfl
            have SS : Hid (∀ x, Nx wr x → ∃ p : Regrown, x = Sort.grow (redrawn wr p.d) p.os) := hide (fun x hx => regrown_of_below hx)
            have f0 := fun d os => (QQ.out _ (below_regrown wr d os)).1.1
            have f1 := fun d os => (QQ.out _ (below_regrown wr d os)).1.2.1
            have f2 := fun d os => (QQ.out _ (below_regrown wr d os)).1.2.2
            have f3 := fun d os => (QQ.out _ (below_regrown wr d os)).2.1
            have f4 := fun d os => (QQ.out _ (below_regrown wr d os)).2.2.1
            have f5 := fun d os => (QQ.out _ (below_regrown wr d os)).2.2.2
            clear x0 x1 x2 z0 z1 z2 QQ HBf
            cases lb with
            | true =>
              have HA' := hide (HBt.out hbb)
              clear HK HBt
              go_wp2
              refine wp_region_noPanic ?_
              refine wp_region_held_drew (S := fun x => ∃ p : Regrown, x = Sort.grow (redrawn wr p.d) p.os) (by as_aux_lemma => kernel_rfl) (SS.out _ ND.out) (fun hHeld => ?_)
              clear hHeld
              refine Seg.seg 0 38 3 #[true, true, true, true, true, true, true, true, true, true, true, true, true, true, true, true, true, true, true, true, true, true, true, true, true, true, true, true, true, true, true, true, true, true, true, true, true, true, false, false, false] (by as_aux_lemma => kernel_rfl) (fun _ _ _ _ _ h => h) (SS.out _ ND.out) (by as_aux_lemma => kernel_rfl) (by kernel_rfl) (by kernel_rfl) ?_
              simp only [List.drop_succ_cons, List.drop_zero, List.take_succ_cons, List.take_zero]
              iterate 12 (go_big_quiet_step (fail))
              iterate 12 (go_big_quiet_step (fail))
              iterate 12 (go_big_quiet_step (fail))
              iterate 2 (go_big_quiet_step (fail))
              refine wpQuiet_nil ?_
              refine wpAnyH_ready (rs := [38]) (by as_aux_lemma => kernel_rfl) (by simp) ?_
              refine AllReadyH.cons rfl (fun K hK => ?_) AllReadyH.nil
              go_simp
              refine (HLk.out _).mono ?_
              rintro e w9 ⟨rfl, hb⟩
              have n1 := hide (Nx.trans ND.out hb)
              clear hb
              refine hK.out _ _ (SS.out _ n1.out) (fun hHeld => ?_)
              clear hK K hHeld
              (try simp only [Act.put, List.setIfInBounds_toArray, List.set_cons_zero, List.set_cons_succ])
              refine Seg.seg 39 2 0 #[true, true, true, true, true, true, true, true, true, true, true, true, true, true, true, true, true, true, true, true, true, true, true, true, true, true, true, true, true, true, true, true, true, true, true, true, true, true, true, true, true] (by as_aux_lemma => kernel_rfl) (fun _ _ _ _ _ h => h) (SS.out _ n1.out) (by as_aux_lemma => kernel_rfl) (by kernel_rfl) (by kernel_rfl) ?_
              simp only [List.drop_succ_cons, List.drop_zero, List.take_succ_cons, List.take_zero]
              iterate 2 (go_big_quiet_step (fail))
              refine wpQuiet_nil ?_
              refine wpAnyH_done (by as_aux_lemma => kernel_rfl) ?_ _
              refine NoPanic.normal ?_
              go_wp2
              go_roundw
              case rel => exact ⟨k + 1, by omega, by go_num, _, rfl, HA', hide (HN'.out _ n1.out)⟩
              case measure => simp [intOf]; omega
            | false =>
              have HA' := hide (HK.out hbb)
              clear HK HBt
              go_wp2
              refine wp_region_noPanic ?_
              refine wp_region_held_drew (S := fun x => ∃ p : Regrown, x = Sort.grow (redrawn wr p.d) p.os) (by as_aux_lemma => kernel_rfl) (SS.out _ ND.out) (fun hHeld => ?_)
              clear hHeld
              refine Seg.seg 0 38 3 #[true, true, true, true, true, true, true, true, true, true, true, true, true, true, true, true, true, true, true, true, true, true, true, true, true, true, true, true, true, true, true, true, true, true, true, true, true, true, false, false, false] (by as_aux_lemma => kernel_rfl) (fun _ _ _ _ _ h => h) (SS.out _ ND.out) (by as_aux_lemma => kernel_rfl) (by kernel_rfl) (by kernel_rfl) ?_
              simp only [List.drop_succ_cons, List.drop_zero, List.take_succ_cons, List.take_zero]
              iterate 12 (go_big_quiet_step (fail))
              iterate 12 (go_big_quiet_step (fail))
              iterate 12 (go_big_quiet_step (fail))
              iterate 2 (go_big_quiet_step (fail))
              refine wpQuiet_nil ?_
              refine wpAnyH_ready (rs := [38]) (by as_aux_lemma => kernel_rfl) (by simp) ?_
              refine AllReadyH.cons rfl (fun K hK => ?_) AllReadyH.nil
              go_simp
              refine (HLk.out _).mono ?_
              rintro e w9 ⟨rfl, hb⟩
              have n1 := hide (Nx.trans ND.out hb)
              clear hb
              refine hK.out _ _ (SS.out _ n1.out) (fun hHeld => ?_)
              clear hK K hHeld
              (try simp only [Act.put, List.setIfInBounds_toArray, List.set_cons_zero, List.set_cons_succ])
              refine Seg.seg 39 2 0 #[true, true, true, true, true, true, true, true, true, true, true, true, true, true, true, true, true, true, true, true, true, true, true, true, true, true, true, true, true, true, true, true, true, true, true, true, true, true, true, true, true] (by as_aux_lemma => kernel_rfl) (fun _ _ _ _ _ h => h) (SS.out _ n1.out) (by as_aux_lemma => kernel_rfl) (by kernel_rfl) (by kernel_rfl) ?_
              simp only [List.drop_succ_cons, List.drop_zero, List.take_succ_cons, List.take_zero]
              iterate 2 (go_big_quiet_step (fail))
              refine wpQuiet_nil ?_
              refine wpAnyH_done (by as_aux_lemma => kernel_rfl) ?_ _
              refine NoPanic.normal ?_
              go_wp2
              go_roundw
              case rel => exact ⟨k + 1, by omega, by go_num, _, rfl, HA', hide (HN'.out _ n1.out)⟩
              case measure => simp [intOf]; omega
        | false =>
          cases i2 with
          | true =>
            have HA' := hide (HK.out (HBf.out.2.1 rfl rfl))
            clear HLk HBf HK HBt QQ
            go_wp2
            go_quiet (fail)
            go_wp2
            go_round
            case rel => exact ⟨k + 1, by omega, by go_num, _, rfl, HA', hide (HNn.out _)⟩
            case measure => simp [intOf]; omega
          | false =>
            have hbb := HBf.out.2.2 rfl
            have SS : Hid (∀ x, Nx wr x → ∃ p : Regrown, x = Sort.grow (redrawn wr p.d) p.os) := hide (fun x hx => regrown_of_below hx)
            have f0 := fun d os => (QQ.out _ (below_regrown wr d os)).1.1
            have f1 := fun d os => (QQ.out _ (below_regrown wr d os)).1.2.1
            have f2 := fun d os => (QQ.out _ (below_regrown wr d os)).1.2.2
            have f3 := fun d os => (QQ.out _ (below_regrown wr d os)).2.1
            have f4 := fun d os => (QQ.out _ (below_regrown wr d os)).2.2.1
            have f5 := fun d os => (QQ.out _ (below_regrown wr d os)).2.2.2
            clear x0 x1 x2 z0 z1 z2 QQ HBf
            cases lb with
            | true =>
              have HA' := hide (HBt.out hbb)
              clear HK HBt
              go_wp2
              refine wp_region_noPanic ?_
              refine wp_region_held_drew (S := fun x => ∃ p : Regrown, x = Sort.grow (redrawn wr p.d) p.os) (by as_aux_lemma => kernel_rfl) (SS.out _ ND.out) (fun hHeld => ?_)
              clear hHeld
              refine Seg.seg 0 38 3 #[true, true, true, true, true, true, true, true, true, true, true, true, true, true, true, true, true, true, true, true, true, true, true, true, true, true, true, true, true, true, true, true, true, true, true, true, true, true, false, false, false] (by as_aux_lemma => kernel_rfl) (fun _ _ _ _ _ h => h) (SS.out _ ND.out) (by as_aux_lemma => kernel_rfl) (by kernel_rfl) (by kernel_rfl) ?_
              simp only [List.drop_succ_cons, List.drop_zero, List.take_succ_cons, List.take_zero]
              iterate 12 (go_big_quiet_step (fail))
              iterate 12 (go_big_quiet_step (fail))
              iterate 12 (go_big_quiet_step (fail))
              iterate 2 (go_big_quiet_step (fail))
              refine wpQuiet_nil ?_
              refine wpAnyH_ready (rs := [38]) (by as_aux_lemma => kernel_rfl) (by simp) ?_
              refine AllReadyH.cons rfl (fun K hK => ?_) AllReadyH.nil
              go_simp
              refine (HLk.out _).mono ?_
              rintro e w9 ⟨rfl, hb⟩
              have n1 := hide (Nx.trans ND.out hb)
              clear hb
              refine hK.out _ _ (SS.out _ n1.out) (fun hHeld => ?_)
              clear hK K hHeld
              (try simp only [Act.put, List.setIfInBounds_toArray, List.set_cons_zero, List.set_cons_succ])
              refine Seg.seg 39 2 0 #[true, true, true, true, true, true, true, true, true, true, true, true, true, true, true, true, true, true, true, true, true, true, true, true, true, true, true, true, true, true, true, true, true, true, true, true, true, true, true, true, true] (by as_aux_lemma => kernel_rfl) (fun _ _ _ _ _ h => h) (SS.out _ n1.out) (by as_aux_lemma => kernel_rfl) (by kernel_rfl) (by kernel_rfl) ?_
              simp only [List.drop_succ_cons, List.drop_zero, List.take_succ_cons, List.take_zero]
              iterate 2 (go_big_quiet_step (fail))
              refine wpQuiet_nil ?_
              refine wpAnyH_done (by as_aux_lemma => kernel_rfl) ?_ _
              refine NoPanic.normal ?_
              go_wp2
              go_roundw
              case rel => exact ⟨k + 1, by omega, by go_num, _, rfl, HA', hide (HN'.out _ n1.out)⟩
              case measure => simp [intOf]; omega
            | false =>
              have HA' := hide (HK.out hbb)
              clear HK HBt
              go_wp2
              refine wp_region_noPanic ?_
              refine wp_region_held_drew (S := fun x => ∃ p : Regrown, x = Sort.grow (redrawn wr p.d) p.os) (by as_aux_lemma => kernel_rfl) (SS.out _ ND.out) (fun hHeld => ?_)
              clear hHeld
              refine Seg.seg 0 38 3 #[true, true, true, true, true, true, true, true, true, true, true, true, true, true, true, true, true, true, true, true, true, true, true, true, true, true, true, true, true, true, true, true, true, true, true, true, true, true, false, false, false] (by as_aux_lemma => kernel_rfl) (fun _ _ _ _ _ h => h) (SS.out _ ND.out) (by as_aux_lemma => kernel_rfl) (by kernel_rfl) (by kernel_rfl) ?_
              simp only [List.drop_succ_cons, List.drop_zero, List.take_succ_cons, List.take_zero]
              iterate 12 (go_big_quiet_step (fail))
              iterate 12 (go_big_quiet_step (fail))
              iterate 12 (go_big_quiet_step (fail))
              iterate 2 (go_big_quiet_step (fail))
              refine wpQuiet_nil ?_
              refine wpAnyH_ready (rs := [38]) (by as_aux_lemma => kernel_rfl) (by simp) ?_
              refine AllReadyH.cons rfl (fun K hK => ?_) AllReadyH.nil
              go_simp
              refine (HLk.out _).mono ?_
              rintro e w9 ⟨rfl, hb⟩
              have n1 := hide (Nx.trans ND.out hb)
              clear hb
              refine hK.out _ _ (SS.out _ n1.out) (fun hHeld => ?_)
              clear hK K hHeld
              (try simp only [Act.put, List.setIfInBounds_toArray, List.set_cons_zero, List.set_cons_succ])
              refine Seg.seg 39 2 0 #[true, true, true, true, true, true, true, true, true, true, true, true, true, true, true, true, true, true, true, true, true, true, true, true, true, true, true, true, true, true, true, true, true, true, true, true, true, true, true, true, true] (by as_aux_lemma => kernel_rfl) (fun _ _ _ _ _ h => h) (SS.out _ n1.out) (by as_aux_lemma => kernel_rfl) (by kernel_rfl) (by kernel_rfl) ?_
              simp only [List.drop_succ_cons, List.drop_zero, List.take_succ_cons, List.take_zero]
              iterate 2 (go_big_quiet_step (fail))
              refine wpQuiet_nil ?_
              refine wpAnyH_done (by as_aux_lemma => kernel_rfl) ?_ _
              refine NoPanic.normal ?_
              go_wp2
              go_roundw
              case rel => exact ⟨k + 1, by omega, by go_num, _, rfl, HA', hide (HN'.out _ n1.out)⟩
              case measure => simp [intOf]; omega
end Go.Proofs.Ytacbiiiadalocaa.Ed
