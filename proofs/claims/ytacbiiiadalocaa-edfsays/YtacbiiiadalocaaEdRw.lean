/- The reference's Worst. -/
import Derived.Test.YtacbiiiadalocaaEdRs
namespace Go.Proofs.Ytacbiiiadalocaa.Ed
open Go.RowKit Go.Proofs.Ytacbiiiadalocaa.Con
set_option linter.unusedVariables false
set_option linter.unusedSimpArgs false
attribute [local go_sem ↓] Go.wp_at_zero Go.wp_at_succ
/-- The last one of those that are meant, so far. -/
def Wh (L : List Et) (p : Nat → Bool) (k : Nat) (r : Int) : Prop :=
  (r = -1 ∧ ∀ j, j < k → p j = false) ∨ ∃ i : Nat, r = (i : Int) ∧ i < k ∧ p i = true ∧ ∀ j, j < k → p j = true → lessB (at' L i) (at' L j) = false
theorem Wh.zero (L : List Et) (p : Nat → Bool) : Wh L p 0 (-1) := .inl ⟨rfl, fun j hj => by omega⟩
theorem Wh.skip {L : List Et} {p : Nat → Bool} {k : Nat} {r : Int} (h : Wh L p k r) (hp : p k = false) : Wh L p (k + 1) r := by
  rcases h with ⟨h1, h2⟩ | ⟨i, h1, h2, h3, h4⟩
  · exact .inl ⟨h1, fun j hj => by
      rcases Nat.lt_or_ge j k with g | g
      · exact h2 j g
      · obtain rfl : j = k := by omega
        exact hp⟩
  · exact .inr ⟨i, h1, by omega, h3, fun j hj hpj => by
      rcases Nat.lt_or_ge j k with g | g
      · exact h4 j g hpj
      · obtain rfl : j = k := by omega
        rw [hp] at hpj; cases hpj⟩
theorem Wh.first {L : List Et} {p : Nat → Bool} {k : Nat} (h : Wh L p k (-1)) (hp : p k = true) : Wh L p (k + 1) (k : Int) := by
  rcases h with ⟨h1, h2⟩ | ⟨i, h1, _⟩
  · exact .inr ⟨k, rfl, by omega, hp, fun j hj hpj => by
      rcases Nat.lt_or_ge j k with g | g
      · rw [h2 j g] at hpj; cases hpj
      · obtain rfl : j = k := by omega
        exact less_irr _⟩
  · omega
theorem Wh.keep {L : List Et} {p : Nat → Bool} {k i : Nat} (h : Wh L p k (i : Int)) (hb : lessB (at' L i) (at' L k) = false) : Wh L p (k + 1) (i : Int) := by
  rcases h with ⟨h1, h2⟩ | ⟨i', h1, h2, h3, h4⟩
  · omega
  · obtain rfl : i = i' := by omega
    exact .inr ⟨i, rfl, by omega, h3, fun j hj hpj => by
      rcases Nat.lt_or_ge j k with g | g
      · exact h4 j g hpj
      · obtain rfl : j = k := by omega
        exact hb⟩
theorem Wh.better {L : List Et} {p : Nat → Bool} {k i : Nat} (h : Wh L p k (i : Int)) (hp : p k = true) (hb : lessB (at' L i) (at' L k) = true) : Wh L p (k + 1) (k : Int) := by
  rcases h with ⟨h1, h2⟩ | ⟨i', h1, h2, h3, h4⟩
  · omega
  · obtain rfl : i = i' := by omega
    exact .inr ⟨k, rfl, by omega, hp, fun j hj hpj => by
      rcases Nat.lt_or_ge j k with g | g
      · cases e : lessB (at' L k) (at' L j) with
        | false => rfl
        | true => have := less_trans hb e; rw [h4 j g hpj] at this; cases this
      · obtain rfl : j = k := by omega
        exact less_irr _⟩
theorem Wh.lt {L : List Et} {p : Nat → Bool} {k : Nat} {r : Int} (h : Wh L p k r) : r = -1 ∨ ∃ i : Nat, r = (i : Int) ∧ i < k := by
  rcases h with ⟨h1, _⟩ | ⟨i, h1, h2, _⟩
  · exact .inl h1
  · exact .inr ⟨i, h1, h2⟩
def mean (L : List Et) (F : Nat → Bool) : Nat → Bool := fun j => F j && !(at' L j).2.2
theorem worst_of {m : Int} {L : List Et} {F : Nat → Bool} (hF : ∀ j, F j = (goodE m L && runs m L (at' L j))) {r : Int} (h : Wh L (mean L F) L.length r) :
    (r = -1 ∧ worstO m L = none) ∨ ∃ i : Nat, r = (i : Int) ∧ i < L.length ∧ worstO m L = some (at' L i) := by
  cases hg : goodE m L with
  | false =>
    have hn : worstO m L = none := if_neg (by rw [hg]; decide)
    rcases h with ⟨h1, _⟩ | ⟨i, h1, h2, h3, _⟩
    · exact .inl ⟨h1, hn⟩
    · unfold mean at h3; rw [hF, hg] at h3; cases h3
  | true =>
    have hp : ∀ j, mean L F j = (runs m L (at' L j) && !(at' L j).2.2) := fun j => by unfold mean; rw [hF, hg, Bool.true_and]
    unfold worstO
    rw [if_pos hg]
    rcases h with ⟨h1, h2⟩ | ⟨i, h1, h2, h3, h4⟩
    · refine .inl ⟨h1, last_none fun e he => ?_⟩
      obtain ⟨j, hj, rfl⟩ := mem_at he
      rw [← hp]; exact h2 j hj
    · refine .inr ⟨i, h1, h2, last_eq (good_iff.1 hg).2.2.2.1 (at_mem h2) (by rw [← hp]; exact h3) fun x hx hpx => ?_⟩
      obtain ⟨j, hj, rfl⟩ := mem_at hx
      exact h4 j hj (by rw [hp]; exact hpx)
set_option maxHeartbeats 16000000 in
theorem rworst_any {W : World} {v : Value} {L : List Et} (h : Sl W v L) (hl : L.length ≤ 100) (m : Int) : Calls Try.prog 17 #[.int .i64 m, v] W fun e w' =>
    e = .returned (.tuple #[ev (val (worstO m L)), .bool (worstO m L).isSome]) ∧ Nx W w' := by
  obtain ⟨p, cap, rfl, hn, hm⟩ := h.form
  have H := hide h
  have N0 := hide (Nx.alloc W (.cells #[.int .i64 0, .int .i64 0, .bool false] 37))
  have R0 := hide (heap_alloc_new W (.cells #[.int .i64 0, .int .i64 0, .bool false] 37))
  have HP := hide (fun w (hN : Nx W w) => rpicked_any (h.below hN) hl m)
  clear h
  obtain ⟨g, hgg⟩ : ∃ g, W.heap.size = g := ⟨_, rfl⟩
  have HGE : Hid (W.heap.size ≤ g) := hide (by omega)
  go_enter Try.func17, Try.ntmps17
  go_wp2_with fail
  refine (HP.out _ N0.out).mono ?_
  rintro e w1 ⟨g2, rfl, hB, hb⟩
  rw [hgg] at R0
  (try rw [hgg])
  obtain ⟨F, hF⟩ : ∃ F : Nat → Bool, (fun j => goodE m L && runs m L (at' L j)) = F := ⟨_, rfl⟩
  have HB := hide hB.out
  rw [hF] at HB
  have HFF : Hid (∀ r, Wh L (mean L F) L.length r → (r = -1 ∧ worstO m L = none) ∨ ∃ i : Nat, r = (i : Int) ∧ i < L.length ∧ worstO m L = some (at' L i)) := hide (fun r h => worst_of (fun j => by rw [← hF]) h)
  have R1 := hide (row_nx R0.out hb)
  have N1 := hide (Nx.trans N0.out hb)
  clear hb hB hF R0 N0 hgg HP
  go_wp2
  go_loopw [7, 8] (fun r i wr => ∃ k : Nat, k ≤ L.length ∧ i = .int .i64 (k : Int) ∧ ∃ r', r = .int .i64 r' ∧ Hid (Wh L (mean L F) k r') ∧ Hid (Nx w1 wr)) (fun _ i _ => L.length - (intOf i).toNat)
  case atStart => exact ⟨0, by omega, rfl, _, rfl, hide (Wh.zero L _), hide (Nx.refl _)⟩
  case round =>
    obtain ⟨k, hk, rfl, r, rfl, HA, HN⟩ := hrel
    have HNW := hide (Nx.trans N1.out HN.out)
    by_cases hkn : k < L.length
    rotate_left
    · obtain rfl : k = L.length := by omega
      have R3 := hide (row_nx R1.out HN.out)
      obtain ⟨c0, c1, c2⟩ := row3 R3.out
      have z0 := row_free R3.out 0
      have z1 := row_free R3.out 1
      have z2 := row_free R3.out 2
      rcases HFF.out r HA.out with ⟨rfl, E⟩ | ⟨i, rfl, hi, E⟩
      · have E := hide E
        clear HA
        go_wp2
        (try simp only [Exit.inBlock, Exit.then])
        refine bodyPost_ret (v := .tuple #[.agg #[.int .i64 0, .int .i64 0, .bool false], .bool false]) ?_ rfl ⟨by rw [E.out]; first | done | rfl, ?_⟩
        · rw [results_cell_tmp rfl]; go_simp
        · repeat (first | (with_reducible exact HNW.out) | refine Below.setCell ?_ HGE.out _)
      · obtain ⟨b, o, rfl, hb, x0, x1, x2⟩ := (H.out.below HNW.out).at hi
        have hi1 : (i : Int) < (L.length : Int) := by omega
        have hi0 : decide ((i : Int) < 0) = false := decide_eq_false (by omega)
        have EV : Hid (ev (val (worstO m L)) = .agg #[.int .i64 (at' L i).1, .int .i64 (at' L i).2.1, .bool (at' L i).2.2] ∧ (worstO m L).isSome = true) := hide (by rw [E]; exact ⟨rfl, rfl⟩)
        clear HA E
        generalize (at' L i).1 = y0 at *
        generalize (at' L i).2.1 = y1 at *
        generalize (at' L i).2.2 = y2 at *
        go_wp2
        (try simp only [Exit.inBlock, Exit.then])
        refine bodyPost_ret (v := .tuple #[.agg #[.int .i64 y0, .int .i64 y1, .bool y2], .bool true]) ?_ rfl ⟨by rw [EV.out.1, EV.out.2]; first | done | rfl, ?_⟩
        · rw [results_cell_tmp rfl]; go_simp
        · repeat (first | (with_reducible exact HNW.out) | refine Below.setCell ?_ HGE.out _)
    have hk1 : (k : Int) < (L.length : Int) := by omega
    have y0 := (HB.out.nx HN.out).cell k hkn
    have HNn : Hid (∀ n, Nx w1 (wr.drewN n)) := hide (fun n => bel_drewN HN.out n)
    have mk : ∀ a b, F k = a → (at' L k).2.2 = b → mean L F k = (a && !b) := fun a b h1 h2 => by unfold mean; rw [h1, h2]
    cases hF : F k with
    | false =>
      have HA' := hide (HA.out.skip (mk _ _ hF rfl))
      rw [hF] at y0
      clear HA mk HN HNW
      go_wp2
      go_quiet (fail)
      go_wp2
      go_round
      case rel => exact ⟨k + 1, by omega, by go_num, r, rfl, HA', hide (HNn.out _)⟩
      case measure => simp [intOf]; omega
    | true =>
      rw [hF] at y0
      cases hfx : (at' L k).2.2 with
      | true =>
        have HA' := hide (HA.out.skip (mk _ _ hF hfx))
        obtain ⟨b, o, rfl, hb, x0, x1, x2⟩ := (H.out.below HNW.out).at hkn
        rw [hfx] at x2
        clear HA mk HN HNW x0 x1 hF hfx
        go_wp2
        go_quiet (fail)
        go_wp2
        go_round
        case rel => exact ⟨k + 1, by omega, by go_num, r, rfl, HA', hide (HNn.out _)⟩
        case measure => simp [intOf]; omega
      | false =>
        have hmk := mk _ _ hF hfx
        clear mk
        rcases HA.out.lt with rfl | ⟨i, rfl, hik⟩
        · have HA' := hide (HA.out.first hmk)
          obtain ⟨b, o, rfl, hb, x0, x1, x2⟩ := (H.out.below HNW.out).at hkn
          rw [hfx] at x2
          clear HA HN HNW x0 x1 hF hfx
          go_wp2
          go_quiet (fail)
          go_wp2
          go_round
          case rel => exact ⟨k + 1, by omega, by go_num, _, rfl, HA', hide (HNn.out _)⟩
          case measure => simp [intOf]; omega
        · have hi1 : (i : Int) < (L.length : Int) := by omega
          have hil : i < L.length := by omega
          have hi0 : decide ((i : Int) < 0) = false := decide_eq_false (by omega)
          obtain ⟨b, o, rfl, hb, ⟨x0, x1, x2⟩, ⟨z0, z1, z2⟩⟩ := (H.out.below HNW.out).two hkn hil
          have HK := hide (fun hb => Wh.keep HA.out (k := k) (i := i) hb)
          have HBt := hide (fun hb => Wh.better HA.out hmk (k := k) (i := i) hb)
          have HLk : Hid (∀ w, Calls Try.prog 22 #[.agg #[.int .i64 (at' L i).1, .int .i64 (at' L i).2.1, .bool (at' L i).2.2], .agg #[.int .i64 (at' L k).1, .int .i64 (at' L k).2.1, .bool (at' L k).2.2]] w fun e w' => e = .returned (.bool (lessB (at' L i) (at' L k))) ∧ Nx w w') := hide (fun w => rless_any (at' L i) (at' L k) w)
          have QQ : Hid (∀ w', Nx wr w' → (w'.cell? ⟨b, o + k * 3, none⟩ = some (.int .i64 (at' L k).1) ∧ w'.cell? ⟨b, o + k * 3 + 1, none⟩ = some (.int .i64 (at' L k).2.1) ∧ w'.cell? ⟨b, o + k * 3 + 2, none⟩ = some (.bool (at' L k).2.2)) ∧ (w'.cell? ⟨b, o + i * 3, none⟩ = some (.int .i64 (at' L i).1) ∧ w'.cell? ⟨b, o + i * 3 + 1, none⟩ = some (.int .i64 (at' L i).2.1) ∧ w'.cell? ⟨b, o + i * 3 + 2, none⟩ = some (.bool (at' L i).2.2)) ∧ w'.cell? ⟨g2, k, none⟩ = some (.bool true)) := hide (fun w' hB =>
            ⟨⟨(hB.cell (p := ⟨b, o + k * 3, none⟩) hb).trans x0, (hB.cell (p := ⟨b, o + k * 3 + 1, none⟩) hb).trans x1, (hB.cell (p := ⟨b, o + k * 3 + 2, none⟩) hb).trans x2⟩, ⟨(hB.cell (p := ⟨b, o + i * 3, none⟩) hb).trans z0, (hB.cell (p := ⟨b, o + i * 3 + 1, none⟩) hb).trans z1, (hB.cell (p := ⟨b, o + i * 3 + 2, none⟩) hb).trans z2⟩, (hB.cell (p := ⟨g2, k, none⟩) (World.block_lt_of_cell? wr _ y0)).trans y0⟩)
          have ND : Hid (Nx wr wr.drew) := hide (bel_drew (Nx.refl wr))
          have HN' : Hid (∀ w, Nx wr w → Nx w1 w) := hide (fun w h => Nx.trans HN.out h)
          rw [hfx] at HLk QQ
          clear HA HN HNW hF hfx hmk x0 x1 x2 z0 z1 z2 y0 HNn
          generalize hlb : lessB (at' L i) (at' L k) = lb at *
          clear hlb
          generalize (at' L k).1 = k0 at *
          generalize (at' L k).2.1 = k1 at *
          generalize (at' L i).1 = i0 at *
          generalize (at' L i).2.1 = i1 at *
          generalize (at' L i).2.2 = i2 at *
          have SS : Hid (∀ x, Nx wr x → ∃ p : Regrown, x = Sort.grow (redrawn wr p.d) p.os) := hide (fun x hx => regrown_of_below hx)
          have f0 := fun d os => (QQ.out _ (below_regrown wr d os)).1.1
          have f1 := fun d os => (QQ.out _ (below_regrown wr d os)).1.2.1
          have f2 := fun d os => (QQ.out _ (below_regrown wr d os)).1.2.2
          have f3 := fun d os => (QQ.out _ (below_regrown wr d os)).2.1.1
          have f4 := fun d os => (QQ.out _ (below_regrown wr d os)).2.1.2.1
          have f5 := fun d os => (QQ.out _ (below_regrown wr d os)).2.1.2.2
          have f6 := fun d os => (QQ.out _ (below_regrown wr d os)).2.2
          clear QQ
          cases lb with
          | true =>
            have HA' := hide (HBt.out rfl)
            clear HK HBt
            go_wp2
            refine wp_region_noPanic ?_
            refine wp_region_held_drew (S := fun x => ∃ p : Regrown, x = Sort.grow (redrawn wr p.d) p.os) (by as_aux_lemma => kernel_rfl) (SS.out _ ND.out) (fun hHeld => ?_)
            clear hHeld
            refine Seg.seg 0 24 3 #[true, true, true, true, true, true, true, true, true, true, true, true, true, true, true, true, true, true, true, true, true, true, true, true, false, false, false] (by as_aux_lemma => kernel_rfl) (fun _ _ _ _ _ h => h) (SS.out _ ND.out) (by as_aux_lemma => kernel_rfl) (by kernel_rfl) (by kernel_rfl) ?_
            simp only [List.drop_succ_cons, List.drop_zero, List.take_succ_cons, List.take_zero]
            iterate 12 (go_big_quiet_step (fail))
            iterate 12 (go_big_quiet_step (fail))
            refine wpQuiet_nil ?_
            refine wpAnyH_ready (rs := [24]) (by as_aux_lemma => kernel_rfl) (by simp) ?_
            refine AllReadyH.cons rfl (fun K hK => ?_) AllReadyH.nil
            go_simp
            refine (HLk.out _).mono ?_
            rintro e w9 ⟨rfl, hb⟩
            have n1 := hide (Nx.trans ND.out hb)
            clear hb
            refine hK.out _ _ (SS.out _ n1.out) (fun hHeld => ?_)
            clear hK K hHeld
            (try simp only [Act.put, List.setIfInBounds_toArray, List.set_cons_zero, List.set_cons_succ])
            refine Seg.seg 25 2 0 #[true, true, true, true, true, true, true, true, true, true, true, true, true, true, true, true, true, true, true, true, true, true, true, true, true, true, true] (by as_aux_lemma => kernel_rfl) (fun _ _ _ _ _ h => h) (SS.out _ n1.out) (by as_aux_lemma => kernel_rfl) (by kernel_rfl) (by kernel_rfl) ?_
            simp only [List.drop_succ_cons, List.drop_zero, List.take_succ_cons, List.take_zero]
            iterate 2 (go_big_quiet_step (fail))
            refine wpQuiet_nil ?_
            refine wpAnyH_done (by as_aux_lemma => kernel_rfl) ?_ _
            refine NoPanic.normal ?_
            go_wp2
            go_roundw
            case rel => exact ⟨k + 1, by omega, by go_num, _, rfl, HA', hide (HN'.out _ n1.out)⟩
            case measure => simp [intOf]; omega
          | false =>
            have HA' := hide (HK.out rfl)
            clear HK HBt
            go_wp2
            refine wp_region_noPanic ?_
            refine wp_region_held_drew (S := fun x => ∃ p : Regrown, x = Sort.grow (redrawn wr p.d) p.os) (by as_aux_lemma => kernel_rfl) (SS.out _ ND.out) (fun hHeld => ?_)
            clear hHeld
            refine Seg.seg 0 24 3 #[true, true, true, true, true, true, true, true, true, true, true, true, true, true, true, true, true, true, true, true, true, true, true, true, false, false, false] (by as_aux_lemma => kernel_rfl) (fun _ _ _ _ _ h => h) (SS.out _ ND.out) (by as_aux_lemma => kernel_rfl) (by kernel_rfl) (by kernel_rfl) ?_
            simp only [List.drop_succ_cons, List.drop_zero, List.take_succ_cons, List.take_zero]
            iterate 12 (go_big_quiet_step (fail))
            iterate 12 (go_big_quiet_step (fail))
            refine wpQuiet_nil ?_
            refine wpAnyH_ready (rs := [24]) (by as_aux_lemma => kernel_rfl) (by simp) ?_
            refine AllReadyH.cons rfl (fun K hK => ?_) AllReadyH.nil
            go_simp
            refine (HLk.out _).mono ?_
            rintro e w9 ⟨rfl, hb⟩
            have n1 := hide (Nx.trans ND.out hb)
            clear hb
            refine hK.out _ _ (SS.out _ n1.out) (fun hHeld => ?_)
            clear hK K hHeld
            (try simp only [Act.put, List.setIfInBounds_toArray, List.set_cons_zero, List.set_cons_succ])
            refine Seg.seg 25 2 0 #[true, true, true, true, true, true, true, true, true, true, true, true, true, true, true, true, true, true, true, true, true, true, true, true, true, true, true] (by as_aux_lemma => kernel_rfl) (fun _ _ _ _ _ h => h) (SS.out _ n1.out) (by as_aux_lemma => kernel_rfl) (by kernel_rfl) (by kernel_rfl) ?_
            simp only [List.drop_succ_cons, List.drop_zero, List.take_succ_cons, List.take_zero]
            iterate 2 (go_big_quiet_step (fail))
            refine wpQuiet_nil ?_
            refine wpAnyH_done (by as_aux_lemma => kernel_rfl) ?_ _
            refine NoPanic.normal ?_
            go_wp2
            go_roundw
            case rel => exact ⟨k + 1, by omega, by go_num, _, rfl, HA', hide (HN'.out _ n1.out)⟩
            case measure => simp [intOf]; omega
end Go.Proofs.Ytacbiiiadalocaa.Ed
