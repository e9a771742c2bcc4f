/- Rows in their turn: those that run and those that do not. Plain mathematics. -/
import Derived.Test.YtacbiiiadalocaaEdPm
namespace Go.Proofs.Ytacbiiiadalocaa.Ed
open Go.RowKit
set_option linter.unusedVariables false
set_option linter.unusedSimpArgs false
/-- D is L, each by turn. -/
structure Srt (D L : List Et) : Prop where
  perm : D.Perm L
  ord : D.Pairwise (fun a b => bef b a = false)
theorem at_take {D : List Et} {n i : Nat} (h : i < n) : at' (D.take n) i = at' D i := by
  unfold at'
  rw [List.getD_eq_getElem?_getD, List.getD_eq_getElem?_getD, List.getElem?_take_of_lt h]
theorem at_drop {D : List Et} {n i : Nat} : at' (D.drop n) i = at' D (n + i) := by
  unfold at'
  rw [List.getD_eq_getElem?_getD, List.getD_eq_getElem?_getD, List.getElem?_drop]
theorem at_eq' {D : List Et} {i : Nat} (h : i < D.length) : at' D i = D[i] := by
  have := at_eq h
  rw [List.getElem?_eq_getElem h] at this
  exact (Option.some.inj this).symm
theorem Srt.rank {D L : List Et} (h : Srt D L) (hn : (ids L).Nodup) {i : Nat} (hi : i < D.length) : rank L (at' D i) = i := by
  have hnD : (ids D).Nodup := (h.perm.map _).nodup_iff.2 hn
  rw [← perm_rank h.perm]
  unfold Ed.rank
  have hD : D = D.take i ++ D.drop i := (List.take_append_drop i D).symm
  have e : D.countP (fun x => bef x (at' D i)) = (D.take i).countP (fun x => bef x (at' D i)) + (D.drop i).countP (fun x => bef x (at' D i)) := by
    conv => lhs; rw [hD]
    rw [List.countP_append]
    rw [← hD]
  rw [e]
  have a1 : (D.take i).countP (fun x => bef x (at' D i)) = (D.take i).length := List.countP_eq_length.2 fun x hx => by
    obtain ⟨j, hj, rfl⟩ := mem_at hx
    have hj' : j < i := by simp only [List.length_take] at hj; omega
    rw [at_take hj']
    have hne := nodup_ne hnD (show j < D.length by omega) hi (by omega)
    rcases bef_total hne with k | k
    · exact k
    · have := List.pairwise_iff_getElem.1 h.ord j i (by omega) hi hj'
      rw [← at_eq', ← at_eq'] at this
      rw [this] at k; cases k
  have a2 : (D.drop i).countP (fun x => bef x (at' D i)) = 0 := List.countP_eq_zero.2 fun x hx => by
    obtain ⟨j, hj, rfl⟩ := mem_at hx
    simp only [List.length_drop] at hj
    rw [at_drop]
    rcases Nat.eq_zero_or_pos j with rfl | hp
    · rw [Nat.add_zero, bef_irr]; decide
    · have := List.pairwise_iff_getElem.1 h.ord i (i + j) hi (by omega) (by omega)
      rw [← at_eq', ← at_eq'] at this
      rw [this]; decide
  rw [a1, a2, List.length_take]; omega
theorem Srt.runs {D L : List Et} (h : Srt D L) (hn : (ids L).Nodup) (m : Int) {i : Nat} (hi : i < D.length) : runs m L (at' D i) = decide ((i : Int) < m) := by
  unfold Ed.runs; rw [h.rank hn hi]
theorem Srt.len {D L : List Et} (h : Srt D L) : D.length = L.length := h.perm.length_eq
/-- R run, S do not. -/
def Sp (m : Int) (L R S : List Et) : Prop :=
  (goodE m L = false ∧ R = [] ∧ S = []) ∨ (goodE m L = true ∧ ∃ D, Srt D L ∧ R = D.take m.toNat ∧ S = D.drop m.toNat)
theorem sp_mem {m : Int} {L R S : List Et} (h : Sp m L R S) (hg : goodE m L = true) (e : Et) : e ∈ R ↔ e ∈ L ∧ runs m L e = true := by
  obtain ⟨g, _⟩ | ⟨_, D, hD, rfl, rfl⟩ := h
  · rw [hg] at g; cases g
  obtain ⟨h1, h2, h3, h4, h5⟩ := good_iff.1 hg
  constructor
  · intro he
    obtain ⟨j, hj, rfl⟩ := mem_at he
    simp only [List.length_take] at hj
    rw [at_take (by omega)]
    refine ⟨hD.perm.mem_iff.1 (at_mem (by omega)), ?_⟩
    rw [hD.runs h4 m (by omega)]
    exact decide_eq_true (by omega)
  · rintro ⟨he, hr⟩
    obtain ⟨j, hj, rfl⟩ := mem_at (hD.perm.mem_iff.2 he)
    rw [hD.runs h4 m hj] at hr
    have := of_decide_eq_true hr
    have hj' : j < m.toNat := by omega
    rw [← at_take hj']
    exact at_mem (by rw [List.length_take]; omega)
theorem sp_mem2 {m : Int} {L R S : List Et} (h : Sp m L R S) (hg : goodE m L = true) (e : Et) : e ∈ S ↔ e ∈ L ∧ runs m L e = false := by
  obtain ⟨g, _⟩ | ⟨_, D, hD, rfl, rfl⟩ := h
  · rw [hg] at g; cases g
  obtain ⟨h1, h2, h3, h4, h5⟩ := good_iff.1 hg
  constructor
  · intro he
    obtain ⟨j, hj, rfl⟩ := mem_at he
    simp only [List.length_drop] at hj
    rw [at_drop]
    refine ⟨hD.perm.mem_iff.1 (at_mem (by omega)), ?_⟩
    rw [hD.runs h4 m (by omega)]
    exact decide_eq_false (by omega)
  · rintro ⟨he, hr⟩
    obtain ⟨j, hj, rfl⟩ := mem_at (hD.perm.mem_iff.2 he)
    rw [hD.runs h4 m hj] at hr
    have := of_decide_eq_false hr
    have hj' : m.toNat ≤ j := by omega
    have e1 : at' D j = at' (D.drop m.toNat) (j - m.toNat) := by rw [at_drop]; congr 1; omega
    rw [e1]
    exact at_mem (by rw [List.length_drop]; omega)
theorem sp_len {m : Int} {L R S : List Et} (h : Sp m L R S) : R.length ≤ 64 ∧ S.length ≤ 64 ∧ R.length ≤ L.length ∧ S.length ≤ L.length := by
  obtain ⟨g, rfl, rfl⟩ | ⟨hg, D, hD, rfl, rfl⟩ := h
  · simp
  · have := (good_iff.1 hg).2.1
    have := hD.len
    simp only [List.length_take, List.length_drop]; omega
theorem sp_ids {m : Int} {L R S : List Et} (h : Sp m L R S) (hg : goodE m L = true) : (ids R).Nodup := by
  obtain ⟨g, _⟩ | ⟨_, D, hD, rfl, rfl⟩ := h
  · rw [hg] at g; cases g
  have hnD : (ids D).Nodup := (hD.perm.map _).nodup_iff.2 (good_iff.1 hg).2.2.2.1
  exact ids_sub (List.take_sublist _ _) hnD
/-- Sorted, the ids of those that run are what is asked. -/
theorem sp_pick {m : Int} {L R S : List Et} (h : Sp m L R S) {M : List Int} (hp : M.Perm (ids R)) (hs : M.Pairwise (· ≤ ·)) : M = pickL m L := by
  cases hg : goodE m L with
  | false =>
    obtain ⟨_, rfl, rfl⟩ | ⟨g, _⟩ := h
    · unfold pickL
      rw [if_neg (by rw [hg]; decide)]
      exact hp.eq_nil
    · rw [hg] at g; cases g
  | true =>
    obtain ⟨h1, h2, h3, h4, h5⟩ := good_iff.1 hg
    have hnM : M.Nodup := hp.nodup_iff.2 (sp_ids h hg)
    have hlt : M.Pairwise (· < ·) := by
      refine (hs.and hnM).imp fun {a b} hh => ?_
      have := hh.1
      have := hh.2
      omega
    rw [pick_good hg]
    refine inc_ext hlt (sorted_inc _) fun i => ?_
    rw [hp.mem_iff, sorted_mem (R := rl m L) (fun e he => h3 e (rl_mem he))]
    unfold ids rl
    simp only [List.mem_map, List.mem_filter]
    constructor
    · rintro ⟨e, he, rfl⟩; exact ⟨e, (sp_mem h hg e).1 he, rfl⟩
    · rintro ⟨e, he, rfl⟩; exact ⟨e, (sp_mem h hg e).2 he, rfl⟩
theorem val_some (e : Et) : val (some e) = e := rfl
theorem val_none : val none = (0, 0, false) := rfl
theorem sp_worst0 {m : Int} {L R S : List Et} (h : Sp m L R S) (h0 : R.length = 0) : worstO m L = none := by
  unfold worstO
  split
  · rename_i hg
    refine last_none fun e he => ?_
    cases hr : runs m L e with
    | false => rfl
    | true =>
      have := (sp_mem h hg e).2 ⟨he, hr⟩
      rw [List.length_eq_zero_iff.1 h0] at this; cases this
  · rfl
theorem sp_worstF {m : Int} {L R S : List Et} (h : Sp m L R S) (h0 : 0 < R.length) (hf : (at' R (R.length - 1)).2.2 = true) : worstO m L = none := by
  unfold worstO
  split
  · rename_i hg
    refine last_none fun e he => ?_
    cases hr : runs m L e with
    | false => rfl
    | true =>
      have hm := (sp_mem h hg e).2 ⟨he, hr⟩
      obtain ⟨g, _⟩ | ⟨_, D, hD, rfl, rfl⟩ := h
      · rw [hg] at g; cases g
      obtain ⟨j, hj, rfl⟩ := mem_at hm
      have : (at' (D.take m.toNat) j).2.2 = true := by
        rcases Nat.lt_or_ge j ((D.take m.toNat).length - 1) with k | k
        · have hl : (D.take m.toNat).length ≤ D.length := by simp [List.length_take]; omega
          have := List.pairwise_iff_getElem.1 (hD.ord.sublist (List.take_sublist m.toNat D)) j ((D.take m.toNat).length - 1) hj (by omega) k
          rw [← at_eq', ← at_eq'] at this
          cases hc : (at' (D.take m.toNat) j).2.2 with
          | true => rfl
          | false =>
            have hb := bef_iff.2 (Or.inl ⟨hf, hc⟩)
            rw [this] at hb; cases hb
        · have : j = (D.take m.toNat).length - 1 := by omega
          rw [this]; exact hf
      rw [this]; rfl
  · rfl
theorem sp_worst {m : Int} {L R S : List Et} (h : Sp m L R S) (h0 : 0 < R.length) (hf : (at' R (R.length - 1)).2.2 = false) : worstO m L = some (at' R (R.length - 1)) := by
  obtain ⟨_, rfl, _⟩ | ⟨hg, D, hD, rfl, rfl⟩ := id h
  · simp at h0
  have hw := (sp_mem h hg _).1 (at_mem (show (D.take m.toNat).length - 1 < (D.take m.toNat).length by omega))
  unfold worstO
  rw [if_pos hg]
  refine last_eq (good_iff.1 hg).2.2.2.1 hw.1 (by rw [hw.2, hf]; rfl) fun x hx hp => ?_
  simp only [Bool.and_eq_true, Bool.not_eq_true'] at hp
  obtain ⟨j, hj, rfl⟩ := mem_at ((sp_mem h hg x).2 ⟨hx, hp.1⟩)
  rcases Nat.lt_or_ge j ((D.take m.toNat).length - 1) with k | k
  · have := List.pairwise_iff_getElem.1 (hD.ord.sublist (List.take_sublist m.toNat D)) j ((D.take m.toNat).length - 1) hj (by omega) k
    rw [← at_eq', ← at_eq'] at this
    rwa [bef_free hf hp.2] at this
  · have : j = (D.take m.toNat).length - 1 := by omega
    rw [this]; exact less_irr _
theorem sp_first0 {m : Int} {L R S : List Et} (h : Sp m L R S) (h0 : S.length = 0) : firstO m L = none := by
  unfold firstO
  split
  · rename_i hg
    refine head_none fun e he => ?_
    cases hr : runs m L e with
    | true => rfl
    | false =>
      have := (sp_mem2 h hg e).2 ⟨he, hr⟩
      rw [List.length_eq_zero_iff.1 h0] at this; cases this
  · rfl
theorem sp_first {m : Int} {L R S : List Et} (h : Sp m L R S) (h0 : 0 < S.length) : firstO m L = some (at' S 0) := by
  obtain ⟨_, _, rfl⟩ | ⟨hg, D, hD, rfl, rfl⟩ := id h
  · simp at h0
  have hw := (sp_mem2 h hg _).1 (at_mem h0)
  unfold firstO
  rw [if_pos hg]
  refine head_eq (good_iff.1 hg).2.2.2.1 hw.1 (by rw [hw.2]; rfl) fun x hx hp => ?_
  simp only [Bool.not_eq_true'] at hp
  have hfx : x.2.2 = false := by
    cases e : x.2.2 with
    | false => rfl
    | true => rw [fixed_runs hg hx e] at hp; cases hp
  have hfw : (at' (D.drop m.toNat) 0).2.2 = false := by
    cases e : (at' (D.drop m.toNat) 0).2.2 with
    | false => rfl
    | true => have := hw.2; rw [fixed_runs hg hw.1 e] at this; cases this
  obtain ⟨j, hj, rfl⟩ := mem_at ((sp_mem2 h hg x).2 ⟨hx, hp⟩)
  rcases Nat.eq_zero_or_pos j with rfl | hj0
  · exact less_irr _
  · have := List.pairwise_iff_getElem.1 (hD.ord.sublist (List.drop_sublist m.toNat D)) 0 j h0 hj hj0
    rw [← at_eq', ← at_eq'] at this
    rwa [bef_free hfx hfw] at this
/-! One more. -/
theorem sp_beats {m : Int} {L R S : List Et} {x : Et} (h : Sp m (L ++ [x]) R S) : beatsB m L x = R.any (fun y => decide (y = x)) := by
  unfold beatsB
  cases hg : goodE m (L ++ [x]) with
  | false =>
    obtain ⟨_, rfl, rfl⟩ | ⟨g, _⟩ := h
    · rfl
    · rw [hg] at g; cases g
  | true =>
    rw [Bool.true_and, Bool.eq_iff_iff]
    simp only [List.any_eq_true, decide_eq_true_eq]
    constructor
    · exact fun hr => ⟨x, (sp_mem h hg x).2 ⟨by simp, hr⟩, rfl⟩
    · rintro ⟨y, hy, rfl⟩; exact ((sp_mem h hg y).1 hy).2
theorem sp_no {m : Int} {L : List Et} {x : Et} (hb : beatsB m L x = false) : beatsN m L x = 0 := by
  unfold beatsN; rw [if_neg (by rw [hb]; decide)]
theorem good_beats {m : Int} {L : List Et} {x : Et} (hb : beatsB m L x = true) : goodE m (L ++ [x]) = true := by
  unfold beatsB at hb
  exact (Bool.and_eq_true _ _ ▸ hb : _ ∧ _).1
theorem sp_room {m : Int} {L R S : List Et} {x : Et} (h : Sp m (L ++ [x]) R S) (hb : beatsB m L x = true) (h0 : S.length = 0) : beatsN m L x = -1 := by
  have hg := good_beats hb
  obtain ⟨h1, _⟩ := good_iff.1 hg
  obtain ⟨g, _⟩ | ⟨_, D, hD, rfl, rfl⟩ := h
  · rw [hg] at g; cases g
  have hl := hD.len
  rw [List.length_append] at hl
  simp only [List.length_singleton] at hl
  rw [List.length_drop] at h0
  exact (out_room hg (by omega)).2
theorem sp_full {m : Int} {L R S : List Et} {x : Et} (h : Sp m (L ++ [x]) R S) (hb : beatsB m L x = true) (h0 : 0 < S.length) : beatsN m L x = (at' S 0).1 := by
  have hg := good_beats hb
  obtain ⟨h1, _⟩ := good_iff.1 hg
  have hs := (sp_mem2 h hg _).1 (at_mem h0)
  obtain ⟨g, _⟩ | ⟨_, D, hD, rfl, rfl⟩ := h
  · rw [hg] at g; cases g
  have hl := hD.len
  rw [List.length_append] at hl
  simp only [List.length_singleton] at hl
  rw [List.length_drop] at h0
  obtain ⟨e, he, e1, e2, _, _, e3⟩ := out_full hg (show m ≤ (L.length : Int) by omega)
  have hbx : bef x e = true := e1 ▸ hb
  rw [e2 hbx]
  have r1 : rank (L ++ [x]) e = m.toNat := by rw [rank_app, if_pos hbx]; omega
  have r2 : rank (L ++ [x]) (at' (D.drop m.toNat) 0) = m.toNat := by
    rw [at_drop, Nat.add_zero]
    exact hD.rank (good_iff.1 hg).2.2.2.1 (by omega)
  rw [rank_inj (good_iff.1 hg).2.2.2.1 (by simp [he]) hs.1 (r1.trans r2.symm)]
end Go.Proofs.Ytacbiiiadalocaa.Ed
