/- The landed code: Many; all together. -/
import Derived.Test.YtndmmhikhfndaaaRbC2
import Derived.Test.YtndmmhikhfndaaaRbMany
namespace Go.Proofs.Ytndmmhikhfndaaa.Rb
open Go.RowKit Go.Proofs.Ytndmmhikhfndaaa.Con Go.Proofs.Ytndmmhikhfndaaa.Fp
set_option linter.unusedVariables false
set_option linter.unusedSimpArgs false
theorem infoL : (Try.prog.info? 2).map (fun i => (i.zero, i.size, i.bytes)) = some (some (.int .i64 0), 1, 8) := by kernel_rfl
/-- A row of int64s of the call's own. -/
def Oq (B : Nat) (W : World) (v : Value) (n : Nat) (L : List Int) : Prop := W.ownsRow B 2 1 v n (ivs L)
section
variable {B n : Nat} {W W' : World} {v : Value} {L : List Int}
theorem Oq.len (h : Oq B W v n L) : L.length = n := by have := h.1; rw [ivs_len, Nat.mul_one] at this; exact this
theorem Oq.is (h : Oq B W v n L) : Is W v L := by
  have := RdC.own h
  rw [← h.len] at this; exact this
theorem Oq.bel (h : Oq B W v n L) (hB : Nx W W') : Oq B W' v n L := own_kept h fun k hk => hB.block k (own_lt h k hk)
theorem Oq.sf {F : Nat → Prop} (h : Oq B W v n L) (hF : ∀ k, F k → k < B) : Sf W F v L :=
  ⟨h.is, fun k hk _ hf => by have := hF k hf; have := own_past h k hk; omega⟩
theorem Oq.at {g c : Nat} (h : Oq B W (.slice (some ⟨g, 0, none⟩) n c) n L) {k : Nat} (hk : k < n) :
    W.cell? ⟨g, k, none⟩ = some (.int .i64 (L.getD k 0)) ∧ W.frozen? ⟨g, k, none⟩ = false ∧ g < W.heap.size := by
  have hl := h.len
  obtain ⟨h1, ⟨e0, _⟩ | ⟨g', cap, cur, e0, hB, hg, hn, hc, hs, ht⟩⟩ := h
  · cases e0
  · simp only [Value.slice.injEq, Option.some.injEq, Addr.mk.injEq, and_true, true_and] at e0
    obtain ⟨rfl, rfl⟩ := e0
    refine ⟨?_, by simp [World.frozen?, hg], (Array.getElem?_eq_some_iff.1 hg).1⟩
    have hk' : k < L.length := by omega
    have e : (ivs L)[k]? = some (.int .i64 (L.getD k 0)) := by
      unfold ivs
      rw [List.getElem?_map, List.getElem?_eq_getElem hk', List.getD_eq_getElem?_getD, List.getElem?_eq_getElem hk']; rfl
    rw [cell_of_row W g k cur _ _ hg, ← e, ← ht, List.getElem?_take, if_pos (by omega)]; simp
theorem Oq.set {g c : Nat} (h : Oq B W (.slice (some ⟨g, 0, none⟩) n c) n L) {k : Nat} (hk : k < n) (x : Int) :
    Oq B (W.setCell ⟨g, k, none⟩ (.int .i64 x)) (.slice (some ⟨g, 0, none⟩) n c) n (L.set k x) := by
  have hl := h.len
  have e : ivs (L.set k x) = (ivs L).set k (.int .i64 x) := by unfold ivs; rw [List.map_set]
  obtain ⟨h1, ⟨e0, _⟩ | ⟨g', cap, cur, e0, hB, hg, hn, hc, hs, ht⟩⟩ := h
  · cases e0
  · simp only [Value.slice.injEq, Option.some.injEq, Addr.mk.injEq, and_true, true_and] at e0
    obtain ⟨rfl, rfl⟩ := e0
    refine ⟨by rw [e]; simpa using h1, .inr ⟨g, c, _, rfl, hB, heap_setCell_same _ g _ _ _ _ hg, hn, hc, ?_, ?_⟩⟩
    · simpa using hs
    · rw [e, ← ht]
      simp [List.take_set]
theorem nx_set {V W : World} (h : Nx V W) {g k : Nat} (hg : V.heap.size ≤ g) (v : Value) : Nx V (W.setCell ⟨g, k, none⟩ v) :=
  Below.trans h ⟨rfl, rfl, rfl, by simp [World.setCell], fun j hj => heap_setCell_other _ ⟨g, k, none⟩ j _ (fun e => by have : g = j := e.symm ▸ rfl; omega)⟩
end
/-- The first k of the counts. -/
def part (m q k : Nat) : List Int := (List.range m).map (fun i => if i < k then ((cnt m q i : Nat) : Int) else 0)
theorem part_len (m q k : Nat) : (part m q k).length = m := by simp [part]
theorem part_get {m q k i : Nat} (h : i < m) : (part m q k)[i]? = some (if i < k then ((cnt m q i : Nat) : Int) else 0) := by
  unfold part
  rw [List.getElem?_map, List.getElem?_range h]; rfl
theorem part_end (m q : Nat) : part m q m = (List.range m).map (fun i => ((cnt m q i : Nat) : Int)) := by
  apply ext_get (by simp [part])
  intro i hi
  rw [part_len] at hi
  rw [part_get hi, if_pos hi, List.getElem?_map, List.getElem?_range hi]; rfl
theorem part_set {m q k : Nat} (h : k < m) : (part m q k).set k ((cnt m q k : Nat) : Int) = part m q (k + 1) := by
  apply ext_get (by simp [part])
  intro i hi
  rw [List.length_set, part_len] at hi
  by_cases e : k = i
  · subst e
    rw [List.getElem?_set_self (by rw [part_len]; exact h), part_get h, if_pos (by omega)]
  · rw [List.getElem?_set_ne e, part_get hi, part_get hi]
    by_cases h2 : i < k
    · rw [if_pos h2, if_pos (by omega)]
    · rw [if_neg h2, if_neg (by omega)]
theorem cnt_eq {m i : Nat} (h : i < m) (q : Nat) : cnt m q i = q / m + (if i < q % m then 1 else 0) := by
  unfold cnt
  have hm : 0 < m := by omega
  obtain ⟨d, r, hr, rfl⟩ : ∃ d r, r < m ∧ q = m * d + r := ⟨q / m, q % m, Nat.mod_lt _ hm, (Nat.div_add_mod q m).symm⟩
  have e : (m * d + r) % m = r := by rw [Nat.mul_add_mod, Nat.mod_eq_of_lt hr]
  have f : ∀ x, (m * d + x) / m = d + x / m := fun x => by rw [Nat.mul_add_div hm]
  rw [e, Nat.add_assoc, f, f, Nat.div_eq_of_lt hr]
  by_cases h1 : i < r
  · rw [if_pos h1]
    have : (r + (m - 1 - i)) / m = 1 := by rw [Nat.div_eq_iff hm]; omega
    omega
  · rw [if_neg h1, Nat.div_eq_of_lt (by omega)]
theorem made_zero (m q : Nat) : (madeCells (Value.int .i64 0).cells (m * 1)).toList = ivs (part m q 0) := by
  have hz : (Value.int .i64 0).cells = #[.int .i64 0] := rfl
  apply List.ext_getElem (by simp [madeCells, ivs, part])
  intro i h1 h2
  simp [madeCells, ivs, part, hz, Nat.mod_one]
attribute [local go_sem ↓] Go.wp_at_zero Go.wp_at_succ
set_option maxRecDepth 100000 in
set_option maxHeartbeats 4000000 in
theorem manyF : ManyF Ri := by
  intro W b s F n t h g
  obtain ⟨m, hm⟩ : ∃ m, s.l.length = m := ⟨_, rfl⟩
  have hm256 : m ≤ 256 := by have := g.len; have := g.most; omega
  have HF : Hid (∀ k, F k → k < W.heap.size) := hide (fun k hk => ri_kept.lt h k hk)
  have HL := hide (len_ri h)
  rw [hm] at HL
  have HK := hide (fun (w' : World) (hB : Nx W w') => ri_kept.nx h hB)
  -- All, told.
  have ALL := hide (fun (w1 : World) (F1 : Nat → Prop) (l : List Int) (hI : Ri w1 b ⟨s.room, l⟩ F1) => show ∃ fb, w1.cell? ⟨b, 0, none⟩ = some (ptr fb) ∧ Calls Try.prog 22 #[ptr fb] w1 fun e w' => ∃ p c, e = .returned (.slice p l.length c) ∧ Hid (IRow w1.heap.size w' (.slice p l.length c) l) ∧ Nx w1 w' from by
    obtain ⟨fb, v, hq⟩ := hI
    exact ⟨fb, hq.cell, rq_all hq⟩)
  obtain ⟨i0, hi, hz0, hz1, hz2⟩ := info_parts infoL
  have hN := clN_le s n
  have hT := clT_le t
  have hQ9 : clN s n * clT t ≤ 300000000000000 := Nat.le_trans (Nat.mul_le_mul (show clN s n ≤ 256 by omega) hT) (by decide)
  have hTe : min (max t 0) 1099511627776 = (clT t : Int) := by unfold clT; omega
  have hmul : (clN s n : Int) * min (max t 0) 1099511627776 = ((clN s n * clT t : Nat) : Int) := by rw [hTe]; push_cast; rfl
  have HH := hide (fun (w1 : World) (hB : Nx W w1) => held_ri (ri_kept.nx h hB) n)
  have hC : manyC s n t = part m (clN s n * clT t) m := by rw [part_end]; unfold manyC; rw [hm]
  have hS : manyS s n t = ⟨s.room, s.l.drop ((clN s n * clT t) % m) ++ s.l.take ((clN s n * clT t) % m)⟩ := by unfold manyS rot; rw [hm]
  have hl0 : m = 0 → s.l.drop ((clN s n * clT t) % m) ++ s.l.take ((clN s n * clT t) % m) = s.l := fun e => by
    have : s.l = [] := List.eq_nil_of_length_eq_zero (by omega)
    rw [this]; simp
  have HTU := hide (fun (w1 : World) (hB : Nx W w1) (h0 : 0 < m) => turn_ri (ri_kept.nx h hB) ((clN s n * clT t) % m) (by rw [hm]; exact Nat.le_of_lt (Nat.mod_lt _ h0)) (by omega))
  have hlen : (s.l.drop ((clN s n * clT t) % m) ++ s.l.take ((clN s n * clT t) % m)).length = m := by rw [(turn_perm s.l _).length_eq, hm]
  rw [hC, hS, hm]
  generalize s.l.drop ((clN s n * clT t) % m) ++ s.l.take ((clN s n * clT t) % m) = L2 at *
  generalize clN s n = N at *
  generalize clT t = T at *
  generalize N * T = Q at *
  have RS : Hid (m = 0 → Ri W b ⟨s.room, L2⟩ F) := hide (fun e => by rw [hl0 e]; exact h)
  have O0 := hide (fun (w1 : World) (hr : w1.ownsRow W.heap.size 2 1 (.slice (some ⟨W.heap.size, 0, none⟩) m m) m (madeCells (Value.int .i64 0).cells (m * 1)).toList) => show Oq W.heap.size w1 (.slice (some ⟨W.heap.size, 0, none⟩) m m) m (part m Q 0) from by unfold Oq; rw [← made_zero]; exact hr)
  have FIN : Hid (∀ (w3 w4 : World) (v : Value) (p : Option Addr) (c : Nat) (F2 : Nat → Prop), Ri w3 b ⟨s.room, L2⟩ F2 → Tn W w3 F F2 → Sf w3 F2 v (part m Q m) → IRow w3.heap.size w4 (.slice p m c) L2 → Nx w3 w4 → (∀ k, v.ownBlock = some k → W.heap.size ≤ k) → Hid (Ri w4 b ⟨s.room, L2⟩ F2 ∧ Tn W w4 F F2 ∧ Sf w4 F2 v (part m Q m) ∧ Sf w4 F2 (.slice p m c) L2 ∧ (∀ k, v.ownBlock = some k → 0 < m → W.heap.size ≤ k) ∧ (∀ k, (Value.slice p m c).ownBlock = some k → 0 < m → W.heap.size ≤ k))) := hide (fun w3 w4 v p c F2 h1 h2 h3 h4 h5 h6 =>
    hide ⟨ri_kept.nx h1 h5, h2.trans (Tn.of_nx h5 F2), h3.nx h5, irow_sf h4 (fun k hk => ri_kept.lt h1 k hk), fun k hk _ => h6 k hk, fun k hk _ => Nat.le_trans h2.size (h4.past k hk)⟩)
  have LEN := hide hlen
  clear hC hS hl0 hTe hT hN h g hlen HK
  by_cases h0 : m = 0
  · subst h0
    have RI := hide (RS.out rfl)
    clear hmul HTU RS HH hQ9
    go_enter Try.func11, Try.ntmps11
    go_wp2_with (first
      | (go_at_call 15; refine HL.out.mono ?_; rintro e w0 ⟨rfl, hw⟩; have hw2 := hw.symm; clear hw; subst hw2)
      | (at_make; refine wpList_make_full _ rfl _ _ 27 rfl W.heap.size 2 i0 (.int .i64 0) 1 Try.underlying27 hi hz0 hz1 .i64 .i64 _ _ 0 rfl rfl rfl rfl (by rw [hz2]; omega) (by unfold maxLen; omega) (Nat.le_refl _) ?_; intro w1 r1 r2; have O1 := hide (O0.out w1 r1); have N1 : Hid (Nx W w1) := hide ⟨r2.os, r2.tape, r2.output, r2.size, fun k hk => r2.block k hk (by simp)⟩; obtain ⟨fb, c0, hall⟩ := ALL.out w1 F L2 (ri_kept.nx RI.out N1.out); have HALL := hide hall; clear r1 r2 hall)
      | (go_at_call 22; refine HALL.out.mono ?_; rintro e w4 ⟨p, c, rfl, hr, hb⟩; rw [LEN.out] at hr ⊢; have FF := FIN.out w1 w4 (.slice (some ⟨W.heap.size, 0, none⟩) 0 0) p c F (ri_kept.nx RI.out N1.out) (Tn.of_nx N1.out F) (O1.out.sf HF.out) hr.out hb (own_past O1.out); clear hr hb))
    go_ret2
    exact ⟨_, _, F, rfl, FF⟩
  have h1 : 0 < m := by omega
  have hm0 : (0 : Int) < (m : Int) := by omega
  have hmne : ¬ (m : Int) = 0 := by omega
  have hmne2 : ((m : Int) == 0) = false := by simp; omega
  have hQ9' : (Q : Int) ≤ 300000000000000 := by omega
  have CN := hide (fun i (hi : i < m) => cnt_eq hi Q)
  have hmod : Q % m < m := Nat.mod_lt _ h1
  have hdiv : Q / m ≤ Q := Nat.div_le_self _ _
  have q1 : (Q : Int) / (m : Int) = ((Q / m : Nat) : Int) := rfl
  have q2 : (Q : Int) % (m : Int) = ((Q % m : Nat) : Int) := rfl
  have q3 : (Q : Int).tdiv (m : Int) = ((Q / m : Nat) : Int) := rfl
  have q4 : (Q : Int).tmod (m : Int) = ((Q % m : Nat) : Int) := rfl
  have HTU2 := hide (fun (w1 : World) (hB : Nx W w1) => HTU.out w1 hB h1)
  clear RS HTU
  generalize Q / m = D at *
  generalize Q % m = M at *
  have hM9 : (M : Int) < (m : Int) := by omega
  have hD9 : (D : Int) ≤ 300000000000000 := by omega
  clear hmod hdiv h0
  go_enter Try.func11, Try.ntmps11
  go_upto_region 4 with (first
      | (go_at_call 15; refine HL.out.mono ?_; rintro e w0 ⟨rfl, hw⟩; have hw2 := hw.symm; clear hw; subst hw2)
      | (at_make; refine wpList_make_full _ rfl _ _ 27 rfl W.heap.size 2 i0 (.int .i64 0) 1 Try.underlying27 hi hz0 hz1 .i64 .i64 _ _ m rfl rfl rfl rfl (by rw [hz2]; omega) (by unfold maxLen; omega) (Nat.le_refl _) ?_; intro w1 r1 r2; have O1 := hide (O0.out w1 r1); have N1 : Hid (Nx W w1) := hide ⟨r2.os, r2.tape, r2.output, r2.size, fun k hk => r2.block k hk (by simp)⟩; have HH1 := hide (HH.out w1 N1.out); clear r1 r2)
      | (go_at_call 20; refine HH1.out.mono ?_; rintro e w0 ⟨rfl, hw⟩; have hw2 := hw.symm; clear hw; subst hw2))
  go_quiet (fail)
  have hdd : Hid (∀ d, Nx w1 (w1.drewN d)) := hide fun d => bel_drewN (Nx.refl _) d
  clear q1 q2 q3 q4 hmul HH1 HL HH
  go_wp2
  go_loopw [12, 36] (fun _ i wr => ∃ k : Nat, k ≤ m ∧ i = .int .i64 (k : Int) ∧ Hid (Nx W wr) ∧ Hid (Oq W.heap.size wr (.slice (some ⟨W.heap.size, 0, none⟩) m m) m (part m Q k))) (fun _ i _ => m - (intOf i).toNat)
  case atStart => exact ⟨0, by omega, rfl, hide (Nx.trans N1.out (hdd.out _)), hide (O1.out.bel (hdd.out _))⟩
  case round =>
    clear O1 N1 hdd
    obtain ⟨k, hk, rfl, NN, OO⟩ := hrel
    by_cases hkm : k < m
    · have hk1 : (k : Int) < (m : Int) := by omega
      obtain ⟨a0, z0, g0⟩ := OO.out.at hkm
      have O2 := hide (OO.out.set hkm (D : Int))
      have hgd : ((part m Q k).set k (D : Int)).getD k 0 = (D : Int) := by
        rw [List.getD_eq_getElem?_getD, List.getElem?_set_self (by rw [part_len]; exact hkm)]; rfl
      obtain ⟨a1, z1, g1⟩ := O2.out.at hkm
      rw [hgd] at a1
      have hset : ((part m Q k).set k (D : Int)).set k ((D : Int) + 1) = (part m Q k).set k ((D : Int) + 1) := List.set_set _
      have O3 := hide (O2.out.set hkm ((D : Int) + 1))
      rw [hset] at O3
      have PS := hide (part_set (q := Q) hkm)
      have hc := CN.out k hkm
      have N2 := hide (fun (v : Value) => nx_set (k := k) NN.out (Nat.le_refl _) v)
      have N3 := hide (fun (v u : Value) => nx_set (k := k) (nx_set (k := k) NN.out (Nat.le_refl _) v) (Nat.le_refl _) u)
      clear hgd hset g0 g1 NN OO
      generalize (part m Q k).getD k 0 = y0 at *
      by_cases hkM : k < M
      · have hk2 : (k : Int) < (M : Int) := by omega
        rw [if_pos hkM] at hc
        rw [hc] at PS
        rw [show ((D + 1 : Nat) : Int) = (D : Int) + 1 by omega] at PS
        rw [PS.out] at O3
        clear hc PS O2
        go_wp2
        go_round
        case rel => exact ⟨k + 1, by omega, by go_num, hide (N3.out _ _), O3⟩
        case measure => simp [intOf]; omega
      · have hk2 : ¬ (k : Int) < (M : Int) := by omega
        rw [if_neg hkM, Nat.add_zero] at hc
        rw [hc] at PS
        rw [PS.out] at O2
        clear hc PS O3 a1 z1
        go_wp2
        go_round
        case rel => exact ⟨k + 1, by omega, by go_num, hide (N2.out _), O2⟩
        case measure => simp [intOf]; omega
    · obtain rfl : k = m := by omega
      have HT := hide (HTU2.out _ NN.out)
      have S3 := hide (OO.out.sf HF.out)
      have OP := hide (own_past OO.out)
      clear CN HTU2 OO hkm hk
      go_wp2_with (first
        | (go_at_call 21; refine HT.out.mono ?_; rintro e w3 ⟨rfl, F2, hh⟩; have H1 := hide hh.out.1; have T1 := hide hh.out.2; obtain ⟨fb, c0, hall⟩ := ALL.out w3 F2 L2 H1.out; have HALL := hide hall; clear hh hall)
        | (go_at_call 22; refine HALL.out.mono ?_; rintro e w4 ⟨p, c, rfl, hr, hb⟩; rw [LEN.out] at hr ⊢; have FF := FIN.out w3 w4 _ p c F2 H1.out ((Tn.of_nx NN.out F).trans T1.out) (S3.out.tn T1.out) hr.out hb OP.out; clear hr hb))
      go_ret2
      exact ⟨_, _, F2, rfl, FF⟩
theorem rkC : Rk Ri := ⟨ri_kept, newC, addC, dropC, seeC, takeC, manyC_of manyF, lenC⟩
theorem awakeC : AwakeC := awake_of rkC
end Go.Proofs.Ytndmmhikhfndaaa.Rb
