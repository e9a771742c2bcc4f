/- WinFew: at most as many pairs as CPUs always fit. -/
import Derived.Test.YtkfddjmhoekjgaaWnUse
import Derived.Deep.RegionHeld3
namespace Go.Proofs.Ytkfddjmhoekjgaa.Wn
open Go.RowKit Go.Proofs.Ytkfddjmhoekjgaa.Con
set_option linter.unusedVariables false
set_option linter.unusedSimpArgs false
attribute [local go_sem ↓] Go.wp_at_zero Go.wp_at_succ
theorem but_len {L : List Pr} {k : Nat} (hk : k < L.length) : (but L k).length = k + (L.length - (k + 1)) := by unfold but; simp; omega
theorem flat_but (L : List Pr) (k : Nat) : flat (but L k) = flat (L.take k) ++ flat (L.drop (k + 1)) := flat_app _ _
set_option maxHeartbeats 16000000 in
theorem few_walk (hA : Hid AwakeC) (hG : Hid GoodC) (hAl : Hid AllC) (m k : Int) (L : List Pr) (v : Value) (W : World) (h : Sl W v L) :
    Calls Try.prog 5 #[.int .i64 m, v, .int .i64 k] W fun e w' => e = .returned (.bool true) ∧ Nx W w' := by
  obtain ⟨p, cap, rfl, hn, hm⟩ := h.form
  have hmx : (L.length : Int) ≤ 9223372036854775807 := by unfold maxLen at hm; omega
  have H := hide h
  clear h
  go_enter Try.func5, Try.ntmps5
  go_wp2_with fail
  refine (hA.out _).mono ?_
  rintro e w1 ⟨rfl, hb⟩
  have HB1 := hide hb
  clear hb
  by_cases hl : 64 < (L.length : Int)
  · go_wp2
    go_ret
    exact ⟨rfl, HB1.out⟩
  by_cases m0 : m < 1
  · go_wp2
    go_ret
    exact ⟨rfl, HB1.out⟩
  by_cases m1 : 63 < m
  · go_wp2
    go_ret
    exact ⟨rfl, HB1.out⟩
  have hl64 : L.length ≤ 64 := by omega
  have HP : Hid ((∀ j, j < L.length → gp (at' L j) = true) → pairsB m L = true ∧ pairsB (m + 1) L = true) := hide (fun h => ⟨pairs_all (by omega) hl64 h, pairs_all (by omega) hl64 h⟩)
  have d0 : decide (64 < (L.length : Int)) = false := decide_eq_false (by omega)
  have d1 : decide (m < 1) = false := decide_eq_false (by omega)
  have d2 : decide (63 < m) = false := decide_eq_false (by omega)
  go_wp2
  go_loopw [7] (fun i wr => ∃ k : Nat, k ≤ L.length ∧ i = .int .i64 k ∧ Hid (∀ j, j < k → gp (at' L j) = true) ∧ Hid (Below W.heap.size W wr)) (fun i _ => L.length - (intOf i).toNat)
  case atStart => exact ⟨0, by omega, rfl, hide (fun j hj => by omega), HB1⟩
  case round =>
    obtain ⟨j, hj, rfl, HR, HB⟩ := hrel
    by_cases hjn : j < L.length
    · have hj1 : (j : Int) < (L.length : Int) := by omega
      obtain ⟨b, o, rfl, hbW, q0, q1⟩ := H.out.at hjn
      have x0 := (HB.out.cell (p := ⟨b, o + j * 2, none⟩) hbW).trans q0
      have x1 := (HB.out.cell (p := ⟨b, o + j * 2 + 1, none⟩) hbW).trans q1
      have HGk : Hid (∀ w, Calls Try.prog 20 #[.agg #[.int .i64 (at' L j).1, .int .i64 (at' L j).2]] w fun e w' => e = .returned (.bool (gp (at' L j))) ∧ Nx w w') := hide (hG.out (at' L j))
      have hR1 : gp (at' L j) = true → ∀ i, i < j + 1 → gp (at' L i) = true := fun e i hi => by
        rcases Nat.lt_or_ge i j with h1 | h1
        · exact HR.out i h1
        · obtain rfl : i = j := by omega
          exact e
      have HB3 : Hid (∀ w2, Nx wr w2 → Below W.heap.size W w2) := hide (fun w2 h => nx_of HB.out h)
      clear q0 q1
      cases hf : gp (at' L j) with
      | false =>
        rw [hf] at HGk
        clear hR1 hf HR
        generalize (at' L j).1 = z at *
        generalize (at' L j).2 = z' at *
        go_wp2_with fail
        refine (HGk.out _).mono ?_
        rintro e w2 ⟨rfl, hb⟩
        have HB2 := hide (HB3.out _ hb)
        go_wp2
        go_ret
        exact ⟨rfl, HB2.out⟩
      | true =>
        have FE := hide (hR1 hf)
        rw [hf] at HGk
        clear hR1 hf HR
        generalize (at' L j).1 = z at *
        generalize (at' L j).2 = z' at *
        go_wp2_with fail
        refine (HGk.out _).mono ?_
        rintro e w2 ⟨rfl, hb⟩
        have HB2 := hide (HB3.out _ hb)
        go_wp2
        go_round
        case rel => exact ⟨j + 1, by omega, by go_num, FE, HB2⟩
        case measure => simp [intOf]; omega
    · obtain rfl : j = L.length := by omega
      obtain ⟨hp, hp1⟩ := HP.out HR.out
      have HG2 := HR.out
      have ea := all_0 hp
      have eb := all_0 hp1
      have f1 : (L.length : Int) ≤ m → allB m L = true := few_fit hp
      have f2 : allB m L = true → allB (m + 1) L = true := more_fit hp hp1
      have HBT : Hid (∀ i, i < L.length → pairsB m (but L i) = true ∧ (allB m L = true → allB m (but L i) = true)) := hide (fun i hi => but_fit hi hp)
      have HA1 := hide (fun w2 (hB : Below W.heap.size W w2) => hAl.out m L _ w2 (H.out.below hB))
      have HA2 := hide (fun w2 (hB : Below W.heap.size W w2) => hAl.out (m + 1) L _ w2 (H.out.below hB))
      rw [ea.1] at HA1
      rw [eb.1] at HA2
      clear hp hp1 ea eb HR HP HG2
      generalize allB m L = a at *
      generalize allB (m + 1) L = b at *
      go_wp2_with fail
      refine (HA1.out _ HB.out).mono ?_
      rintro e w2 ⟨rfl, hb⟩
      have HB2 := hide (nx_of HB.out hb)
      clear hb HB HA1
      go_wp2_with fail
      refine (HA2.out _ HB2.out).mono ?_
      rintro e w3 ⟨rfl, hb⟩
      have HB3 := hide (nx_of HB2.out hb)
      clear hb HB2 HA2
      have HK : Hid (a = true → b = true) := hide f2
      have HK2 : Hid ((L.length : Int) ≤ m → a = true) := hide f1
      clear f1 f2
      have H3 := hide (H.out.below HB3.out)
      clear H
      cases a with
      | true =>
        obtain rfl : b = true := HK.out rfl
        clear HK HK2
        by_cases hlm : (L.length : Int) ≤ m
        · skip
          by_cases k0 : k < 0
          · go_wp2
            go_ret
            exact ⟨rfl, HB3.out⟩
          by_cases k1 : (L.length : Int) ≤ k
          · go_wp2
            go_ret
            exact ⟨rfl, HB3.out⟩
          obtain ⟨c, rfl⟩ : ∃ c : Nat, k = (c : Int) := ⟨k.toNat, by omega⟩
          have hc : c < L.length := by omega
          obtain ⟨bp, bf⟩ := HBT.out c hc
          have HAF := hide (fun w2 v2 (h2 : Sl w2 v2 (but L c)) => hAl.out m (but L c) v2 w2 h2)
          rw [(all_0 bp).1] at HAF
          have HBF := hide bf
          clear bp bf HBT
          obtain ⟨p1, c1, hs1, r1⟩ := H3.out.upto c (by omega)
          obtain ⟨p2, c2, hs2, r2⟩ := H3.out.from (c + 1) (by omega)
          rw [show ((c + 1 : Nat) : Int) = (c : Int) + 1 by omega] at hs2
          have R1 := hide r1
          have R2 := hide r2
          obtain ⟨i0, hi, hz0, hz1, hz2⟩ := info_parts infoPr
          have hwk : IntKind.i64.wrap ((c : Int) + 1) = (c : Int) + 1 := by rw [IntKind.wrap_i64]; omega
          obtain ⟨M, hM⟩ : ∃ M, L.length - (c + 1) = M := ⟨_, rfl⟩
          obtain ⟨N, hN⟩ : ∃ N, c + M = N := ⟨_, rfl⟩
          rw [hM] at hs2 R2
          have hNl : N ≤ 64 := by omega
          obtain ⟨TK, hTK⟩ : ∃ TK, flat (L.take c) = TK := ⟨_, rfl⟩
          obtain ⟨DK, hDK⟩ : ∃ DK, flat (L.drop (c + 1)) = DK := ⟨_, rfl⟩
          obtain ⟨TD, hTD⟩ : ∃ TD, TK ++ DK = TD := ⟨_, rfl⟩
          have ON1 : Hid (∀ u ∈ TK, u.oneCell' = true) := hide (by rw [← hTK]; exact flat_one _)
          have ON2 : Hid (∀ u ∈ DK, u.oneCell' = true) := hide (by rw [← hDK]; exact flat_one _)
          have SLF : Hid (∀ p' c' w', w'.ownsRow w3.heap.size 24 2 (.slice p' N c') N TD → Sl w' (.slice p' N c') (but L c)) := hide (fun p' c' w' ho => by
            have e1 : (but L c).length = N := by rw [but_len hc, hM, hN]
            have e2 : flat (but L c) = TD := by rw [flat_but, hTK, hDK, hTD]
            have := Sl.own (L := but L c) (by rw [e1, e2]; exact ho)
            exact this)
          rw [hTK] at R1
          rw [hDK] at R2
          have EN := hide hN
          have ETD := hide hTD
          have SZ1 : Hid (c ≤ maxLen ∧ c * 16 ≤ 140737488355328) := hide ⟨by unfold maxLen; omega, by omega⟩
          have SZ2 : Hid (N ≤ maxLen ∧ N * 16 ≤ 140737488355328) := hide ⟨by unfold maxLen; omega, by omega⟩
          have BW : Hid (∀ w', Below w3.heap.size w3 w' → Below W.heap.size W w') := hide (fun w' hB => nx_of HB3.out hB)
          clear r1 r2 hM hN hTK hDK hTD
          generalize allB m (but L c) = g at *
          go_wp2
          go_region_held3 (fun _ => True) (trivial)
            (first
              | (refine step_append_rd (some 89) (by rfl) (by rfl) _ _ 28 (by rfl) w3.heap.size 24 i0 (.agg #[.int .i64 0, .int .i64 0]) 2 16 Try.underlying28 hi hz0 hz1 hz2 rfl (by decide) (.slice (some ⟨w3.heap.size, 0, none⟩) 0 0) 0 [] (by rfl) (by exact own_empty (by exact heap_alloc_at _ _ _ (by simp)) (Nat.le_refl _)) _ (.slice p1 c c1) c TK (by rfl) (by exact R1.out.below (by repeat (first | (with_reducible exact Below.refl _ _) | (with_reducible exact HB2.out) | (with_reducible exact HB1.out) | refine bel_drew ?_ | refine bel_alloc ?_ (Nat.le_refl _) _))) (by exact ON1.out) c (by exact Nat.zero_add c) TK (by exact List.nil_append TK) (by exact SZ1.out.1) (by exact SZ1.out.2) (by exact bel_le (W := w3) (Nat.le_refl _) (by repeat (first | (with_reducible exact Below.refl _ _) | (with_reducible exact HB2.out) | (with_reducible exact HB1.out) | refine bel_drew ?_ | refine bel_alloc ?_ (Nat.le_refl _) _))) ?_; intro q1 d1 w4 ho1 hg1 ha1 hp1; have HB1 := hide (below_grown (B := w3.heap.size) (W := w3) (by repeat (first | (with_reducible exact Below.refl _ _) | (with_reducible exact HB2.out) | (with_reducible exact HB1.out) | refine bel_drew ?_ | refine bel_alloc ?_ (Nat.le_refl _) _)) (bel_le (W := w3) (Nat.le_refl _) (by repeat (first | (with_reducible exact Below.refl _ _) | (with_reducible exact HB2.out) | (with_reducible exact HB1.out) | refine bel_drew ?_ | refine bel_alloc ?_ (Nat.le_refl _) _))) hg1 hp1); have HO1 := hide ho1; clear ho1 hg1 ha1 hp1)
              | (refine step_append_rd (some 94) (by rfl) (by rfl) _ _ 28 (by rfl) w3.heap.size 24 i0 (.agg #[.int .i64 0, .int .i64 0]) 2 16 Try.underlying28 hi hz0 hz1 hz2 rfl (by decide) (.slice q1 c d1) c TK (by rfl) (by exact HO1.out) _ (.slice p2 M c2) M DK (by rfl) (by exact R2.out.below (by repeat (first | (with_reducible exact Below.refl _ _) | (with_reducible exact HB2.out) | (with_reducible exact HB1.out) | refine bel_drew ?_ | refine bel_alloc ?_ (Nat.le_refl _) _))) (by exact ON2.out) N (by exact EN.out) TD (by exact ETD.out) (by exact SZ2.out.1) (by exact SZ2.out.2) (by exact bel_le (W := w3) (Nat.le_refl _) (by repeat (first | (with_reducible exact Below.refl _ _) | (with_reducible exact HB2.out) | (with_reducible exact HB1.out) | refine bel_drew ?_ | refine bel_alloc ?_ (Nat.le_refl _) _))) ?_; intro q2 d2 w5 ho2 hg2 ha2 hp2; have HB2 := hide (below_grown (B := w3.heap.size) (W := w3) (by repeat (first | (with_reducible exact Below.refl _ _) | (with_reducible exact HB2.out) | (with_reducible exact HB1.out) | refine bel_drew ?_ | refine bel_alloc ?_ (Nat.le_refl _) _)) (bel_le (W := w3) (Nat.le_refl _) (by repeat (first | (with_reducible exact Below.refl _ _) | (with_reducible exact HB2.out) | (with_reducible exact HB1.out) | refine bel_drew ?_ | refine bel_alloc ?_ (Nat.le_refl _) _))) hg2 hp2); have HS2 := hide (SLF.out _ _ _ ho2); clear ho2 hg2 ha2 hp2)
              | (with_reducible refine (HAF.out _ _ HS2.out).mono ?_; rintro e w6 ⟨rfl, hb⟩; have HB6 := hide (BW.out _ (HB2.out.trans (Below.mono hb HB2.out.size))); clear hb))

          obtain rfl : g = true := HBF.out (by trivial)
          go_wp2
          go_ret
          exact ⟨rfl, HB6.out⟩
        · skip
          by_cases k0 : k < 0
          · go_wp2
            go_ret
            exact ⟨rfl, HB3.out⟩
          by_cases k1 : (L.length : Int) ≤ k
          · go_wp2
            go_ret
            exact ⟨rfl, HB3.out⟩
          obtain ⟨c, rfl⟩ : ∃ c : Nat, k = (c : Int) := ⟨k.toNat, by omega⟩
          have hc : c < L.length := by omega
          obtain ⟨bp, bf⟩ := HBT.out c hc
          have HAF := hide (fun w2 v2 (h2 : Sl w2 v2 (but L c)) => hAl.out m (but L c) v2 w2 h2)
          rw [(all_0 bp).1] at HAF
          have HBF := hide bf
          clear bp bf HBT
          obtain ⟨p1, c1, hs1, r1⟩ := H3.out.upto c (by omega)
          obtain ⟨p2, c2, hs2, r2⟩ := H3.out.from (c + 1) (by omega)
          rw [show ((c + 1 : Nat) : Int) = (c : Int) + 1 by omega] at hs2
          have R1 := hide r1
          have R2 := hide r2
          obtain ⟨i0, hi, hz0, hz1, hz2⟩ := info_parts infoPr
          have hwk : IntKind.i64.wrap ((c : Int) + 1) = (c : Int) + 1 := by rw [IntKind.wrap_i64]; omega
          obtain ⟨M, hM⟩ : ∃ M, L.length - (c + 1) = M := ⟨_, rfl⟩
          obtain ⟨N, hN⟩ : ∃ N, c + M = N := ⟨_, rfl⟩
          rw [hM] at hs2 R2
          have hNl : N ≤ 64 := by omega
          obtain ⟨TK, hTK⟩ : ∃ TK, flat (L.take c) = TK := ⟨_, rfl⟩
          obtain ⟨DK, hDK⟩ : ∃ DK, flat (L.drop (c + 1)) = DK := ⟨_, rfl⟩
          obtain ⟨TD, hTD⟩ : ∃ TD, TK ++ DK = TD := ⟨_, rfl⟩
          have ON1 : Hid (∀ u ∈ TK, u.oneCell' = true) := hide (by rw [← hTK]; exact flat_one _)
          have ON2 : Hid (∀ u ∈ DK, u.oneCell' = true) := hide (by rw [← hDK]; exact flat_one _)
          have SLF : Hid (∀ p' c' w', w'.ownsRow w3.heap.size 24 2 (.slice p' N c') N TD → Sl w' (.slice p' N c') (but L c)) := hide (fun p' c' w' ho => by
            have e1 : (but L c).length = N := by rw [but_len hc, hM, hN]
            have e2 : flat (but L c) = TD := by rw [flat_but, hTK, hDK, hTD]
            have := Sl.own (L := but L c) (by rw [e1, e2]; exact ho)
            exact this)
          rw [hTK] at R1
          rw [hDK] at R2
          have EN := hide hN
          have ETD := hide hTD
          have SZ1 : Hid (c ≤ maxLen ∧ c * 16 ≤ 140737488355328) := hide ⟨by unfold maxLen; omega, by omega⟩
          have SZ2 : Hid (N ≤ maxLen ∧ N * 16 ≤ 140737488355328) := hide ⟨by unfold maxLen; omega, by omega⟩
          have BW : Hid (∀ w', Below w3.heap.size w3 w' → Below W.heap.size W w') := hide (fun w' hB => nx_of HB3.out hB)
          clear r1 r2 hM hN hTK hDK hTD
          generalize allB m (but L c) = g at *
          go_wp2
          go_region_held3 (fun _ => True) (trivial)
            (first
              | (refine step_append_rd (some 89) (by rfl) (by rfl) _ _ 28 (by rfl) w3.heap.size 24 i0 (.agg #[.int .i64 0, .int .i64 0]) 2 16 Try.underlying28 hi hz0 hz1 hz2 rfl (by decide) (.slice (some ⟨w3.heap.size, 0, none⟩) 0 0) 0 [] (by rfl) (by exact own_empty (by exact heap_alloc_at _ _ _ (by simp)) (Nat.le_refl _)) _ (.slice p1 c c1) c TK (by rfl) (by exact R1.out.below (by repeat (first | (with_reducible exact Below.refl _ _) | (with_reducible exact HB2.out) | (with_reducible exact HB1.out) | refine bel_drew ?_ | refine bel_alloc ?_ (Nat.le_refl _) _))) (by exact ON1.out) c (by exact Nat.zero_add c) TK (by exact List.nil_append TK) (by exact SZ1.out.1) (by exact SZ1.out.2) (by exact bel_le (W := w3) (Nat.le_refl _) (by repeat (first | (with_reducible exact Below.refl _ _) | (with_reducible exact HB2.out) | (with_reducible exact HB1.out) | refine bel_drew ?_ | refine bel_alloc ?_ (Nat.le_refl _) _))) ?_; intro q1 d1 w4 ho1 hg1 ha1 hp1; have HB1 := hide (below_grown (B := w3.heap.size) (W := w3) (by repeat (first | (with_reducible exact Below.refl _ _) | (with_reducible exact HB2.out) | (with_reducible exact HB1.out) | refine bel_drew ?_ | refine bel_alloc ?_ (Nat.le_refl _) _)) (bel_le (W := w3) (Nat.le_refl _) (by repeat (first | (with_reducible exact Below.refl _ _) | (with_reducible exact HB2.out) | (with_reducible exact HB1.out) | refine bel_drew ?_ | refine bel_alloc ?_ (Nat.le_refl _) _))) hg1 hp1); have HO1 := hide ho1; clear ho1 hg1 ha1 hp1)
              | (refine step_append_rd (some 94) (by rfl) (by rfl) _ _ 28 (by rfl) w3.heap.size 24 i0 (.agg #[.int .i64 0, .int .i64 0]) 2 16 Try.underlying28 hi hz0 hz1 hz2 rfl (by decide) (.slice q1 c d1) c TK (by rfl) (by exact HO1.out) _ (.slice p2 M c2) M DK (by rfl) (by exact R2.out.below (by repeat (first | (with_reducible exact Below.refl _ _) | (with_reducible exact HB2.out) | (with_reducible exact HB1.out) | refine bel_drew ?_ | refine bel_alloc ?_ (Nat.le_refl _) _))) (by exact ON2.out) N (by exact EN.out) TD (by exact ETD.out) (by exact SZ2.out.1) (by exact SZ2.out.2) (by exact bel_le (W := w3) (Nat.le_refl _) (by repeat (first | (with_reducible exact Below.refl _ _) | (with_reducible exact HB2.out) | (with_reducible exact HB1.out) | refine bel_drew ?_ | refine bel_alloc ?_ (Nat.le_refl _) _))) ?_; intro q2 d2 w5 ho2 hg2 ha2 hp2; have HB2 := hide (below_grown (B := w3.heap.size) (W := w3) (by repeat (first | (with_reducible exact Below.refl _ _) | (with_reducible exact HB2.out) | (with_reducible exact HB1.out) | refine bel_drew ?_ | refine bel_alloc ?_ (Nat.le_refl _) _)) (bel_le (W := w3) (Nat.le_refl _) (by repeat (first | (with_reducible exact Below.refl _ _) | (with_reducible exact HB2.out) | (with_reducible exact HB1.out) | refine bel_drew ?_ | refine bel_alloc ?_ (Nat.le_refl _) _))) hg2 hp2); have HS2 := hide (SLF.out _ _ _ ho2); clear ho2 hg2 ha2 hp2)
              | (with_reducible refine (HAF.out _ _ HS2.out).mono ?_; rintro e w6 ⟨rfl, hb⟩; have HB6 := hide (BW.out _ (HB2.out.trans (Below.mono hb HB2.out.size))); clear hb))

          obtain rfl : g = true := HBF.out (by trivial)
          go_wp2
          go_ret
          exact ⟨rfl, HB6.out⟩
      | false =>
        have hlm : ¬ (L.length : Int) ≤ m := fun h => by have := HK2.out h; cases this
        clear HK HK2
        by_cases k0 : k < 0
        · go_wp2
          go_ret
          exact ⟨rfl, HB3.out⟩
        by_cases k1 : (L.length : Int) ≤ k
        · go_wp2
          go_ret
          exact ⟨rfl, HB3.out⟩
        obtain ⟨c, rfl⟩ : ∃ c : Nat, k = (c : Int) := ⟨k.toNat, by omega⟩
        have hc : c < L.length := by omega
        obtain ⟨bp, bf⟩ := HBT.out c hc
        have HAF := hide (fun w2 v2 (h2 : Sl w2 v2 (but L c)) => hAl.out m (but L c) v2 w2 h2)
        rw [(all_0 bp).1] at HAF
        have HBF := hide bf
        clear bp bf HBT
        obtain ⟨p1, c1, hs1, r1⟩ := H3.out.upto c (by omega)
        obtain ⟨p2, c2, hs2, r2⟩ := H3.out.from (c + 1) (by omega)
        rw [show ((c + 1 : Nat) : Int) = (c : Int) + 1 by omega] at hs2
        have R1 := hide r1
        have R2 := hide r2
        obtain ⟨i0, hi, hz0, hz1, hz2⟩ := info_parts infoPr
        have hwk : IntKind.i64.wrap ((c : Int) + 1) = (c : Int) + 1 := by rw [IntKind.wrap_i64]; omega
        obtain ⟨M, hM⟩ : ∃ M, L.length - (c + 1) = M := ⟨_, rfl⟩
        obtain ⟨N, hN⟩ : ∃ N, c + M = N := ⟨_, rfl⟩
        rw [hM] at hs2 R2
        have hNl : N ≤ 64 := by omega
        obtain ⟨TK, hTK⟩ : ∃ TK, flat (L.take c) = TK := ⟨_, rfl⟩
        obtain ⟨DK, hDK⟩ : ∃ DK, flat (L.drop (c + 1)) = DK := ⟨_, rfl⟩
        obtain ⟨TD, hTD⟩ : ∃ TD, TK ++ DK = TD := ⟨_, rfl⟩
        have ON1 : Hid (∀ u ∈ TK, u.oneCell' = true) := hide (by rw [← hTK]; exact flat_one _)
        have ON2 : Hid (∀ u ∈ DK, u.oneCell' = true) := hide (by rw [← hDK]; exact flat_one _)
        have SLF : Hid (∀ p' c' w', w'.ownsRow w3.heap.size 24 2 (.slice p' N c') N TD → Sl w' (.slice p' N c') (but L c)) := hide (fun p' c' w' ho => by
          have e1 : (but L c).length = N := by rw [but_len hc, hM, hN]
          have e2 : flat (but L c) = TD := by rw [flat_but, hTK, hDK, hTD]
          have := Sl.own (L := but L c) (by rw [e1, e2]; exact ho)
          exact this)
        rw [hTK] at R1
        rw [hDK] at R2
        have EN := hide hN
        have ETD := hide hTD
        have SZ1 : Hid (c ≤ maxLen ∧ c * 16 ≤ 140737488355328) := hide ⟨by unfold maxLen; omega, by omega⟩
        have SZ2 : Hid (N ≤ maxLen ∧ N * 16 ≤ 140737488355328) := hide ⟨by unfold maxLen; omega, by omega⟩
        have BW : Hid (∀ w', Below w3.heap.size w3 w' → Below W.heap.size W w') := hide (fun w' hB => nx_of HB3.out hB)
        clear r1 r2 hM hN hTK hDK hTD
        generalize allB m (but L c) = g at *
        go_wp2
        go_region_held3 (fun _ => True) (trivial)
          (first
            | (refine step_append_rd (some 89) (by rfl) (by rfl) _ _ 28 (by rfl) w3.heap.size 24 i0 (.agg #[.int .i64 0, .int .i64 0]) 2 16 Try.underlying28 hi hz0 hz1 hz2 rfl (by decide) (.slice (some ⟨w3.heap.size, 0, none⟩) 0 0) 0 [] (by rfl) (by exact own_empty (by exact heap_alloc_at _ _ _ (by simp)) (Nat.le_refl _)) _ (.slice p1 c c1) c TK (by rfl) (by exact R1.out.below (by repeat (first | (with_reducible exact Below.refl _ _) | (with_reducible exact HB2.out) | (with_reducible exact HB1.out) | refine bel_drew ?_ | refine bel_alloc ?_ (Nat.le_refl _) _))) (by exact ON1.out) c (by exact Nat.zero_add c) TK (by exact List.nil_append TK) (by exact SZ1.out.1) (by exact SZ1.out.2) (by exact bel_le (W := w3) (Nat.le_refl _) (by repeat (first | (with_reducible exact Below.refl _ _) | (with_reducible exact HB2.out) | (with_reducible exact HB1.out) | refine bel_drew ?_ | refine bel_alloc ?_ (Nat.le_refl _) _))) ?_; intro q1 d1 w4 ho1 hg1 ha1 hp1; have HB1 := hide (below_grown (B := w3.heap.size) (W := w3) (by repeat (first | (with_reducible exact Below.refl _ _) | (with_reducible exact HB2.out) | (with_reducible exact HB1.out) | refine bel_drew ?_ | refine bel_alloc ?_ (Nat.le_refl _) _)) (bel_le (W := w3) (Nat.le_refl _) (by repeat (first | (with_reducible exact Below.refl _ _) | (with_reducible exact HB2.out) | (with_reducible exact HB1.out) | refine bel_drew ?_ | refine bel_alloc ?_ (Nat.le_refl _) _))) hg1 hp1); have HO1 := hide ho1; clear ho1 hg1 ha1 hp1)
            | (refine step_append_rd (some 94) (by rfl) (by rfl) _ _ 28 (by rfl) w3.heap.size 24 i0 (.agg #[.int .i64 0, .int .i64 0]) 2 16 Try.underlying28 hi hz0 hz1 hz2 rfl (by decide) (.slice q1 c d1) c TK (by rfl) (by exact HO1.out) _ (.slice p2 M c2) M DK (by rfl) (by exact R2.out.below (by repeat (first | (with_reducible exact Below.refl _ _) | (with_reducible exact HB2.out) | (with_reducible exact HB1.out) | refine bel_drew ?_ | refine bel_alloc ?_ (Nat.le_refl _) _))) (by exact ON2.out) N (by exact EN.out) TD (by exact ETD.out) (by exact SZ2.out.1) (by exact SZ2.out.2) (by exact bel_le (W := w3) (Nat.le_refl _) (by repeat (first | (with_reducible exact Below.refl _ _) | (with_reducible exact HB2.out) | (with_reducible exact HB1.out) | refine bel_drew ?_ | refine bel_alloc ?_ (Nat.le_refl _) _))) ?_; intro q2 d2 w5 ho2 hg2 ha2 hp2; have HB2 := hide (below_grown (B := w3.heap.size) (W := w3) (by repeat (first | (with_reducible exact Below.refl _ _) | (with_reducible exact HB2.out) | (with_reducible exact HB1.out) | refine bel_drew ?_ | refine bel_alloc ?_ (Nat.le_refl _) _)) (bel_le (W := w3) (Nat.le_refl _) (by repeat (first | (with_reducible exact Below.refl _ _) | (with_reducible exact HB2.out) | (with_reducible exact HB1.out) | refine bel_drew ?_ | refine bel_alloc ?_ (Nat.le_refl _) _))) hg2 hp2); have HS2 := hide (SLF.out _ _ _ ho2); clear ho2 hg2 ha2 hp2)
            | (with_reducible refine (HAF.out _ _ HS2.out).mono ?_; rintro e w6 ⟨rfl, hb⟩; have HB6 := hide (BW.out _ (HB2.out.trans (Below.mono hb HB2.out.size))); clear hb))

        go_wp2
        go_ret
        exact ⟨rfl, HB6.out⟩
end Go.Proofs.Ytkfddjmhoekjgaa.Wn
