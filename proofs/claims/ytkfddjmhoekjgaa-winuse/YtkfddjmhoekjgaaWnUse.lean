/- WinUse: all together, rounded up. -/
import Derived.Test.YtkfddjmhoekjgaaWnCon
import Derived.Deep.DrawnRows
namespace Go.Proofs.Ytkfddjmhoekjgaa.Wn
open Go.RowKit Go.Proofs.Ytkfddjmhoekjgaa.Con
set_option linter.unusedVariables false
set_option linter.unusedSimpArgs false
attribute [local go_sem ↓] Go.wp_at_zero Go.wp_at_succ
theorem drewN_nx {W w : World} (h : Below W.heap.size W w) (n : Nat) : Below W.heap.size W (w.drewN n) := ⟨h.os, h.tape, h.output, h.size, h.block⟩
theorem nx_of {W w w' : World} (h : Below W.heap.size W w) (k : Nx w w') : Below W.heap.size W w' := h.trans (Below.mono k h.size)
theorem fullN_snoc (L : List Pr) (k : Nat) (h : k < L.length) : fullN (L.take (k + 1)) = fullN (L.take k) + (if (at' L k).1 = (at' L k).2 then 1 else 0) := by
  rw [take_snoc L k h, fullN_app]; simp only [fullN]; omega
theorem gp_all {L : List Pr} (h : ∀ j, j < L.length → gp (at' L j) = true) : ∀ x ∈ L, gp x = true := fun x hx => by
  obtain ⟨j, hj, rfl⟩ := mem_at hx; exact h j hj
set_option maxHeartbeats 8000000 in
theorem use_walk (hA : Hid AwakeC) (hG : Hid GoodC) (hU : Hid UseC) (L : List Pr) (v : Value) (W : World) (h : Sl W v L) :
    Calls Try.prog 7 #[v] W fun e w' => e = .returned (.bool true) ∧ Nx W w' := by
  obtain ⟨p, cap, rfl, hn, hm⟩ := h.form
  have hmx : (L.length : Int) ≤ 9223372036854775807 := by unfold maxLen at hm; omega
  have H := hide h
  clear h
  go_enter Try.func7, Try.ntmps7
  go_wp2_with fail
  refine (hA.out _).mono ?_
  rintro e w1 ⟨rfl, hb⟩
  have HB1 := hide hb
  clear hb
  by_cases hl : 64 < (L.length : Int)
  · go_wp2
    go_ret
    exact ⟨rfl, HB1.out⟩
  have hl64 : L.length ≤ 64 := by omega
  have hS : Hid (∀ k, k < L.length → fullN (L.take (k + 1)) = fullN (L.take k) + (if (at' L k).1 = (at' L k).2 then 1 else 0)) := hide (fun k hk => fullN_snoc L k hk)
  have hSb : Hid (∀ k, k ≤ L.length → 0 ≤ fullN (L.take k) ∧ fullN (L.take k) ≤ 64) := hide (fun k hk => by have := fullN_bd (L.take k); simp at this; omega)
  have HN : Hid (∀ k, k < L.length → gp (at' L k) = false → useN L = 0 ∧ useX L = true) := hide (fun k hk hf => use_0 (fun h => by have := h.2 _ (at_mem hk); rw [hf] at this; cases this))
  have HY : Hid ((∀ j, j < L.length → gp (at' L j) = true) → fullN L ≤ useN L ∧ useN L ≤ L.length ∧ (L.length ≠ 0 → 1 ≤ useN L) ∧ (fullN L = L.length → useX L = true ∧ useN L = L.length)) := hide (fun h => use_facts hl64 (gp_all h))
  have HFL : Hid (0 ≤ fullN L ∧ fullN L ≤ L.length) := hide (fullN_bd L)
  have hT : Hid (L.take L.length = L) := hide (List.take_length)
  go_wp2
  go_loopw [3, 4] (fun t i wr => ∃ k : Nat, k ≤ L.length ∧ t = .int .i64 (fullN (L.take k)) ∧ i = .int .i64 k ∧ Hid (∀ j, j < k → gp (at' L j) = true) ∧ Hid (Below W.heap.size W wr)) (fun _ i _ => L.length - (intOf i).toNat)
  case atStart => exact ⟨0, by omega, rfl, rfl, hide (fun j hj => by omega), HB1⟩
  case round =>
    obtain ⟨k, hk, rfl, rfl, HR, HB⟩ := hrel
    by_cases hkn : k < L.length
    · have hk1 : (k : Int) < (L.length : Int) := by omega
      obtain ⟨b, o, rfl, hbW, q0, q1⟩ := H.out.at hkn
      have QQ : Hid (∀ w', Below W.heap.size W w' → w'.cell? ⟨b, o + k * 2, none⟩ = some (.int .i64 (at' L k).1) ∧ w'.cell? ⟨b, o + k * 2 + 1, none⟩ = some (.int .i64 (at' L k).2)) := hide (fun w' hB =>
        ⟨(hB.cell (p := ⟨b, o + k * 2, none⟩) hbW).trans q0, (hB.cell (p := ⟨b, o + k * 2 + 1, none⟩) hbW).trans q1⟩)
      obtain ⟨x0, x1⟩ := QQ.out wr HB.out
      clear q0 q1
      have HGk : Hid (∀ w, Calls Try.prog 20 #[.agg #[.int .i64 (at' L k).1, .int .i64 (at' L k).2]] w fun e w' => e = .returned (.bool (gp (at' L k))) ∧ Nx w w') := hide (hG.out (at' L k))
      have hN1 := HN.out k hkn
      have hR1 : gp (at' L k) = true → ∀ j, j < k + 1 → gp (at' L j) = true := fun e j hj => by
        rcases Nat.lt_or_ge j k with h1 | h1
        · exact HR.out j h1
        · obtain rfl : j = k := by omega
          exact e
      have HB3 : Hid (∀ w2, Nx wr w2 → Below W.heap.size W w2) := hide (fun w2 h => nx_of HB.out h)
      have hs := hS.out k hkn
      have sb := hSb.out k hk
      cases hf : gp (at' L k) with
      | false =>
        obtain ⟨u1, u2⟩ := hN1 hf
        have HUv := hide (fun w2 (hB : Below W.heap.size W w2) => hU.out L _ w2 (H.out.below hB))
        rw [u1, u2] at HUv
        rw [hf] at HGk
        clear hN1 hR1 hf HR hs u1 u2
        generalize (at' L k).1 = z at *
        generalize (at' L k).2 = z' at *
        go_wp2_with fail
        refine (HGk.out _).mono ?_
        rintro e w2 ⟨rfl, hb⟩
        have HB2 := hide (HB3.out _ hb)
        go_wp2_with fail
        refine (HUv.out _ HB2.out).mono ?_
        rintro e w3 ⟨rfl, hb3⟩
        have HB4 := hide (nx_of HB2.out hb3)
        go_wp2
        go_ret
        exact ⟨rfl, HB4.out⟩
      | true =>
        have FE := hide (hR1 hf)
        rw [hf] at HGk
        clear hN1 hR1 hf HR
        have HSS := hide hs
        clear hs
        generalize (at' L k).1 = z at *
        generalize (at' L k).2 = z' at *
        generalize fullN (L.take k) = t at *
        go_wp2_with fail
        refine (HGk.out _).mono ?_
        rintro e w2 ⟨rfl, hb⟩
        have HB2 := hide (HB3.out _ hb)
        clear x0 x1
        obtain ⟨x0, x1⟩ := QQ.out w2 HB2.out
        have HB5 : Hid (∀ n, Below W.heap.size W (w2.drewN n)) := hide (fun n => drewN_nx HB2.out n)
        by_cases hz : z = z'
        · subst hz
          go_wp2
          go_quiet (fail)
          go_wp2
          go_round
          case rel => exact ⟨k + 1, by omega, by rw [HSS.out]; simp, by go_num, FE, hide (HB5.out _)⟩
          case measure => simp [intOf]; omega
        · have hz' : (z == z') = false := by simp [hz]
          go_wp2
          go_quiet (fail)
          go_wp2
          go_round
          case rel => exact ⟨k + 1, by omega, by rw [HSS.out, if_neg hz]; first | done | (rw [Int.add_zero]; done), by go_num, FE, hide (HB5.out _)⟩
          case measure => simp [intOf]; omega
    · obtain rfl : k = L.length := by omega
      obtain ⟨u1, u2, u3, u4⟩ := HY.out HR.out
      obtain ⟨hfl0, hfl⟩ := HFL.out
      have HUv := hide (fun w2 (hB : Below W.heap.size W w2) => hU.out L _ w2 (H.out.below hB))
      rw [hT.out]
      clear HR HY HN hS hSb hT HFL
      generalize fullN L = f at *
      generalize useN L = n at *
      go_wp2_with fail
      refine (HUv.out _ HB.out).mono ?_
      rintro e w3 ⟨rfl, hb3⟩
      have HB4 := hide (nx_of HB.out hb3)
      clear HUv
      by_cases hz : f = (L.length : Int)
      · obtain ⟨v1, v2⟩ := u4 hz
        rw [v1]
        subst hz
        subst v2
        clear u4 v1
        by_cases hz2 : L.length = 0
        · have hz3 : ((L.length : Int) == 0) = true := by simp [hz2]
          go_wp2
          go_ret
          exact ⟨rfl, HB4.out⟩
        · have hz3 : ((L.length : Int) == 0) = false := beq_eq_false_iff_ne.2 (by omega)
          have hz4 := u3 hz2
          go_wp2
          go_ret
          exact ⟨rfl, HB4.out⟩
      · have hz1 : f < (L.length : Int) := by omega
        have hz3 : ((L.length : Int) == 0) = false := beq_eq_false_iff_ne.2 (by omega)
        have hz4 := u3 (by omega)
        clear u4 u3
        go_wp2
        go_ret
        exact ⟨rfl, HB4.out⟩
end Go.Proofs.Ytkfddjmhoekjgaa.Wn
