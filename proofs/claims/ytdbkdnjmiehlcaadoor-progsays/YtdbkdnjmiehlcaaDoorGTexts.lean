/- ProgTexts' walk. -/
import Derived.Test.YtdbkdnjmiehlcaaDoorGBack
namespace Go.Proofs.YtdbkdnjmiehlcaaDoor.Con
open Go.RowKit Go.Proofs.YtdbkdnjmiehlcaaDoor.Pm
set_option linter.unusedVariables false
set_option linter.unusedSimpArgs false
theorem text_same {L M : List St} (hL : good L = true) (hM : good M = true) : (text L = text M) ↔ L = M := by
  constructor
  · intro h
    rw [text_good hL, text_good hM] at h
    exact txt_inj hL hM h
  · rintro rfl; rfl
set_option maxHeartbeats 4000000 in
theorem texts_walk {W : World} {v u : Value} {L M : List St} (h : Sl W v L) (h' : Sl W u M) (hT : Tab W) : Calls Tryd.prog 6 #[v, u] W fun e w' => e = .returned (.bool true) ∧ Below W.heap.size W w' := by
  obtain ⟨p, cap, rfl, hn, hm⟩ := h.form
  obtain ⟨q, cap2, rfl, hn2, hm2⟩ := h'.form
  have HA := hide (awake_any W hT)
  have H := hide h
  have K := hide h'
  have T := hide hT
  clear h h' hT
  by_cases h20 : 20 < L.length
  · have h20' : 20 < (L.length : Int) := by omega
    go_enter Tryd.func6, Tryd.ntmps6
    go_wp2_with fail
    refine HA.out.mono ?_
    rintro e w1 ⟨rfl, hb⟩
    have B1 := hide hb
    clear hb
    go_wp2
    go_ret
    exact ⟨rfl, B1.out⟩
  · have h20' : ¬ 20 < (L.length : Int) := by omega
    by_cases h21 : 20 < M.length
    · have h21' : 20 < (M.length : Int) := by omega
      go_enter Tryd.func6, Tryd.ntmps6
      go_wp2_with fail
      refine HA.out.mono ?_
      rintro e w1 ⟨rfl, hb⟩
      have B1 := hide hb
      clear hb
      go_wp2
      go_ret
      exact ⟨rfl, B1.out⟩
    · have h21' : ¬ 20 < (M.length : Int) := by omega
      have hl : L.length ≤ 1000 := by omega
      have hl2 : M.length ≤ 1000 := by omega
      cases hg : good L with
      | false =>
        have G := hide hg
        go_enter Tryd.func6, Tryd.ntmps6
        go_wp2_with fail
        refine HA.out.mono ?_
        rintro e w1 ⟨rfl, hb⟩
        have H1 := hide (H.out.below hb)
        have B1 := hide hb
        clear hb H hg
        go_wp2_with fail
        refine (good_any H1.out).mono ?_
        rintro e w2 ⟨rfl, hb⟩
        rw [G.out]
        have B2 := hide (Nx.trans B1.out hb)
        clear hb
        go_wp2
        go_ret
        exact ⟨rfl, B2.out⟩
      | true =>
        have G := hide hg
        cases hg2 : good M with
        | false =>
          have G2 := hide hg2
          go_enter Tryd.func6, Tryd.ntmps6
          go_wp2_with fail
          refine HA.out.mono ?_
          rintro e w1 ⟨rfl, hb⟩
          have H1 := hide (H.out.below hb)
          have K1 := hide (K.out.below hb)
          have B1 := hide hb
          clear hb H K hg hg2
          go_wp2_with fail
          refine (good_any H1.out).mono ?_
          rintro e w2 ⟨rfl, hb⟩
          rw [G.out]
          have K2 := hide (K1.out.below hb)
          have B2 := hide (Nx.trans B1.out hb)
          clear hb H1 K1 B1
          go_wp2_with fail
          refine (good_any K2.out).mono ?_
          rintro e w3 ⟨rfl, hb⟩
          rw [G2.out]
          have B3 := hide (Nx.trans B2.out hb)
          clear hb
          go_wp2
          go_ret
          exact ⟨rfl, B3.out⟩
        | true =>
          have G2 := hide hg2
          have TS := hide (text_same hg hg2)
          go_enter Tryd.func6, Tryd.ntmps6
          go_wp2_with fail
          refine HA.out.mono ?_
          rintro e w1 ⟨rfl, hb⟩
          have H1 := hide (H.out.below hb)
          have K1 := hide (K.out.below hb)
          have T1 := hide (T.out.on hb)
          have B1 := hide hb
          clear hb H K T hg hg2
          go_wp2_with fail
          refine (good_any H1.out).mono ?_
          rintro e w2 ⟨rfl, hb⟩
          rw [G.out]
          have H2 := hide (H1.out.below hb)
          have K2 := hide (K1.out.below hb)
          have T2 := hide (T1.out.on hb)
          have B2 := hide (Nx.trans B1.out hb)
          clear hb H1 K1 T1 B1
          go_wp2_with fail
          refine (good_any K2.out).mono ?_
          rintro e w3 ⟨rfl, hb⟩
          rw [G2.out]
          have H3 := hide (H2.out.below hb)
          have K3 := hide (K2.out.below hb)
          have T3 := hide (T2.out.on hb)
          have B3 := hide (Nx.trans B2.out hb)
          clear hb H2 K2 T2 B2
          go_wp2_with fail
          refine (text_any H3.out T3.out).mono ?_
          rintro e w4 ⟨rfl, hb⟩
          have H4 := hide (H3.out.below hb)
          have K4 := hide (K3.out.below hb)
          have T4 := hide (T3.out.on hb)
          have B4 := hide (Nx.trans B3.out hb)
          clear hb H3 K3 T3 B3
          go_wp2_with fail
          refine (text_any K4.out T4.out).mono ?_
          rintro e w5 ⟨rfl, hb⟩
          have H5 := hide (H4.out.below hb)
          have K5 := hide (K4.out.below hb)
          have B5 := hide (Nx.trans B4.out hb)
          clear hb H4 K4 T4 B4
          by_cases hLM : L = M
          · subst hLM
            go_wp2_with fail
            refine (own_at K5.out hl).mono ?_
            rintro e w6 ⟨v6, rfl, HS⟩
            have H6 := hide (H5.out.below HS.out.2)
            have B6 := hide (Nx.trans B5.out HS.out.2)
            have O6 := hide HS.out.1
            clear HS H5 B5 K5
            go_wp2_with fail
            refine (same_any H6.out O6.out hl).mono ?_
            rintro e w7 ⟨rfl, hb⟩
            rw [show decide (L = L) = true by simp]
            have B7 := hide (Nx.trans B6.out hb)
            clear hb
            go_wp2
            go_ret
            exact ⟨by simp, B7.out⟩
          · have hne : ¬ text L = text M := fun e => hLM (TS.out.1 e)
            have HLM := hide hLM
            clear hLM TS
            generalize text L = x at *
            generalize text M = y at *
            have hxy : (x == y) = false := by simpa using hne
            go_wp2_with fail
            refine (own_at K5.out hl2).mono ?_
            rintro e w6 ⟨v6, rfl, HS⟩
            have H6 := hide (H5.out.below HS.out.2)
            have B6 := hide (Nx.trans B5.out HS.out.2)
            have O6 := hide HS.out.1
            clear HS H5 B5 K5
            go_wp2_with fail
            refine (same_any H6.out O6.out hl).mono ?_
            rintro e w7 ⟨rfl, hb⟩
            rw [decide_eq_false HLM.out]
            have B7 := hide (Nx.trans B6.out hb)
            clear hb
            go_wp2
            go_ret
            exact ⟨by first | (simp [hne]; done) | (simp; done), B7.out⟩
end Go.Proofs.YtdbkdnjmiehlcaaDoor.Con
