/- ProgBack's walk. -/
import Derived.Test.YtdbkdnjmiehlcaaDoorGAwake
namespace Go.Proofs.YtdbkdnjmiehlcaaDoor.Con
open Go.RowKit Go.Proofs.YtdbkdnjmiehlcaaDoor.Pm
set_option linter.unusedVariables false
set_option linter.unusedSimpArgs false
theorem parse_text {L : List St} (h : good L = true) : parse (text L) = some L := by rw [text_good h]; exact parse_txt h
theorem text_len {L : List St} (h : good L = true) : (text L).length ≤ 176 := by
  rw [text_good h]
  have := txt_bound h L.length
  rwa [List.take_length] at this
theorem total_ge {L : List St} (h : good L = true) : (L.length : Int) ≤ total L := by
  rw [total_good h]
  exact (sum_ge ((good_iff L).1 h).2).1
set_option maxHeartbeats 4000000 in
theorem back_walk {W : World} {v : Value} {L : List St} (h : Sl W v L) (hT : Tab W) : Calls Tryd.prog 5 #[v] W fun e w' => e = .returned (.bool true) ∧ Below W.heap.size W w' := by
  obtain ⟨p, cap, rfl, hn, hm⟩ := h.form
  have HA := hide (awake_any W hT)
  have H := hide h
  have T := hide hT
  clear h hT
  by_cases h20 : 20 < L.length
  · have h20' : 20 < (L.length : Int) := by omega
    go_enter Tryd.func5, Tryd.ntmps5
    go_wp2_with fail
    refine HA.out.mono ?_
    rintro e w1 ⟨rfl, hb⟩
    have B1 := hide hb
    clear hb
    go_wp2
    go_ret
    exact ⟨rfl, B1.out⟩
  · have h20' : ¬ 20 < (L.length : Int) := by omega
    have hl : L.length ≤ 1000 := by omega
    cases hg : good L with
    | false =>
      have G := hide hg
      go_enter Tryd.func5, Tryd.ntmps5
      go_wp2_with fail
      refine HA.out.mono ?_
      rintro e w1 ⟨rfl, hb⟩
      have H1 := hide (H.out.below hb)
      have B1 := hide hb
      clear hb H hg
      go_wp2_with fail
      refine (good_any H1.out).mono ?_
      rintro e w2 ⟨rfl, hb⟩
      rw [G.out]
      have B2 := hide (Nx.trans B1.out hb)
      clear hb
      go_wp2
      go_ret
      exact ⟨rfl, B2.out⟩
    | true =>
      have G := hide hg
      have EP := hide (parse_text hg)
      have lt0 : (text L).length < 1000000 := by have := text_len hg; omega
      have ET : (L.length : Int) ≤ total L := total_ge hg
      go_enter Tryd.func5, Tryd.ntmps5
      go_wp2_with fail
      refine HA.out.mono ?_
      rintro e w1 ⟨rfl, hb⟩
      have H1 := hide (H.out.below hb)
      have T1 := hide (T.out.on hb)
      have B1 := hide hb
      clear hb H hg T
      go_wp2_with fail
      refine (good_any H1.out).mono ?_
      rintro e w2 ⟨rfl, hb⟩
      rw [G.out]
      have H2 := hide (H1.out.below hb)
      have T2 := hide (T1.out.on hb)
      have B2 := hide (Nx.trans B1.out hb)
      clear hb H1 T1 B1 G
      go_wp2_with fail
      refine (text_any H2.out T2.out).mono ?_
      rintro e w3 ⟨rfl, hb⟩
      have H3 := hide (H2.out.below hb)
      have B3 := hide (Nx.trans B2.out hb)
      clear hb H2 T2 B2
      generalize text L = t at *
      go_wp2_with fail
      refine (parse_at EP.out lt0 w3).mono ?_
      rintro e w4 ⟨v4, rfl, HS⟩
      have S4 := hide HS.out.1
      have H4 := hide (H3.out.below HS.out.2)
      have B4 := hide (Nx.trans B3.out HS.out.2)
      clear HS B3 H3 EP
      go_wp2_with fail
      refine (own_at H4.out hl).mono ?_
      rintro e w5 ⟨v5, rfl, HS⟩
      have S5 := hide (S4.out.below HS.out.2)
      have H5 := hide (H4.out.below HS.out.2)
      have B5 := hide (Nx.trans B4.out HS.out.2)
      have O5 := hide HS.out.1
      clear HS S4 H4 B4
      go_wp2_with fail
      refine (same_any S5.out O5.out hl).mono ?_
      rintro e w6 ⟨rfl, hb⟩
      rw [show decide (L = L) = true by simp]
      have S6 := hide (S5.out.below hb)
      have H6 := hide (H5.out.below hb)
      have B6 := hide (Nx.trans B5.out hb)
      clear hb S5 H5 B5 O5
      go_wp2_with fail
      refine (total_any S6.out).mono ?_
      rintro e w7 ⟨rfl, hb⟩
      have H7 := hide (H6.out.below hb)
      have B7 := hide (Nx.trans B6.out hb)
      clear hb H6 B6 S6
      go_wp2_with fail
      refine (total_any H7.out).mono ?_
      rintro e w8 ⟨rfl, hb⟩
      have H8 := hide (H7.out.below hb)
      have B8 := hide (Nx.trans B7.out hb)
      clear hb H7 B7
      go_wp2_with fail
      refine (total_any H8.out).mono ?_
      rintro e w9 ⟨rfl, hb⟩
      have B9 := hide (Nx.trans B8.out hb)
      clear hb H8 B8
      go_wp2
      go_ret
      exact ⟨rfl, B9.out⟩
end Go.Proofs.YtdbkdnjmiehlcaaDoor.Con
