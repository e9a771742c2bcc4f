/- The reference's ProgText. (Written by mkGRtx.py.) -/
import Derived.Test.YtdbkdnjmiehlcaaDoorGText
namespace Go.Proofs.YtdbkdnjmiehlcaaDoor.Con
open Go.RowKit Go.Proofs.YtdbkdnjmiehlcaaDoor.Pm
set_option linter.unusedVariables false
set_option linter.unusedSimpArgs false
set_option maxHeartbeats 4000000 in
theorem rtext_any {W : World} {v : Value} {L : List St} (h : Sl W v L) (hl : L.length ≤ 1000) :
    Calls Tryd.prog 20 #[v] W fun e w' => e = .returned (sv (text L)) ∧ Below W.heap.size W w' := by
  obtain ⟨p, cap, rfl, hn, hm⟩ := h.form
  have hg0 := hide (rgood_any h hl)
  have H := hide h
  by_cases hl0 : L.length = 0
  · have ht := hide (text_bad (good_short (L := L) (by omega)))
    have hl1 : (L.length : Int) = 0 := by omega
    clear h hg0 H
    go_enter Tryd.func20, Tryd.ntmps20
    go_wp2
    go_loop [3, 4] (fun t i => t = .string ⟨#[]⟩ ∧ i = .int .i64 0) (fun _ i => 0)
    case atStart => exact ⟨rfl, rfl⟩
    case round =>
      obtain ⟨rfl, rfl⟩ := hrel
      go_wp2
      go_ret
      exact ⟨by rw [ht.out]; rfl, Below.refl _ _⟩
  · cases hgd : good L with
    | false =>
      have ht := hide (text_bad hgd)
      have hl1 : 0 < (L.length : Int) := by omega
      rw [hgd] at hg0
      clear hgd h H
      go_enter Tryd.func20, Tryd.ntmps20
      go_wp2
      go_loop [3, 4] (fun t i => t = .string ⟨#[]⟩ ∧ i = .int .i64 0) (fun _ i => 0)
      case atStart => exact ⟨rfl, rfl⟩
      case round =>
        obtain ⟨rfl, rfl⟩ := hrel
        go_wp2_with (go_at_call 17; refine hg0.out.mono ?_; rintro e w1 ⟨rfl, rfl⟩)
        go_ret
        exact ⟨by rw [ht.out]; rfl, Below.refl _ _⟩
    | true =>
      have ht := hide (text_good hgd)
      have hg : Hid (∀ w, Below W.heap.size W w → Calls Tryd.prog 17 #[.slice p L.length cap] w fun e w' => e = .returned (.bool true) ∧ w' = w) := hide (fun w hB => by
        have := rgood_any (h.below hB) hl
        rwa [hgd] at this)
      have hS : Hid (∀ k, k < L.length → txt (L.take (k + 1)) = txt (L.take k) ++ (if 0 < k then [43] else []) ++ (Lib.itoa (at' L k).2 ++ (if (at' L k).1 = 0 then [] else 64 :: Lib.itoa (at' L k).1))) := hide (fun k hk => txt_snoc L k _ (at_eq hk))
      have hB : Hid (∀ k, (txt (L.take k)).length ≤ 176) := hide (fun k => txt_bound hgd k)
      have hP : Hid (∀ k, k < L.length → (0 ≤ (at' L k).1 ∧ (at' L k).1 ≤ 8) ∧ 1 ≤ (at' L k).2 ∧ (at' L k).2 ≤ 2147483648) := hide (fun k hk => good_at hgd (at_eq hk))
      have hln := (good_len hgd).2
      have hl1 := (good_len hgd).1
      have hfin : Hid (txt (L.take L.length) = txt L) := hide (by rw [List.take_length])
      clear hgd h hg0
      go_enter Tryd.func20, Tryd.ntmps20
      go_wp2
      go_loopw [3, 4] (fun t i wr => ∃ k : Nat, k ≤ L.length ∧ t = sv (txt (L.take k)) ∧ i = .int .i64 k ∧ Hid (Below W.heap.size W wr)) (fun _ i _ => L.length - (intOf i).toNat)
      case atStart => exact ⟨0, by omega, rfl, rfl, hide (Below.refl _ _)⟩
      case round =>
        obtain ⟨k, hk, rfl, rfl, HB⟩ := hrel
        by_cases hkn : k < L.length
        · obtain ⟨b, o, rfl, hb, x0, x1⟩ := (H.out.below HB.out).at hkn
          have hk1 : (k : Int) < (L.length : Int) := by omega
          have hAl := hB.out k
          have s1 := hide (hS.out k hkn)
          obtain ⟨⟨hP1, hP2⟩, hP3, hP4⟩ := hP.out k hkn
          generalize (at' L k).1 = z at *
          generalize (at' L k).2 = z' at *
          generalize hA : txt (L.take k) = A at *
          clear hA
          have hil : (Lib.itoa z').length ≤ 10 := itoa_len z' (by omega) (by omega)
          have G := hide (hg.out wr HB.out)
          by_cases hk0 : k = 0
          · have Q0 : z = 0 → txt (L.take (k + 1)) = A ++ Lib.itoa z' := fun e => by
              rw [s1.out, if_neg (by omega), if_pos e]; simp
            have Q1 : ¬ z = 0 → txt (L.take (k + 1)) = A ++ Lib.itoa z' ++ ([64] ++ Lib.itoa z) := fun e => by
              rw [s1.out, if_neg (by omega), if_neg e]; simp
            have Q0 := hide Q0
            have Q1 := hide Q1
            have hk2 : ¬ 0 < (k : Int) := by omega
            clear hk0 s1
            go_wp2_with (go_at_call 17; refine G.out.mono ?_; rintro e w1 ⟨rfl, rfl⟩; refine Hid.out ?_)
            refine hide ?_
            by_cases hz : z = 0
            · have hz2 : ¬ 0 < z := by omega
              have FE := Q0.out hz
              go_wp2_with (go_at_call 26; refine (num_any z' (by omega) (by omega) _).mono ?_; rintro e w1 ⟨rfl, hb1⟩; refine Hid.out ?_)
              refine hide ?_
              have FB := hide (HB.out.trans (hb1.mono HB.out.size))
              have X0 := (hb1.cell (p := ⟨b, o + k * 2, none⟩) hb).trans x0
              clear hb1 x0 x1
              go_wp2
              go_roundw
              case rel => exact ⟨k + 1, by omega, by rw [FE]; simp [bytes_app], by go_num, FB⟩
              case measure => simp [intOf]; omega
            · have hz2 : 0 < z := by omega
              have FE := Q1.out hz
              have hil2 : (Lib.itoa z).length ≤ 10 := itoa_len z (by omega) (by omega)
              go_wp2_with (go_at_call 26; refine (num_any z' (by omega) (by omega) _).mono ?_; rintro e w1 ⟨rfl, hb1⟩; refine Hid.out ?_)
              refine hide ?_
              have FB := hide (HB.out.trans (hb1.mono HB.out.size))
              have X0 := (hb1.cell (p := ⟨b, o + k * 2, none⟩) hb).trans x0
              have X1 := (hb1.cell (p := ⟨b, o + k * 2 + 1, none⟩) hb).trans x1
              clear hb1 x0 x1
              go_wp2_with (go_at_call 26; refine (num_any z (by omega) (by omega) _).mono ?_; rintro e w2 ⟨rfl, hb2⟩; refine Hid.out ?_)
              refine hide ?_
              have FB2 := hide (FB.out.trans (hb2.mono FB.out.size))
              clear hb2
              go_wp2
              go_roundw
              case rel => exact ⟨k + 1, by omega, by rw [FE]; simp [bytes_app], by go_num, FB2⟩
              case measure => simp [intOf]; omega
          · have Q0 : z = 0 → txt (L.take (k + 1)) = A ++ [43] ++ Lib.itoa z' := fun e => by
              rw [s1.out, if_pos (by omega), if_pos e]; simp
            have Q1 : ¬ z = 0 → txt (L.take (k + 1)) = A ++ [43] ++ Lib.itoa z' ++ ([64] ++ Lib.itoa z) := fun e => by
              rw [s1.out, if_pos (by omega), if_neg e]; simp
            have Q0 := hide Q0
            have Q1 := hide Q1
            have hk2 : 0 < (k : Int) := by omega
            clear hk0 s1
            go_wp2_with (go_at_call 17; refine G.out.mono ?_; rintro e w1 ⟨rfl, rfl⟩; refine Hid.out ?_)
            refine hide ?_
            by_cases hz : z = 0
            · have hz2 : ¬ 0 < z := by omega
              have FE := Q0.out hz
              go_wp2_with (go_at_call 26; refine (num_any z' (by omega) (by omega) _).mono ?_; rintro e w1 ⟨rfl, hb1⟩; refine Hid.out ?_)
              refine hide ?_
              have FB := hide (HB.out.trans (hb1.mono HB.out.size))
              have X0 := (hb1.cell (p := ⟨b, o + k * 2, none⟩) hb).trans x0
              clear hb1 x0 x1
              go_wp2
              go_roundw
              case rel => exact ⟨k + 1, by omega, by rw [FE]; simp [bytes_app], by go_num, FB⟩
              case measure => simp [intOf]; omega
            · have hz2 : 0 < z := by omega
              have FE := Q1.out hz
              have hil2 : (Lib.itoa z).length ≤ 10 := itoa_len z (by omega) (by omega)
              go_wp2_with (go_at_call 26; refine (num_any z' (by omega) (by omega) _).mono ?_; rintro e w1 ⟨rfl, hb1⟩; refine Hid.out ?_)
              refine hide ?_
              have FB := hide (HB.out.trans (hb1.mono HB.out.size))
              have X0 := (hb1.cell (p := ⟨b, o + k * 2, none⟩) hb).trans x0
              have X1 := (hb1.cell (p := ⟨b, o + k * 2 + 1, none⟩) hb).trans x1
              clear hb1 x0 x1
              go_wp2_with (go_at_call 26; refine (num_any z (by omega) (by omega) _).mono ?_; rintro e w2 ⟨rfl, hb2⟩; refine Hid.out ?_)
              refine hide ?_
              have FB2 := hide (FB.out.trans (hb2.mono FB.out.size))
              clear hb2
              go_wp2
              go_roundw
              case rel => exact ⟨k + 1, by omega, by rw [FE]; simp [bytes_app], by go_num, FB2⟩
              case measure => simp [intOf]; omega
        · obtain rfl : k = L.length := by omega
          go_wp2
          go_ret
          exact ⟨by rw [ht.out, ← hfin.out]; rfl, HB.out⟩
end Go.Proofs.YtdbkdnjmiehlcaaDoor.Con
