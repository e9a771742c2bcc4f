/- Text: a program's text. (Written by mkGText.py.) -/
import Derived.Test.YtdbkdnjmiehlcaaDoorGApp
namespace Go.Proofs.YtdbkdnjmiehlcaaDoor.Con
open Go.RowKit Go.Proofs.YtdbkdnjmiehlcaaDoor.Pm
set_option linter.unusedVariables false
set_option linter.unusedSimpArgs false
theorem TX.form {W wr : World} {d : Nat} {s : St} {v : Value} {A : List UInt8} (h : TX W wr d s v A) : ∃ p c, v = .slice p A.length c := by
  obtain ⟨_, ⟨rfl, h0⟩ | ⟨g, cap, cur, rfl, _⟩⟩ := h.row
  · exact ⟨none, 0, by rw [h0]⟩
  · exact ⟨_, cap, rfl⟩
theorem text_bad {L : List St} (h : good L = false) : text L = [] := by unfold text; rw [if_neg (by rw [h]; decide)]
theorem text_good {L : List St} (h : good L = true) : text L = txt L := by unfold text; rw [if_pos h]
/-- A row of bytes, ours. -/
abbrev Br (W wr : World) (v : Value) (A : List UInt8) : Prop := wr.ownsRow W.heap.size 5 1 v A.length (Lib.byteCells A)
theorem Br.text {W wr : World} {v : Value} {A : List UInt8} (h : Br W wr v A) (h0 : A ≠ []) : (convert 55 9 v).run Tryd.prog wr = .ok (sv A) wr := by
  obtain ⟨_, ⟨_, h1⟩ | ⟨g, cap, cur, rfl, _, hg, hc, _, hx, hy⟩⟩ := h
  · exact absurd (List.eq_nil_of_length_eq_zero h1) h0
  · refine run_convert_bytes_back wr 55 9 5 ⟨g, 0, none⟩ cap A Tryd.underlying55 Tryd.underlying5 Tryd.underlying9 ?_
    intro j hj
    have e : ((⟨g, 0, none⟩ : Addr).add j) = ⟨g, j, none⟩ := by unfold Addr.add; split <;> simp_all
    rw [e, cell_of_row wr g j cur _ _ hg]
    have h3 : (cur.toList.take (A.length * 1))[j]? = (Lib.byteCells A)[j]? := by rw [hy]
    rw [List.getElem?_take, if_pos (by omega)] at h3
    have h4 : (Lib.byteCells A)[j]? = some (.int .u8 (A[j].toNat : Int)) := by
      unfold Lib.byteCells
      rw [List.getElem?_map, List.getElem?_eq_getElem hj]; rfl
    rw [h4] at h3
    simpa using h3

set_option maxHeartbeats 4000000 in
theorem text_any {W : World} {v : Value} {L : List St} (h : Sl W v L) (hTab : Tab W) :
    Calls Tryd.prog 13 #[v] W fun e w' => e = .returned (sv (text L)) ∧ Below W.heap.size W w' := by
  obtain ⟨p, cap, rfl, hn, hm⟩ := h.form
  have hg := hide (good_any h)
  have H := hide h
  have hT := hide hTab
  clear h hTab
  cases hgd : good L with
  | false =>
    have ht := hide (text_bad hgd)
    rw [hgd] at hg
    clear hgd
    go_enter Tryd.func13, Tryd.ntmps13
    go_wp2_with (go_at_call 10; refine hg.out.mono ?_; rintro e w1 ⟨rfl, hb⟩)
    go_ret
    exact ⟨by rw [ht.out]; rfl, hb⟩
  | true =>
    have ht := hide (text_good hgd)
    have hS : Hid (∀ k, k < L.length → txt (L.take (k + 1)) = txt (L.take k) ++ (if 0 < k then [43] else []) ++ (Lib.itoa (at' L k).2 ++ (if (at' L k).1 = 0 then [] else 64 :: Lib.itoa (at' L k).1))) := hide (fun k hk => txt_snoc L k _ (at_eq hk))
    have hB : Hid (∀ k, (txt (L.take k)).length ≤ 176) := hide (fun k => txt_bound hgd k)
    have hP : Hid (∀ k, k < L.length → (0 ≤ (at' L k).1 ∧ (at' L k).1 ≤ 8) ∧ 1 ≤ (at' L k).2 ∧ (at' L k).2 ≤ 2147483648) := hide (fun k hk => good_at hgd (at_eq hk))
    have hln := (good_len hgd).2
    have hl1 := (good_len hgd).1
    have hfin : Hid (txt (L.take L.length) = txt L) := hide (by rw [List.take_length])
    have hne : Hid (txt L ≠ []) := hide (fun e => by
      have := parse_txt hgd
      rw [e] at this
      have h2 : parse [] = none := rfl
      rw [h2] at this; cases this)
    rw [hgd] at hg
    clear hgd
    go_enter Tryd.func13, Tryd.ntmps13
    go_wp2_with fail
    refine hg.out.mono ?_
    rintro e w1 ⟨rfl, hb1⟩
    have HB1 := hide hb1
    clear hb1
    go_wp2
    go_loopw [3, 11] (fun t i wr => ∃ k : Nat, k ≤ L.length ∧ i = .int .i64 k ∧ Hid (Br W wr t (txt (L.take k))) ∧ Hid (Below W.heap.size W wr)) (fun _ i _ => L.length - (intOf i).toNat)
    case atStart => exact ⟨0, by omega, rfl, hide (World.ownsRow_nil _ _ _ _), HB1⟩
    case round =>
      obtain ⟨k, hk, rfl, HR, HB⟩ := hrel
      by_cases hkn : k < L.length
      · obtain ⟨b, o, rfl, hb, x0, x1⟩ := (H.out.below HB.out).at hkn
        have hk1 : (k : Int) < (L.length : Int) := by omega
        have hAl := hB.out k
        have s1 := hide (hS.out k hkn)
        obtain ⟨⟨hP1, hP2⟩, hP3, hP4⟩ := hP.out k hkn
        generalize (at' L k).1 = z at *
        generalize (at' L k).2 = z' at *
        generalize hA : txt (L.take k) = A at *
        generalize hA1 : txt (L.take (k + 1)) = A' at *
        have HA := hide hA1
        clear hA hA1
        have T0 : Hid (TX W (wr.alloc (.cells #[.int .i64 z, .int .i64 z'] 29)) wr.heap.size (z, z') u3 A) := hide ⟨HR.out.alloc _, heap_alloc_new wr _, bel_alloc2 HB.out _⟩
        clear HR HB
        have hil : (Lib.itoa z').length ≤ 10 := itoa_len z' (by omega) (by omega)
        by_cases hk0 : k = 0
        · have Q0 : ∀ (w : World) (v : Value), z = 0 → Br W w v (A ++ Lib.itoa z') → Br W w v (txt (L.take (k + 1))) := fun w v e hb => by
            rw [HA.out, s1.out, if_neg (by omega), if_pos e]; simpa using hb
          have Q1 : ∀ (w : World) (v : Value), ¬ z = 0 → Br W w v (A ++ Lib.itoa z' ++ [64] ++ Lib.itoa z) → Br W w v (txt (L.take (k + 1))) := fun w v e hb => by
            rw [HA.out, s1.out, if_neg (by omega), if_neg e]; simpa using hb
          have Q0 := hide Q0
          have Q1 := hide Q1
          have hk2 : ¬ 0 < (k : Int) := by omega
          clear hk0
          go_wp2_with fail
          have hL1 : (A ++ Lib.itoa z').length ≤ 400 := by simp; omega
          refine (T0.out.int hT.out (by omega) z' (by omega) (by omega)).mono ?_
          rintro e w1 ⟨v1, rfl, T1⟩
          generalize A ++ Lib.itoa z' = A1 at *
          obtain ⟨c0, c1⟩ := T1.out.cells
          by_cases hz : z = 0
          · have hz2 : (z == 0) = false ∨ True := .inr trivial
            have FE := hide (Q0.out _ _ hz T1.out.row)
            have FB := hide T1.out.below
            subst hz
            go_wp2
            go_roundw
            case rel => exact ⟨k + 1, by omega, by go_num, FE, FB⟩
            case measure => simp [intOf]; omega
          · have hz2 : (z == 0) = false := by simp [hz]
            have hz3 : (z != 0) = true := by simp [hz]
            have z0 := hP1
            obtain ⟨q1, b1, rfl⟩ := T1.out.form
            go_wp2_with (at_builtin; refine wpList_app (w := w1) rfl _ _ 55 rfl #[.int .u8 64] rfl rfl (by simp) Tryd.underlying55 infoU8 rfl (by decide) (by decide) T1.out.row T1.out.below.size (by omega) rfl (by intro u hu; simp at hu; subst hu; rfl) ?_; intro p2 cp2 w2 HA2; refine Hid.out ?_)
            refine hide ?_
            have T2 := hide (T1.out.grown (b := 64) HA2.out.1 HA2.out.2)
            obtain ⟨c2, c3⟩ := T2.out.cells
            go_wp2_with fail
            refine (T2.out.int hT.out (by simp; omega) z (by omega) (by omega)).mono ?_
            rintro e w3 ⟨v3, rfl, T3⟩
            have FE := hide (Q1.out _ _ hz T3.out.row)
            have FB := hide T3.out.below
            go_wp2
            go_roundw
            case rel => exact ⟨k + 1, by omega, by go_num, FE, FB⟩
            case measure => simp [intOf]; omega
        · have Q0 : ∀ (w : World) (v : Value), z = 0 → Br W w v (A ++ [43] ++ Lib.itoa z') → Br W w v (txt (L.take (k + 1))) := fun w v e hb => by
            rw [HA.out, s1.out, if_pos (by omega), if_pos e]; simpa using hb
          have Q1 : ∀ (w : World) (v : Value), ¬ z = 0 → Br W w v (A ++ [43] ++ Lib.itoa z' ++ [64] ++ Lib.itoa z) → Br W w v (txt (L.take (k + 1))) := fun w v e hb => by
            rw [HA.out, s1.out, if_pos (by omega), if_neg e]; simpa using hb
          have Q0 := hide Q0
          have Q1 := hide Q1
          have hk2 : 0 < (k : Int) := by omega
          obtain ⟨q0, b0, rfl⟩ := T0.out.form
          go_wp2_with (at_builtin; refine wpList_app (w := wr.alloc (.cells #[.int .i64 z, .int .i64 z'] 29)) rfl _ _ 55 rfl #[.int .u8 43] rfl rfl (by simp) Tryd.underlying55 infoU8 rfl (by decide) (by decide) T0.out.row T0.out.below.size (by omega) rfl (by intro u hu; simp at hu; subst hu; rfl) ?_; intro p5 cp5 w5 HA5; refine Hid.out ?_)
          refine hide ?_
          have T5 := hide (T0.out.grown (b := 43) HA5.out.1 HA5.out.2)
          obtain ⟨c5, c6⟩ := T5.out.cells
          go_wp2_with fail
          have hL1 : (A ++ [43] ++ Lib.itoa z').length ≤ 400 := by simp; omega
          refine (T5.out.int hT.out (by simp; omega) z' (by omega) (by omega)).mono ?_
          rintro e w1 ⟨v1, rfl, T1⟩
          generalize A ++ [43] ++ Lib.itoa z' = A1 at *
          obtain ⟨c0, c1⟩ := T1.out.cells
          by_cases hz : z = 0
          · have hz2 : (z == 0) = false ∨ True := .inr trivial
            have FE := hide (Q0.out _ _ hz T1.out.row)
            have FB := hide T1.out.below
            subst hz
            go_wp2
            go_roundw
            case rel => exact ⟨k + 1, by omega, by go_num, FE, FB⟩
            case measure => simp [intOf]; omega
          · have hz2 : (z == 0) = false := by simp [hz]
            have hz3 : (z != 0) = true := by simp [hz]
            have z0 := hP1
            obtain ⟨q1, b1, rfl⟩ := T1.out.form
            go_wp2_with (at_builtin; refine wpList_app (w := w1) rfl _ _ 55 rfl #[.int .u8 64] rfl rfl (by simp) Tryd.underlying55 infoU8 rfl (by decide) (by decide) T1.out.row T1.out.below.size (by omega) rfl (by intro u hu; simp at hu; subst hu; rfl) ?_; intro p2 cp2 w2 HA2; refine Hid.out ?_)
            refine hide ?_
            have T2 := hide (T1.out.grown (b := 64) HA2.out.1 HA2.out.2)
            obtain ⟨c2, c3⟩ := T2.out.cells
            go_wp2_with fail
            refine (T2.out.int hT.out (by simp; omega) z (by omega) (by omega)).mono ?_
            rintro e w3 ⟨v3, rfl, T3⟩
            have FE := hide (Q1.out _ _ hz T3.out.row)
            have FB := hide T3.out.below
            go_wp2
            go_roundw
            case rel => exact ⟨k + 1, by omega, by go_num, FE, FB⟩
            case measure => simp [intOf]; omega
      · obtain rfl : k = L.length := by omega
        have HC := HR.out.text (by rw [hfin.out]; exact hne.out)
        rw [hfin.out] at HC
        go_wp2
        go_ret
        exact ⟨by rw [ht.out]; rfl, HB.out⟩
end Go.Proofs.YtdbkdnjmiehlcaaDoor.Con
