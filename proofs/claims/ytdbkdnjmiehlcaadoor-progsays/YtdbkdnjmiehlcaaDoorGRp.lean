/- The reference's ProgParse: its walk. (Written by mkGRp.py.) -/
import Derived.Test.YtdbkdnjmiehlcaaDoorGRm
namespace Go.Proofs.YtdbkdnjmiehlcaaDoor.Con
open Go.RowKit Go.Proofs.YtdbkdnjmiehlcaaDoor.Pm
set_option linter.unusedVariables false
set_option linter.unusedSimpArgs false
set_option maxRecDepth 100000 in
set_option maxHeartbeats 8000000 in
theorem rparse_any (l : List UInt8) (hl : l.length < 1000000) (W : World) :
    Calls Tryd.prog 16 #[sv l] W fun e w' => ParsePost W (rparse l) e w' := by
  rw [rparse_fin]
  have PN : Hid (∀ w', rfin (rgo l false [] (0, 0)) l = none → Below W.heap.size W w' → ParsePost W (rfin (rgo l false [] (0, 0)) l) (.returned (.tuple #[.slice none 0 0, .bool false])) w') := hide (fun w' hR hB => parse_none hR hB)
  have PS : Hid (∀ w v q, rfin (rgo l false [] (0, 0)) l = some q → Sl w v q → ∀ w', Below w.heap.size w w' → Below W.heap.size W w' → ParsePost W (rfin (rgo l false [] (0, 0)) l) (.returned (.tuple #[v, .bool true])) w') := hide (fun w v q hR hv w' hb hB => ⟨v, q, true, rfl, hv.below hb, by rw [hR]; rfl, (fun h => by cases h), hB⟩)
  generalize hR0 : rgo l false [] (0, 0) = R at *
  have HR0 := hide hR0
  clear hR0
  have hG : Hid (∀ k, ∀ h : k < (⟨l.toArray⟩ : ByteArray).size, (⟨l.toArray⟩ : ByteArray)[k] = l.getD k 0) := hide (fun k h => by
    have h' : k < l.length := by have h2 : k < l.toArray.size := h; simpa using h2
    show l.toArray[k] = _
    simp [List.getD_eq_getElem?_getD, List.getElem?_eq_getElem h'])
  have hsz : (⟨l.toArray⟩ : ByteArray).size = l.length := by show l.toArray.size = _; simp
  have HL : Hid ((⟨l.toArray⟩ : ByteArray).toList = l) := hide (by simp)
  have hD := hide (fun k (h : k < l.length) => drop_at l k h)
  have hE := hide (fun k (h : k < l.length) => show l[k] = l.getD k 0 by simp [List.getD_eq_getElem?_getD, List.getElem?_eq_getElem h])
  unfold sv
  generalize (⟨l.toArray⟩ : ByteArray) = s at *
  have P0 : Hid (PP W (W.alloc (.cells #[.int .i64 0, .int .i64 0] 57)) (.slice (some ⟨W.heap.size, 0, none⟩) 1 1) [] (0, 0)) := hide ⟨⟨rfl, .inr ⟨W.heap.size, 1, _, rfl, Nat.le_refl _, heap_alloc_new W _, Nat.le_refl _, by unfold maxLen; omega, rfl, rfl⟩⟩, (Below.refl _ W).alloc (Nat.le_refl _) _⟩
  go_enter Tryd.func16, Tryd.ntmps16
  go_wp2
  go_loopw [4, 5, 6] (fun p a i wr => ∃ (k : Nat) (acc : List St) (z z' : Int) (b : Bool), k ≤ l.length ∧ acc.length ≤ 9 ∧ ((0 ≤ z ∧ z ≤ 20000) ∧ 0 ≤ z' ∧ z' ≤ 17592186044416) ∧ a = .bool b ∧ i = .int .i64 k ∧ Hid (PP W wr p acc (z, z')) ∧ Hid (rgo (l.drop k) b acc (z, z') = R)) (fun _ _ i _ => l.length - (intOf i).toNat)
  case atStart => exact ⟨0, [], 0, 0, false, by omega, by simp, by omega, rfl, rfl, P0, HR0⟩
  case round =>
    obtain ⟨k, acc, z, z', b, hk, ha, ⟨⟨hz0, hz1⟩, hz2, hz3⟩, rfl, rfl, HP, HQ⟩ := hrel
    obtain ⟨g, cap, rfl, hcap, x0, x1, f0, f1⟩ := HP.out.at
    by_cases hkn : k < l.length
    · have hk1 : (k : Int) < (l.length : Int) := by omega
      by_cases h9 : 9 < acc.length + 1
      · have h9' : 9 < (acc.length : Int) + 1 := by omega
        have HQ := hide (rgo_many (show l.drop k = l.getD k 0 :: l.drop (k + 1) by rw [hD.out k hkn, hE.out k hkn]) HQ.out h9)
        have HS := hide HP.out.sl
        have HBq := hide HP.out.below
        clear HP x0 x1 f0 f1 hG hD hE
        cases hgd : good (acc ++ [(z, z')]) with
        | false =>
          have FR := hide (PN.out wr (rfin_bad HQ.out hgd))
          have G := hide hgd
          clear hgd
          go_wp2_with (go_at_call 17; refine (rgood_any HS.out (by rw [List.length_append, List.length_singleton]; omega)).mono ?_; rintro e w1 ⟨rfl, rfl⟩; rw [G.out]; refine Hid.out ?_)
          refine hide ?_
          go_wp2
          go_ret2
          exact FR.out HBq.out
        | true =>
          have G := hide hgd
          by_cases htx : text (acc ++ [(z, z')]) = l
          · have FR := hide (PS.out wr _ _ (rfin_eq HQ.out hgd htx) HS.out)
            have HX := hide (rtext_any HS.out (by rw [List.length_append, List.length_singleton]; omega))
            rw [htx] at HX
            clear hgd htx
            have hbb : (l == s.toList) = true := by rw [HL.out]; simp
            go_wp2_with (go_at_call 17; refine (rgood_any HS.out (by rw [List.length_append, List.length_singleton]; omega)).mono ?_; rintro e w1 ⟨rfl, rfl⟩; rw [G.out]; refine Hid.out ?_)
            refine hide ?_
            go_wp2_with (go_at_call 20; refine HX.out.mono ?_; rintro e w2 ⟨rfl, hb2⟩; refine Hid.out ?_)
            refine hide ?_
            have FR2 := hide (FR.out _ hb2 (HBq.out.trans (hb2.mono HBq.out.size)))
            clear hb2 FR
            go_wp2
            go_ret2
            exact FR2.out
          · have FR := hide (fun w' => PN.out w' (rfin_ne HQ.out hgd htx))
            have HX := hide (rtext_any HS.out (by rw [List.length_append, List.length_singleton]; omega))
            have hbb : (text (acc ++ [(z, z')]) == s.toList) = false := by rw [HL.out]; simpa using htx
            clear hgd htx
            generalize text (acc ++ [(z, z')]) = x at *
            go_wp2_with (go_at_call 17; refine (rgood_any HS.out (by rw [List.length_append, List.length_singleton]; omega)).mono ?_; rintro e w1 ⟨rfl, rfl⟩; rw [G.out]; refine Hid.out ?_)
            refine hide ?_
            go_wp2_with (go_at_call 20; refine HX.out.mono ?_; rintro e w2 ⟨rfl, hb2⟩; refine Hid.out ?_)
            refine hide ?_
            have FR2 := hide (FR.out _ (HBq.out.trans (hb2.mono HBq.out.size)))
            clear hb2 FR
            go_wp2
            go_ret2
            exact FR2.out
      · have h9' : ¬ 9 < (acc.length : Int) + 1 := by omega
        have zk : s[k]'(by omega) = l.getD k 0 := hG.out k (by omega)
        have hdk := hide (show l.drop k = l.getD k 0 :: l.drop (k + 1) by rw [hD.out k hkn, hE.out k hkn])
        generalize l.getD k 0 = c at *
        have hm : c.toNat < 256 := c.toNat_lt
        have I1 : Hid (c.toNat = 43 → rgo (l.drop (k + 1)) false (acc ++ [(z, z')]) (0, 0) = R) := hide (fun h => rgo_plus hdk.out HQ.out h9 h)
        have I2 : Hid (c.toNat = 64 → rgo (l.drop (k + 1)) true acc (z, z') = R) := hide (fun h => rgo_at hdk.out HQ.out h9 h)
        have I3 : Hid (c.toNat ≠ 43 → c.toNat ≠ 64 → (isDig c = false ∨ 1099511627776 < z' ∨ 1000 < z) → R = none) := hide (fun h1 h2 h3 => rgo_bad hdk.out HQ.out h9 h1 h2 h3)
        have I4 : Hid (c.toNat ≠ 43 → c.toNat ≠ 64 → isDig c = true → ¬ 1099511627776 < z' → ¬ 1000 < z → (if b = true then rgo (l.drop (k + 1)) true acc (10 * z + dig c, z') else rgo (l.drop (k + 1)) false acc (z, 10 * z' + dig c)) = R) := hide (fun h1 h2 h3 h4 h5 => by
          cases b with
          | true => rw [if_pos rfl]; exact rgo_sem hdk.out HQ.out h9 h1 h2 h3 h4 h5
          | false => rw [if_neg (by decide)]; exact rgo_num hdk.out HQ.out h9 h1 h2 h3 h4 h5)
        have ID : isDig c = (decide (48 ≤ c.toNat) && decide (c.toNat ≤ 57)) := rfl
        have IE : dig c = (c.toNat : Int) - 48 := rfl
        rw [IE] at I4
        rw [ID] at I3 I4
        clear ID IE HQ hdk hG hD hE HL
        by_cases d1 : c.toNat = 43
        · have d1' : ((c.toNat : Int) == 43) = true := by simp; omega
          have HS1 := hide (I1.out d1)
          clear I1 I2 I3 I4
          have HR3 := hide HP.out.row
          have HB3 := hide HP.out.below
          go_wp2_with (at_builtin; refine wpList_app (w := wr) rfl _ _ 38 rfl #[.int .i64 0, .int .i64 0] rfl rfl rfl Tryd.underlying38 infoRs rfl (by decide) (by decide) HR3.out HB3.out.size (by omega) rfl (by intro u hu; simp at hu; subst hu; rfl) ?_; intro p5 c5 w5 HA5; refine Hid.out ?_)
          refine hide ?_
          have HP5 := hide (HP.out.push HA5.out.1 HA5.out.2)
          clear HA5 HR3 HB3 HP
          go_wp2
          go_roundw
          case rel => exact ⟨k + 1, acc ++ [(z, z')], 0, 0, false, by omega, by rw [List.length_append, List.length_singleton]; omega, by omega, rfl, by go_num, HP5, HS1⟩
          case measure => simp [intOf]; omega
        · have d1' : ((c.toNat : Int) == 43) = false := by rw [beq_eq_false_iff_ne]; omega
          by_cases d2 : c.toNat = 64
          · have d2' : ((c.toNat : Int) == 64) = true := by simp; omega
            have HS1 := hide (I2.out d2)
            clear I1 I2 I3 I4
            go_wp2
            go_roundw
            case rel => exact ⟨k + 1, acc, z, z', true, by omega, by omega, by omega, rfl, by go_num, HP, HS1⟩
            case measure => simp [intOf]; omega
          · have d2' : ((c.toNat : Int) == 64) = false := by rw [beq_eq_false_iff_ne]; omega
            by_cases d3 : c.toNat < 48
            · have d3' : (c.toNat : Int) < 48 := by omega
              have FR := hide (PN.out wr (rfin_none (I3.out d1 d2 (.inl (by simp; omega)))) HP.out.below)
              clear I1 I2 I3 I4
              go_wp2
              go_ret2
              exact FR.out
            · have d3' : ¬ (c.toNat : Int) < 48 := by omega
              by_cases d4 : 57 < c.toNat
              · have d4' : 57 < (c.toNat : Int) := by omega
                have FR := hide (PN.out wr (rfin_none (I3.out d1 d2 (.inl (by simp; omega)))) HP.out.below)
                clear I1 I2 I3 I4
                go_wp2
                go_ret2
                exact FR.out
              · have d4' : ¬ 57 < (c.toNat : Int) := by omega
                by_cases d5 : 1099511627776 < z'
                · have FR := hide (PN.out wr (rfin_none (I3.out d1 d2 (.inr (.inl d5)))) HP.out.below)
                  clear I1 I2 I3 I4
                  go_wp2
                  go_ret2
                  exact FR.out
                · by_cases d6 : 1000 < z
                  · have FR := hide (PN.out wr (rfin_none (I3.out d1 d2 (.inr (.inr d6)))) HP.out.below)
                    clear I1 I2 I3 I4
                    go_wp2
                    go_ret2
                    exact FR.out
                  · have FE := hide (I4.out d1 d2 (by simp; omega) d5 d6)
                    clear I1 I2 I3 I4
                    cases b with
                    | true =>
                      rw [if_pos rfl] at FE
                      have HPD := hide (HP.out.set1)
                      go_wp2
                      go_region
                      have HP5 : Hid (PP W _ _ acc (10 * z + ((c.toNat : Int) - 48), z')) := hide (HPD.out _).drew
                      clear HPD HP
                      go_wp2
                      go_roundw
                      case rel => exact ⟨k + 1, acc, 10 * z + ((c.toNat : Int) - 48), z', _, by omega, by omega, by omega, rfl, by go_num, HP5, FE⟩
                      case measure => simp [intOf]; omega
                    | false =>
                      rw [if_neg (by decide)] at FE
                      have HPD := hide (HP.out.set2)
                      go_wp2
                      go_region
                      have HP5 : Hid (PP W _ _ acc (z, 10 * z' + ((c.toNat : Int) - 48))) := hide (HPD.out _).drew
                      clear HPD HP
                      go_wp2
                      go_roundw
                      case rel => exact ⟨k + 1, acc, z, 10 * z' + ((c.toNat : Int) - 48), _, by omega, by omega, by omega, rfl, by go_num, HP5, FE⟩
                      case measure => simp [intOf]; omega
    · have e : k = l.length := by omega
      have HQ := hide (rgo_end (b := b) (acc := acc) (cur := (z, z')) (R := R) (by have := HQ.out; rw [e, List.drop_length] at this; exact this))
      have hk1 : ¬ (k : Int) < (l.length : Int) := by omega
      clear e
      have HS := hide HP.out.sl
      have HBq := hide HP.out.below
      clear HP x0 x1 f0 f1 hG hD hE
      cases hgd : good (acc ++ [(z, z')]) with
      | false =>
        have FR := hide (PN.out wr (rfin_bad HQ.out hgd))
        have G := hide hgd
        clear hgd
        go_wp2_with (go_at_call 17; refine (rgood_any HS.out (by rw [List.length_append, List.length_singleton]; omega)).mono ?_; rintro e w1 ⟨rfl, rfl⟩; rw [G.out]; refine Hid.out ?_)
        refine hide ?_
        go_wp2
        go_ret2
        exact FR.out HBq.out
      | true =>
        have G := hide hgd
        by_cases htx : text (acc ++ [(z, z')]) = l
        · have FR := hide (PS.out wr _ _ (rfin_eq HQ.out hgd htx) HS.out)
          have HX := hide (rtext_any HS.out (by rw [List.length_append, List.length_singleton]; omega))
          rw [htx] at HX
          clear hgd htx
          have hbb : (l == s.toList) = true := by rw [HL.out]; simp
          go_wp2_with (go_at_call 17; refine (rgood_any HS.out (by rw [List.length_append, List.length_singleton]; omega)).mono ?_; rintro e w1 ⟨rfl, rfl⟩; rw [G.out]; refine Hid.out ?_)
          refine hide ?_
          go_wp2_with (go_at_call 20; refine HX.out.mono ?_; rintro e w2 ⟨rfl, hb2⟩; refine Hid.out ?_)
          refine hide ?_
          have FR2 := hide (FR.out _ hb2 (HBq.out.trans (hb2.mono HBq.out.size)))
          clear hb2 FR
          go_wp2
          go_ret2
          exact FR2.out
        · have FR := hide (fun w' => PN.out w' (rfin_ne HQ.out hgd htx))
          have HX := hide (rtext_any HS.out (by rw [List.length_append, List.length_singleton]; omega))
          have hbb : (text (acc ++ [(z, z')]) == s.toList) = false := by rw [HL.out]; simpa using htx
          clear hgd htx
          generalize text (acc ++ [(z, z')]) = x at *
          go_wp2_with (go_at_call 17; refine (rgood_any HS.out (by rw [List.length_append, List.length_singleton]; omega)).mono ?_; rintro e w1 ⟨rfl, rfl⟩; rw [G.out]; refine Hid.out ?_)
          refine hide ?_
          go_wp2_with (go_at_call 20; refine HX.out.mono ?_; rintro e w2 ⟨rfl, hb2⟩; refine Hid.out ?_)
          refine hide ?_
          have FR2 := hide (FR.out _ (HBq.out.trans (hb2.mono HBq.out.size)))
          clear hb2 FR
          go_wp2
          go_ret2
          exact FR2.out
end Go.Proofs.YtdbkdnjmiehlcaaDoor.Con
