/- WinOrder: in whatever order pairs stand. -/
import Derived.Test.YtkfddjmhoekjgaaWnWork
import Derived.Test.YtkfddjmhoekjgaaWnUse
import Derived.Test.YtkfddjmhoekjgaaOrdT
import Derived.Deep.RegionHeld3
namespace Go.Proofs.Ytkfddjmhoekjgaa.Wn
open Go.RowKit Go.Proofs.Ytkfddjmhoekjgaa.Con
set_option linter.unusedVariables false
set_option linter.unusedSimpArgs false
attribute [local go_sem ↓] Go.wp_at_zero Go.wp_at_succ
theorem own_nx {w w' : World} {B e n : Nat} {v : Value} {xs : List Value} (h : w.ownsRow B e 2 v n xs) (hB : Nx w w') : w'.ownsRow B e 2 v n xs := own_kept h (fun k hk => hB.block k (own_lt h k hk))
theorem flat_turned (L : List Pr) (t k : Nat) (hk : k < L.length) : flat ((turned L t).take (k + 1)) = flat ((turned L t).take k) ++ [.int .i64 (at' L ((k + t) % L.length)).1, .int .i64 (at' L ((k + t) % L.length)).2] := by
  rw [turned_snoc L t k hk, flat_app]; rfl
set_option maxHeartbeats 16000000 in
set_option maxRecDepth 100000 in
theorem order_walk (hA : Hid AwakeC) (hG : Hid GoodC) (hAl : Hid AllC) (m t : Int) (x : Pr) (L : List Pr) (v : Value) (W : World) (h : Sl W v L) :
    Calls Try.prog 8 #[.int .i64 m, v, .int .i64 t, prv x] W fun e w' => e = .returned (.bool true) ∧ Nx W w' := by
  obtain ⟨xq, xp⟩ := x
  obtain ⟨p, cap, rfl, hn, hm⟩ := h.form
  have hmx : (L.length : Int) ≤ 9223372036854775807 := by unfold maxLen at hm; omega
  have HB0 := hide (Nx.alloc W (.cells #[.int .i64 xq, .int .i64 xp] 24))
  have KS := hide (Vp.new W (xq, xp))
  have H := hide h
  clear h
  go_enter Try.func8, Try.ntmps8
  go_wp2_with fail
  refine (hA.out _).mono ?_
  rintro e w1 ⟨rfl, hb⟩
  have K1 := hide (KS.out.below hb)
  have B1 := hide (Nx.trans HB0.out hb)
  clear hb HB0 KS
  obtain ⟨xb, hxb⟩ : ∃ xb, W.heap.size = xb := ⟨_, rfl⟩
  have B1' := B1.out
  unfold Nx at B1'
  rw [hxb] at K1
  have HXB := hide hxb
  (try rw [hxb])
  clear hxb B1'
  obtain ⟨x0, x1⟩ := K1.out.cells
  by_cases c39 : (L.length : Int) < 1
  · go_wp2
    go_ret
    exact ⟨rfl, B1.out⟩
  have dc39 : decide ((L.length : Int) < 1) = false := decide_eq_false (by omega)
  by_cases c44 : 60 < (L.length : Int)
  · go_wp2
    go_ret
    exact ⟨rfl, B1.out⟩
  have dc44 : decide (60 < (L.length : Int)) = false := decide_eq_false (by omega)
  by_cases c49 : m < 1
  · go_wp2
    go_ret
    exact ⟨rfl, B1.out⟩
  have dc49 : decide (m < 1) = false := decide_eq_false (by omega)
  by_cases c54 : 64 < m
  · go_wp2
    go_ret
    exact ⟨rfl, B1.out⟩
  have dc54 : decide (64 < m) = false := decide_eq_false (by omega)
  by_cases c59 : t < 0
  · go_wp2
    go_ret
    exact ⟨rfl, B1.out⟩
  have dc59 : decide (t < 0) = false := decide_eq_false (by omega)
  go_wp2_with fail
  refine (hG.out (xq, xp) _).mono ?_
  rintro e w2 ⟨rfl, hb⟩
  have K2 := hide (K1.out.below hb)
  have B2 := hide (Nx.trans B1.out hb)
  clear hb K1 B1 x0 x1
  cases hgx : gp (xq, xp) with
  | false =>
    clear hgx
    go_wp2
    go_ret
    exact ⟨rfl, B2.out⟩
  | true =>
    obtain ⟨tt, rfl⟩ : ∃ tt : Nat, t = (tt : Int) := ⟨t.toNat, by omega⟩
    have hl0 : 0 < L.length := by omega
    have hl60 : L.length ≤ 60 := by omega
    obtain ⟨T, hT⟩ : ∃ T, tt % L.length = T := ⟨_, rfl⟩
    have hTl : T < L.length := by rw [← hT]; exact Nat.mod_lt _ hl0
    have hr1 : Int.tmod (tt : Int) (L.length : Int) = (T : Int) := by rw [Int.tmod_eq_emod_of_nonneg (by omega), ← hT]; omega
    have hr2 : (tt : Int) % (L.length : Int) = (T : Int) := by rw [← hT]; omega
    have hlz : ¬ (L.length : Int) = 0 := by omega
    have H2 := hide (H.out.below (show Below W.heap.size W w2 from B2.out))
    have HP : Hid ((∀ j, j < L.length → gp (at' L j) = true) → pairsB m L = true) := hide (fun h => pairs_all (by omega) (by omega) h)
    have HPT : Hid (pairsB m L = pairsB m (turned L T) ∧ allB m L = allB m (turned L T)) := hide (perm_fit (turned_perm hTl))
    have HAF : Hid (pairsB m L = true → pairsB m (L ++ [(xq, xp)]) = true ∧ (allB m (L ++ [(xq, xp)]) = true → allB m L = true)) := hide (fun h => app_fit h hgx (by omega))
    have HS : Hid (∀ k, k < L.length → flat ((turned L T).take (k + 1)) = flat ((turned L T).take k) ++ [.int .i64 (at' L ((k + T) % L.length)).1, .int .i64 (at' L ((k + T) % L.length)).2]) := hide (fun k hk => flat_turned L T k hk)
    have HTK : Hid (flat ((turned L T).take L.length) = flat (turned L T) ∧ (turned L T).length = L.length) := hide ⟨by rw [← turned_len L T, List.take_length], turned_len L T⟩
    clear hgx H hT
    go_wp2
    go_loopw [9, 10] (fun r i wr => ∃ k : Nat, k ≤ L.length ∧ i = .int .i64 k ∧ Hid (∀ j, j < k → gp (at' L j) = true) ∧ Hid (wr.ownsRow w2.heap.size 24 2 r k (flat ((turned L T).take k))) ∧ Hid (Nx w2 wr)) (fun _ i _ => L.length - (intOf i).toNat)
    case atStart => exact ⟨0, by omega, rfl, hide (fun j hj => by omega), hide (World.ownsRow_nil _ _ _ _), hide (Nx.refl _)⟩
    case round =>
      obtain ⟨k, hk, rfl, HR, HO, HB⟩ := hrel
      obtain ⟨p0, c0, rfl⟩ := own_form HO.out
      by_cases hkn : k < L.length
      · have hk1 : (k : Int) < (L.length : Int) := by omega
        have hk0 : (0 : Int) ≤ (k : Int) := by omega
        obtain ⟨I, hI⟩ : ∃ I, (k + T) % L.length = I := ⟨_, rfl⟩
        have hIl : I < L.length := by rw [← hI]; exact Nat.mod_lt _ hl0
        have hI1 : (I : Int) < (L.length : Int) := by omega
        have hI0 : (0 : Int) ≤ (I : Int) := by omega
        have hr4 : ((k : Int) + (T : Int)) % (L.length : Int) = (I : Int) := by rw [← hI, Int.natCast_emod, Int.natCast_add]
        have hr3 : Int.tmod ((k : Int) + (T : Int)) (L.length : Int) = (I : Int) := by rw [Int.tmod_eq_emod_of_nonneg (by omega)]; exact hr4
        obtain ⟨b, o, rfl, hbW, q0, q1⟩ := H2.out.at hkn
        obtain ⟨b', o', e', _, q2, q3⟩ := H2.out.at hIl
        simp only [Option.some.injEq, Addr.mk.injEq, and_true] at e'
        obtain ⟨rfl, rfl⟩ := e'
        have x0 := (HB.out.cell (p := ⟨b, o + k * 2, none⟩) hbW).trans q0
        have x1 := (HB.out.cell (p := ⟨b, o + k * 2 + 1, none⟩) hbW).trans q1
        have QI : Hid (∀ w', Nx w2 w' → w'.cell? ⟨b, o + I * 2, none⟩ = some (.int .i64 (at' L I).1) ∧ w'.cell? ⟨b, o + I * 2 + 1, none⟩ = some (.int .i64 (at' L I).2)) := hide (fun w' hB => ⟨(hB.cell (p := ⟨b, o + I * 2, none⟩) hbW).trans q2, (hB.cell (p := ⟨b, o + I * 2 + 1, none⟩) hbW).trans q3⟩)
        have HGk : Hid (∀ w, Calls Try.prog 20 #[.agg #[.int .i64 (at' L k).1, .int .i64 (at' L k).2]] w fun e w' => e = .returned (.bool (gp (at' L k))) ∧ Nx w w') := hide (hG.out (at' L k))
        have hR1 : gp (at' L k) = true → ∀ i, i < k + 1 → gp (at' L i) = true := fun e i hi => by
          rcases Nat.lt_or_ge i k with h1 | h1
          · exact HR.out i h1
          · obtain rfl : i = k := by omega
            exact e
        have hs := hide (HS.out k hkn)
        rw [hI] at hs
        clear q0 q1 q2 q3 hI
        cases hf : gp (at' L k) with
        | false =>
          rw [hf] at HGk
          clear hR1 hf HR
          generalize (at' L k).1 = z at *
          generalize (at' L k).2 = z' at *
          go_wp2_with fail
          refine (HGk.out _).mono ?_
          rintro e w3 ⟨rfl, hb⟩
          have HB2 := hide (Nx.trans B2.out (Nx.trans HB.out hb))
          go_wp2
          go_ret
          exact ⟨rfl, HB2.out⟩
        | true =>
          have FE := hide (hR1 hf)
          rw [hf] at HGk
          clear hR1 hf HR
          generalize (at' L k).1 = z at *
          generalize (at' L k).2 = z' at *
          generalize flat ((turned L T).take k) = F at *
          go_wp2_with fail
          refine (HGk.out _).mono ?_
          rintro e w3 ⟨rfl, hb⟩
          have HO3 := hide (own_nx HO.out hb)
          have HB3 := hide (Nx.trans HB.out hb)
          clear hb HO HB x0 x1
          obtain ⟨x0, x1⟩ := QI.out w3 HB3.out
          generalize (at' L I).1 = y at *
          generalize (at' L I).2 = y' at *
          have OW : Hid ((w3.alloc (.cells #[.int .i64 y, .int .i64 y'] 24)).ownsRow w2.heap.size 24 2 (.slice p0 k c0) k F) := hide (HO3.out.alloc _)
          have RD : Hid (RdC (w3.alloc (.cells #[.int .i64 y, .int .i64 y'] 24)) (w3.heap.size + 1) 2 (.slice (some ⟨w3.heap.size, 0, none⟩) 1 1) 1 [.int .i64 y, .int .i64 y']) := hide (by
            have := rd_one (w := (w3.alloc (.cells #[.int .i64 y, .int .i64 y'] 24))) (size := 2) (heap_alloc_new w3 _) rfl
            simpa using this)
          have BD : Hid (Below w2.heap.size w2 (w3.alloc (.cells #[.int .i64 y, .int .i64 y'] 24))) := hide (bel_alloc HB3.out (Nat.le_refl _) _)
          have hwk : IntKind.i64.wrap ((k : Int) + (T : Int)) = (k : Int) + (T : Int) := by rw [IntKind.wrap_i64]; omega
          go_wp2_with (at_builtin; refine wpList_append_rd (w := w3.alloc (.cells #[.int .i64 y, .int .i64 y'] 24)) rfl _ _ 28 rfl rfl rfl Try.underlying28 infoPr rfl (by decide) (by decide) OW.out BD.out.size RD.out (by intro u hu; simp at hu; rcases hu with rfl | rfl <;> rfl) (by omega) ?_; intro p5 c5 w5 HA5; refine Hid.out ?_)
          refine hide ?_
          have HB5 := hide (below_grown BD.out BD.out.size HA5.out.2 (own_past OW.out))
          have HO5 : Hid (w5.ownsRow w2.heap.size 24 2 (.slice p5 (k + 1) c5) (k + 1) (flat ((turned L T).take (k + 1)))) := hide (by rw [hs.out]; exact HA5.out.1)
          clear HA5 BD RD OW HO3 HB3 hs
          go_wp2
          go_roundw
          case rel => exact ⟨k + 1, by omega, by go_num, FE, HO5, HB5⟩
          case measure => simp [intOf]; omega
      · obtain rfl : k = L.length := by omega
        have hp := HP.out HR.out
        obtain ⟨pt1, pt2⟩ := HPT.out
        obtain ⟨px, pf⟩ := HAF.out hp
        have HA1 := hide (fun w (hS : Sl w (.slice p L.length cap) L) => hAl.out m L _ w hS)
        have HA2 := hide (fun w v (hS : Sl w v (turned L T)) => hAl.out m (turned L T) v w hS)
        have HAX := hide (fun w v (hS : Sl w v (L ++ [(xq, xp)])) => hAl.out m (L ++ [(xq, xp)]) v w hS)
        rw [(all_0 hp).1] at HA1
        rw [(all_0 (pt1.symm.trans hp)).1, ← pt2] at HA2
        rw [(all_0 px).1] at HAX
        have BEF := hide pf
        have HSL : Hid (Sl wr (.slice p0 L.length c0) (turned L T)) := hide (by
          have h1 := HO.out
          rw [HTK.out.1] at h1
          have := Sl.own (L := turned L T) (by rw [HTK.out.2]; exact h1)
          exact this)
        have HW := hide (Nx.trans B2.out HB.out)
        have HL := hide (H2.out.below HB.out)
        have KX := hide (K2.out.below HB.out)
        clear pt1 pt2 px pf HPT HAF HP HR HO HB HS HTK hp
        generalize allB m L = a at *
        generalize allB m (L ++ [(xq, xp)]) = g at *
        go_wp2_with fail
        refine (HA1.out _ HL.out).mono ?_
        rintro e w3 ⟨rfl, hb⟩
        have HW3 := hide (Nx.trans HW.out hb)
        have HL3 := hide (HL.out.below hb)
        have HS3 := hide (HSL.out.below hb)
        have KX3 := hide (KX.out.below hb)
        clear hb HW HL HSL KX HA1
        go_wp2_with fail
        refine (HA2.out _ _ HS3.out).mono ?_
        rintro e wc ⟨rfl, hb⟩
        have HWc := hide (Nx.trans HW3.out hb)
        have HLc := hide (HL3.out.below hb)
        have KXc := hide (KX3.out.below hb)
        clear hb HW3 HL3 HS3 KX3 HA2 H2 K2 B2
        have RL := HLc
        unfold Sl at RL
        obtain ⟨i0, hi, hz0, hz1', hz2⟩ := info_parts infoPr
        have KS : Hid (∀ w', Below wc.heap.size wc w' → w'.cell? ⟨xb, 0, none⟩ = some (.int .i64 xq) ∧ w'.cell? ⟨xb, 1, none⟩ = some (.int .i64 xp)) := hide (fun w' hB => (KXc.out.below hB).cells)
        have FIN : Hid (∀ w', Below wc.heap.size wc w' → Nx W w') := hide (fun w' hB => Nx.trans HWc.out hB)
        obtain ⟨FL, hFL⟩ : ∃ FL, flat L = FL := ⟨_, rfl⟩
        obtain ⟨FX, hFX⟩ : ∃ FX, FL ++ [.int .i64 xq, .int .i64 xp] = FX := ⟨_, rfl⟩
        have EFX := hide hFX
        have ON1 : Hid (∀ u ∈ FL, u.oneCell' = true) := hide (by rw [← hFL]; exact flat_one _)
        have ON2 : Hid (∀ u ∈ [Value.int .i64 xq, .int .i64 xp], u.oneCell' = true) := hide (by intro u hu; simp at hu; rcases hu with rfl | rfl <;> rfl)
        have SLF : Hid (∀ p' c' w', w'.ownsRow wc.heap.size 24 2 (.slice p' (L.length + 1) c') (L.length + 1) FX → Sl w' (.slice p' (L.length + 1) c') (L ++ [(xq, xp)])) := hide (fun p' c' w' ho => by
          have e2 : flat (L ++ [(xq, xp)]) = FX := by rw [flat_app, hFL, ← hFX]; rfl
          have e1 : (L ++ [(xq, xp)]).length = L.length + 1 := by simp
          have := Sl.own (L := L ++ [(xq, xp)]) (by rw [e1, e2]; exact ho)
          exact this)
        rw [hFL] at RL
        have SZ1 : Hid (L.length ≤ maxLen ∧ L.length * 16 ≤ 140737488355328) := hide ⟨by unfold maxLen; omega, by omega⟩
        have SZ2 : Hid (L.length + 1 ≤ maxLen ∧ (L.length + 1) * 16 ≤ 140737488355328) := hide ⟨by unfold maxLen; omega, by omega⟩
        clear hFL hFX HLc KXc HWc
        go_wp2
        refine wp_region_noPanic ?_
        refine OrdT.region_T (S := fun w' => w'.cell? ⟨xb, 0, none⟩ = some (.int .i64 xq) ∧ w'.cell? ⟨xb, 1, none⟩ = some (.int .i64 xp)) 12 (by kernel_rfl) ?_ (fun hHeld => ?_)
        · exact KS.out _ (bel_drew (Below.refl _ _))
        refine OrdT.AnyT.take (i := 0) (v := ?_) (some 84) (by rfl) (by rfl) (by kernel_rfl) (by kernel_rfl) (by kernel_rfl) (by kernel_rfl) (fun _ _ _ h => h) (Or.inl ⟨by rfl, ?_⟩) (by assumption) ?_
        rotate_left
        · intro w hSw; (try dsimp only at hSw); first | (go_simp; done) | (go_simp; with_reducible rfl)
        (try simp only [Act.put, List.setIfInBounds_toArray, List.set_cons_zero, List.set_cons_succ])
        refine OrdT.AnyT.take (i := 2) (v := ?_) (some 86) (by rfl) (by rfl) (by kernel_rfl) (by kernel_rfl) (by kernel_rfl) (by kernel_rfl) (fun _ _ _ h => h) (Or.inl ⟨by rfl, ?_⟩) (by assumption) ?_
        rotate_left
        · intro w hSw; (try dsimp only at hSw); first | (go_simp; done) | (go_simp; with_reducible rfl)
        (try simp only [Act.put, List.setIfInBounds_toArray, List.set_cons_zero, List.set_cons_succ])
        refine OrdT.AnyT.take (i := 4) (v := ?_) (some 88) (by rfl) (by rfl) (by kernel_rfl) (by kernel_rfl) (by kernel_rfl) (by kernel_rfl) (fun _ _ _ h => h) (Or.inl ⟨by rfl, ?_⟩) (by assumption) ?_
        rotate_left
        · intro w hSw; (try dsimp only at hSw); first | (go_simp; done) | (go_simp; with_reducible rfl)
        (try simp only [Act.put, List.setIfInBounds_toArray, List.set_cons_zero, List.set_cons_succ])
        clear hHeld
        refine OrdT.AnyT.two (i := 1) (j := 5) (by kernel_rfl) (by rfl) (by rfl) (fun K hK => ?_) (fun K hK => ?_)
        · go_simp
          refine hK.out _ _ (fun _ => KS.out _ (by repeat (first | (with_reducible exact Below.refl _ _) | (with_reducible exact HB3) | (with_reducible exact HB2) | (with_reducible exact HB1) | refine bel_drew ?_ | refine bel_alloc ?_ (Nat.le_refl _) _))) ?_
          clear hK K
          (try simp only [Act.put, List.setIfInBounds_toArray, List.set_cons_zero, List.set_cons_succ])
          refine OrdT.AnyT.two (i := 3) (j := 5) (by kernel_rfl) (by rfl) (by rfl) (fun K hK => ?_) (fun K hK => ?_)
          · refine step_append_rd (some 87) (by rfl) (by rfl) _ _ 28 (by rfl) wc.heap.size 24 i0 (.agg #[.int .i64 0, .int .i64 0]) 2 16 Try.underlying28 hi hz0 hz1' hz2 rfl (by decide) (.slice (some ⟨wc.heap.size, 0, none⟩) 0 0) 0 [] (by rfl) (by exact own_empty (by first | exact heap_alloc_at _ _ _ (by simp) | exact (Below.heap_alloc _ _ _ (by simp)).trans (heap_alloc_at _ _ _ (by simp))) (by first | exact Nat.le_refl _ | simp)) _ (.slice p L.length cap) L.length FL (by rfl) (by exact (RL.out.below (by repeat (first | (with_reducible exact Below.refl _ _) | (with_reducible exact HB3) | (with_reducible exact HB2) | (with_reducible exact HB1) | refine bel_drew ?_ | refine bel_alloc ?_ (Nat.le_refl _) _)))) (by exact ON1.out) L.length (by exact Nat.zero_add _) FL (by exact List.nil_append FL) (by exact SZ1.out.1) (by exact SZ1.out.2) (by exact bel_le (W := wc) (Nat.le_refl _) (by repeat (first | (with_reducible exact Below.refl _ _) | (with_reducible exact HB3) | (with_reducible exact HB2) | (with_reducible exact HB1) | refine bel_drew ?_ | refine bel_alloc ?_ (Nat.le_refl _) _))) ?_
            intro q1 d1 w1 ho1 hg1 ha1 hp1
            have HB1 : Below wc.heap.size wc w1 := below_grown (by repeat (first | (with_reducible exact Below.refl _ _) | (with_reducible exact HB3) | (with_reducible exact HB2) | (with_reducible exact HB1) | refine bel_drew ?_ | refine bel_alloc ?_ (Nat.le_refl _) _)) (by exact bel_le (W := wc) (Nat.le_refl _) (by repeat (first | (with_reducible exact Below.refl _ _) | (with_reducible exact HB3) | (with_reducible exact HB2) | (with_reducible exact HB1) | refine bel_drew ?_ | refine bel_alloc ?_ (Nat.le_refl _) _))) hg1 hp1
            clear ha1 hp1
            refine hK.out _ _ (fun _ => KS.out _ HB1) ?_
            clear hK K
            (try simp only [Act.put, List.setIfInBounds_toArray, List.set_cons_zero, List.set_cons_succ])
            refine OrdT.AnyT.one (i := 5) (by kernel_rfl) (by rfl) (fun K hK => ?_)
            go_simp
            refine hK.out _ _ (fun _ => KS.out _ (by repeat (first | (with_reducible exact Below.refl _ _) | (with_reducible exact HB3) | (with_reducible exact HB2) | (with_reducible exact HB1) | refine bel_drew ?_ | refine bel_alloc ?_ (Nat.le_refl _) _))) ?_
            clear hK K
            (try simp only [Act.put, List.setIfInBounds_toArray, List.set_cons_zero, List.set_cons_succ])
            refine OrdT.AnyT.one (i := 6) (by kernel_rfl) (by rfl) (fun K hK => ?_)
            refine step_append_rd (some 90) (by rfl) (by rfl) _ _ 28 (by rfl) wc.heap.size 24 i0 (.agg #[.int .i64 0, .int .i64 0]) 2 16 Try.underlying28 hi hz0 hz1' hz2 rfl (by decide) (.slice q1 L.length d1) L.length FL (by rfl) (by first | exact ho1 | exact own_kept ho1 (fun k e => Below.heap_alloc _ _ _ (own_lt ho1 k e))) _ _ 1 [.int .i64 xq, .int .i64 xp] (by rfl) (by exact rd_one (cs := #[.int .i64 xq, .int .i64 xp]) (by exact heap_alloc_at _ _ _ rfl) rfl) (by exact ON2.out) (L.length + 1) (by exact rfl) FX (by exact EFX.out) (by exact SZ2.out.1) (by exact SZ2.out.2) (by exact bel_le (W := wc) (Nat.le_refl _) (by repeat (first | (with_reducible exact Below.refl _ _) | (with_reducible exact HB3) | (with_reducible exact HB2) | (with_reducible exact HB1) | refine bel_drew ?_ | refine bel_alloc ?_ (Nat.le_refl _) _))) ?_
            intro q2 d2 w2 ho2 hg2 ha2 hp2
            have HB2 : Below wc.heap.size wc w2 := below_grown (by repeat (first | (with_reducible exact Below.refl _ _) | (with_reducible exact HB3) | (with_reducible exact HB2) | (with_reducible exact HB1) | refine bel_drew ?_ | refine bel_alloc ?_ (Nat.le_refl _) _)) (by exact bel_le (W := wc) (Nat.le_refl _) (by repeat (first | (with_reducible exact Below.refl _ _) | (with_reducible exact HB3) | (with_reducible exact HB2) | (with_reducible exact HB1) | refine bel_drew ?_ | refine bel_alloc ?_ (Nat.le_refl _) _))) hg2 hp2
            clear ha2 hp2
            refine hK.out _ _ (fun _ => KS.out _ HB2) ?_
            clear hK K
            (try simp only [Act.put, List.setIfInBounds_toArray, List.set_cons_zero, List.set_cons_succ])
            refine OrdT.AnyT.one (i := 7) (by kernel_rfl) (by rfl) (fun K hK => ?_)
            go_simp
            refine (HAX.out _ _ (SLF.out _ _ _ ho2)).mono ?_
            rintro e w3 ⟨rfl, hb⟩
            have HB3 : Below wc.heap.size wc w3 := HB2.trans (Below.mono hb HB2.size)
            clear hb
            (try dsimp only)
            refine hK.out _ _ (fun _ => KS.out _ HB3) ?_
            clear hK K
            (try simp only [Act.put, List.setIfInBounds_toArray, List.set_cons_zero, List.set_cons_succ])
            refine OrdT.AnyT.take (i := 8) (v := ?_) (some 83) (by rfl) (by rfl) (by kernel_rfl) (by kernel_rfl) (by kernel_rfl) (by kernel_rfl) (fun _ _ _ h => h) (Or.inl ⟨by rfl, ?_⟩) (KS.out _ HB3) ?_
            rotate_left
            · intro w hSw; (try dsimp only at hSw); first | (go_simp; done) | (go_simp; with_reducible rfl)
            (try simp only [Act.put, List.setIfInBounds_toArray, List.set_cons_zero, List.set_cons_succ])
            refine OrdT.AnyT.take (i := 9) (v := ?_) (some 92) (by rfl) (by rfl) (by kernel_rfl) (by kernel_rfl) (by kernel_rfl) (by kernel_rfl) (fun _ _ _ h => h) (Or.inl ⟨by rfl, ?_⟩) (KS.out _ HB3) ?_
            rotate_left
            · intro w hSw; (try dsimp only at hSw); first | (go_simp; done) | (go_simp; with_reducible rfl)
            (try simp only [Act.put, List.setIfInBounds_toArray, List.set_cons_zero, List.set_cons_succ])
            refine OrdT.AnyT.take (i := 10) (v := ?_) (some 93) (by rfl) (by rfl) (by kernel_rfl) (by kernel_rfl) (by kernel_rfl) (by kernel_rfl) (fun _ _ _ h => h) (Or.inl ⟨by rfl, ?_⟩) (KS.out _ HB3) ?_
            rotate_left
            · intro w hSw; (try dsimp only at hSw); first | (go_simp; done) | (go_simp; with_reducible rfl)
            (try simp only [Act.put, List.setIfInBounds_toArray, List.set_cons_zero, List.set_cons_succ])
            refine OrdT.AnyT.take (i := 11) (v := ?_) (some 15) (by rfl) (by rfl) (by kernel_rfl) (by kernel_rfl) (by kernel_rfl) (by kernel_rfl) (fun _ _ _ h => h) (Or.inl ⟨by rfl, ?_⟩) (KS.out _ HB3) ?_
            rotate_left
            · intro w hSw; (try dsimp only at hSw); first | (go_simp; done) | (go_simp; with_reducible rfl)
            (try simp only [Act.put, List.setIfInBounds_toArray, List.set_cons_zero, List.set_cons_succ])
            refine OrdT.AnyT.one (i := 12) (by kernel_rfl) (by rfl) (fun K hK => ?_)
            go_simp
            refine hK.out _ _ (fun h => absurd rfl h) ?_
            clear hK K
            (try simp only [Act.put, List.setIfInBounds_toArray, List.set_cons_zero, List.set_cons_succ])
            refine OrdT.AnyT.done (by kernel_rfl) ?_ _
            refine NoPanic.normal ?_
            have HF := FIN.out _ HB3
            clear RL SLF KS HAX
            cases g with
            | false =>
              go_wp2
              go_ret
              exact ⟨rfl, HF⟩
            | true =>
              obtain rfl : a = true := BEF.out (by trivial)
              go_wp2
              go_ret
              exact ⟨rfl, HF⟩
          · go_simp
            refine hK.out _ _ (fun _ => KS.out _ (by repeat (first | (with_reducible exact Below.refl _ _) | (with_reducible exact HB3) | (with_reducible exact HB2) | (with_reducible exact HB1) | refine bel_drew ?_ | refine bel_alloc ?_ (Nat.le_refl _) _))) ?_
            clear hK K
            (try simp only [Act.put, List.setIfInBounds_toArray, List.set_cons_zero, List.set_cons_succ])
            refine OrdT.AnyT.one (i := 3) (by kernel_rfl) (by rfl) (fun K hK => ?_)
            refine step_append_rd (some 87) (by rfl) (by rfl) _ _ 28 (by rfl) wc.heap.size 24 i0 (.agg #[.int .i64 0, .int .i64 0]) 2 16 Try.underlying28 hi hz0 hz1' hz2 rfl (by decide) (.slice (some ⟨wc.heap.size, 0, none⟩) 0 0) 0 [] (by rfl) (by exact own_empty (by first | exact heap_alloc_at _ _ _ (by simp) | exact (Below.heap_alloc _ _ _ (by simp)).trans (heap_alloc_at _ _ _ (by simp))) (by first | exact Nat.le_refl _ | simp)) _ (.slice p L.length cap) L.length FL (by rfl) (by exact (RL.out.below (by repeat (first | (with_reducible exact Below.refl _ _) | (with_reducible exact HB3) | (with_reducible exact HB2) | (with_reducible exact HB1) | refine bel_drew ?_ | refine bel_alloc ?_ (Nat.le_refl _) _)))) (by exact ON1.out) L.length (by exact Nat.zero_add _) FL (by exact List.nil_append FL) (by exact SZ1.out.1) (by exact SZ1.out.2) (by exact bel_le (W := wc) (Nat.le_refl _) (by repeat (first | (with_reducible exact Below.refl _ _) | (with_reducible exact HB3) | (with_reducible exact HB2) | (with_reducible exact HB1) | refine bel_drew ?_ | refine bel_alloc ?_ (Nat.le_refl _) _))) ?_
            intro q1 d1 w1 ho1 hg1 ha1 hp1
            have HB1 : Below wc.heap.size wc w1 := below_grown (by repeat (first | (with_reducible exact Below.refl _ _) | (with_reducible exact HB3) | (with_reducible exact HB2) | (with_reducible exact HB1) | refine bel_drew ?_ | refine bel_alloc ?_ (Nat.le_refl _) _)) (by exact bel_le (W := wc) (Nat.le_refl _) (by repeat (first | (with_reducible exact Below.refl _ _) | (with_reducible exact HB3) | (with_reducible exact HB2) | (with_reducible exact HB1) | refine bel_drew ?_ | refine bel_alloc ?_ (Nat.le_refl _) _))) hg1 hp1
            clear ha1 hp1
            refine hK.out _ _ (fun _ => KS.out _ HB1) ?_
            clear hK K
            (try simp only [Act.put, List.setIfInBounds_toArray, List.set_cons_zero, List.set_cons_succ])
            refine OrdT.AnyT.one (i := 6) (by kernel_rfl) (by rfl) (fun K hK => ?_)
            refine step_append_rd (some 90) (by rfl) (by rfl) _ _ 28 (by rfl) wc.heap.size 24 i0 (.agg #[.int .i64 0, .int .i64 0]) 2 16 Try.underlying28 hi hz0 hz1' hz2 rfl (by decide) (.slice q1 L.length d1) L.length FL (by rfl) (by first | exact ho1 | exact own_kept ho1 (fun k e => Below.heap_alloc _ _ _ (own_lt ho1 k e))) _ _ 1 [.int .i64 xq, .int .i64 xp] (by rfl) (by exact rd_one (cs := #[.int .i64 xq, .int .i64 xp]) (by exact (hg1.block _ (by first | (simp; done) | (simp; omega)) (by simp [Value.ownBlock])).trans (heap_alloc_at _ _ _ (by first | (simp; done) | (simp; omega)))) rfl) (by exact ON2.out) (L.length + 1) (by exact rfl) FX (by exact EFX.out) (by exact SZ2.out.1) (by exact SZ2.out.2) (by exact bel_le (W := wc) (Nat.le_refl _) (by repeat (first | (with_reducible exact Below.refl _ _) | (with_reducible exact HB3) | (with_reducible exact HB2) | (with_reducible exact HB1) | refine bel_drew ?_ | refine bel_alloc ?_ (Nat.le_refl _) _))) ?_
            intro q2 d2 w2 ho2 hg2 ha2 hp2
            have HB2 : Below wc.heap.size wc w2 := below_grown (by repeat (first | (with_reducible exact Below.refl _ _) | (with_reducible exact HB3) | (with_reducible exact HB2) | (with_reducible exact HB1) | refine bel_drew ?_ | refine bel_alloc ?_ (Nat.le_refl _) _)) (by exact bel_le (W := wc) (Nat.le_refl _) (by repeat (first | (with_reducible exact Below.refl _ _) | (with_reducible exact HB3) | (with_reducible exact HB2) | (with_reducible exact HB1) | refine bel_drew ?_ | refine bel_alloc ?_ (Nat.le_refl _) _))) hg2 hp2
            clear ha2 hp2
            refine hK.out _ _ (fun _ => KS.out _ HB2) ?_
            clear hK K
            (try simp only [Act.put, List.setIfInBounds_toArray, List.set_cons_zero, List.set_cons_succ])
            refine OrdT.AnyT.one (i := 7) (by kernel_rfl) (by rfl) (fun K hK => ?_)
            go_simp
            refine (HAX.out _ _ (SLF.out _ _ _ ho2)).mono ?_
            rintro e w3 ⟨rfl, hb⟩
            have HB3 : Below wc.heap.size wc w3 := HB2.trans (Below.mono hb HB2.size)
            clear hb
            (try dsimp only)
            refine hK.out _ _ (fun _ => KS.out _ HB3) ?_
            clear hK K
            (try simp only [Act.put, List.setIfInBounds_toArray, List.set_cons_zero, List.set_cons_succ])
            refine OrdT.AnyT.take (i := 8) (v := ?_) (some 83) (by rfl) (by rfl) (by kernel_rfl) (by kernel_rfl) (by kernel_rfl) (by kernel_rfl) (fun _ _ _ h => h) (Or.inl ⟨by rfl, ?_⟩) (KS.out _ HB3) ?_
            rotate_left
            · intro w hSw; (try dsimp only at hSw); first | (go_simp; done) | (go_simp; with_reducible rfl)
            (try simp only [Act.put, List.setIfInBounds_toArray, List.set_cons_zero, List.set_cons_succ])
            refine OrdT.AnyT.take (i := 9) (v := ?_) (some 92) (by rfl) (by rfl) (by kernel_rfl) (by kernel_rfl) (by kernel_rfl) (by kernel_rfl) (fun _ _ _ h => h) (Or.inl ⟨by rfl, ?_⟩) (KS.out _ HB3) ?_
            rotate_left
            · intro w hSw; (try dsimp only at hSw); first | (go_simp; done) | (go_simp; with_reducible rfl)
            (try simp only [Act.put, List.setIfInBounds_toArray, List.set_cons_zero, List.set_cons_succ])
            refine OrdT.AnyT.take (i := 10) (v := ?_) (some 93) (by rfl) (by rfl) (by kernel_rfl) (by kernel_rfl) (by kernel_rfl) (by kernel_rfl) (fun _ _ _ h => h) (Or.inl ⟨by rfl, ?_⟩) (KS.out _ HB3) ?_
            rotate_left
            · intro w hSw; (try dsimp only at hSw); first | (go_simp; done) | (go_simp; with_reducible rfl)
            (try simp only [Act.put, List.setIfInBounds_toArray, List.set_cons_zero, List.set_cons_succ])
            refine OrdT.AnyT.take (i := 11) (v := ?_) (some 15) (by rfl) (by rfl) (by kernel_rfl) (by kernel_rfl) (by kernel_rfl) (by kernel_rfl) (fun _ _ _ h => h) (Or.inl ⟨by rfl, ?_⟩) (KS.out _ HB3) ?_
            rotate_left
            · intro w hSw; (try dsimp only at hSw); first | (go_simp; done) | (go_simp; with_reducible rfl)
            (try simp only [Act.put, List.setIfInBounds_toArray, List.set_cons_zero, List.set_cons_succ])
            refine OrdT.AnyT.one (i := 12) (by kernel_rfl) (by rfl) (fun K hK => ?_)
            go_simp
            refine hK.out _ _ (fun h => absurd rfl h) ?_
            clear hK K
            (try simp only [Act.put, List.setIfInBounds_toArray, List.set_cons_zero, List.set_cons_succ])
            refine OrdT.AnyT.done (by kernel_rfl) ?_ _
            refine NoPanic.normal ?_
            have HF := FIN.out _ HB3
            clear RL SLF KS HAX
            cases g with
            | false =>
              go_wp2
              go_ret
              exact ⟨rfl, HF⟩
            | true =>
              obtain rfl : a = true := BEF.out (by trivial)
              go_wp2
              go_ret
              exact ⟨rfl, HF⟩
        · go_simp
          refine hK.out _ _ (fun _ => KS.out _ (by repeat (first | (with_reducible exact Below.refl _ _) | (with_reducible exact HB3) | (with_reducible exact HB2) | (with_reducible exact HB1) | refine bel_drew ?_ | refine bel_alloc ?_ (Nat.le_refl _) _))) ?_
          clear hK K
          (try simp only [Act.put, List.setIfInBounds_toArray, List.set_cons_zero, List.set_cons_succ])
          refine OrdT.AnyT.one (i := 1) (by kernel_rfl) (by rfl) (fun K hK => ?_)
          go_simp
          refine hK.out _ _ (fun _ => KS.out _ (by repeat (first | (with_reducible exact Below.refl _ _) | (with_reducible exact HB3) | (with_reducible exact HB2) | (with_reducible exact HB1) | refine bel_drew ?_ | refine bel_alloc ?_ (Nat.le_refl _) _))) ?_
          clear hK K
          (try simp only [Act.put, List.setIfInBounds_toArray, List.set_cons_zero, List.set_cons_succ])
          refine OrdT.AnyT.one (i := 3) (by kernel_rfl) (by rfl) (fun K hK => ?_)
          refine step_append_rd (some 87) (by rfl) (by rfl) _ _ 28 (by rfl) wc.heap.size 24 i0 (.agg #[.int .i64 0, .int .i64 0]) 2 16 Try.underlying28 hi hz0 hz1' hz2 rfl (by decide) (.slice (some ⟨wc.heap.size + 1, 0, none⟩) 0 0) 0 [] (by rfl) (by exact own_empty (by first | exact heap_alloc_at _ _ _ (by simp) | exact (Below.heap_alloc _ _ _ (by simp)).trans (heap_alloc_at _ _ _ (by simp))) (by first | exact Nat.le_refl _ | simp)) _ (.slice p L.length cap) L.length FL (by rfl) (by exact (RL.out.below (by repeat (first | (with_reducible exact Below.refl _ _) | (with_reducible exact HB3) | (with_reducible exact HB2) | (with_reducible exact HB1) | refine bel_drew ?_ | refine bel_alloc ?_ (Nat.le_refl _) _)))) (by exact ON1.out) L.length (by exact Nat.zero_add _) FL (by exact List.nil_append FL) (by exact SZ1.out.1) (by exact SZ1.out.2) (by exact bel_le (W := wc) (Nat.le_refl _) (by repeat (first | (with_reducible exact Below.refl _ _) | (with_reducible exact HB3) | (with_reducible exact HB2) | (with_reducible exact HB1) | refine bel_drew ?_ | refine bel_alloc ?_ (Nat.le_refl _) _))) ?_
          intro q1 d1 w1 ho1 hg1 ha1 hp1
          have HB1 : Below wc.heap.size wc w1 := below_grown (by repeat (first | (with_reducible exact Below.refl _ _) | (with_reducible exact HB3) | (with_reducible exact HB2) | (with_reducible exact HB1) | refine bel_drew ?_ | refine bel_alloc ?_ (Nat.le_refl _) _)) (by exact bel_le (W := wc) (Nat.le_refl _) (by repeat (first | (with_reducible exact Below.refl _ _) | (with_reducible exact HB3) | (with_reducible exact HB2) | (with_reducible exact HB1) | refine bel_drew ?_ | refine bel_alloc ?_ (Nat.le_refl _) _))) hg1 hp1
          clear ha1 hp1
          refine hK.out _ _ (fun _ => KS.out _ HB1) ?_
          clear hK K
          (try simp only [Act.put, List.setIfInBounds_toArray, List.set_cons_zero, List.set_cons_succ])
          refine OrdT.AnyT.one (i := 6) (by kernel_rfl) (by rfl) (fun K hK => ?_)
          refine step_append_rd (some 90) (by rfl) (by rfl) _ _ 28 (by rfl) wc.heap.size 24 i0 (.agg #[.int .i64 0, .int .i64 0]) 2 16 Try.underlying28 hi hz0 hz1' hz2 rfl (by decide) (.slice q1 L.length d1) L.length FL (by rfl) (by first | exact ho1 | exact own_kept ho1 (fun k e => Below.heap_alloc _ _ _ (own_lt ho1 k e))) _ _ 1 [.int .i64 xq, .int .i64 xp] (by rfl) (by exact rd_one (cs := #[.int .i64 xq, .int .i64 xp]) (by exact (hg1.block _ (by first | (simp; done) | (simp; omega)) (by simp [Value.ownBlock])).trans ((heap_alloc_old _ _ (by first | (simp; done) | (simp; omega))).trans (heap_alloc_at _ _ _ (by first | (simp; done) | (simp; omega))))) rfl) (by exact ON2.out) (L.length + 1) (by exact rfl) FX (by exact EFX.out) (by exact SZ2.out.1) (by exact SZ2.out.2) (by exact bel_le (W := wc) (Nat.le_refl _) (by repeat (first | (with_reducible exact Below.refl _ _) | (with_reducible exact HB3) | (with_reducible exact HB2) | (with_reducible exact HB1) | refine bel_drew ?_ | refine bel_alloc ?_ (Nat.le_refl _) _))) ?_
          intro q2 d2 w2 ho2 hg2 ha2 hp2
          have HB2 : Below wc.heap.size wc w2 := below_grown (by repeat (first | (with_reducible exact Below.refl _ _) | (with_reducible exact HB3) | (with_reducible exact HB2) | (with_reducible exact HB1) | refine bel_drew ?_ | refine bel_alloc ?_ (Nat.le_refl _) _)) (by exact bel_le (W := wc) (Nat.le_refl _) (by repeat (first | (with_reducible exact Below.refl _ _) | (with_reducible exact HB3) | (with_reducible exact HB2) | (with_reducible exact HB1) | refine bel_drew ?_ | refine bel_alloc ?_ (Nat.le_refl _) _))) hg2 hp2
          clear ha2 hp2
          refine hK.out _ _ (fun _ => KS.out _ HB2) ?_
          clear hK K
          (try simp only [Act.put, List.setIfInBounds_toArray, List.set_cons_zero, List.set_cons_succ])
          refine OrdT.AnyT.one (i := 7) (by kernel_rfl) (by rfl) (fun K hK => ?_)
          go_simp
          refine (HAX.out _ _ (SLF.out _ _ _ ho2)).mono ?_
          rintro e w3 ⟨rfl, hb⟩
          have HB3 : Below wc.heap.size wc w3 := HB2.trans (Below.mono hb HB2.size)
          clear hb
          (try dsimp only)
          refine hK.out _ _ (fun _ => KS.out _ HB3) ?_
          clear hK K
          (try simp only [Act.put, List.setIfInBounds_toArray, List.set_cons_zero, List.set_cons_succ])
          refine OrdT.AnyT.take (i := 8) (v := ?_) (some 83) (by rfl) (by rfl) (by kernel_rfl) (by kernel_rfl) (by kernel_rfl) (by kernel_rfl) (fun _ _ _ h => h) (Or.inl ⟨by rfl, ?_⟩) (KS.out _ HB3) ?_
          rotate_left
          · intro w hSw; (try dsimp only at hSw); first | (go_simp; done) | (go_simp; with_reducible rfl)
          (try simp only [Act.put, List.setIfInBounds_toArray, List.set_cons_zero, List.set_cons_succ])
          refine OrdT.AnyT.take (i := 9) (v := ?_) (some 92) (by rfl) (by rfl) (by kernel_rfl) (by kernel_rfl) (by kernel_rfl) (by kernel_rfl) (fun _ _ _ h => h) (Or.inl ⟨by rfl, ?_⟩) (KS.out _ HB3) ?_
          rotate_left
          · intro w hSw; (try dsimp only at hSw); first | (go_simp; done) | (go_simp; with_reducible rfl)
          (try simp only [Act.put, List.setIfInBounds_toArray, List.set_cons_zero, List.set_cons_succ])
          refine OrdT.AnyT.take (i := 10) (v := ?_) (some 93) (by rfl) (by rfl) (by kernel_rfl) (by kernel_rfl) (by kernel_rfl) (by kernel_rfl) (fun _ _ _ h => h) (Or.inl ⟨by rfl, ?_⟩) (KS.out _ HB3) ?_
          rotate_left
          · intro w hSw; (try dsimp only at hSw); first | (go_simp; done) | (go_simp; with_reducible rfl)
          (try simp only [Act.put, List.setIfInBounds_toArray, List.set_cons_zero, List.set_cons_succ])
          refine OrdT.AnyT.take (i := 11) (v := ?_) (some 15) (by rfl) (by rfl) (by kernel_rfl) (by kernel_rfl) (by kernel_rfl) (by kernel_rfl) (fun _ _ _ h => h) (Or.inl ⟨by rfl, ?_⟩) (KS.out _ HB3) ?_
          rotate_left
          · intro w hSw; (try dsimp only at hSw); first | (go_simp; done) | (go_simp; with_reducible rfl)
          (try simp only [Act.put, List.setIfInBounds_toArray, List.set_cons_zero, List.set_cons_succ])
          refine OrdT.AnyT.one (i := 12) (by kernel_rfl) (by rfl) (fun K hK => ?_)
          go_simp
          refine hK.out _ _ (fun h => absurd rfl h) ?_
          clear hK K
          (try simp only [Act.put, List.setIfInBounds_toArray, List.set_cons_zero, List.set_cons_succ])
          refine OrdT.AnyT.done (by kernel_rfl) ?_ _
          refine NoPanic.normal ?_
          have HF := FIN.out _ HB3
          clear RL SLF KS HAX
          cases g with
          | false =>
            go_wp2
            go_ret
            exact ⟨rfl, HF⟩
          | true =>
            obtain rfl : a = true := BEF.out (by trivial)
            go_wp2
            go_ret
            exact ⟨rfl, HF⟩
end Go.Proofs.Ytkfddjmhoekjgaa.Wn
