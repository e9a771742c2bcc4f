/- ProgJoins' walk. (Written by mkGJoins.py.) -/
import Derived.Test.YtdbkdnjmiehlcaaDoorGTexts
namespace Go.Proofs.YtdbkdnjmiehlcaaDoor.Con
open Go.RowKit Go.Proofs.YtdbkdnjmiehlcaaDoor.Pm
set_option linter.unusedVariables false
set_option linter.unusedSimpArgs false
/-- append, out of a slice that is read, in a walk. -/
theorem wpList_append_rd {ops : Array Oper} {rest : List Oper} {o : Oper} {a : Act} {Q : Exit → Act → World → Prop} {w : World} (hgd : o.guard = none) (s x : Operand) (t : TypeId)
    (ho : o.op = .call { callee := .builtin .append, args := #[s, x], argTypes := #[t, t] }) {base e size by_ n m B : Nat} {z v xv : Value} {xs news : List Value}
    (hs : a.eval s = v) (hx : a.eval x = xv)
    (ht : Tryd.prog.underlying t = some (.slice e)) (hI : (Tryd.prog.info? e).map (fun i => (i.zero, i.size, i.bytes)) = some (some z, size, by_)) (hzs : z.cells.size = size) (hsz : 0 < size) (hby : by_ ≤ 64)
    (h : w.ownsRow base e size v n xs) (hB : base ≤ w.heap.size) (hr : RdC w B size xv m news) (h1 : ∀ u ∈ news, u.oneCell' = true) (hn : n + m ≤ 1000)
    (k : ∀ p c w', Hid (w'.ownsRow base e size (.slice p (n + m) c) (n + m) (xs ++ news) ∧ w.grownBy w' v.ownBlock) → wpList Tryd.prog ops Q rest (a.put o.dst (.slice p (n + m) c)) w') :
    wpList Tryd.prog ops Q (o :: rest) a w := by
  refine wpList_plain hgd fun K hK => ?_
  obtain ⟨i0, hi, hz0, hz1, hz2⟩ := info_parts hI
  have hmul : (n + m) * by_ ≤ 1000 * 64 := Nat.mul_le_mul hn hby
  obtain ⟨p, c, w', hr1, h2, h3, _⟩ := run_append_rd w base t o.type e i0 z size by_ ht hi hz0 hz1 hz2 hzs hsz v n xs h B xv m news hr h1 (by unfold maxLen; omega) (by omega) hB
  unfold Oper.wp execOp
  simp only [ho, resolve, invoke, builtin, Sem.run_bind, Sem.run_pure, Result.andThen_ok, List.map_toArray, List.map_cons, List.map_nil, hs, hx, hr1]
  exact hK _ _ (k p c w' (hide ⟨h2, h3⟩))
theorem join_facts {L M : List St} (hL : good L = true) (hM : good M = true) (hl : L.length + M.length ≤ 8) :
    good (L ++ M) = true ∧ total (L ++ M) = total L + total M ∧ holds (L ++ M) = holds L + holds M ∧ text (L ++ M) = text L ++ [43] ++ text M := by
  have hg := good_app hL hM hl
  have h1 := (good_len hL).1
  have h2 := (good_len hM).1
  refine ⟨hg, ?_, ?_, ?_⟩
  · rw [total_good hg, total_good hL, total_good hM, sum_app]
  · rw [holds_good hg, holds_good hL, holds_good hM, cnt_app]
  · rw [text_good hg, text_good hL, text_good hM, txt_app L M (by rintro rfl; simp at h1) (by rintro rfl; simp at h2)]; simp
theorem total_bd {L : List St} (h : good L = true) : 0 ≤ total L ∧ total L ≤ 17179869184 := by
  rw [total_good h]
  have := sum_bound h L.length
  rwa [List.take_length] at this
theorem holds_bd {L : List St} (h : good L = true) : holds L ≤ 8 := by
  rw [holds_good h]
  have := cnt_le L
  have := (good_len h).2
  omega
set_option maxHeartbeats 8000000 in
theorem joins_walk {W : World} {v u : Value} {L M : List St} (h : Sl W v L) (h' : Sl W u M) (hT : Tab W) : Calls Tryd.prog 7 #[v, u] W fun e w' => e = .returned (.bool true) ∧ Below W.heap.size W w' := by
  obtain ⟨p, cap, rfl, hn, hm⟩ := h.form
  obtain ⟨q, cap2, rfl, hn2, hm2⟩ := h'.form
  have HA := hide (awake_any W hT)
  have H := hide h
  have K := hide h'
  have T := hide hT
  clear h h' hT
  cases hg : good L with
  | false =>
    have G := hide hg
    go_enter Tryd.func7, Tryd.ntmps7
    go_wp2_with fail
    refine HA.out.mono ?_
    rintro e w1 ⟨rfl, hb⟩
    have H1 := hide (H.out.below hb)
    have B1 := hide hb
    clear hb H hg
    go_wp2_with fail
    refine (good_any H1.out).mono ?_
    rintro e w2 ⟨rfl, hb⟩
    rw [G.out]
    have B2 := hide (Nx.trans B1.out hb)
    clear hb
    go_wp2
    go_ret
    exact ⟨rfl, B2.out⟩
  | true =>
    have G := hide hg
    cases hg2 : good M with
    | false =>
      have G2 := hide hg2
      go_enter Tryd.func7, Tryd.ntmps7
      go_wp2_with fail
      refine HA.out.mono ?_
      rintro e w1 ⟨rfl, hb⟩
      have H1 := hide (H.out.below hb)
      have K1 := hide (K.out.below hb)
      have B1 := hide hb
      clear hb H K hg hg2
      go_wp2_with fail
      refine (good_any H1.out).mono ?_
      rintro e w2 ⟨rfl, hb⟩
      rw [G.out]
      have K2 := hide (K1.out.below hb)
      have B2 := hide (Nx.trans B1.out hb)
      clear hb H1 K1 B1
      go_wp2_with fail
      refine (good_any K2.out).mono ?_
      rintro e w3 ⟨rfl, hb⟩
      rw [G2.out]
      have B3 := hide (Nx.trans B2.out hb)
      clear hb
      go_wp2
      go_ret
      exact ⟨rfl, B3.out⟩
    | true =>
      have G2 := hide hg2
      have lL := (good_len hg).2
      have lM := (good_len hg2).2
      by_cases h8 : 8 < L.length + M.length
      · have h8' : 8 < (L.length : Int) + (M.length : Int) := by omega
        go_enter Tryd.func7, Tryd.ntmps7
        go_wp2_with fail
        refine HA.out.mono ?_
        rintro e w1 ⟨rfl, hb⟩
        have H1 := hide (H.out.below hb)
        have K1 := hide (K.out.below hb)
        have B1 := hide hb
        clear hb H K hg hg2
        go_wp2_with fail
        refine (good_any H1.out).mono ?_
        rintro e w2 ⟨rfl, hb⟩
        rw [G.out]
        have K2 := hide (K1.out.below hb)
        have B2 := hide (Nx.trans B1.out hb)
        clear hb H1 K1 B1
        go_wp2_with fail
        refine (good_any K2.out).mono ?_
        rintro e w3 ⟨rfl, hb⟩
        rw [G2.out]
        have B3 := hide (Nx.trans B2.out hb)
        clear hb
        go_wp2
        go_ret
        exact ⟨rfl, B3.out⟩
      · have h8' : ¬ 8 < (L.length : Int) + (M.length : Int) := by omega
        obtain ⟨jg, jt, jh, jx⟩ := join_facts hg hg2 (by omega)
        obtain ⟨tL0, tL1⟩ := total_bd hg
        obtain ⟨tM0, tM1⟩ := total_bd hg2
        have hL9 := holds_bd hg
        have hM9 := holds_bd hg2
        have xL := text_len hg
        have xM := text_len hg2
        have JG := hide jg
        have JT := hide jt
        have JH := hide jh
        have JX := hide jx
        clear jg jt jh jx
        go_enter Tryd.func7, Tryd.ntmps7
        go_wp2_with fail
        refine HA.out.mono ?_
        rintro e w1 ⟨rfl, hb⟩
        have H1 := hide (H.out.below hb)
        have K1 := hide (K.out.below hb)
        have T1 := hide (T.out.on hb)
        have B1 := hide hb
        clear hb H K T hg hg2
        go_wp2_with fail
        refine (good_any H1.out).mono ?_
        rintro e w2 ⟨rfl, hb⟩
        rw [G.out]
        have H2 := hide (H1.out.below hb)
        have K2 := hide (K1.out.below hb)
        have T2 := hide (T1.out.on hb)
        have B2 := hide (Nx.trans B1.out hb)
        clear hb
        go_wp2_with fail
        refine (good_any K2.out).mono ?_
        rintro e w3 ⟨rfl, hb⟩
        rw [G2.out]
        have H3 := hide (H2.out.below hb)
        have K3 := hide (K2.out.below hb)
        have T3 := hide (T2.out.on hb)
        have B3 := hide (Nx.trans B2.out hb)
        clear hb
        have HE : Hid ((w3.alloc (.cells #[] 29)).ownsRow w3.heap.size 29 2 (.slice (some ⟨w3.heap.size, 0, none⟩) 0 0) 0 []) := hide (own_empty (heap_alloc_new w3 _) (Nat.le_refl _))
        have HH := hide (H3.out.below ((Below.refl _ w3).alloc (Nat.le_refl _) (.cells #[] 29)))
        have HB3 : Hid (Below w3.heap.size w3 (w3.alloc (.cells #[] 29))) := hide ((Below.refl _ w3).alloc (Nat.le_refl _) _)
        go_wp2_with (at_builtin; refine wpList_append_rd (w := w3.alloc (.cells #[] 29)) rfl _ _ 24 rfl rfl rfl Tryd.underlying24 infoSt rfl (by decide) (by decide) HE.out HB3.out.size HH.out (flat_one L) (by omega) ?_; intro p4 c4 w4 HA4; refine Hid.out ?_)
        refine hide ?_
        have HB4 := hide (below_grown HB3.out HB3.out.size HA4.out.2 (own_past HE.out))
        have HO4 : Hid (w4.ownsRow w3.heap.size 29 2 (.slice p4 L.length c4) L.length (flat L)) := hide (by have := HA4.out.1; simp only [Nat.zero_add, List.nil_append] at this; exact this)
        have KK := hide (K3.out.below HB4.out)
        clear HA4 HH HE HB3
        go_wp2_with (at_builtin; refine wpList_append_rd (w := w4) rfl _ _ 24 rfl rfl rfl Tryd.underlying24 infoSt rfl (by decide) (by decide) HO4.out HB4.out.size KK.out (flat_one M) (by omega) ?_; intro p5 c5 w5 HA5; refine Hid.out ?_)
        refine hide ?_
        have HB5 := hide (below_grown HB4.out HB4.out.size HA5.out.2 (own_past HO4.out))
        have J5 : Hid (Sl w5 (.slice p5 (L.length + M.length) c5) (L ++ M)) := hide (by
          have := HA5.out.1
          refine Sl.own (base := w3.heap.size) (e := 29) ?_
          rw [flat_app, List.length_append]
          exact this)
        have H5 := hide (H3.out.below HB5.out)
        have K5 := hide (K3.out.below HB5.out)
        have T5 := hide (T3.out.on HB5.out)
        have B5 := hide (Nx.trans B3.out HB5.out)
        clear HA5 HB5 HO4 HB4 KK
        generalize (Value.slice p5 (L.length + M.length) c5) = vj at *
        go_wp2_with fail
        refine (good_any J5.out).mono ?_
        rintro e w6 ⟨rfl, hb⟩
        rw [JG.out]
        have H6 := hide (H5.out.below hb)
        have K6 := hide (K5.out.below hb)
        have J6 := hide (J5.out.below hb)
        have T6 := hide (T5.out.on hb)
        have B6 := hide (Nx.trans B5.out hb)
        clear hb
        go_wp2_with fail
        refine (total_any J6.out).mono ?_
        rintro e w7 ⟨rfl, hb⟩
        rw [JT.out]
        have H7 := hide (H6.out.below hb)
        have K7 := hide (K6.out.below hb)
        have J7 := hide (J6.out.below hb)
        have T7 := hide (T6.out.on hb)
        have B7 := hide (Nx.trans B6.out hb)
        clear hb
        go_wp2_with fail
        refine (total_any H7.out).mono ?_
        rintro e w8 ⟨rfl, hb⟩
        have H8 := hide (H7.out.below hb)
        have K8 := hide (K7.out.below hb)
        have J8 := hide (J7.out.below hb)
        have T8 := hide (T7.out.on hb)
        have B8 := hide (Nx.trans B7.out hb)
        clear hb
        go_wp2_with fail
        refine (total_any K8.out).mono ?_
        rintro e w9 ⟨rfl, hb⟩
        have H9 := hide (H8.out.below hb)
        have K9 := hide (K8.out.below hb)
        have J9 := hide (J8.out.below hb)
        have T9 := hide (T8.out.on hb)
        have B9 := hide (Nx.trans B8.out hb)
        clear hb
        generalize total L = tl at *
        generalize total M = tm at *
        go_wp2_with fail
        refine (holds_any J9.out).mono ?_
        rintro e w10 ⟨rfl, hb⟩
        rw [JH.out]
        have H10 := hide (H9.out.below hb)
        have K10 := hide (K9.out.below hb)
        have J10 := hide (J9.out.below hb)
        have T10 := hide (T9.out.on hb)
        have B10 := hide (Nx.trans B9.out hb)
        clear hb
        go_wp2_with fail
        refine (holds_any H10.out).mono ?_
        rintro e w11 ⟨rfl, hb⟩
        have H11 := hide (H10.out.below hb)
        have K11 := hide (K10.out.below hb)
        have J11 := hide (J10.out.below hb)
        have T11 := hide (T10.out.on hb)
        have B11 := hide (Nx.trans B10.out hb)
        clear hb
        go_wp2_with fail
        refine (holds_any K11.out).mono ?_
        rintro e w12 ⟨rfl, hb⟩
        have H12 := hide (H11.out.below hb)
        have K12 := hide (K11.out.below hb)
        have J12 := hide (J11.out.below hb)
        have T12 := hide (T11.out.on hb)
        have B12 := hide (Nx.trans B11.out hb)
        clear hb
        generalize holds L = hl at *
        generalize holds M = hm at *
        go_wp2_with fail
        refine (text_any J12.out T12.out).mono ?_
        rintro e w13 ⟨rfl, hb⟩
        rw [JX.out]
        have H13 := hide (H12.out.below hb)
        have K13 := hide (K12.out.below hb)
        have J13 := hide (J12.out.below hb)
        have T13 := hide (T12.out.on hb)
        have B13 := hide (Nx.trans B12.out hb)
        clear hb
        go_wp2_with fail
        refine (text_any H13.out T13.out).mono ?_
        rintro e w14 ⟨rfl, hb⟩
        have H14 := hide (H13.out.below hb)
        have K14 := hide (K13.out.below hb)
        have J14 := hide (J13.out.below hb)
        have T14 := hide (T13.out.on hb)
        have B14 := hide (Nx.trans B13.out hb)
        clear hb
        go_wp2_with fail
        refine (text_any K14.out T14.out).mono ?_
        rintro e w15 ⟨rfl, hb⟩
        have H15 := hide (H14.out.below hb)
        have K15 := hide (K14.out.below hb)
        have J15 := hide (J14.out.below hb)
        have T15 := hide (T14.out.on hb)
        have B15 := hide (Nx.trans B14.out hb)
        clear hb
        generalize text L = x at *
        generalize text M = y at *
        go_wp2
        go_ret
        exact ⟨by simp [bytes_app], B15.out⟩
end Go.Proofs.YtdbkdnjmiehlcaaDoor.Con
