/- The reference's book: counted, Ask. -/
import Derived.Test.YtldccbinndbcdaaAmRf
import Derived.Deep.RegionHeld3
namespace Go.Proofs.Ytldccbinndbcdaa.Am
open Go.RowKit Go.Proofs.Ytldccbinndbcdaa.Con Go.Proofs.Ytldccbinndbcdaa.Wn Go.Proofs.Ytldccbinndbcdaa.Fp
set_option linter.unusedVariables false
set_option linter.unusedSimpArgs false
attribute [local go_sem ↓] Go.wp_at_zero Go.wp_at_succ
theorem ownB {w : World} {B B' e size n : Nat} {v : Value} {xs : List Value} (h : w.ownsRow B e size v n xs) (hB : B' ≤ B) : w.ownsRow B' e size v n xs := by
  obtain ⟨h1, ⟨h0, h2⟩ | ⟨g, cap, cur, rfl, h0, r⟩⟩ := h
  · exact ⟨h1, .inl ⟨h0, h2⟩⟩
  · exact ⟨h1, .inr ⟨g, cap, cur, rfl, Nat.le_trans hB h0, r⟩⟩
theorem own_blk {B e size n : Nat} {w : World} {v : Value} {xs : List Value} (h : w.ownsRow B e size v n xs) {k : Nat} (hk : v.ownBlock = some k) : ∃ cur, w.heap[k]? = some (.cells cur e (0, 0)) := by
  obtain ⟨_, ⟨rfl, _⟩ | ⟨g, cap, cur, rfl, _, hg, _⟩⟩ := h
  · simp [Value.ownBlock] at hk
  · simp [Value.ownBlock] at hk; subst hk; exact ⟨cur, hg⟩
/-- Rows of two kinds of elements lie apart. -/
theorem own_apart {B B' e e' size size' n n' : Nat} {w : World} {v v' : Value} {xs xs' : List Value} (h : w.ownsRow B e size v n xs) (h' : w.ownsRow B' e' size' v' n' xs') (he : e ≠ e') {k : Nat} (hk : v.ownBlock = some k) : v'.ownBlock ≠ some k := fun hk' => by
  obtain ⟨cur, hc⟩ := own_blk h hk
  obtain ⟨cur', hc'⟩ := own_blk h' hk'
  rw [hc] at hc'
  simp only [Option.some.injEq, Obj.cells.injEq] at hc'
  exact he hc'.2.1
theorem own_grown {B B' e e' size size' n n' : Nat} {w w' : World} {v v' : Value} {xs xs' : List Value} (h : w.ownsRow B e size v n xs) (h' : w.ownsRow B' e' size' v' n' xs') (he : e ≠ e') (hg : w.grownBy w' v'.ownBlock) : w'.ownsRow B e size v n xs :=
  own_kept h (fun k hk => hg.block k (own_lt h k hk) (fun e => own_apart h h' he hk e.symm))
def subst (l : List En) (i : Int) (x : Pr) (k : Nat) : List Pr := (List.range k).map fun (j : Nat) => if (j : Int) = i then x else (atE l j).pr
theorem subst_len (l : List En) (i : Int) (x : Pr) (k : Nat) : (subst l i x k).length = k := by simp [subst]
theorem subst_succ (l : List En) (i : Int) (x : Pr) (k : Nat) : subst l i x (k + 1) = subst l i x k ++ [if (k : Int) = i then x else (atE l k).pr] := by
  unfold subst; rw [List.range_succ, List.map_append]; rfl
theorem prs_get {l : List En} {j : Nat} (h : j < l.length) : (prs l)[j]? = some (atE l j).pr := by
  unfold prs; rw [List.getElem?_map, atE_eq h]; rfl
theorem subst_none (l : List En) {i : Int} (x : Pr) (hi : i < 0) : subst l i x l.length = prs l := by
  apply List.ext_getElem?
  intro j
  by_cases h : j < l.length
  · unfold subst
    rw [List.getElem?_map, List.getElem?_range h, prs_get h]
    show some (if (j : Int) = i then x else (atE l j).pr) = _
    rw [if_neg (by omega)]
  · rw [List.getElem?_eq_none (by rw [subst_len]; omega), List.getElem?_eq_none (by rw [prs_len]; omega)]
theorem subst_at (l : List En) {n : Nat} (x : Pr) (hn : n < l.length) : subst l (n : Int) x l.length = (prs l).set n x := by
  apply List.ext_getElem?
  intro j
  by_cases h : j < l.length
  · unfold subst
    rw [List.getElem?_map, List.getElem?_range h, List.getElem?_set]
    show some (if (j : Int) = (n : Int) then x else (atE l j).pr) = _
    by_cases e : n = j
    · subst e
      rw [if_pos rfl, if_pos rfl, if_pos (by rw [prs_len]; exact h)]
    · rw [if_neg (by omega), if_neg e, prs_get h]
  · rw [List.getElem?_eq_none (by rw [subst_len]; omega), List.getElem?_eq_none (by rw [List.length_set, prs_len]; omega)]
theorem flat_subst_y (l : List En) {i : Int} (x : Pr) {k : Nat} (h : (k : Int) = i) : flat (subst l i x (k + 1)) = flat (subst l i x k) ++ [.int .i64 x.1, .int .i64 x.2] := by
  rw [subst_succ, if_pos h, flat_app]; rfl
theorem flat_subst_n (l : List En) {i : Int} (x : Pr) {k : Nat} (h : (k : Int) ≠ i) : flat (subst l i x (k + 1)) = flat (subst l i x k) ++ [.int .i64 (atE l k).pr.1, .int .i64 (atE l k).pr.2] := by
  rw [subst_succ, if_neg h, flat_app]; rfl
theorem flat_prsR (l : List En) (k : Nat) (h : k < l.length) : flat (prs (l.take (k + 1))) = flat (prs (l.take k)) ++ [.int .i64 (atE l k).pr.1, .int .i64 (atE l k).pr.2] := by
  rw [takeE_snoc l k h, prs_app, flat_app]; rfl
set_option maxHeartbeats 16000000 in
set_option maxRecDepth 100000 in
theorem rcounted_any {w : World} {b : Nat} {s : Bs} {vi vo : Value} (h : RBk w b s vi vo) (hsm : s.ins.length ≤ 32) (hso : s.outs.length ≤ 500) (now i : Int) (x : Pr) :
    Calls Try.prog 33 #[rptr b, .int .i64 now, .int .i64 i, prv x] w fun e w' => ∃ v, e = .returned v ∧ Hid (w'.ownsRow w.heap.size 42 2 v (s.ins.length + (lingers s now).length) (flat (subst s.ins i x s.ins.length ++ prs (lingers s now)))) ∧ Nx w w' := by
  obtain ⟨xq, xp⟩ := x
  obtain ⟨p, cap, rfl, hn, hm⟩ := h.rdI.form
  have HX := hide (heap_alloc_new w (.cells #[.int .i64 xq, .int .i64 xp] 42))
  have HB0 := hide (Nx.alloc w (.cells #[.int .i64 xq, .int .i64 xp] 42))
  have H := hide (h.on HB0.out)
  clear h
  have HL := hide (fun w' (hB : Nx (w.alloc (.cells #[.int .i64 xq, .int .i64 xp] 42)) w') => rlingers_any (H.out.on hB) hso now)
  go_enter Try.func33, Try.ntmps33
  go_upto_region 1 with fail
  obtain ⟨w0, hw0⟩ : ∃ w0, w.alloc (.cells #[.int .i64 xq, .int .i64 xp] 42) = w0 := ⟨_, rfl⟩
  rw [hw0] at HX HB0 H HL ⊢
  clear hw0
  have hb0 := World.block_lt_of_cell? w0 _ (row3 H.out.row).1
  go_wp2
  go_loopw [9, 10] (fun r i' wr => ∃ k : Nat, k ≤ s.ins.length ∧ i' = .int .i64 k ∧ Hid (wr.ownsRow w0.heap.size 42 2 r k (flat (subst s.ins i (xq, xp) k))) ∧ Hid (Nx w0 wr)) (fun _ i' _ => s.ins.length - (intOf i').toNat)
  case atStart => exact ⟨0, by omega, rfl, hide (World.ownsRow_nil _ _ _ _), hide (Nx.refl _)⟩
  case round => as_aux_lemma =>
    obtain ⟨k, hk, rfl, HO, HB⟩ := hrel
    have H2 := hide (H.out.on HB.out)
    obtain ⟨_, c1, _⟩ := row3 H2.out.row
    obtain ⟨p0, c0, rfl⟩ := ownF HO.out
    have hX2 := (HB.out.block _ (Array.getElem?_eq_some_iff.1 HX.out).1).trans HX.out
    have y0 : wr.cell? ⟨w.heap.size, 0, none⟩ = some (.int .i64 xq) := (cell_of_row wr _ 0 _ _ _ hX2).trans rfl
    have y1 : wr.cell? ⟨w.heap.size, 1, none⟩ = some (.int .i64 xp) := (cell_of_row wr _ 1 _ _ _ hX2).trans rfl
    have hbl : b < wr.heap.size := World.block_lt_of_cell? wr _ c1
    clear hX2
    by_cases hkn : k < s.ins.length
    · have hk1 : (k : Int) < (s.ins.length : Int) := by omega
      by_cases hki : (k : Int) = i
      · have hs := hide (flat_subst_y s.ins (xq, xp) hki)
        have hki2 : ((k : Int) == i) = true := by simp [hki]
        clear H2
        generalize flat (subst s.ins i (xq, xp) k) = F at *
        have OW : Hid ((wr.alloc (.cells #[.int .i64 xq, .int .i64 xp] 42)).ownsRow w0.heap.size 42 2 (.slice p0 k c0) k F) := hide (HO.out.alloc _)
        have RD : Hid (RdC (wr.alloc (.cells #[.int .i64 xq, .int .i64 xp] 42)) (wr.heap.size + 1) 2 (.slice (some ⟨wr.heap.size, 0, none⟩) 1 1) 1 [.int .i64 xq, .int .i64 xp]) := hide (by
          have := rd_one (w := (wr.alloc (.cells #[.int .i64 xq, .int .i64 xp] 42))) (size := 2) (heap_alloc_new wr _) rfl
          simpa using this)
        have BD : Hid (Below w0.heap.size w0 (wr.alloc (.cells #[.int .i64 xq, .int .i64 xp] 42))) := hide (bel_alloc HB.out (Nat.le_refl _) _)
        go_wp2_with (at_builtin; refine wpList_append_rd (w := wr.alloc (.cells #[.int .i64 xq, .int .i64 xp] 42)) rfl _ _ 69 rfl rfl rfl Try.underlying69 infoPp rfl (by decide) (by decide) OW.out BD.out.size RD.out (by intro u hu; simp at hu; rcases hu with rfl | rfl <;> rfl) (by omega) ?_; intro p5 c5 w5 HA5; refine Hid.out ?_)
        refine hide ?_
        have HB5 := hide (below_grown BD.out BD.out.size HA5.out.2 (own_past OW.out))
        have HO5 : Hid (w5.ownsRow w0.heap.size 42 2 (.slice p5 (k + 1) c5) (k + 1) (flat (subst s.ins i (xq, xp) (k + 1)))) := hide (by rw [hs.out]; exact HA5.out.1)
        clear HA5 BD RD OW HO HB
        go_wp2
        go_roundw
        case rel => exact ⟨k + 1, by omega, by go_num, HO5, HB5⟩
        case measure => simp [intOf]; omega
      · have hs := hide (flat_subst_n s.ins (xq, xp) hki)
        have hki2 : ((k : Int) == i) = false := by simp [hki]
        obtain ⟨be, oe, rfl, hbe, _, q1, q2, _⟩ := H2.out.rdI.at hkn
        clear H2
        generalize flat (subst s.ins i (xq, xp) k) = F at *
        generalize (atE s.ins k).pr.1 = z1 at *
        generalize (atE s.ins k).pr.2 = z2 at *
        have OW : Hid ((wr.alloc (.cells #[.int .i64 z1, .int .i64 z2] 42)).ownsRow w0.heap.size 42 2 (.slice p0 k c0) k F) := hide (HO.out.alloc _)
        have RD : Hid (RdC (wr.alloc (.cells #[.int .i64 z1, .int .i64 z2] 42)) (wr.heap.size + 1) 2 (.slice (some ⟨wr.heap.size, 0, none⟩) 1 1) 1 [.int .i64 z1, .int .i64 z2]) := hide (by
          have := rd_one (w := (wr.alloc (.cells #[.int .i64 z1, .int .i64 z2] 42))) (size := 2) (heap_alloc_new wr _) rfl
          simpa using this)
        have BD : Hid (Below w0.heap.size w0 (wr.alloc (.cells #[.int .i64 z1, .int .i64 z2] 42))) := hide (bel_alloc HB.out (Nat.le_refl _) _)
        go_wp2_with (at_builtin; refine wpList_append_rd (w := wr.alloc (.cells #[.int .i64 z1, .int .i64 z2] 42)) rfl _ _ 69 rfl rfl rfl Try.underlying69 infoPp rfl (by decide) (by decide) OW.out BD.out.size RD.out (by intro u hu; simp at hu; rcases hu with rfl | rfl <;> rfl) (by omega) ?_; intro p5 c5 w5 HA5; refine Hid.out ?_)
        refine hide ?_
        have HB5 := hide (below_grown BD.out BD.out.size HA5.out.2 (own_past OW.out))
        have HO5 : Hid (w5.ownsRow w0.heap.size 42 2 (.slice p5 (k + 1) c5) (k + 1) (flat (subst s.ins i (xq, xp) (k + 1)))) := hide (by rw [hs.out]; exact HA5.out.1)
        clear HA5 BD RD OW HO HB
        go_wp2
        go_roundw
        case rel => exact ⟨k + 1, by omega, by go_num, HO5, HB5⟩
        case measure => simp [intOf]; omega
    · obtain rfl : k = s.ins.length := by omega
      have HLr := hide (HL.out wr HB.out)
      clear H2 y0 y1
      go_wp2_with fail
      refine HLr.out.mono ?_
      rintro e w4 ⟨v4, rfl, hL4, hN4⟩
      have HO4 := hide (ownN HO.out hN4)
      have HB4 := hide (Nx.trans HB.out hN4)
      have HE4 := hide (ownB hL4.out HB.out.size)
      obtain ⟨p4, cap4, rfl⟩ := ownF HE4.out
      have hll : (lingers s now).length ≤ 500 := Nat.le_trans (lingers_len s now) hso
      have HS4 : Hid (∀ j, j < (lingers s now).length → flat (prs ((lingers s now).take (j + 1))) = flat (prs ((lingers s now).take j)) ++ [.int .i64 (atE (lingers s now) j).pr.1, .int .i64 (atE (lingers s now) j).pr.2]) := hide (fun j hj => flat_prsR _ j hj)
      have HFIN : Hid (flat (subst s.ins i (xq, xp) s.ins.length) ++ flat (prs ((lingers s now).take (lingers s now).length)) = flat (subst s.ins i (xq, xp) s.ins.length ++ prs (lingers s now))) := hide (by rw [List.take_length, flat_app])
      have HO0 : Hid (w4.ownsRow w0.heap.size 42 2 (.slice p0 s.ins.length c0) (s.ins.length + 0) (flat (subst s.ins i (xq, xp) s.ins.length) ++ flat (prs ((lingers s now).take 0)))) := hide (by
        have := HO4.out
        simpa [prs, flat] using this)
      clear HO HLr HL hL4 hN4 HO4 HX HB
      generalize hLG : lingers s now = LG at *
      generalize hSB : subst s.ins i (xq, xp) s.ins.length = SB at *
      have HLG := hide hLG
      have HSB := hide hSB
      clear hLG hSB
      go_wp2
      go_loopw [9, 12] (fun r i' wr2 => ∃ k : Nat, k ≤ LG.length ∧ i' = .int .i64 k ∧ Hid (wr2.ownsRow w0.heap.size 42 2 r (s.ins.length + k) (flat SB ++ flat (prs (LG.take k)))) ∧ Hid (wr2.ownsRow w0.heap.size 67 4 (.slice p4 LG.length cap4) LG.length (flatE LG)) ∧ Hid (Nx w0 wr2)) (fun _ i' _ => LG.length - (intOf i').toNat)
      case atStart => exact ⟨0, by omega, rfl, HO0, HE4, HB4⟩
      case round => as_aux_lemma =>
        clear HO0 HB4 HE4
        obtain ⟨k, hk, rfl, HO, HE, HB⟩ := hrel
        obtain ⟨p0, c0, rfl⟩ := ownF HO.out
        by_cases hkn : k < LG.length
        · have hk1 : (k : Int) < (LG.length : Int) := by omega
          have hs := hide (HS4.out k hkn)
          obtain ⟨be, oe, he4, hbe, _, q1, q2, _⟩ := (show Es wr _ LG from Es.own HE.out).at hkn
          subst he4
          generalize (atE LG k).pr.1 = z1 at *
          generalize (atE LG k).pr.2 = z2 at *
          generalize hFF : (flat SB ++ flat (prs (LG.take k))) = F at *
          have OW : Hid ((wr.alloc (.cells #[.int .i64 z1, .int .i64 z2] 42)).ownsRow w0.heap.size 42 2 (.slice p0 (s.ins.length + k) c0) (s.ins.length + k) F) := hide (HO.out.alloc _)
          have RD : Hid (RdC (wr.alloc (.cells #[.int .i64 z1, .int .i64 z2] 42)) (wr.heap.size + 1) 2 (.slice (some ⟨wr.heap.size, 0, none⟩) 1 1) 1 [.int .i64 z1, .int .i64 z2]) := hide (by
            have := rd_one (w := (wr.alloc (.cells #[.int .i64 z1, .int .i64 z2] 42))) (size := 2) (heap_alloc_new wr _) rfl
            simpa using this)
          have BD : Hid (Below w0.heap.size w0 (wr.alloc (.cells #[.int .i64 z1, .int .i64 z2] 42))) := hide (bel_alloc HB.out (Nat.le_refl _) _)
          go_wp2_with (at_builtin; refine wpList_append_rd (w := wr.alloc (.cells #[.int .i64 z1, .int .i64 z2] 42)) rfl _ _ 69 rfl rfl rfl Try.underlying69 infoPp rfl (by decide) (by decide) OW.out BD.out.size RD.out (by intro u hu; simp at hu; rcases hu with rfl | rfl <;> rfl) (by omega) ?_; intro p5 c5 w5 HA5; refine Hid.out ?_)
          refine hide ?_
          have HB5 := hide (below_grown BD.out BD.out.size HA5.out.2 (own_past OW.out))
          have HE5 := hide (own_grown (HE.out.alloc (.cells #[.int .i64 z1, .int .i64 z2] 42)) OW.out (by decide) HA5.out.2)
          have HO5 : Hid (w5.ownsRow w0.heap.size 42 2 (.slice p5 (s.ins.length + k + 1) c5) (s.ins.length + (k + 1)) (flat SB ++ flat (prs (LG.take (k + 1))))) := hide (by rw [hs.out, ← List.append_assoc, hFF]; exact HA5.out.1)
          clear HA5 BD RD OW HO HB HE hs hFF
          go_wp2
          go_roundw
          case rel => exact ⟨k + 1, by omega, by go_num, HO5, HE5, HB5⟩
          case measure => simp [intOf]; omega
        · obtain rfl : k = LG.length := by omega
          have HF := HO.out
          rw [HFIN.out] at HF
          have HF := hide (ownB HF HB0.out.size)
          have HN := hide (Nx.trans HB0.out HB.out)
          clear HO HB HE
          go_wp2
          go_ret
          exact ⟨_, rfl, hide (by rw [HLG.out, HSB.out]; exact HF.out), HN.out⟩
end Go.Proofs.Ytldccbinndbcdaa.Am
