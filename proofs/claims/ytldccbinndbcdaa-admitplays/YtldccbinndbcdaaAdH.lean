/- The landed book: Change. -/
import Derived.Test.YtldccbinndbcdaaAdE
import Derived.Test.YtldccbinndbcdaaAmRh
namespace Go.Proofs.Ytldccbinndbcdaa.Am
open Go.RowKit Go.Proofs.Ytldccbinndbcdaa.Con Go.Proofs.Ytldccbinndbcdaa.Wn Go.Proofs.Ytldccbinndbcdaa.Fp
set_option linter.unusedVariables false
set_option linter.unusedSimpArgs false
attribute [local go_sem ↓] Go.wp_at_zero Go.wp_at_succ
theorem flat_put {L : List Pr} {i : Nat} {q p : Int} (hi : i < L.length) : flat (L.set i (q, p)) = ((flat L).set (i * 2) (.int .i64 q)).set (i * 2 + 1) (.int .i64 p) := by
  induction L generalizing i with
  | nil => simp at hi
  | cons e L ih =>
    cases i with
    | zero => simp [flat]
    | succ i =>
      have := ih (i := i) (by simpa using hi)
      rw [show (i + 1) * 2 = i * 2 + 2 by omega, show i * 2 + 2 + 1 = i * 2 + 1 + 2 by omega]
      simp only [flat, List.set_cons_succ, this]
theorem own_set2 {w : World} {B e g n c i : Nat} {L : List Pr} {q p : Int} (h : w.ownsRow B e 2 (.slice (some ⟨g, 0, none⟩) n c) n (flat L)) (hL : L.length = n) (hi : i < n) :
    ((w.setCell ⟨g, i * 2, none⟩ (.int .i64 q)).setCell ⟨g, i * 2 + 1, none⟩ (.int .i64 p)).ownsRow B e 2 (.slice (some ⟨g, 0, none⟩) n c) n (flat (L.set i (q, p))) := by
  obtain ⟨h1, ⟨e0, _⟩ | ⟨g', cap, cur, e0, hB, hg, hn, hc, hs, ht⟩⟩ := h
  · cases e0
  · simp only [Value.slice.injEq, Option.some.injEq, Addr.mk.injEq, and_true, true_and] at e0
    obtain ⟨rfl, rfl⟩ := e0
    refine ⟨by rw [flat_put (by omega)]; simpa using h1, .inr ⟨g, c, _, rfl, hB, heap_setCell_same _ g _ _ _ _ (heap_setCell_same _ g _ _ _ _ hg), hn, hc, ?_, ?_⟩⟩
    · simpa using hs
    · rw [flat_put (by omega), ← ht]
      simp [List.take_set]
theorem bput_at {w wd : World} {b g n c i : Nat} {s : Bs} {vo : Value} {H : List Lv} {F : Nat → Prop} {q p : Int} (h : BB wd b s (.slice (some ⟨g, 0, none⟩) n c) vo H) (hT : Tn w wd F (RF b (.slice (some ⟨g, 0, none⟩) n c) vo)) (hn : s.ins.length = n) (hi : i < n) :
    BB ((wd.setCell ⟨g, i * 4 + 1, none⟩ (.int .i64 q)).setCell ⟨g, i * 4 + 2, none⟩ (.int .i64 p)) b ⟨s.cpus, put s.ins i (q, p), s.outs⟩ (.slice (some ⟨g, 0, none⟩) n c) vo H ∧ Tn w ((wd.setCell ⟨g, i * 4 + 1, none⟩ (.int .i64 q)).setCell ⟨g, i * 4 + 2, none⟩ (.int .i64 p)) F (RF b (.slice (some ⟨g, 0, none⟩) n c) vo) := by
  have gb : (Value.slice (some ⟨g, 0, none⟩) n c).ownBlock = some g := rfl
  have hgb : g ≠ b := fun e => own_book h.ins h.row (by decide) (e ▸ gb)
  have oth : ∀ k, k ≠ g → ((wd.setCell ⟨g, i * 4 + 1, none⟩ (.int .i64 q)).setCell ⟨g, i * 4 + 2, none⟩ (.int .i64 p)).heap[k]? = wd.heap[k]? := fun k hk => (heap_setCell_other _ ⟨g, i * 4 + 2, none⟩ k _ hk).trans (heap_setCell_other _ ⟨g, i * 4 + 1, none⟩ k _ hk)
  have sz : ((wd.setCell ⟨g, i * 4 + 1, none⟩ (.int .i64 q)).setCell ⟨g, i * 4 + 2, none⟩ (.int .i64 p)).heap.size = wd.heap.size := by simp [World.setCell]
  have hins := h.ins
  rw [hn] at hins
  refine ⟨⟨(oth b (Ne.symm hgb)).trans h.row, ?_, own_kept h.outs (fun k hk => oth k (fun e => own_apart h.ins h.outs (by decide) gb (e ▸ hk))), h.ho⟩, ⟨?_, ?_, ?_, ?_, ?_, hT.new⟩⟩
  · have := own_put (q := q) (p := p) hins hn hi
    have e : (put s.ins i (q, p)).length = n := by unfold put; rw [List.length_set]; exact hn
    show World.ownsRow _ 0 _ 4 _ (put s.ins i (q, p)).length _
    rw [e]; exact this
  · rw [sz]; exact hT.size
  · simp only [World.setCell]; exact hT.os
  · simp only [World.setCell]; exact hT.tape
  · simp only [World.setCell]; exact hT.output
  · intro k hk hF
    have hkg : k ≠ g := fun e => by
      subst e
      rcases hT.new k (.inr (.inl gb)) with h1 | h1
      · exact hF h1
      · omega
    rw [oth k hkg]
    exact hT.keep k hk hF
set_option maxHeartbeats 16000000 in
set_option maxRecDepth 100000 in
theorem change_any {w : World} {b : Nat} {s : Bs} {vi vo : Value} {H : List Lv} (h : BB w b s vi vo H) (hs : Small s) (id : Int) (x : Pr) (now : Int) :
    Calls Try.prog 13 #[ptr b, .int .i64 id, prv x, .int .i64 now] w fun e w' => ∃ vi' vo' H', e = .returned (.int .i64 (changeE s id x now)) ∧ Hid (BB w' b (change s id x now) vi' vo' H' ∧ Tn w w' (RF b vi vo) (RF b vi' vo')) := by
  obtain ⟨xq, xp⟩ := x
  obtain ⟨xb, hxb⟩ : ∃ xb, w.heap.size = xb := ⟨_, rfl⟩
  have HB0 := hide (Nx.alloc w (.cells #[.int .i64 xq, .int .i64 xp] 28))
  have HX := hide (heap_alloc_new w (.cells #[.int .i64 xq, .int .i64 xp] 28))
  have H0 := hide h
  clear h
  have HP := hide (good_any (xq, xp) now (w.alloc (.cells #[.int .i64 xq, .int .i64 xp] 28)))
  have KEEP : Hid (∀ w', Nx w w' → BB w' b s vi vo H ∧ Tn w w' (RF b vi vo) (RF b vi vo)) := hide (fun w' hB => bkeep H0.out hB)
  cases ha : argB (xq, xp) now with
  | false =>
    have E := hide (change_1 (s := s) (id := id) ha)
    rw [ha] at HP
    clear ha
    go_enter Try.func13, Try.ntmps13
    go_wp2_with (go_at_call 22; refine HP.out.mono ?_; rintro e w9 ⟨rfl, hw9⟩; have HN9 := hide (Nx.trans HB0.out hw9); clear hw9)
    go_ret
    exact ⟨_, _, _, by rw [E.out.1]; rfl, hide (by rw [E.out.2]; exact KEEP.out _ HN9.out)⟩
  | true =>
    rw [ha] at HP
    have HFI := hide (fun w' (hN : Nx w w') => place_any (H0.out.on hN) hs.1 id)
    cases hl : isLive s id with
    | false =>
      have E := hide (change_2 ha hl)
      have hfv : findV s id = -1 := by unfold findV; rw [if_neg (by rw [hl]; decide)]
      rw [hfv] at HFI
      clear ha hl hfv
      go_enter Try.func13, Try.ntmps13
      go_upto_region 3 with (go_at_call 22; refine HP.out.mono ?_; rintro e w1 ⟨rfl, hw1⟩; have HN1 := hide (Nx.trans HB0.out hw1); clear hw1)
      go_wp2_with fail
      refine (HFI.out _ HN1.out).mono ?_
      rintro e w2 ⟨rfl, hN2⟩
      have HN2 := hide (Nx.trans HN1.out hN2)
      clear hN2
      go_wp2
      go_ret
      exact ⟨_, _, _, by rw [E.out.1]; rfl, hide (by rw [E.out.2]; exact KEEP.out _ HN2.out)⟩
    | true =>
      have hf := live_lt hl
      have hfv : findV s id = (findI s id : Int) := by unfold findV; rw [if_pos hl]
      rw [hfv] at HFI
      have E7 := hide (fun hall => change_7 ha hl hall)
      have E0 := hide (fun hall => change_0 ha hl hall)
      have ECH : Hid (∀ f, findI s id = f → changed s id (xq, xp) = ⟨s.cpus, put s.ins f (xq, xp), s.outs⟩) := hide (fun f hf => by subst hf; rfl)
      obtain ⟨f, hff⟩ : ∃ f, findI s id = f := ⟨_, rfl⟩
      have EC := hide (ECH.out f hff)
      rw [hff] at hf HFI E7 E0
      clear hl hfv ECH hff ha
      have hf1 : (f : Int) < (s.ins.length : Int) := by omega
      have hf0 : (0 : Int) ≤ (f : Int) := by omega
      have hl32 := hs.1
      have HC := hide (fun w' (hN : Nx w w') => counted_any (H0.out.on hN) hs now)
      have ES := hide (cnt_set (x := (xq, xp)) H0.out.ho (now := now) hf)
      have hcl := cnt_len H0.out.ho now
      have hcl2 : f < (cntL s H now).length := by rw [hcl]; unfold counted; rw [List.length_append, prs_len]; omega
      clear hcl
      go_enter Try.func13, Try.ntmps13
      go_upto_region 3 with (go_at_call 22; refine HP.out.mono ?_; rintro e w1 ⟨rfl, hw1⟩; have HM1 := hide hw1; have HN1 := hide (Nx.trans HB0.out hw1); clear hw1)
      go_wp2_with fail
      refine (HFI.out _ HN1.out).mono ?_
      rintro e w2 ⟨rfl, hN2⟩
      have HM2 := hide (Nx.trans HM1.out hN2)
      have HN2 := hide (Nx.trans HN1.out hN2)
      clear hN2 HFI HN1 HM1 HP
      go_wp2_with fail
      refine (HC.out _ HN2.out).mono ?_
      rintro e w3 ⟨v3, rfl, hO3, hN3⟩
      have HM3 := hide (Nx.trans HM2.out hN3)
      have HN3 := hide (Nx.trans HN2.out hN3)
      have HX3 := hide ((HM3.out.block _ (Array.getElem?_eq_some_iff.1 HX.out).1).trans HX.out)
      rw [hxb] at HX3
      have y0 : w3.cell? ⟨xb, 0, none⟩ = some (.int .i64 xq) := (cell_of_row w3 _ 0 _ _ _ HX3.out).trans rfl
      have y1 : w3.cell? ⟨xb, 1, none⟩ = some (.int .i64 xp) := (cell_of_row w3 _ 1 _ _ _ HX3.out).trans rfl
      have hz1 : w.heap.size + 1 ≤ w2.heap.size := by have := HM2.out.size; simpa using this
      have hz2 : w2.heap.size ≤ w3.heap.size := hN3.size
      have hO3 := hide (ownB hO3.out hz1)
      clear HC HX HM2 HM3 HN2 hN3
      generalize cntL s H now = CL at *
      obtain ⟨g, hgp⟩ : ∃ g c3, v3 = .slice (some ⟨g, 0, none⟩) CL.length c3 := by
        obtain ⟨_, ⟨e0, e0'⟩ | ⟨g, cap', cur, e0, _⟩⟩ := hO3.out
        · omega
        · exact ⟨g, cap', e0⟩
      obtain ⟨c3, rfl⟩ := hgp
      obtain ⟨cur, hcur⟩ := own_blk hO3.out (k := g) rfl
      have hgw : w.heap.size + 1 ≤ g := own_past hO3.out g rfl
      have hgl : g < w3.heap.size := (Array.getElem?_eq_some_iff.1 hcur).1
      obtain ⟨gg, oo, e', hbb, z1, z2⟩ := (show Sl w3 _ CL from Sl.own hO3.out).at hcl2
      simp only [Option.some.injEq, Addr.mk.injEq, and_true] at e'
      obtain ⟨rfl, rfl⟩ := e'
      rw [Nat.zero_add] at z1 z2
      have fz1 : w3.frozen? ⟨g, f * 2, none⟩ = false := by simp [World.frozen?, hcur]
      have fz2 : w3.frozen? ⟨g, f * 2 + 1, none⟩ = false := by simp [World.frozen?, hcur]
      have hf2 : (f : Int) < (CL.length : Int) := by omega
      have SET := hide (own_set2 (q := xq) (p := xp) hO3.out rfl hcl2)
      have BEL : Hid (Below (w.heap.size + 1) w3 ((w3.setCell ⟨g, f * 2, none⟩ (.int .i64 xq)).setCell ⟨g, f * 2 + 1, none⟩ (.int .i64 xp))) := hide (((Below.refl _ w3).setCell (p := ⟨g, f * 2, none⟩) hgw _).setCell (p := ⟨g, f * 2 + 1, none⟩) hgw _)
      have hxlt : xb < w.heap.size + 1 := by omega
      have HX4 := hide ((BEL.out.block xb hxlt).trans HX3.out)
      have HN4 := hide (Below.trans HN3.out (Below.mono BEL.out (Nat.le_succ _)))
      clear HN3 HX3 BEL hO3 hcur
      (try rw [hxb])
      go_upto_region 8 with fail
      clear z1 z2 fz1 fz2 y0 y1
      generalize (w3.setCell ⟨g, f * 2, none⟩ (.int .i64 xq)).setCell ⟨g, f * 2 + 1, none⟩ (.int .i64 xp) = w4 at *
      have HFT := hide (fit_any (H0.out.on HN4.out) (Sl.own (L := CL.set f (xq, xp)) (by rw [List.length_set]; exact SET.out)))
      rw [ES.out] at HFT
      have y0 : w4.cell? ⟨xb, 0, none⟩ = some (.int .i64 xq) := (cell_of_row w4 _ 0 _ _ _ HX4.out).trans rfl
      have y1 : w4.cell? ⟨xb, 1, none⟩ = some (.int .i64 xp) := (cell_of_row w4 _ 1 _ _ _ HX4.out).trans rfl
      cases hall : allB s.cpus (countedAt s now f (xq, xp)) with
      | false =>
        have E := hide (E7.out hall)
        rw [hall] at HFT
        clear E7 E0 hall
        go_wp2_with fail
        refine HFT.out.mono ?_
        rintro e w5 ⟨rfl, hN5⟩
        have HN5 := hide (Nx.trans HN4.out hN5)
        clear hN5
        go_wp2
        go_ret
        exact ⟨_, _, _, by rw [E.out.1]; rfl, hide (by rw [E.out.2]; exact KEEP.out _ HN5.out)⟩
      | true =>
        have E := hide (E0.out hall)
        have EC2 := hide (E.out.2.trans EC.out)
        rw [hall] at HFT
        clear E7 E0 hall
        go_wp2_with fail
        refine HFT.out.mono ?_
        rintro e w5 ⟨rfl, hN5⟩
        have HN5 := hide (Nx.trans HN4.out hN5)
        have HX5 := hide ((hN5.block _ (Array.getElem?_eq_some_iff.1 HX4.out).1).trans HX4.out)
        obtain ⟨hR6, hT6⟩ := bkeep H0.out HN5.out
        clear hN5 y0 y1 HX4 HN4 HFT SET
        have y0 : w5.cell? ⟨xb, 0, none⟩ = some (.int .i64 xq) := (cell_of_row w5 _ 0 _ _ _ HX5.out).trans rfl
        have y1 : w5.cell? ⟨xb, 1, none⟩ = some (.int .i64 xp) := (cell_of_row w5 _ 1 _ _ _ HX5.out).trans rfl
        obtain ⟨q, hgp⟩ : ∃ q c5, vi = .slice (some ⟨q, 0, none⟩) s.ins.length c5 := by
          obtain ⟨_, ⟨e0, e0'⟩ | ⟨q, cap', cur, e0, _⟩⟩ := hR6.ins
          · omega
          · exact ⟨q, cap', e0⟩
        obtain ⟨c5, rfl⟩ := hgp
        have HR6 := hide hR6
        have HT6 := hide hT6
        obtain ⟨_, c1, _⟩ := row3 hR6.row
        obtain ⟨bb, oo, e', hbb', _, z1, z2, _⟩ := hR6.rdI.at hf
        simp only [Option.some.injEq, Addr.mk.injEq, and_true] at e'
        obtain ⟨rfl, rfl⟩ := e'
        obtain ⟨cur, hcur⟩ := own_blk hR6.ins (k := q) rfl
        have fz1 : w5.frozen? ⟨q, f * 4 + 1, none⟩ = false := by simp [World.frozen?, hcur]
        have fz2 : w5.frozen? ⟨q, f * 4 + 2, none⟩ = false := by simp [World.frozen?, hcur]
        rw [Nat.zero_add] at z1 z2
        have hgb : q ≠ b := fun e => own_book hR6.ins hR6.row (by decide) (e ▸ rfl)
        have hgx : q ≠ xb := fun e => own_book hR6.ins HX5.out (by decide) (e ▸ rfl)
        clear hR6 hT6 hcur cur HX5
        go_wp2
        go_region_held3 (fun w' => w'.cell? ⟨b, 1, none⟩ = some (.slice (some ⟨q, 0, none⟩) s.ins.length c5) ∧ w'.cell? ⟨xb, 0, none⟩ = some (.int .i64 xq) ∧ w'.cell? ⟨xb, 1, none⟩ = some (.int .i64 xp)) (go_keep) (fail)
        go_wp2
        go_ret
        obtain ⟨f1, f2⟩ := bput_at (q := xq) (p := xp) HR6.out HT6.out rfl hf
        refine ⟨_, _, H, by rw [E.out.1]; rfl, hide ⟨?_, Tn.trans f2 (Tn.of_nx (bel_drew (Nx.refl _)) _)⟩⟩
        rw [EC2.out]
        exact f1.on (bel_drew (Nx.refl _))
end Go.Proofs.Ytldccbinndbcdaa.Am
