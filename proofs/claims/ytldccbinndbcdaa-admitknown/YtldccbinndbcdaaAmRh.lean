/- The reference's book: Change. -/
import Derived.Test.YtldccbinndbcdaaAmRl
namespace Go.Proofs.Ytldccbinndbcdaa.Am
open Go.RowKit Go.Proofs.Ytldccbinndbcdaa.Con Go.Proofs.Ytldccbinndbcdaa.Wn Go.Proofs.Ytldccbinndbcdaa.Fp
set_option linter.unusedVariables false
set_option linter.unusedSimpArgs false
attribute [local go_sem ↓] Go.wp_at_zero Go.wp_at_succ
theorem flatE_put {L : List En} {i : Nat} {q p : Int} (hi : i < L.length) : flatE (put L i (q, p)) = ((flatE L).set (i * 4 + 1) (.int .i64 q)).set (i * 4 + 2) (.int .i64 p) := by
  induction L generalizing i with
  | nil => simp at hi
  | cons e L ih =>
    cases i with
    | zero => simp [put, atE, flatE]
    | succ i =>
      have := ih (i := i) (by simpa using hi)
      have e1 : put (e :: L) (i + 1) (q, p) = e :: put L i (q, p) := by simp [put, atE]
      rw [e1, show (i + 1) * 4 + 1 = i * 4 + 1 + 4 by omega, show (i + 1) * 4 + 2 = i * 4 + 2 + 4 by omega]
      simp only [flatE, List.set_cons_succ, this]
theorem own_put {w : World} {B e g n c i : Nat} {L : List En} {q p : Int} (h : w.ownsRow B e 4 (.slice (some ⟨g, 0, none⟩) n c) n (flatE L)) (hL : L.length = n) (hi : i < n) :
    ((w.setCell ⟨g, i * 4 + 1, none⟩ (.int .i64 q)).setCell ⟨g, i * 4 + 2, none⟩ (.int .i64 p)).ownsRow B e 4 (.slice (some ⟨g, 0, none⟩) n c) n (flatE (put L i (q, p))) := by
  obtain ⟨h1, ⟨e0, _⟩ | ⟨g', cap, cur, e0, hB, hg, hn, hc, hs, ht⟩⟩ := h
  · cases e0
  · simp only [Value.slice.injEq, Option.some.injEq, Addr.mk.injEq, and_true, true_and] at e0
    obtain ⟨rfl, rfl⟩ := e0
    refine ⟨by rw [flatE_put (by omega)]; simpa using h1, .inr ⟨g, c, _, rfl, hB, heap_setCell_same _ g _ _ _ _ (heap_setCell_same _ g _ _ _ _ hg), hn, hc, ?_, ?_⟩⟩
    · simpa using hs
    · rw [flatE_put (by omega), ← ht]
      simp [List.take_set]
theorem rput_at {w wd : World} {b g n c i : Nat} {s : Bs} {vo : Value} {F : Nat → Prop} {q p : Int} (h : RBk wd b s (.slice (some ⟨g, 0, none⟩) n c) vo) (hT : Tn w wd F (RF b (.slice (some ⟨g, 0, none⟩) n c) vo)) (hg : w.heap.size ≤ g) (hn : s.ins.length = n) (hi : i < n) :
    RBk ((wd.setCell ⟨g, i * 4 + 1, none⟩ (.int .i64 q)).setCell ⟨g, i * 4 + 2, none⟩ (.int .i64 p)) b ⟨s.cpus, put s.ins i (q, p), s.outs⟩ (.slice (some ⟨g, 0, none⟩) n c) vo ∧ Tn w ((wd.setCell ⟨g, i * 4 + 1, none⟩ (.int .i64 q)).setCell ⟨g, i * 4 + 2, none⟩ (.int .i64 p)) F (RF b (.slice (some ⟨g, 0, none⟩) n c) vo) := by
  have gb : (Value.slice (some ⟨g, 0, none⟩) n c).ownBlock = some g := rfl
  have hgb : g ≠ b := fun e => own_book h.ins h.row (by decide) (e ▸ gb)
  have oth : ∀ k, k ≠ g → ((wd.setCell ⟨g, i * 4 + 1, none⟩ (.int .i64 q)).setCell ⟨g, i * 4 + 2, none⟩ (.int .i64 p)).heap[k]? = wd.heap[k]? := fun k hk => (heap_setCell_other _ ⟨g, i * 4 + 2, none⟩ k _ hk).trans (heap_setCell_other _ ⟨g, i * 4 + 1, none⟩ k _ hk)
  have sz : ((wd.setCell ⟨g, i * 4 + 1, none⟩ (.int .i64 q)).setCell ⟨g, i * 4 + 2, none⟩ (.int .i64 p)).heap.size = wd.heap.size := by simp [World.setCell]
  have hins := h.ins
  rw [hn] at hins
  refine ⟨⟨(oth b (Ne.symm hgb)).trans h.row, ?_, own_kept h.outs (fun k hk => oth k (fun e => h.apart g gb (e ▸ hk))), h.apart⟩, ⟨?_, ?_, ?_, ?_, ?_, hT.new⟩⟩
  · have := own_put (q := q) (p := p) hins hn hi
    have e : (put s.ins i (q, p)).length = n := by unfold put; rw [List.length_set]; exact hn
    show World.ownsRow _ 0 _ 4 _ (put s.ins i (q, p)).length _
    rw [e]; exact this
  · rw [sz]; exact hT.size
  · simp only [World.setCell]; exact hT.os
  · simp only [World.setCell]; exact hT.tape
  · simp only [World.setCell]; exact hT.output
  · intro k hk hF
    rw [oth k (by omega)]
    exact hT.keep k hk hF
set_option maxHeartbeats 16000000 in
set_option maxRecDepth 100000 in
theorem rchange_any {w : World} {b : Nat} {s : Bs} {vi vo : Value} (h : RBk w b s vi vo) (hs : Small s) (id : Int) (x : Pr) (now : Int) :
    Calls Try.prog 17 #[rptr b, .int .i64 id, prv x, .int .i64 now] w fun e w' => e = .returned (.int .i64 (changeE s id x now)) ∧ ∃ vi' vo', Hid (RBk w' b (change s id x now) vi' vo' ∧ Tn w w' (RF b vi vo) (RF b vi' vo')) := by
  obtain ⟨xq, xp⟩ := x
  obtain ⟨xb, hxb⟩ : ∃ xb, w.heap.size = xb := ⟨_, rfl⟩
  have HB0 := hide (Nx.alloc w (.cells #[.int .i64 xq, .int .i64 xp] 42))
  have H0 := hide h
  have H := hide (h.on HB0.out)
  have hbw0 : b < w.heap.size := (Array.getElem?_eq_some_iff.1 h.row).1
  have hvo := hide (own_lt h.outs)
  clear h
  have HP := hide (fun w => rgp_any xq xp w)
  have HFI := hide (rfind_any H.out hs.1 id)
  have KEEP : Hid (∀ w', Nx w w' → RBk w' b s vi vo ∧ Tn w w' (RF b vi vo) (RF b vi vo)) := hide (fun w' hB => rkeep H0.out hB)
  cases hg : gp (xq, xp) with
  | false =>
    have E := hide (change_1 (s := s) (id := id) (arg_f1 (now := now) hg))
    rw [hg] at HP
    clear hg HFI
    go_enter Try.func17, Try.ntmps17
    go_wp2_with (go_at_call 30; refine (HP.out _).mono ?_; rintro e w9 ⟨rfl, hw9⟩; rw [hw9]; clear hw9)
    go_ret
    exact ⟨by rw [E.out.1]; rfl, _, _, hide (by rw [E.out.2]; exact KEEP.out _ HB0.out)⟩
  | true =>
    rw [hg] at HP
    by_cases hw : now < 0
    · have E := hide (change_1 (s := s) (id := id) (arg_f2 (x := (xq, xp)) hw))
      clear hg HFI
      go_enter Try.func17, Try.ntmps17
      go_wp2_with (go_at_call 30; refine (HP.out _).mono ?_; rintro e w9 ⟨rfl, hw9⟩; rw [hw9]; clear hw9)
      go_ret
      exact ⟨by rw [E.out.1]; rfl, _, _, hide (by rw [E.out.2]; exact KEEP.out _ HB0.out)⟩
    have ha := arg_t hg (show 0 ≤ now by omega)
    cases hl : isLive s id with
    | false =>
      have E := hide (change_2 ha hl)
      have hfv : findV s id = -1 := by unfold findV; rw [if_neg (by rw [hl]; decide)]
      rw [hfv] at HFI
      clear hg ha hl hfv
      go_enter Try.func17, Try.ntmps17
      go_upto_region 3 with (go_at_call 30; refine (HP.out _).mono ?_; rintro e w9 ⟨rfl, hw9⟩; rw [hw9]; clear hw9)
      go_wp2_with fail
      refine HFI.out.mono ?_
      rintro e w2 ⟨rfl, hN2⟩
      have HN2 := hide (Nx.trans HB0.out hN2)
      clear hN2
      go_wp2
      go_ret
      exact ⟨by rw [E.out.1]; rfl, _, _, hide (by rw [E.out.2]; exact KEEP.out _ HN2.out)⟩
    | true =>
      have hf := live_lt hl
      have hfv : findV s id = (findI s id : Int) := by unfold findV; rw [if_pos hl]
      rw [hfv] at HFI
      have E7 := hide (fun hall => change_7 ha hl hall)
      have E0 := hide (fun hall => change_0 ha hl hall)
      have ECH : Hid (∀ f, findI s id = f → changed s id (xq, xp) = ⟨s.cpus, put s.ins f (xq, xp), s.outs⟩) := hide (fun f hf => by subst hf; rfl)
      obtain ⟨f, hff⟩ : ∃ f, findI s id = f := ⟨_, rfl⟩
      have EC := hide (ECH.out f hff)
      rw [hff] at hf HFI E7 E0
      clear hl hfv ECH hff ha hg
      have hf1 : (f : Int) < (s.ins.length : Int) := by omega
      have hf0 : (0 : Int) ≤ (f : Int) := by omega
      have hl32 := hs.1
      have HC := hide (fun w' (hR : RBk w' b s vi vo) => rcounted_at hR hs now (xq, xp) hf)
      have HAL := hide (fun w' v (hS : Sl w' v (countedAt s now f (xq, xp))) => rall_any hS s.cpus)
      go_enter Try.func17, Try.ntmps17
      go_upto_region 3 with (go_at_call 30; refine (HP.out _).mono ?_; rintro e w9 ⟨rfl, hw9⟩; rw [hw9]; clear hw9)
      go_wp2_with fail
      refine HFI.out.mono ?_
      rintro e w2 ⟨rfl, hN2⟩
      have HN2 := hide hN2
      have H2 := hide (H.out.on hN2)
      obtain ⟨y0, y1⟩ := xcells hN2
      clear hN2 HFI H
      rw [hxb] at y0 y1
      (try rw [hxb])
      obtain ⟨b0, _, _⟩ := row3 H2.out.row
      have hbl : b < w2.heap.size := World.block_lt_of_cell? w2 _ b0
      have hxl : xb < w2.heap.size := World.block_lt_of_cell? w2 _ y0
      have HCw := hide (HC.out w2.drew (H2.out.on (bel_drew (Nx.refl w2))))
      have KS : Hid (∀ w', Nx w2 w' → w'.cell? ⟨b, 0, none⟩ = some (.int .i64 s.cpus) ∧ w'.cell? ⟨xb, 0, none⟩ = some (.int .i64 xq) ∧ w'.cell? ⟨xb, 1, none⟩ = some (.int .i64 xp)) := hide (fun w' hB => ⟨(hB.cell (p := ⟨b, 0, none⟩) hbl).trans b0, (hB.cell (p := ⟨xb, 0, none⟩) hxl).trans y0, (hB.cell (p := ⟨xb, 1, none⟩) hxl).trans y1⟩)
      clear HC
      go_wp2
      go_region_held3 (fun w' => w'.cell? ⟨b, 0, none⟩ = some (.int .i64 s.cpus) ∧ w'.cell? ⟨xb, 0, none⟩ = some (.int .i64 xq) ∧ w'.cell? ⟨xb, 1, none⟩ = some (.int .i64 xp)) (first | (exact ⟨b0, y0, y1⟩) | go_keep)
        (first
          | (with_reducible refine HCw.out.mono ?_; rintro e w3 ⟨v3, rfl, hO3, hN3⟩; have HSL := hide (Sl.own hO3.out); have HN3 := hide (Nx.trans (bel_drew (Nx.refl w2)) hN3); obtain ⟨b0, y0, y1⟩ := KS.out w3 HN3.out; clear hO3 hN3)
          | (with_reducible refine (HAL.out _ _ HSL.out).mono ?_; rintro e w4 ⟨rfl, hN4⟩; have HN4 := hide (Nx.trans HN3.out hN4); obtain ⟨b0, y0, y1⟩ := KS.out w4 HN4.out; clear hN4))
      have HNc := hide (Nx.trans HN2.out HN4.out)
      have Hc := hide (H2.out.on HN4.out)
      have HNw := hide (Nx.trans HB0.out HNc.out)
      clear KS HCw HAL H2 HSL HN3 HN4 b0
      cases hall : allB s.cpus (countedAt s now f (xq, xp)) with
      | false =>
        have E := hide (E7.out hall)
        clear E7 E0 hall Hc
        go_wp2
        go_ret
        exact ⟨by rw [E.out.1]; rfl, _, _, hide (by rw [E.out.2]; exact KEEP.out _ HNw.out)⟩
      | true =>
        have E := hide (E0.out hall)
        have EC2 := hide (E.out.2.trans EC.out)
        clear E7 E0 hall KEEP H0
        obtain ⟨p, cap, rfl, hn, hm⟩ := Hc.out.rdI.form
        obtain ⟨_, c1, _⟩ := row3 Hc.out.row
        have hbl4 : b < w4.heap.size := World.block_lt_of_cell? w4 _ c1
        have hxl4 : xb < w4.heap.size := World.block_lt_of_cell? w4 _ y0
        have hxne : xb ≠ b := by omega
        have HE : Hid ((w4.alloc (.cells #[] 67)).ownsRow w4.heap.size 67 4 (.slice (some ⟨w4.heap.size, 0, none⟩) 0 0) 0 []) := hide (own_empty (heap_alloc_new w4 _) (Nat.le_refl _))
        have HBA : Hid (Below w4.heap.size w4 (w4.alloc (.cells #[] 67))) := hide ((Below.refl _ w4).alloc (Nat.le_refl _) _)
        have HH := hide (Hc.out.rdI.below HBA.out)
        have BR := hide Hc.out.row
        have PUT : Hid (∀ q d w5, Nx w4 w5 → w5.ownsRow w4.heap.size 67 4 (.slice q s.ins.length d) s.ins.length (flatE s.ins) → Hid (RBk (w5.setCell ⟨b, 1, none⟩ (.slice q s.ins.length d)) b s (.slice q s.ins.length d) vo ∧ Tn w (w5.setCell ⟨b, 1, none⟩ (.slice q s.ins.length d)) (RF b (.slice p s.ins.length cap) vo) (RF b (.slice q s.ins.length d) vo))) := hide (fun q d w5 hB ho => hide (rput_ins (L := s.ins) Hc.out HNw.out hbw0 hB ho hvo.out))
        have hw4 : w.heap.size ≤ w4.heap.size := HNw.out.size
        clear HP HB0 HNc HNw Hc hvo EC hxb HN2
        go_wp2_with (at_builtin; refine wpList_append_rd (w := w4.alloc (.cells #[] 67)) rfl _ _ 37 rfl rfl rfl Try.underlying37 infoEn rfl (by decide) (by decide) HE.out HBA.out.size HH.out (flatE_one s.ins) (by omega) ?_; intro p5 c5 w5 HA5; refine Hid.out ?_)
        refine hide ?_
        have HB5 := hide (below_grown HBA.out HBA.out.size HA5.out.2 (own_past HE.out))
        have HO5 : Hid (w5.ownsRow w4.heap.size 67 4 (.slice p5 s.ins.length c5) s.ins.length (flatE s.ins)) := hide (by have := HA5.out.1; simp only [Nat.zero_add, List.nil_append] at this; exact this)
        have HR5 := hide (PUT.out _ _ _ HB5.out HO5.out).out
        have br5 := (HB5.out.block b hbl4).trans BR.out
        have c15 := (HB5.out.cell (p := ⟨b, 1, none⟩) hbl4).trans c1
        have fz5 : w5.frozen? ⟨b, 1, none⟩ = false := by simp [World.frozen?, br5]
        have x05 : (w5.setCell ⟨b, 1, none⟩ (.slice p5 s.ins.length c5)).cell? ⟨xb, 0, none⟩ = some (.int .i64 xq) := by
          rw [World.cell?_of_block (w := w4) ((heap_setCell_other _ ⟨b, 1, none⟩ xb _ hxne).trans (HB5.out.block xb hxl4))]; exact y0
        have x15 : (w5.setCell ⟨b, 1, none⟩ (.slice p5 s.ins.length c5)).cell? ⟨xb, 1, none⟩ = some (.int .i64 xp) := by
          rw [World.cell?_of_block (w := w4) ((heap_setCell_other _ ⟨b, 1, none⟩ xb _ hxne).trans (HB5.out.block xb hxl4))]; exact y1
        obtain ⟨g, hgp⟩ : ∃ g, p5 = some ⟨g, 0, none⟩ := by
          obtain ⟨_, ⟨e0, e0'⟩ | ⟨g, cap', cur, e0, _⟩⟩ := HO5.out
          · omega
          · simp only [Value.slice.injEq] at e0
            exact ⟨g, e0.1⟩
        subst hgp
        have hg4 : w4.heap.size ≤ g := own_past HO5.out g rfl
        have hgw : w.heap.size ≤ g := Nat.le_trans hw4 hg4
        have hgx : g ≠ xb := by omega
        clear HA5 HE HBA HH PUT HO5 c1 y0 y1
        go_upto_region 10 with fail
        clear br5 c15 fz5 BR HB5
        generalize w5.setCell ⟨b, 1, none⟩ (.slice (some ⟨g, 0, none⟩) s.ins.length c5) = w6 at *
        obtain ⟨hR6, hT6⟩ := HR5.out
        have HR6 := hide hR6
        have HT6 := hide hT6
        obtain ⟨_, c1, _⟩ := row3 hR6.row
        obtain ⟨bb, oo, e', hbb, _, z1, z2, _⟩ := hR6.rdI.at hf
        simp only [Option.some.injEq, Addr.mk.injEq, and_true] at e'
        obtain ⟨rfl, rfl⟩ := e'
        obtain ⟨cur, hcur⟩ := own_blk hR6.ins (k := g) rfl
        have fz1 : w6.frozen? ⟨g, f * 4 + 1, none⟩ = false := by simp [World.frozen?, hcur]
        have fz2 : w6.frozen? ⟨g, f * 4 + 2, none⟩ = false := by simp [World.frozen?, hcur]
        rw [Nat.zero_add] at z1 z2
        have hgb : g ≠ b := fun e => own_book hR6.ins hR6.row (by decide) (e ▸ rfl)
        clear hR6 hT6 HR5 hcur cur
        go_wp2
        go_region_held3 (fun w' => w'.cell? ⟨b, 1, none⟩ = some (.slice (some ⟨g, 0, none⟩) s.ins.length c5) ∧ w'.cell? ⟨xb, 0, none⟩ = some (.int .i64 xq) ∧ w'.cell? ⟨xb, 1, none⟩ = some (.int .i64 xp)) (go_keep) (fail)
        go_wp2
        go_ret
        obtain ⟨f1, f2⟩ := rput_at (q := xq) (p := xp) HR6.out HT6.out hgw rfl hf
        refine ⟨by rw [E.out.1]; rfl, _, _, hide ⟨?_, Tn.trans f2 (Tn.of_nx (bel_drew (Nx.refl _)) _)⟩⟩
        rw [EC2.out]
        exact f1.on (bel_drew (Nx.refl _))
end Go.Proofs.Ytldccbinndbcdaa.Am
