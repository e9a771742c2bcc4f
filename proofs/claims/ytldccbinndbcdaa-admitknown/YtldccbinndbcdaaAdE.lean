/- The landed book: Enter. -/
import Derived.Test.YtldccbinndbcdaaAdK
namespace Go.Proofs.Ytldccbinndbcdaa.Am
open Go.RowKit Go.Proofs.Ytldccbinndbcdaa.Con Go.Proofs.Ytldccbinndbcdaa.Wn Go.Proofs.Ytldccbinndbcdaa.Fp
set_option linter.unusedVariables false
set_option linter.unusedSimpArgs false
attribute [local go_sem ↓] Go.wp_at_zero Go.wp_at_succ
/-- The row of live ones is turned (in its place, or a new one), and put into the book. -/
theorem bput_ins {w wd wq w2 : World} {b : Nat} {s : Bs} {vi vo v' : Value} {H : List Lv} {L : List En} {F : Nat → Prop} (h : BB wd b s vi vo H) (hT : Tn w wd F (RF b vi vo)) (hq : Below wd.heap.size wd wq) (hg : wq.grownBy w2 vi.ownBlock) (ho : w2.ownsRow 0 50 4 v' L.length (flatE L)) (hv : v'.ownBlock = vi.ownBlock ∨ v'.ownBlock = some wq.heap.size) :
    BB (w2.setCell ⟨b, 1, none⟩ v') b ⟨s.cpus, L, s.outs⟩ v' vo H ∧ Tn w (w2.setCell ⟨b, 1, none⟩ v') F (RF b v' vo) := by
  have hb : b < wd.heap.size := (Array.getElem?_eq_some_iff.1 h.row).1
  have sz : (w2.setCell ⟨b, 1, none⟩ v').heap.size = w2.heap.size := by simp [World.setCell]
  have oth : ∀ k, k ≠ b → (w2.setCell ⟨b, 1, none⟩ v').heap[k]? = w2.heap[k]? := fun k hk => heap_setCell_other _ ⟨b, 1, none⟩ k _ hk
  have hvob : vi.ownBlock ≠ some b := own_book h.ins h.row (by decide)
  have st : ∀ k, k < wd.heap.size → vi.ownBlock ≠ some k → w2.heap[k]? = wd.heap[k]? := fun k hk hne => (hg.block k (Nat.lt_of_lt_of_le hk hq.size) (fun e => hne e.symm)).trans (hq.block k hk)
  have vlt : ∀ k, vi.ownBlock = some k → k < wd.heap.size := own_lt h.ins
  have vol : ∀ k, vo.ownBlock = some k → k < wd.heap.size := own_lt h.outs
  have hap : ∀ k, vo.ownBlock = some k → vi.ownBlock ≠ some k := fun k hk hk' => own_apart h.ins h.outs (by decide) hk' hk
  have hv'b : v'.ownBlock ≠ some b := fun hk' => by
    rcases hv with e | e
    · exact hvob (e.symm.trans hk')
    · rw [e] at hk'
      have a2 := hq.size
      simp only [Option.some.injEq] at hk'
      omega
  have row2 : w2.heap[b]? = some (.cells #[.int .i64 s.cpus, vi, vo] 57 (0, 0)) := (st b hb hvob).trans h.row
  refine ⟨⟨?_, ?_, ?_, h.ho⟩, ⟨?_, ?_, ?_, ?_, ?_, ?_⟩⟩
  · rw [heap_setCell_same _ b 1 _ _ _ row2]; rfl
  · exact own_kept ho (fun k hk => oth k (fun e => hv'b (e ▸ hk)))
  · exact own_kept h.outs (fun k hk => (oth k (fun e => own_book h.outs h.row (by decide) (e ▸ hk))).trans (st k (vol k hk) (hap k hk)))
  · rw [sz]; exact Nat.le_trans hT.size (Nat.le_trans hq.size hg.size)
  · simp only [World.setCell]; exact hg.os.trans (hq.os.trans hT.os)
  · simp only [World.setCell]; exact hg.tape.trans (hq.tape.trans hT.tape)
  · simp only [World.setCell]; exact hg.output.trans (hq.output.trans hT.output)
  · intro k hk hF
    have hkd : k < wd.heap.size := Nat.lt_of_lt_of_le hk hT.size
    have hR : ¬ RF b vi vo k := fun hr => by
      rcases hT.new k hr with h1 | h1
      · exact hF h1
      · omega
    rw [oth k (fun e => hR (.inl e)), st k hkd (fun e => hR (.inr (.inl e)))]
    exact hT.keep k hk hF
  · rintro k (rfl | hk | hk)
    · exact hT.new _ (.inl rfl)
    · rcases hv with e | e
      · exact hT.new _ (.inr (.inl (e.symm.trans hk)))
      · rw [e] at hk
        simp only [Option.some.injEq] at hk
        exact .inr (by have := hT.size; have := hq.size; omega)
    · exact hT.new _ (.inr (.inr hk))
set_option maxHeartbeats 16000000 in
set_option maxRecDepth 100000 in
theorem enter_any {w : World} {b : Nat} {s : Bs} {vi vo : Value} {H : List Lv} (h : BB w b s vi vo H) (hs : Small s) (id : Int) (x : Pr) (now : Int) :
    Calls Try.prog 9 #[ptr b, .int .i64 id, prv x, .int .i64 now] w fun e w' => ∃ vi' vo' H', e = .returned (.int .i64 (enterE s id x now)) ∧ Hid (BB w' b (enter s id x now) vi' vo' H' ∧ Tn w w' (RF b vi vo) (RF b vi' vo')) := by
  obtain ⟨xq, xp⟩ := x
  obtain ⟨xb, hxb⟩ : ∃ xb, w.heap.size = xb := ⟨_, rfl⟩
  have HB0 := hide (Nx.alloc w (.cells #[.int .i64 xq, .int .i64 xp] 28))
  have HX := hide (heap_alloc_new w (.cells #[.int .i64 xq, .int .i64 xp] 28))
  have H0 := hide h
  clear h
  have HP := hide (good_any (xq, xp) now (w.alloc (.cells #[.int .i64 xq, .int .i64 xp] 28)))
  have KEEP : Hid (∀ w', Nx w w' → BB w' b s vi vo H ∧ Tn w w' (RF b vi vo) (RF b vi vo)) := hide (fun w' hB => bkeep H0.out hB)
  cases ha : argB (xq, xp) now with
  | false =>
    have E := hide (enter_1 (s := s) (id := id) ha)
    rw [ha] at HP
    clear ha
    go_enter Try.func9, Try.ntmps9
    go_wp2_with (go_at_call 22; refine HP.out.mono ?_; rintro e w9 ⟨rfl, hw9⟩; have HN9 := hide (Nx.trans HB0.out hw9); clear hw9)
    go_ret
    exact ⟨_, _, _, by rw [E.out.1]; rfl, hide (by rw [E.out.2]; exact KEEP.out _ HN9.out)⟩
  | true =>
    rw [ha] at HP
    have HFI := hide (fun w' (hN : Nx w w') => place_any (H0.out.on hN) hs.1 id)
    cases hl : isLive s id with
    | true =>
      have E := hide (enter_5 ha hl)
      have hfv : 0 ≤ findV s id := by unfold findV; rw [if_pos hl]; omega
      clear ha hl
      generalize findV s id = fv at *
      go_enter Try.func9, Try.ntmps9
      go_upto_region 3 with (go_at_call 22; refine HP.out.mono ?_; rintro e w1 ⟨rfl, hw1⟩; have HN1 := hide (Nx.trans HB0.out hw1); clear hw1)
      go_wp2_with fail
      refine (HFI.out _ HN1.out).mono ?_
      rintro e w2 ⟨rfl, hN2⟩
      have HN2 := hide (Nx.trans HN1.out hN2)
      clear hN2
      go_wp2
      go_ret
      exact ⟨_, _, _, by rw [E.out.1]; rfl, hide (by rw [E.out.2]; exact KEEP.out _ HN2.out)⟩
    | false =>
      have EA := hide (enter_a (s := s) (id := id) (x := (xq, xp)) (now := now) ha hl)
      have hfv : findV s id = -1 := by unfold findV; rw [if_neg (by rw [hl]; decide)]
      have EY := hide (fun h0 => enter_y (s := s) (id := id) (x := (xq, xp)) (now := now) h0)
      have EN := hide (fun h0 => enter_n (s := s) (id := id) (x := (xq, xp)) (now := now) h0)
      have HAK := hide (fun w' (hN : Nx w w') => ask_any (H0.out.on hN) hs (xq, xp) now)
      rw [hfv] at HFI
      clear ha hl hfv
      go_enter Try.func9, Try.ntmps9
      go_upto_region 3 with (go_at_call 22; refine HP.out.mono ?_; rintro e w1 ⟨rfl, hw1⟩; have HM1 := hide hw1; have HN1 := hide (Nx.trans HB0.out hw1); clear hw1)
      go_wp2_with fail
      refine (HFI.out _ HN1.out).mono ?_
      rintro e w2 ⟨rfl, hN2⟩
      have HM2 := hide (Nx.trans HM1.out hN2)
      have HN2 := hide (Nx.trans HN1.out hN2)
      have HX2 := hide ((HM2.out.block _ (Array.getElem?_eq_some_iff.1 HX.out).1).trans HX.out)
      rw [hxb] at HX2
      have y0 : w2.cell? ⟨xb, 0, none⟩ = some (.int .i64 xq) := (cell_of_row w2 _ 0 _ _ _ HX2.out).trans rfl
      have y1 : w2.cell? ⟨xb, 1, none⟩ = some (.int .i64 xp) := (cell_of_row w2 _ 1 _ _ _ HX2.out).trans rfl
      clear hN2 HFI HN1 HM1 HP
      (try rw [hxb])
      go_wp2_with fail
      refine (HAK.out _ HN2.out).mono ?_
      rintro e wc ⟨rfl, hNc⟩
      have HXc := hide ((hNc.block _ (Array.getElem?_eq_some_iff.1 HX2.out).1).trans HX2.out)
      have HNw := hide (Nx.trans HN2.out hNc)
      clear hNc HAK y0 y1 HN2 HM2 HX HX2
      by_cases h0 : askE s (xq, xp) now = 0
      rotate_left
      · have E := hide (EN.out (by rw [EA.out]; exact h0))
        have EA2 := hide EA.out
        generalize askE s (xq, xp) now = ae at *
        have h0' : (ae == 0) = false := by simp [h0]
        clear EA EN EY
        go_wp2
        go_ret
        exact ⟨_, _, _, by rw [EA2.out]; rfl, hide (by rw [E.out]; exact KEEP.out _ HNw.out)⟩
      have FS := hide (EY.out (by rw [EA.out]; exact h0))
      have FE := hide (EA.out.trans h0)
      rw [h0]
      obtain ⟨Hc', HTc'⟩ := bkeep H0.out HNw.out
      have Hc := hide Hc'
      have HTc := hide HTc'
      clear Hc' HTc'
      obtain ⟨p, cap, hpi⟩ := ownF Hc.out.ins
      subst hpi
      have hl32 := hs.1
      have HRI : Hid (wc.ownsRow 0 50 4 (.slice p s.ins.length cap) s.ins.length (flatE s.ins)) := hide Hc.out.ins
      have hbl : b < wc.heap.size := (Array.getElem?_eq_some_iff.1 Hc.out.row).1
      have hxl : xb < wc.heap.size := (Array.getElem?_eq_some_iff.1 HXc.out).1
      have HOB : Hid (some b ≠ (Value.slice p s.ins.length cap).ownBlock) := hide (fun e => own_book Hc.out.ins Hc.out.row (by decide) e.symm)
      have HOX : Hid (some xb ≠ (Value.slice p s.ins.length cap).ownBlock) := hide (fun e => own_book Hc.out.ins HXc.out (by decide) e.symm)
      have KS : Hid (∀ w' : World, w'.heap[b]? = wc.heap[b]? → w'.heap[xb]? = wc.heap[xb]? → w'.cell? ⟨b, 1, none⟩ = some (.slice p s.ins.length cap) ∧ w'.frozen? ⟨b, 1, none⟩ = false ∧ w'.cell? ⟨xb, 0, none⟩ = some (.int .i64 xq) ∧ w'.cell? ⟨xb, 1, none⟩ = some (.int .i64 xp)) := hide (fun w' h1 h2 => by
        have r1 := h1.trans Hc.out.row
        have r2 := h2.trans HXc.out
        exact ⟨(cell_of_row w' b 1 _ _ _ r1).trans rfl, by simp [World.frozen?, r1], (cell_of_row w' xb 0 _ _ _ r2).trans rfl, (cell_of_row w' xb 1 _ _ _ r2).trans rfl⟩)
      have FIN : Hid (∀ (q : Option Addr) (d : Nat) (w3 : World) (c : Obj), (wc.drew.alloc c).grownBy w3 (Value.slice p s.ins.length cap).ownBlock → w3.ownsRow 0 50 4 (.slice q (s.ins.length + 1) d) (s.ins.length + 1) (flatE s.ins ++ [.int .i64 id, .int .i64 xq, .int .i64 xp, .int .i64 (-1)]) → ((Value.slice q (s.ins.length + 1) d).ownBlock = (Value.slice p s.ins.length cap).ownBlock ∨ (Value.slice q (s.ins.length + 1) d).ownBlock = some (wc.drew.alloc c).heap.size) → Hid (BB (w3.setCell ⟨b, 1, none⟩ (.slice q (s.ins.length + 1) d)) b (enter s id (xq, xp) now) (.slice q (s.ins.length + 1) d) vo H ∧ Tn w (w3.setCell ⟨b, 1, none⟩ (.slice q (s.ins.length + 1) d)) (RF b (.slice p s.ins.length cap) vo) (RF b (.slice q (s.ins.length + 1) d) vo))) := hide (fun q d w3 c hg ho hv => hide (by
        rw [FS.out]
        have e1' : (s.ins ++ [(⟨id, (xq, xp), -1⟩ : En)]).length = s.ins.length + 1 := by simp
        have e2' : flatE (s.ins ++ [(⟨id, (xq, xp), -1⟩ : En)]) = flatE s.ins ++ [.int .i64 id, .int .i64 xq, .int .i64 xp, .int .i64 (-1)] := flatE_snoc1 _ _
        exact bput_ins (L := s.ins ++ [(⟨id, (xq, xp), -1⟩ : En)]) (wq := wc.drew.alloc c) Hc.out HTc.out (bel_alloc (bel_drew (Below.refl _ wc)) (Nat.le_refl _) c) hg (by rw [e1', e2']; exact ho) hv))
      obtain ⟨i0, hi, hz0, hz1', hz2⟩ := info_parts infoAe
      have ON2 : Hid (∀ u ∈ [Value.int .i64 id, .int .i64 xq, .int .i64 xp, .int .i64 (-1)], u.oneCell' = true) := hide (by intro u hu; simp at hu; rcases hu with rfl | rfl | rfl | rfl <;> rfl)
      have SZ2 : Hid (s.ins.length + 1 ≤ maxLen ∧ (s.ins.length + 1) * 32 ≤ 140737488355328) := hide ⟨by unfold maxLen; omega, by omega⟩
      clear FS EY EN EA KEEP H0 Hc hs HTc HNw HB0 HXc h0
      generalize flatE s.ins = FL at *
      go_wp2
      refine wp_region_noPanic ?_
      refine OrdT.region_T (S := fun w' => w'.cell? ⟨b, 1, none⟩ = some (.slice p s.ins.length cap) ∧ w'.frozen? ⟨b, 1, none⟩ = false ∧ w'.cell? ⟨xb, 0, none⟩ = some (.int .i64 xq) ∧ w'.cell? ⟨xb, 1, none⟩ = some (.int .i64 xp)) 12 (by kernel_rfl) ?_ (fun hHeld => ?_)
      · exact KS.out _ rfl rfl
      refine OrdT.AnyT.take (i := 0) (v := ?_) (some 25) (by rfl) (by rfl) (by kernel_rfl) (by kernel_rfl) (by kernel_rfl) (by kernel_rfl) (fun _ _ _ h => h) (Or.inl ⟨by rfl, ?_⟩) (by assumption) ?_
      rotate_left
      · intro w hSw; (try dsimp only at hSw); first | (go_simp; done) | (go_simp; with_reducible rfl)
      (try simp only [Act.put, List.setIfInBounds_toArray, List.set_cons_zero, List.set_cons_succ])
      refine OrdT.AnyT.take (i := 1) (v := ?_) (some 26) (by rfl) (by rfl) (by kernel_rfl) (by kernel_rfl) (by kernel_rfl) (by kernel_rfl) (fun _ _ _ h => h) (Or.inl ⟨by rfl, ?_⟩) (by assumption) ?_
      rotate_left
      · intro w hSw; (try dsimp only at hSw); first | (go_simp; done) | (go_simp; with_reducible rfl)
      (try simp only [Act.put, List.setIfInBounds_toArray, List.set_cons_zero, List.set_cons_succ])
      refine OrdT.AnyT.take (i := 2) (v := ?_) (some 27) (by rfl) (by rfl) (by kernel_rfl) (by kernel_rfl) (by kernel_rfl) (by kernel_rfl) (fun _ _ _ h => h) (Or.inl ⟨by rfl, ?_⟩) (by assumption) ?_
      rotate_left
      · intro w hSw; (try dsimp only at hSw); first | (go_simp; done) | (go_simp; with_reducible rfl)
      (try simp only [Act.put, List.setIfInBounds_toArray, List.set_cons_zero, List.set_cons_succ])
      refine OrdT.AnyT.take (i := 3) (v := ?_) (some 28) (by rfl) (by rfl) (by kernel_rfl) (by kernel_rfl) (by kernel_rfl) (by kernel_rfl) (fun _ _ _ h => h) (Or.inl ⟨by rfl, ?_⟩) (by assumption) ?_
      rotate_left
      · intro w hSw; (try dsimp only at hSw); first | (go_simp; done) | (go_simp; with_reducible rfl)
      (try simp only [Act.put, List.setIfInBounds_toArray, List.set_cons_zero, List.set_cons_succ])
      refine OrdT.AnyT.take (i := 4) (v := ?_) (some 29) (by rfl) (by rfl) (by kernel_rfl) (by kernel_rfl) (by kernel_rfl) (by kernel_rfl) (fun _ _ _ h => h) (Or.inl ⟨by rfl, ?_⟩) (by assumption) ?_
      rotate_left
      · intro w hSw; (try dsimp only at hSw); first | (go_simp; done) | (go_simp; with_reducible rfl)
      (try simp only [Act.put, List.setIfInBounds_toArray, List.set_cons_zero, List.set_cons_succ])
      refine OrdT.AnyT.take (i := 5) (v := ?_) (some 30) (by rfl) (by rfl) (by kernel_rfl) (by kernel_rfl) (by kernel_rfl) (by kernel_rfl) (fun _ _ _ h => h) (Or.inl ⟨by rfl, ?_⟩) (by assumption) ?_
      rotate_left
      · intro w hSw; (try dsimp only at hSw); first | (go_simp; done) | (go_simp; with_reducible rfl)
      (try simp only [Act.put, List.setIfInBounds_toArray, List.set_cons_zero, List.set_cons_succ])
      refine OrdT.AnyT.take (i := 6) (v := ?_) (some 31) (by rfl) (by rfl) (by kernel_rfl) (by kernel_rfl) (by kernel_rfl) (by kernel_rfl) (fun _ _ _ h => h) (Or.inl ⟨by rfl, ?_⟩) (by assumption) ?_
      rotate_left
      · intro w hSw; (try dsimp only at hSw); first | (go_simp; done) | (go_simp; with_reducible rfl)
      (try simp only [Act.put, List.setIfInBounds_toArray, List.set_cons_zero, List.set_cons_succ])
      refine OrdT.AnyT.take (i := 7) (v := ?_) (some 32) (by rfl) (by rfl) (by kernel_rfl) (by kernel_rfl) (by kernel_rfl) (by kernel_rfl) (fun _ _ _ h => h) (Or.inl ⟨by rfl, ?_⟩) (by assumption) ?_
      rotate_left
      · intro w hSw; (try dsimp only at hSw); first | (go_simp; done) | (go_simp; with_reducible rfl)
      (try simp only [Act.put, List.setIfInBounds_toArray, List.set_cons_zero, List.set_cons_succ])
      clear hHeld
      refine OrdT.AnyT.one (i := 8) (by kernel_rfl) (by rfl) (fun K hK => ?_)
      go_simp
      refine hK.out _ _ (fun _ => KS.out _ (heap_alloc_old _ _ (by exact hbl)) (heap_alloc_old _ _ (by exact hxl))) ?_
      clear hK K
      (try simp only [Act.put, List.setIfInBounds_toArray, List.set_cons_zero, List.set_cons_succ])
      refine OrdT.AnyT.one (i := 9) (by kernel_rfl) (by rfl) (fun K hK => ?_)
      refine step_append_rd (some 34) (by rfl) (by rfl) _ _ 32 (by rfl) 0 50 i0 (.agg #[.int .i64 0, .int .i64 0, .int .i64 0, .int .i64 0]) 4 32 Try.underlying32 hi hz0 hz1' hz2 rfl (by decide) (.slice p s.ins.length cap) s.ins.length FL (by rfl) (by exact HRI.out.alloc _) _ _ 1 [.int .i64 id, .int .i64 xq, .int .i64 xp, .int .i64 (-1)] (by rfl) (by exact rd_one (cs := #[.int .i64 id, .int .i64 xq, .int .i64 xp, .int .i64 (-1)]) (by exact heap_alloc_at _ _ _ rfl) rfl) (by exact ON2.out) (s.ins.length + 1) (by exact rfl) (FL ++ [.int .i64 id, .int .i64 xq, .int .i64 xp, .int .i64 (-1)]) (by exact rfl) (by exact SZ2.out.1) (by exact SZ2.out.2) (by exact Nat.zero_le _) ?_
      intro q3 d3 w3 ho3 hg3 ha3 hp3
      have HK3 := hide (KS.out w3 ((hg3.block b (by simp; omega) (by exact HOB.out)).trans (heap_alloc_old _ _ (by exact hbl))) ((hg3.block xb (by simp; omega) (by exact HOX.out)).trans (heap_alloc_old _ _ (by exact hxl))))
      have HF3 := hide (FIN.out _ _ _ _ hg3 ho3 ha3)
      clear ho3 hg3 ha3 hp3
      refine hK.out _ _ (fun _ => HK3.out) ?_
      clear hK K
      (try simp only [Act.put, List.setIfInBounds_toArray, List.set_cons_zero, List.set_cons_succ])
      refine OrdT.AnyT.one (i := 10) (by kernel_rfl) (by rfl) (fun K hK => ?_)
      go_simp
      refine hK.out _ _ (fun _ => HK3.out) ?_
      clear hK K
      (try simp only [Act.put, List.setIfInBounds_toArray, List.set_cons_zero, List.set_cons_succ])
      refine OrdT.AnyT.one (i := 11) (by kernel_rfl) (by rfl) (fun K hK => ?_)
      go_simp
      refine hK.out _ _ (fun _ => HK3.out) ?_
      clear hK K
      (try simp only [Act.put, List.setIfInBounds_toArray, List.set_cons_zero, List.set_cons_succ])
      refine OrdT.AnyT.one (i := 12) (by kernel_rfl) (by rfl) (fun K hK => ?_)
      obtain ⟨e2', e3', _, _⟩ := HK3.out
      go_simp
      refine hK.out _ _ (fun h => absurd rfl h) ?_
      clear hK K
      (try simp only [Act.put, List.setIfInBounds_toArray, List.set_cons_zero, List.set_cons_succ])
      refine OrdT.AnyT.done (by kernel_rfl) ?_ _
      refine NoPanic.normal ?_
      clear HRI KS FIN HK3
      go_wp2
      go_ret
      exact ⟨_, _, _, by rw [FE.out]; rfl, HF3.out⟩
end Go.Proofs.Ytldccbinndbcdaa.Am
