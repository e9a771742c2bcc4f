/- The reference's book: Enter. -/
import Derived.Test.YtldccbinndbcdaaAmRk
import Derived.Test.YtldccbinndbcdaaOrdT
namespace Go.Proofs.Ytldccbinndbcdaa.Am
open Go.RowKit Go.Proofs.Ytldccbinndbcdaa.Con Go.Proofs.Ytldccbinndbcdaa.Wn Go.Proofs.Ytldccbinndbcdaa.Fp
set_option linter.unusedVariables false
set_option linter.unusedSimpArgs false
attribute [local go_sem ↓] Go.wp_at_zero Go.wp_at_succ
def RF (b : Nat) (vi vo : Value) : Nat → Prop := fun k => k = b ∨ vi.ownBlock = some k ∨ vo.ownBlock = some k
theorem own_book {B e size n b : Nat} {w : World} {v : Value} {xs : List Value} {cs : Array Value} {e' : Nat} (h : w.ownsRow B e size v n xs) (hb : w.heap[b]? = some (.cells cs e' (0, 0))) (he : e ≠ e') : v.ownBlock ≠ some b := fun hk => by
  obtain ⟨cur, hc⟩ := own_blk h hk
  rw [hb] at hc
  simp only [Option.some.injEq, Obj.cells.injEq] at hc
  exact he hc.2.1.symm
/-- A new row of live ones. -/
theorem rput_ins {w wc w2 : World} {b : Nat} {s : Bs} {vi vo v' : Value} {L : List En} (h : RBk wc b s vi vo) (hN : Nx w wc) (hb : b < w.heap.size) (hB : Nx wc w2) (ho : w2.ownsRow wc.heap.size 67 4 v' L.length (flatE L)) (hvo : ∀ k, vo.ownBlock = some k → k < w.heap.size) :
    RBk (w2.setCell ⟨b, 1, none⟩ v') b ⟨s.cpus, L, s.outs⟩ v' vo ∧ Tn w (w2.setCell ⟨b, 1, none⟩ v') (RF b vi vo) (RF b v' vo) := by
  have h2 := h.on hB
  have hbc : b < wc.heap.size := (Array.getElem?_eq_some_iff.1 h.row).1
  have sz : (w2.setCell ⟨b, 1, none⟩ v').heap.size = w2.heap.size := by simp [World.setCell]
  have oth : ∀ k, k ≠ b → (w2.setCell ⟨b, 1, none⟩ v').heap[k]? = w2.heap[k]? := fun k hk => heap_setCell_other _ ⟨b, 1, none⟩ k _ hk
  have pv : ∀ k, v'.ownBlock = some k → wc.heap.size ≤ k := own_past ho
  refine ⟨⟨?_, ?_, ?_, ?_⟩, ⟨?_, ?_, ?_, ?_, ?_, ?_⟩⟩
  · rw [heap_setCell_same _ b 1 _ _ _ h2.row]; rfl
  · exact ownB (own_kept ho (fun k hk => oth k (by have := pv k hk; omega))) (Nat.zero_le _)
  · exact own_kept h2.outs (fun k hk => oth k (fun e => own_book h2.outs h2.row (by decide) (e ▸ hk)))
  · intro k hk hk'
    have a1 := pv k hk
    have a2 := hvo k hk'
    have := hN.size
    omega
  · rw [sz]; exact Nat.le_trans hN.size hB.size
  · simp only [World.setCell]; exact hB.os.trans hN.os
  · simp only [World.setCell]; exact hB.tape.trans hN.tape
  · simp only [World.setCell]; exact hB.output.trans hN.output
  · intro k hk hF
    have hkb : k ≠ b := fun e => hF (.inl e)
    rw [oth k hkb]
    exact (hB.block k (Nat.lt_of_lt_of_le hk hN.size)).trans (hN.block k hk)
  · rintro k (rfl | hk | hk)
    · exact .inl (.inl rfl)
    · exact .inr (Nat.le_trans hN.size (pv k hk))
    · exact .inl (.inr (.inr hk))
theorem rkeep {w w' : World} {b : Nat} {s : Bs} {vi vo : Value} (h : RBk w b s vi vo) (hB : Nx w w') : RBk w' b s vi vo ∧ Tn w w' (RF b vi vo) (RF b vi vo) := ⟨h.on hB, Tn.of_nx hB _⟩
set_option maxHeartbeats 16000000 in
set_option maxRecDepth 100000 in
theorem renter_any {w : World} {b : Nat} {s : Bs} {vi vo : Value} (h : RBk w b s vi vo) (hs : Small s) (id : Int) (x : Pr) (now : Int) :
    Calls Try.prog 15 #[rptr b, .int .i64 id, prv x, .int .i64 now] w fun e w' => ∃ vi' vo', e = .returned (.int .i64 (enterE s id x now)) ∧ Hid (RBk w' b (enter s id x now) vi' vo' ∧ Tn w w' (RF b vi vo) (RF b vi' vo')) := by
  obtain ⟨xq, xp⟩ := x
  obtain ⟨xb, hxb⟩ : ∃ xb, w.heap.size = xb := ⟨_, rfl⟩
  have HB0 := hide (Nx.alloc w (.cells #[.int .i64 xq, .int .i64 xp] 42))
  have H0 := hide h
  have H := hide (h.on HB0.out)
  have hbw0 : b < w.heap.size := (Array.getElem?_eq_some_iff.1 h.row).1
  have hvo := hide (own_lt h.outs)
  clear h
  have HP := hide (fun w => rgp_any xq xp w)
  have HFI := hide (rfind_any H.out hs.1 id)
  have KEEP : Hid (∀ w', Nx w w' → RBk w' b s vi vo ∧ Tn w w' (RF b vi vo) (RF b vi vo)) := hide (fun w' hB => rkeep H0.out hB)
  cases hg : gp (xq, xp) with
  | false =>
    have E := hide (enter_1 (s := s) (id := id) (arg_f1 (now := now) hg))
    rw [hg] at HP
    clear hg HFI
    go_enter Try.func15, Try.ntmps15
    go_wp2_with (go_at_call 30; refine (HP.out _).mono ?_; rintro e w9 ⟨rfl, hw9⟩; rw [hw9]; clear hw9)
    go_ret
    exact ⟨_, _, by rw [E.out.1]; rfl, hide (by rw [E.out.2]; exact KEEP.out _ HB0.out)⟩
  | true =>
    rw [hg] at HP
    by_cases hw : now < 0
    · have E := hide (enter_1 (s := s) (id := id) (arg_f2 (x := (xq, xp)) hw))
      clear hg HFI
      go_enter Try.func15, Try.ntmps15
      go_wp2_with (go_at_call 30; refine (HP.out _).mono ?_; rintro e w9 ⟨rfl, hw9⟩; rw [hw9]; clear hw9)
      go_ret
      exact ⟨_, _, by rw [E.out.1]; rfl, hide (by rw [E.out.2]; exact KEEP.out _ HB0.out)⟩
    have ha := arg_t hg (show 0 ≤ now by omega)
    cases hl : isLive s id with
    | true =>
      have E := hide (enter_5 ha hl)
      have hfv : 0 ≤ findV s id := by unfold findV; rw [if_pos hl]; omega
      clear hg ha hl
      generalize findV s id = fv at *
      go_enter Try.func15, Try.ntmps15
      go_upto_region 3 with (go_at_call 30; refine (HP.out _).mono ?_; rintro e w9 ⟨rfl, hw9⟩; rw [hw9]; clear hw9)
      go_wp2_with fail
      refine HFI.out.mono ?_
      rintro e w2 ⟨rfl, hN2⟩
      have HN2 := hide (Nx.trans HB0.out hN2)
      clear hN2
      go_wp2
      go_ret
      exact ⟨_, _, by rw [E.out.1]; rfl, hide (by rw [E.out.2]; exact KEEP.out _ HN2.out)⟩
    | false =>
      have hfv : findV s id = -1 := by unfold findV; rw [if_neg (by rw [hl]; decide)]
      rw [hfv] at HFI
      have EA := hide (enter_a (s := s) (id := id) ha hl)
      have EY : Hid (askE s (xq, xp) now = 0 → enterE s id (xq, xp) now = 0 ∧ enter s id (xq, xp) now = entered s id (xq, xp)) := hide (fun h0 => ⟨EA.out.trans h0, enter_y (EA.out.trans h0)⟩)
      have EN : Hid (askE s (xq, xp) now ≠ 0 → enter s id (xq, xp) now = s) := hide (fun h0 => enter_n (by rw [EA.out]; exact h0))
      have HAK := hide (fun w' (hR : RBk w' b s vi vo) => rask_any hR hs (xq, xp) now)
      clear hg ha hl hfv
      go_enter Try.func15, Try.ntmps15
      go_upto_region 3 with (go_at_call 30; refine (HP.out _).mono ?_; rintro e w9 ⟨rfl, hw9⟩; rw [hw9]; clear hw9)
      go_wp2_with fail
      refine HFI.out.mono ?_
      rintro e w2 ⟨rfl, hN2⟩
      have HN2 := hide hN2
      have H2 := hide (H.out.on hN2)
      obtain ⟨y0, y1⟩ := xcells hN2
      clear hN2 HFI
      rw [hxb] at y0 y1
      (try rw [hxb])
      go_wp2_with fail
      refine (HAK.out _ H2.out).mono ?_
      rintro e wc ⟨rfl, hNc⟩
      have HNc := hide (Nx.trans HN2.out hNc)
      have Hc := hide (H2.out.on hNc)
      clear hNc HAK H2 y0 y1 HN2
      have HNw := hide (Nx.trans HB0.out HNc.out)
      by_cases h0 : askE s (xq, xp) now = 0
      rotate_left
      · have E := hide (EN.out h0)
        have EA2 := hide EA.out
        generalize askE s (xq, xp) now = ae at *
        have h0' : (ae == 0) = false := by simp [h0]
        clear Hc H
        go_wp2
        go_ret
        exact ⟨_, _, by rw [EA2.out]; rfl, hide (by rw [E.out]; exact KEEP.out _ HNw.out)⟩
      obtain ⟨FE0, FS0⟩ := EY.out h0
      have FE := hide FE0
      have FS := hide FS0
      rw [h0]
      obtain ⟨y0, y1⟩ := xcells HNc.out
      rw [hxb] at y0 y1
      obtain ⟨p, cap, rfl, hn, hm⟩ := Hc.out.rdI.form
      have hl32 := hs.1
      obtain ⟨_, c1, _⟩ := row3 Hc.out.row
      have hbl : b < wc.heap.size := World.block_lt_of_cell? wc _ c1
      have hxl : xb < wc.heap.size := World.block_lt_of_cell? wc _ y0
      have fz : wc.frozen? ⟨b, 1, none⟩ = false := by simp [World.frozen?, Hc.out.row]
      have KS : Hid (∀ w', Below wc.heap.size wc w' → w'.cell? ⟨b, 1, none⟩ = some (.slice p s.ins.length cap) ∧ w'.frozen? ⟨b, 1, none⟩ = false ∧ w'.cell? ⟨xb, 0, none⟩ = some (.int .i64 xq) ∧ w'.cell? ⟨xb, 1, none⟩ = some (.int .i64 xp)) := hide (fun w' hB => ⟨(hB.cell (p := ⟨b, 1, none⟩) hbl).trans c1, by simp [World.frozen?, (hB.block b hbl).trans Hc.out.row], (hB.cell (p := ⟨xb, 0, none⟩) hxl).trans y0, (hB.cell (p := ⟨xb, 1, none⟩) hxl).trans y1⟩)
      have FIN : Hid (∀ q d w2, Below wc.heap.size wc w2 → w2.ownsRow wc.heap.size 67 4 (.slice q (s.ins.length + 1) d) (s.ins.length + 1) (flatE s.ins ++ [.int .i64 id, .int .i64 xq, .int .i64 xp, .int .i64 (-1)]) → Hid (RBk (w2.setCell ⟨b, 1, none⟩ (.slice q (s.ins.length + 1) d)) b (enter s id (xq, xp) now) (.slice q (s.ins.length + 1) d) vo ∧ Tn w (w2.setCell ⟨b, 1, none⟩ (.slice q (s.ins.length + 1) d)) (RF b (.slice p s.ins.length cap) vo) (RF b (.slice q (s.ins.length + 1) d) vo))) := hide (fun q d w2 hB ho => hide (by
        rw [FS.out]
        have e1 : (s.ins ++ [(⟨id, (xq, xp), -1⟩ : En)]).length = s.ins.length + 1 := by simp
        have e2 : flatE (s.ins ++ [(⟨id, (xq, xp), -1⟩ : En)]) = flatE s.ins ++ [.int .i64 id, .int .i64 xq, .int .i64 xp, .int .i64 (-1)] := flatE_snoc1 _ _
        exact rput_ins (L := s.ins ++ [(⟨id, (xq, xp), -1⟩ : En)]) Hc.out HNw.out hbw0 hB (by rw [e1, e2]; exact ho) hvo.out))
      obtain ⟨i0, hi, hz0, hz1', hz2⟩ := info_parts infoEn
      have RL := hide (show RdC wc wc.heap.size 4 (.slice p s.ins.length cap) s.ins.length (flatE s.ins) from Hc.out.rdI)
      have ON1 : Hid (∀ u ∈ flatE s.ins, u.oneCell' = true) := hide (flatE_one _)
      have ON2 : Hid (∀ u ∈ [Value.int .i64 id, .int .i64 xq, .int .i64 xp, .int .i64 (-1)], u.oneCell' = true) := hide (by intro u hu; simp at hu; rcases hu with rfl | rfl | rfl | rfl <;> rfl)
      have SZ1 : Hid (s.ins.length ≤ maxLen ∧ s.ins.length * 32 ≤ 140737488355328) := hide ⟨by unfold maxLen; omega, by omega⟩
      have SZ2 : Hid (s.ins.length + 1 ≤ maxLen ∧ (s.ins.length + 1) * 32 ≤ 140737488355328) := hide ⟨by unfold maxLen; omega, by omega⟩
      clear FE0 FS0 FS EY EN EA KEEP HP H0 H Hc hs hvo HNw HNc HB0
      generalize flatE s.ins = FL at *
      obtain ⟨FX, hFX⟩ : ∃ FX, FL ++ [.int .i64 id, .int .i64 xq, .int .i64 xp, .int .i64 (-1)] = FX := ⟨_, rfl⟩
      have EFX := hide hFX
      rw [hFX] at FIN
      clear hFX
      go_wp2
      refine wp_region_noPanic ?_
      refine OrdT.region_T (S := fun w' => w'.cell? ⟨b, 1, none⟩ = some (.slice p s.ins.length cap) ∧ w'.frozen? ⟨b, 1, none⟩ = false ∧ w'.cell? ⟨xb, 0, none⟩ = some (.int .i64 xq) ∧ w'.cell? ⟨xb, 1, none⟩ = some (.int .i64 xp)) 14 (by kernel_rfl) ?_ (fun hHeld => ?_)
      · exact KS.out _ (bel_drew (Below.refl _ _))
      refine OrdT.AnyT.take (i := 0) (v := ?_) (some 30) (by rfl) (by rfl) (by kernel_rfl) (by kernel_rfl) (by kernel_rfl) (by kernel_rfl) (fun _ _ _ h => h) (Or.inl ⟨by rfl, ?_⟩) (by assumption) ?_
      rotate_left
      · intro w hSw; (try dsimp only at hSw); first | (go_simp; done) | (go_simp; with_reducible rfl)
      (try simp only [Act.put, List.setIfInBounds_toArray, List.set_cons_zero, List.set_cons_succ])
      refine OrdT.AnyT.take (i := 2) (v := ?_) (some 32) (by rfl) (by rfl) (by kernel_rfl) (by kernel_rfl) (by kernel_rfl) (by kernel_rfl) (fun _ _ _ h => h) (Or.inl ⟨by rfl, ?_⟩) (by assumption) ?_
      rotate_left
      · intro w hSw; (try dsimp only at hSw); first | (go_simp; done) | (go_simp; with_reducible rfl)
      (try simp only [Act.put, List.setIfInBounds_toArray, List.set_cons_zero, List.set_cons_succ])
      refine OrdT.AnyT.take (i := 3) (v := ?_) (some 33) (by rfl) (by rfl) (by kernel_rfl) (by kernel_rfl) (by kernel_rfl) (by kernel_rfl) (fun _ _ _ h => h) (Or.inl ⟨by rfl, ?_⟩) (by assumption) ?_
      rotate_left
      · intro w hSw; (try dsimp only at hSw); first | (go_simp; done) | (go_simp; with_reducible rfl)
      (try simp only [Act.put, List.setIfInBounds_toArray, List.set_cons_zero, List.set_cons_succ])
      refine OrdT.AnyT.take (i := 4) (v := ?_) (some 34) (by rfl) (by rfl) (by kernel_rfl) (by kernel_rfl) (by kernel_rfl) (by kernel_rfl) (fun _ _ _ h => h) (Or.inl ⟨by rfl, ?_⟩) (by assumption) ?_
      rotate_left
      · intro w hSw; (try dsimp only at hSw); first | (go_simp; done) | (go_simp; with_reducible rfl)
      (try simp only [Act.put, List.setIfInBounds_toArray, List.set_cons_zero, List.set_cons_succ])
      refine OrdT.AnyT.take (i := 5) (v := ?_) (some 35) (by rfl) (by rfl) (by kernel_rfl) (by kernel_rfl) (by kernel_rfl) (by kernel_rfl) (fun _ _ _ h => h) (Or.inl ⟨by rfl, ?_⟩) (by assumption) ?_
      rotate_left
      · intro w hSw; (try dsimp only at hSw); first | (go_simp; done) | (go_simp; with_reducible rfl)
      (try simp only [Act.put, List.setIfInBounds_toArray, List.set_cons_zero, List.set_cons_succ])
      refine OrdT.AnyT.take (i := 7) (v := ?_) (some 37) (by rfl) (by rfl) (by kernel_rfl) (by kernel_rfl) (by kernel_rfl) (by kernel_rfl) (fun _ _ _ h => h) (Or.inl ⟨by rfl, ?_⟩) (by assumption) ?_
      rotate_left
      · intro w hSw; (try dsimp only at hSw); first | (go_simp; done) | (go_simp; with_reducible rfl)
      (try simp only [Act.put, List.setIfInBounds_toArray, List.set_cons_zero, List.set_cons_succ])
      refine OrdT.AnyT.take (i := 8) (v := ?_) (some 38) (by rfl) (by rfl) (by kernel_rfl) (by kernel_rfl) (by kernel_rfl) (by kernel_rfl) (fun _ _ _ h => h) (Or.inl ⟨by rfl, ?_⟩) (by assumption) ?_
      rotate_left
      · intro w hSw; (try dsimp only at hSw); first | (go_simp; done) | (go_simp; with_reducible rfl)
      (try simp only [Act.put, List.setIfInBounds_toArray, List.set_cons_zero, List.set_cons_succ])
      refine OrdT.AnyT.take (i := 9) (v := ?_) (some 39) (by rfl) (by rfl) (by kernel_rfl) (by kernel_rfl) (by kernel_rfl) (by kernel_rfl) (fun _ _ _ h => h) (Or.inl ⟨by rfl, ?_⟩) (by assumption) ?_
      rotate_left
      · intro w hSw; (try dsimp only at hSw); first | (go_simp; done) | (go_simp; with_reducible rfl)
      (try simp only [Act.put, List.setIfInBounds_toArray, List.set_cons_zero, List.set_cons_succ])
      clear hHeld
      refine OrdT.AnyT.two (i := 1) (j := 10) (by kernel_rfl) (by rfl) (by rfl) (fun K hK => ?_) (fun K hK => ?_)
      · go_simp
        refine hK.out _ _ (fun _ => KS.out _ (by repeat (first | (with_reducible exact Below.refl _ _) | (with_reducible exact HB2) | (with_reducible exact HB1) | refine bel_drew ?_ | refine bel_alloc ?_ (Nat.le_refl _) _))) ?_
        clear hK K
        (try simp only [Act.put, List.setIfInBounds_toArray, List.set_cons_zero, List.set_cons_succ])
        refine OrdT.AnyT.two (i := 6) (j := 10) (by kernel_rfl) (by rfl) (by rfl) (fun K hK => ?_) (fun K hK => ?_)
        · refine step_append_rd (some 36) (by rfl) (by rfl) _ _ 37 (by rfl) wc.heap.size 67 i0 (.agg #[.int .i64 0, .int .i64 0, .int .i64 0, .int .i64 0]) 4 32 Try.underlying37 hi hz0 hz1' hz2 rfl (by decide) (.slice (some ⟨wc.heap.size, 0, none⟩) 0 0) 0 [] (by rfl) (by exact own_empty (by first | exact heap_alloc_at _ _ _ (by simp) | exact (Below.heap_alloc _ _ _ (by simp)).trans (heap_alloc_at _ _ _ (by simp))) (by first | exact Nat.le_refl _ | simp)) _ (.slice p s.ins.length cap) s.ins.length FL (by rfl) (by exact (RL.out.below (by repeat (first | (with_reducible exact Below.refl _ _) | (with_reducible exact HB2) | (with_reducible exact HB1) | refine bel_drew ?_ | refine bel_alloc ?_ (Nat.le_refl _) _)))) (by exact ON1.out) s.ins.length (by exact Nat.zero_add _) FL (by exact List.nil_append FL) (by exact SZ1.out.1) (by exact SZ1.out.2) (by exact bel_le (W := wc) (Nat.le_refl _) (by repeat (first | (with_reducible exact Below.refl _ _) | (with_reducible exact HB2) | (with_reducible exact HB1) | refine bel_drew ?_ | refine bel_alloc ?_ (Nat.le_refl _) _))) ?_
          intro q1 d1 w1 ho1 hg1 ha1 hp1
          have HB1 : Below wc.heap.size wc w1 := below_grown (by repeat (first | (with_reducible exact Below.refl _ _) | (with_reducible exact HB2) | (with_reducible exact HB1) | refine bel_drew ?_ | refine bel_alloc ?_ (Nat.le_refl _) _)) (by exact bel_le (W := wc) (Nat.le_refl _) (by repeat (first | (with_reducible exact Below.refl _ _) | (with_reducible exact HB2) | (with_reducible exact HB1) | refine bel_drew ?_ | refine bel_alloc ?_ (Nat.le_refl _) _))) hg1 hp1
          clear ha1 hp1
          refine hK.out _ _ (fun _ => KS.out _ HB1) ?_
          clear hK K
          (try simp only [Act.put, List.setIfInBounds_toArray, List.set_cons_zero, List.set_cons_succ])
          refine OrdT.AnyT.one (i := 10) (by kernel_rfl) (by rfl) (fun K hK => ?_)
          go_simp
          refine hK.out _ _ (fun _ => KS.out _ (by repeat (first | (with_reducible exact Below.refl _ _) | (with_reducible exact HB2) | (with_reducible exact HB1) | refine bel_drew ?_ | refine bel_alloc ?_ (Nat.le_refl _) _))) ?_
          clear hK K
          (try simp only [Act.put, List.setIfInBounds_toArray, List.set_cons_zero, List.set_cons_succ])
          refine OrdT.AnyT.one (i := 11) (by kernel_rfl) (by rfl) (fun K hK => ?_)
          refine step_append_rd (some 41) (by rfl) (by rfl) _ _ 37 (by rfl) wc.heap.size 67 i0 (.agg #[.int .i64 0, .int .i64 0, .int .i64 0, .int .i64 0]) 4 32 Try.underlying37 hi hz0 hz1' hz2 rfl (by decide) (.slice q1 s.ins.length d1) s.ins.length FL (by rfl) (by first | exact ho1 | exact own_kept ho1 (fun k e => Below.heap_alloc _ _ _ (own_lt ho1 k e))) _ _ 1 [.int .i64 id, .int .i64 xq, .int .i64 xp, .int .i64 (-1)] (by rfl) (by exact rd_one (cs := #[.int .i64 id, .int .i64 xq, .int .i64 xp, .int .i64 (-1)]) (by exact heap_alloc_at _ _ _ rfl) rfl) (by exact ON2.out) (s.ins.length + 1) (by exact rfl) FX (by exact EFX.out) (by exact SZ2.out.1) (by exact SZ2.out.2) (by exact bel_le (W := wc) (Nat.le_refl _) (by repeat (first | (with_reducible exact Below.refl _ _) | (with_reducible exact HB2) | (with_reducible exact HB1) | refine bel_drew ?_ | refine bel_alloc ?_ (Nat.le_refl _) _))) ?_
          intro q2 d2 w2 ho2 hg2 ha2 hp2
          have HB2 : Below wc.heap.size wc w2 := below_grown (by repeat (first | (with_reducible exact Below.refl _ _) | (with_reducible exact HB2) | (with_reducible exact HB1) | refine bel_drew ?_ | refine bel_alloc ?_ (Nat.le_refl _) _)) (by exact bel_le (W := wc) (Nat.le_refl _) (by repeat (first | (with_reducible exact Below.refl _ _) | (with_reducible exact HB2) | (with_reducible exact HB1) | refine bel_drew ?_ | refine bel_alloc ?_ (Nat.le_refl _) _))) hg2 hp2
          clear ha2 hp2
          refine hK.out _ _ (fun _ => KS.out _ HB2) ?_
          clear hK K
          (try simp only [Act.put, List.setIfInBounds_toArray, List.set_cons_zero, List.set_cons_succ])
          refine OrdT.AnyT.one (i := 12) (by kernel_rfl) (by rfl) (fun K hK => ?_)
          go_simp
          refine hK.out _ _ (fun _ => KS.out _ HB2) ?_
          clear hK K
          (try simp only [Act.put, List.setIfInBounds_toArray, List.set_cons_zero, List.set_cons_succ])
          refine OrdT.AnyT.one (i := 13) (by kernel_rfl) (by rfl) (fun K hK => ?_)
          go_simp
          refine hK.out _ _ (fun _ => KS.out _ HB2) ?_
          clear hK K
          (try simp only [Act.put, List.setIfInBounds_toArray, List.set_cons_zero, List.set_cons_succ])
          refine OrdT.AnyT.one (i := 14) (by kernel_rfl) (by rfl) (fun K hK => ?_)
          obtain ⟨e2, e3, _, _⟩ := KS.out _ HB2
          go_simp
          refine hK.out _ _ (fun h => absurd rfl h) ?_
          clear hK K
          (try simp only [Act.put, List.setIfInBounds_toArray, List.set_cons_zero, List.set_cons_succ])
          refine OrdT.AnyT.done (by kernel_rfl) ?_ _
          refine NoPanic.normal ?_
          have HF := FIN.out _ _ _ HB2 ho2
          clear RL KS
          go_wp2
          go_ret
          exact ⟨_, _, by rw [FE.out]; rfl, HF⟩
        · go_simp
          refine hK.out _ _ (fun _ => KS.out _ (by repeat (first | (with_reducible exact Below.refl _ _) | (with_reducible exact HB2) | (with_reducible exact HB1) | refine bel_drew ?_ | refine bel_alloc ?_ (Nat.le_refl _) _))) ?_
          clear hK K
          (try simp only [Act.put, List.setIfInBounds_toArray, List.set_cons_zero, List.set_cons_succ])
          refine OrdT.AnyT.one (i := 6) (by kernel_rfl) (by rfl) (fun K hK => ?_)
          refine step_append_rd (some 36) (by rfl) (by rfl) _ _ 37 (by rfl) wc.heap.size 67 i0 (.agg #[.int .i64 0, .int .i64 0, .int .i64 0, .int .i64 0]) 4 32 Try.underlying37 hi hz0 hz1' hz2 rfl (by decide) (.slice (some ⟨wc.heap.size, 0, none⟩) 0 0) 0 [] (by rfl) (by exact own_empty (by first | exact heap_alloc_at _ _ _ (by simp) | exact (Below.heap_alloc _ _ _ (by simp)).trans (heap_alloc_at _ _ _ (by simp))) (by first | exact Nat.le_refl _ | simp)) _ (.slice p s.ins.length cap) s.ins.length FL (by rfl) (by exact (RL.out.below (by repeat (first | (with_reducible exact Below.refl _ _) | (with_reducible exact HB2) | (with_reducible exact HB1) | refine bel_drew ?_ | refine bel_alloc ?_ (Nat.le_refl _) _)))) (by exact ON1.out) s.ins.length (by exact Nat.zero_add _) FL (by exact List.nil_append FL) (by exact SZ1.out.1) (by exact SZ1.out.2) (by exact bel_le (W := wc) (Nat.le_refl _) (by repeat (first | (with_reducible exact Below.refl _ _) | (with_reducible exact HB2) | (with_reducible exact HB1) | refine bel_drew ?_ | refine bel_alloc ?_ (Nat.le_refl _) _))) ?_
          intro q1 d1 w1 ho1 hg1 ha1 hp1
          have HB1 : Below wc.heap.size wc w1 := below_grown (by repeat (first | (with_reducible exact Below.refl _ _) | (with_reducible exact HB2) | (with_reducible exact HB1) | refine bel_drew ?_ | refine bel_alloc ?_ (Nat.le_refl _) _)) (by exact bel_le (W := wc) (Nat.le_refl _) (by repeat (first | (with_reducible exact Below.refl _ _) | (with_reducible exact HB2) | (with_reducible exact HB1) | refine bel_drew ?_ | refine bel_alloc ?_ (Nat.le_refl _) _))) hg1 hp1
          clear ha1 hp1
          refine hK.out _ _ (fun _ => KS.out _ HB1) ?_
          clear hK K
          (try simp only [Act.put, List.setIfInBounds_toArray, List.set_cons_zero, List.set_cons_succ])
          refine OrdT.AnyT.one (i := 11) (by kernel_rfl) (by rfl) (fun K hK => ?_)
          refine step_append_rd (some 41) (by rfl) (by rfl) _ _ 37 (by rfl) wc.heap.size 67 i0 (.agg #[.int .i64 0, .int .i64 0, .int .i64 0, .int .i64 0]) 4 32 Try.underlying37 hi hz0 hz1' hz2 rfl (by decide) (.slice q1 s.ins.length d1) s.ins.length FL (by rfl) (by first | exact ho1 | exact own_kept ho1 (fun k e => Below.heap_alloc _ _ _ (own_lt ho1 k e))) _ _ 1 [.int .i64 id, .int .i64 xq, .int .i64 xp, .int .i64 (-1)] (by rfl) (by exact rd_one (cs := #[.int .i64 id, .int .i64 xq, .int .i64 xp, .int .i64 (-1)]) (by exact (hg1.block _ (by first | (simp; done) | (simp; omega)) (by simp [Value.ownBlock])).trans (heap_alloc_at _ _ _ (by first | (simp; done) | (simp; omega)))) rfl) (by exact ON2.out) (s.ins.length + 1) (by exact rfl) FX (by exact EFX.out) (by exact SZ2.out.1) (by exact SZ2.out.2) (by exact bel_le (W := wc) (Nat.le_refl _) (by repeat (first | (with_reducible exact Below.refl _ _) | (with_reducible exact HB2) | (with_reducible exact HB1) | refine bel_drew ?_ | refine bel_alloc ?_ (Nat.le_refl _) _))) ?_
          intro q2 d2 w2 ho2 hg2 ha2 hp2
          have HB2 : Below wc.heap.size wc w2 := below_grown (by repeat (first | (with_reducible exact Below.refl _ _) | (with_reducible exact HB2) | (with_reducible exact HB1) | refine bel_drew ?_ | refine bel_alloc ?_ (Nat.le_refl _) _)) (by exact bel_le (W := wc) (Nat.le_refl _) (by repeat (first | (with_reducible exact Below.refl _ _) | (with_reducible exact HB2) | (with_reducible exact HB1) | refine bel_drew ?_ | refine bel_alloc ?_ (Nat.le_refl _) _))) hg2 hp2
          clear ha2 hp2
          refine hK.out _ _ (fun _ => KS.out _ HB2) ?_
          clear hK K
          (try simp only [Act.put, List.setIfInBounds_toArray, List.set_cons_zero, List.set_cons_succ])
          refine OrdT.AnyT.one (i := 12) (by kernel_rfl) (by rfl) (fun K hK => ?_)
          go_simp
          refine hK.out _ _ (fun _ => KS.out _ HB2) ?_
          clear hK K
          (try simp only [Act.put, List.setIfInBounds_toArray, List.set_cons_zero, List.set_cons_succ])
          refine OrdT.AnyT.one (i := 13) (by kernel_rfl) (by rfl) (fun K hK => ?_)
          go_simp
          refine hK.out _ _ (fun _ => KS.out _ HB2) ?_
          clear hK K
          (try simp only [Act.put, List.setIfInBounds_toArray, List.set_cons_zero, List.set_cons_succ])
          refine OrdT.AnyT.one (i := 14) (by kernel_rfl) (by rfl) (fun K hK => ?_)
          obtain ⟨e2, e3, _, _⟩ := KS.out _ HB2
          go_simp
          refine hK.out _ _ (fun h => absurd rfl h) ?_
          clear hK K
          (try simp only [Act.put, List.setIfInBounds_toArray, List.set_cons_zero, List.set_cons_succ])
          refine OrdT.AnyT.done (by kernel_rfl) ?_ _
          refine NoPanic.normal ?_
          have HF := FIN.out _ _ _ HB2 ho2
          clear RL KS
          go_wp2
          go_ret
          exact ⟨_, _, by rw [FE.out]; rfl, HF⟩
      · go_simp
        refine hK.out _ _ (fun _ => KS.out _ (by repeat (first | (with_reducible exact Below.refl _ _) | (with_reducible exact HB2) | (with_reducible exact HB1) | refine bel_drew ?_ | refine bel_alloc ?_ (Nat.le_refl _) _))) ?_
        clear hK K
        (try simp only [Act.put, List.setIfInBounds_toArray, List.set_cons_zero, List.set_cons_succ])
        refine OrdT.AnyT.one (i := 1) (by kernel_rfl) (by rfl) (fun K hK => ?_)
        go_simp
        refine hK.out _ _ (fun _ => KS.out _ (by repeat (first | (with_reducible exact Below.refl _ _) | (with_reducible exact HB2) | (with_reducible exact HB1) | refine bel_drew ?_ | refine bel_alloc ?_ (Nat.le_refl _) _))) ?_
        clear hK K
        (try simp only [Act.put, List.setIfInBounds_toArray, List.set_cons_zero, List.set_cons_succ])
        refine OrdT.AnyT.one (i := 6) (by kernel_rfl) (by rfl) (fun K hK => ?_)
        refine step_append_rd (some 36) (by rfl) (by rfl) _ _ 37 (by rfl) wc.heap.size 67 i0 (.agg #[.int .i64 0, .int .i64 0, .int .i64 0, .int .i64 0]) 4 32 Try.underlying37 hi hz0 hz1' hz2 rfl (by decide) (.slice (some ⟨wc.heap.size + 1, 0, none⟩) 0 0) 0 [] (by rfl) (by exact own_empty (by first | exact heap_alloc_at _ _ _ (by simp) | exact (Below.heap_alloc _ _ _ (by simp)).trans (heap_alloc_at _ _ _ (by simp))) (by first | exact Nat.le_refl _ | simp)) _ (.slice p s.ins.length cap) s.ins.length FL (by rfl) (by exact (RL.out.below (by repeat (first | (with_reducible exact Below.refl _ _) | (with_reducible exact HB2) | (with_reducible exact HB1) | refine bel_drew ?_ | refine bel_alloc ?_ (Nat.le_refl _) _)))) (by exact ON1.out) s.ins.length (by exact Nat.zero_add _) FL (by exact List.nil_append FL) (by exact SZ1.out.1) (by exact SZ1.out.2) (by exact bel_le (W := wc) (Nat.le_refl _) (by repeat (first | (with_reducible exact Below.refl _ _) | (with_reducible exact HB2) | (with_reducible exact HB1) | refine bel_drew ?_ | refine bel_alloc ?_ (Nat.le_refl _) _))) ?_
        intro q1 d1 w1 ho1 hg1 ha1 hp1
        have HB1 : Below wc.heap.size wc w1 := below_grown (by repeat (first | (with_reducible exact Below.refl _ _) | (with_reducible exact HB2) | (with_reducible exact HB1) | refine bel_drew ?_ | refine bel_alloc ?_ (Nat.le_refl _) _)) (by exact bel_le (W := wc) (Nat.le_refl _) (by repeat (first | (with_reducible exact Below.refl _ _) | (with_reducible exact HB2) | (with_reducible exact HB1) | refine bel_drew ?_ | refine bel_alloc ?_ (Nat.le_refl _) _))) hg1 hp1
        clear ha1 hp1
        refine hK.out _ _ (fun _ => KS.out _ HB1) ?_
        clear hK K
        (try simp only [Act.put, List.setIfInBounds_toArray, List.set_cons_zero, List.set_cons_succ])
        refine OrdT.AnyT.one (i := 11) (by kernel_rfl) (by rfl) (fun K hK => ?_)
        refine step_append_rd (some 41) (by rfl) (by rfl) _ _ 37 (by rfl) wc.heap.size 67 i0 (.agg #[.int .i64 0, .int .i64 0, .int .i64 0, .int .i64 0]) 4 32 Try.underlying37 hi hz0 hz1' hz2 rfl (by decide) (.slice q1 s.ins.length d1) s.ins.length FL (by rfl) (by first | exact ho1 | exact own_kept ho1 (fun k e => Below.heap_alloc _ _ _ (own_lt ho1 k e))) _ _ 1 [.int .i64 id, .int .i64 xq, .int .i64 xp, .int .i64 (-1)] (by rfl) (by exact rd_one (cs := #[.int .i64 id, .int .i64 xq, .int .i64 xp, .int .i64 (-1)]) (by exact (hg1.block _ (by first | (simp; done) | (simp; omega)) (by simp [Value.ownBlock])).trans ((heap_alloc_old _ _ (by first | (simp; done) | (simp; omega))).trans (heap_alloc_at _ _ _ (by first | (simp; done) | (simp; omega))))) rfl) (by exact ON2.out) (s.ins.length + 1) (by exact rfl) FX (by exact EFX.out) (by exact SZ2.out.1) (by exact SZ2.out.2) (by exact bel_le (W := wc) (Nat.le_refl _) (by repeat (first | (with_reducible exact Below.refl _ _) | (with_reducible exact HB2) | (with_reducible exact HB1) | refine bel_drew ?_ | refine bel_alloc ?_ (Nat.le_refl _) _))) ?_
        intro q2 d2 w2 ho2 hg2 ha2 hp2
        have HB2 : Below wc.heap.size wc w2 := below_grown (by repeat (first | (with_reducible exact Below.refl _ _) | (with_reducible exact HB2) | (with_reducible exact HB1) | refine bel_drew ?_ | refine bel_alloc ?_ (Nat.le_refl _) _)) (by exact bel_le (W := wc) (Nat.le_refl _) (by repeat (first | (with_reducible exact Below.refl _ _) | (with_reducible exact HB2) | (with_reducible exact HB1) | refine bel_drew ?_ | refine bel_alloc ?_ (Nat.le_refl _) _))) hg2 hp2
        clear ha2 hp2
        refine hK.out _ _ (fun _ => KS.out _ HB2) ?_
        clear hK K
        (try simp only [Act.put, List.setIfInBounds_toArray, List.set_cons_zero, List.set_cons_succ])
        refine OrdT.AnyT.one (i := 12) (by kernel_rfl) (by rfl) (fun K hK => ?_)
        go_simp
        refine hK.out _ _ (fun _ => KS.out _ HB2) ?_
        clear hK K
        (try simp only [Act.put, List.setIfInBounds_toArray, List.set_cons_zero, List.set_cons_succ])
        refine OrdT.AnyT.one (i := 13) (by kernel_rfl) (by rfl) (fun K hK => ?_)
        go_simp
        refine hK.out _ _ (fun _ => KS.out _ HB2) ?_
        clear hK K
        (try simp only [Act.put, List.setIfInBounds_toArray, List.set_cons_zero, List.set_cons_succ])
        refine OrdT.AnyT.one (i := 14) (by kernel_rfl) (by rfl) (fun K hK => ?_)
        obtain ⟨e2, e3, _, _⟩ := KS.out _ HB2
        go_simp
        refine hK.out _ _ (fun h => absurd rfl h) ?_
        clear hK K
        (try simp only [Act.put, List.setIfInBounds_toArray, List.set_cons_zero, List.set_cons_succ])
        refine OrdT.AnyT.done (by kernel_rfl) ?_ _
        refine NoPanic.normal ?_
        have HF := FIN.out _ _ _ HB2 ho2
        clear RL KS
        go_wp2
        go_ret
        exact ⟨_, _, by rw [FE.out]; rfl, HF⟩
end Go.Proofs.Ytldccbinndbcdaa.Am
