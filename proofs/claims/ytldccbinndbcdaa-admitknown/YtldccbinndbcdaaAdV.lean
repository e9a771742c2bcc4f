/- The landed book: Leave. -/
import Derived.Test.YtldccbinndbcdaaAdL2
import Derived.Test.YtldccbinndbcdaaAdD
namespace Go.Proofs.Ytldccbinndbcdaa.Am
open Go.RowKit Go.Proofs.Ytldccbinndbcdaa.Con Go.Proofs.Ytldccbinndbcdaa.Wn Go.Proofs.Ytldccbinndbcdaa.Fp
set_option linter.unusedVariables false
set_option linter.unusedSimpArgs false
attribute [local go_sem ↓] Go.wp_at_zero Go.wp_at_succ
theorem live_id {s : Bs} {id : Int} (h : isLive s id = true) : (atE s.ins (findI s id)).id = id := by
  have hl := live_lt h
  have := List.findIdx_getElem (xs := s.ins) (p := fun (e : En) => decide (e.id = id)) (w := hl)
  have h2 := of_decide_eq_true this
  rw [← atE_get hl]
  exact h2
set_option maxHeartbeats 16000000 in
set_option maxRecDepth 100000 in
theorem leave_any {w : World} {b : Nat} {s : Bs} {vi vo : Value} {H : List Lv} (h : BB w b s vi vo H) (hs : Small s) (id till now : Int) :
    Calls Try.prog 10 #[ptr b, .int .i64 id, .int .i64 till, .int .i64 now] w fun e w' => e = .returned (.int .i64 (leaveE s id till now)) ∧ ∃ vi' vo' H', Hid (BB w' b (leave s id till now) vi' vo' H' ∧ Tn w w' (RF b vi vo) (RF b vi' vo')) := by
  have H0 := hide h
  clear h
  have KEEP : Hid (∀ w', Nx w w' → BB w' b s vi vo H ∧ Tn w w' (RF b vi vo) (RF b vi vo)) := hide (fun w' hB => bkeep H0.out hB)
  by_cases h1 : till < 0
  · have E := hide (leave_1 (s := s) (id := id) (till := till) (now := now) (by omega))
    go_enter Try.func10, Try.ntmps10
    go_wp2
    go_ret
    exact ⟨by rw [E.out.1]; rfl, _, _, _, hide (by rw [E.out.2]; exact KEEP.out _ (Nx.refl _))⟩
  by_cases h2 : now < 0
  · have E := hide (leave_1 (s := s) (id := id) (till := till) (now := now) (by omega))
    go_enter Try.func10, Try.ntmps10
    go_wp2
    go_ret
    exact ⟨by rw [E.out.1]; rfl, _, _, _, hide (by rw [E.out.2]; exact KEEP.out _ (Nx.refl _))⟩
  have h12 : 0 ≤ till ∧ 0 ≤ now := by omega
  have HFI := hide (place_any H0.out hs.1 id)
  cases hl : isLive s id with
  | false =>
    have E := hide (leave_2 (s := s) (id := id) h12 hl)
    have hfv : findV s id = -1 := by unfold findV; rw [if_neg (by rw [hl]; decide)]
    rw [hfv] at HFI
    clear hl hfv h12
    go_enter Try.func10, Try.ntmps10
    go_wp2_with fail
    refine HFI.out.mono ?_
    rintro e w2 ⟨rfl, hN2⟩
    have HN2 := hide hN2
    clear hN2
    go_wp2
    go_ret
    exact ⟨by rw [E.out.1]; rfl, _, _, _, hide (by rw [E.out.2]; exact KEEP.out _ HN2.out)⟩
  | true =>
    have hf := live_lt hl
    have hfv : findV s id = (findI s id : Int) := by unfold findV; rw [if_pos hl]
    rw [hfv] at HFI
    have E0 := hide (leave_0 (s := s) (id := id) h12 hl)
    have ELF : Hid (∀ f, findI s id = f → left s id till now = ⟨s.cpus, s.ins.take f ++ s.ins.drop (f + 1), if now < till then s.outs ++ [⟨(atE s.ins f).id, (atE s.ins f).pr, till⟩] else s.outs⟩) := hide (fun f hf => by subst hf; rfl)
    have EID : Hid (∀ f, findI s id = f → (atE s.ins f).id = id) := hide (fun f hff => by subst hff; exact live_id hl)
    obtain ⟨f, hff⟩ : ∃ f, findI s id = f := ⟨_, rfl⟩
    have EL := hide (ELF.out f hff)
    have EI := hide (EID.out f hff)
    rw [hff] at hf HFI
    clear hl hfv ELF EID hff h12
    have hf1 : (f : Int) < (s.ins.length : Int) := by omega
    have hf0 : ¬ (f : Int) < 0 := by omega
    go_enter Try.func10, Try.ntmps10
    go_wp2_with fail
    refine HFI.out.mono ?_
    rintro e w2 ⟨rfl, hN2⟩
    have H2 := hide (KEEP.out _ hN2)
    have HN2 := hide hN2
    clear hN2 HFI KEEP
    by_cases ht : now < till
    rotate_left
    · have E : Hid (leaveE s id till now = 0 ∧ leave s id till now = ⟨s.cpus, s.ins.take f ++ s.ins.drop (f + 1), s.outs⟩) := hide ⟨E0.out.1, by rw [E0.out.2, EL.out, if_neg ht]⟩
      have htd : ¬ till > now := by omega
      obtain ⟨hD, hT⟩ := H2.out
      have HD := hide hD
      have HT := hide hT
      clear hD hT H2 E0 EL EI H0 HN2
      have hn32 : s.ins.length ≤ 1000 := by have := hs.1; omega
      have HDL := hide (delete_any HD.out.ins rfl hf hn32)
      have hbd : b < w2.heap.size := (Array.getElem?_eq_some_iff.1 HD.out.row).1
      have HOB : Hid (some b ≠ vi.ownBlock) := hide (fun e => own_book HD.out.ins HD.out.row (by decide) e.symm)
      obtain ⟨_, cc1, _⟩ := row3 HD.out.row
      have FIN : Hid (∀ (v' : Value) (w4 : World), w4.ownsRow 0 50 4 v' (s.ins.length - 1) (flatE (s.ins.take f ++ s.ins.drop (f + 1))) → w2.grownBy w4 vi.ownBlock → v'.ownBlock = vi.ownBlock → Hid (BB (w4.setCell ⟨b, 1, none⟩ v') b (leave s id till now) v' vo H ∧ Tn w (w4.setCell ⟨b, 1, none⟩ v') (RF b vi vo) (RF b v' vo)) ∧ w4.cell? ⟨b, 1, none⟩ = some vi ∧ w4.frozen? ⟨b, 1, none⟩ = false) := hide (fun v' w4 ho hg hv => by
        have hln : (s.ins.take f ++ s.ins.drop (f + 1)).length = s.ins.length - 1 := by simp; omega
        have hr : w4.heap[b]? = some (.cells #[.int .i64 s.cpus, vi, vo] 57 (0, 0)) := (hg.block b hbd HOB.out).trans HD.out.row
        refine ⟨hide ?_, (cell_of_row w4 b 1 _ _ _ hr).trans rfl, by simp [World.frozen?, hr]⟩
        rw [E.out.2]
        exact bput_ins (L := s.ins.take f ++ s.ins.drop (f + 1)) HD.out HT.out (Below.refl _ w2) hg (by rw [hln]; exact ho) (.inl hv))
      obtain ⟨pi, ci, hvi⟩ := ownF HD.out.ins
      subst hvi
      clear HD HT HOB
      go_wp2_with fail
      refine HDL.out.mono ?_
      rintro e w4 ⟨v4, rfl, h4⟩
      obtain ⟨p4, c4, hv4⟩ := ownF h4.out.1
      subst hv4
      obtain ⟨FF, z1, z2⟩ := FIN.out _ _ h4.out.1 h4.out.2.1 h4.out.2.2
      have FF := hide FF
      clear FIN HDL h4
      go_wp2
      go_ret
      exact ⟨by rw [E.out.1]; rfl, _, _, _, FF.out⟩
    · have E : Hid (leaveE s id till now = 0 ∧ leave s id till now = ⟨s.cpus, s.ins.take f ++ s.ins.drop (f + 1), s.outs ++ [⟨id, (atE s.ins f).pr, till⟩]⟩) := hide ⟨E0.out.1, by rw [E0.out.2, EL.out, if_pos ht, EI.out]⟩
      clear E0 EL EI
      obtain ⟨hD2, hT2⟩ := H2.out
      have HD2 := hide hD2
      have HT2 := hide hT2
      obtain ⟨b0, b1, b2⟩ := row3 hD2.row
      obtain ⟨pi, ci, hvi⟩ := ownF hD2.ins
      subst hvi
      obtain ⟨gi, oi, hpi, hgi, q0, q1, q2, q3⟩ := hD2.rdI.at hf
      subst hpi
      have hbd : b < w2.heap.size := (Array.getElem?_eq_some_iff.1 hD2.row).1
      have HPU := hide (fun (x : Pr) => put_any (hD2.on (bel_drew (Nx.refl w2))) hs.2 ⟨id, x, till⟩)
      clear hD2 hT2 H2 q0 q3 b0
      have HPU2 := hide (HPU.out (atE s.ins f).pr)
      obtain ⟨⟨x1, x2⟩, hx⟩ : ∃ x, (atE s.ins f).pr = x := ⟨_, rfl⟩
      have HQ : Hid (∀ (w' : World) (vo' : Value) (H' : List Lv) (o : List En), BB w' b ⟨s.cpus, s.ins, o⟩ (.slice (some ⟨gi, oi, none⟩) s.ins.length ci) vo' H' → w'.cell? ⟨gi, oi + f * 4 + 1, none⟩ = some (.int .i64 x1) ∧ w'.cell? ⟨gi, oi + f * 4 + 2, none⟩ = some (.int .i64 x2)) := hide (fun w' vo' H' o hB => by
        obtain ⟨g', o', e', _, _, r1, r2, _⟩ := hB.rdI.at hf
        simp only [Option.some.injEq, Addr.mk.injEq, and_true] at e'
        obtain ⟨rfl, rfl⟩ := e'
        rw [hx] at r1 r2
        exact ⟨r1, r2⟩)
      rw [hx] at q1 q2 E HPU2
      clear hx HPU
      go_wp2
      go_region_held3 (fun w' => w'.cell? ⟨b, 1, none⟩ = some (.slice (some ⟨gi, oi, none⟩) s.ins.length ci) ∧ w'.cell? ⟨gi, oi + f * 4 + 1, none⟩ = some (.int .i64 x1) ∧ w'.cell? ⟨gi, oi + f * 4 + 2, none⟩ = some (.int .i64 x2)) (first | (exact ⟨b1, q1, q2⟩) | go_keep)
        (first | (with_reducible refine HPU2.out.mono ?_; rintro e wd ⟨rfl, vod, Hd, hBD⟩; have HD := hide hBD.out.1; have HT := hide (Tn.trans HT2.out (Tn.trans (tn_drew w2 _) hBD.out.2)); clear b1 b2 q1 q2 hBD; have b1 := (row3 HD.out.row).2.1; obtain ⟨q1, q2⟩ := HQ.out _ _ _ _ HD.out))
      clear b1 q1 q2 HQ HPU2 HD2 HT2 H0 HN2
      have hn32 : s.ins.length ≤ 1000 := by have := hs.1; omega
      have HDL := hide (delete_any HD.out.ins rfl hf hn32)
      have hbd : b < wd.heap.size := (Array.getElem?_eq_some_iff.1 HD.out.row).1
      have HOB : Hid (some b ≠ (.slice (some ⟨gi, oi, none⟩) s.ins.length ci : Value).ownBlock) := hide (fun e => own_book HD.out.ins HD.out.row (by decide) e.symm)
      obtain ⟨_, cc1, _⟩ := row3 HD.out.row
      have FIN : Hid (∀ (v' : Value) (w4 : World), w4.ownsRow 0 50 4 v' (s.ins.length - 1) (flatE (s.ins.take f ++ s.ins.drop (f + 1))) → wd.grownBy w4 (.slice (some ⟨gi, oi, none⟩) s.ins.length ci : Value).ownBlock → v'.ownBlock = (.slice (some ⟨gi, oi, none⟩) s.ins.length ci : Value).ownBlock → Hid (BB (w4.setCell ⟨b, 1, none⟩ v') b (leave s id till now) v' vod Hd ∧ Tn w (w4.setCell ⟨b, 1, none⟩ v') (RF b (.slice (some ⟨gi, oi, none⟩) s.ins.length ci : Value) vo) (RF b v' vod)) ∧ w4.cell? ⟨b, 1, none⟩ = some (.slice (some ⟨gi, oi, none⟩) s.ins.length ci : Value) ∧ w4.frozen? ⟨b, 1, none⟩ = false) := hide (fun v' w4 ho hg hv => by
        have hln : (s.ins.take f ++ s.ins.drop (f + 1)).length = s.ins.length - 1 := by simp; omega
        have hr : w4.heap[b]? = some (.cells #[.int .i64 s.cpus, .slice (some ⟨gi, oi, none⟩) s.ins.length ci, vod] 57 (0, 0)) := (hg.block b hbd HOB.out).trans HD.out.row
        refine ⟨hide ?_, (cell_of_row w4 b 1 _ _ _ hr).trans rfl, by simp [World.frozen?, hr]⟩
        rw [E.out.2]
        exact bput_ins (L := s.ins.take f ++ s.ins.drop (f + 1)) HD.out HT.out (Below.refl _ wd) hg (by rw [hln]; exact ho) (.inl hv))
      clear HD HT HOB
      go_wp2_with fail
      refine HDL.out.mono ?_
      rintro e w4 ⟨v4, rfl, h4⟩
      obtain ⟨p4, c4, hv4⟩ := ownF h4.out.1
      subst hv4
      obtain ⟨FF, z1, z2⟩ := FIN.out _ _ h4.out.1 h4.out.2.1 h4.out.2.2
      have FF := hide FF
      clear FIN HDL h4
      go_wp2
      go_ret
      exact ⟨by rw [E.out.1]; rfl, _, _, _, FF.out⟩
end Go.Proofs.Ytldccbinndbcdaa.Am
