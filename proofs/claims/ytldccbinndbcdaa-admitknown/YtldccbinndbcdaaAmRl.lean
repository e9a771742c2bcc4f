/- The reference's book: Leave. -/
import Derived.Test.YtldccbinndbcdaaAmRe
namespace Go.Proofs.Ytldccbinndbcdaa.Am
open Go.RowKit Go.Proofs.Ytldccbinndbcdaa.Con Go.Proofs.Ytldccbinndbcdaa.Wn Go.Proofs.Ytldccbinndbcdaa.Fp
set_option linter.unusedVariables false
set_option linter.unusedSimpArgs false
attribute [local go_sem ↓] Go.wp_at_zero Go.wp_at_succ
theorem flatE_drop (L : List En) (k : Nat) : (flatE L).drop (k * 4) = flatE (L.drop k) := by
  induction L generalizing k with
  | nil => simp [flatE]
  | cons x L ih =>
    cases k with
    | zero => simp
    | succ k => rw [show (k + 1) * 4 = k * 4 + 4 by omega]; simp only [flatE, List.drop_succ_cons]; exact ih k
theorem flatE_take (L : List En) (k : Nat) : (flatE L).take (k * 4) = flatE (L.take k) := by
  induction L generalizing k with
  | nil => simp [flatE]
  | cons x L ih =>
    cases k with
    | zero => simp [flatE]
    | succ k => rw [show (k + 1) * 4 = k * 4 + 4 by omega]; simp only [flatE, List.take_succ_cons]; rw [ih k]
theorem Es.upto {W : World} {v : Value} {L : List En} (h : Es W v L) (k : Nat) (hk : k ≤ L.length) :
    ∃ p c, (∀ w : World, (Instr.slice 37 v none (some (.int .i64 (k : Int))) none).run Try.prog w = .ok (.slice p k c) w) ∧ RdC W W.heap.size 4 (.slice p k c) k (flatE (L.take k)) := by
  obtain ⟨i0, hi, hz0, hz1, hz2⟩ := info_parts infoEn
  obtain ⟨p, c, h1, h2⟩ := RdC.upto h 37 67 i0 Try.underlying37 hi hz1 k hk
  rw [flatE_take] at h2
  exact ⟨p, c, h1, h2⟩
theorem Es.from {W : World} {v : Value} {L : List En} (h : Es W v L) (k : Nat) (hk : k ≤ L.length) :
    ∃ p c, (∀ w : World, (Instr.slice 37 v (some (.int .i64 (k : Int))) none none).run Try.prog w = .ok (.slice p (L.length - k) c) w) ∧ RdC W W.heap.size 4 (.slice p (L.length - k) c) (L.length - k) (flatE (L.drop k)) := by
  obtain ⟨i0, hi, hz0, hz1, hz2⟩ := info_parts infoEn
  obtain ⟨p, c, h1, h2⟩ := RdC.from h 37 67 i0 Try.underlying37 hi hz1 k hk
  rw [flatE_drop] at h2
  exact ⟨p, c, h1, h2⟩
/-- One more that has left: in place, or in a new row. -/
theorem rput_outs {w wd wq w2 : World} {b g : Nat} {s : Bs} {vi vo v' : Value} {L : List En} {F : Nat → Prop} (h : RBk wd b s vi vo) (hT : Tn w wd F (RF b vi vo)) (hq : Below wd.heap.size wd wq) (hg : wq.grownBy w2 vo.ownBlock) (ho : w2.ownsRow 0 67 4 v' L.length (flatE L)) (hv : v'.ownBlock = vo.ownBlock ∨ v'.ownBlock = some wq.heap.size) :
    RBk (w2.setCell ⟨b, 2, none⟩ v') b ⟨s.cpus, s.ins, L⟩ vi v' ∧ Tn w (w2.setCell ⟨b, 2, none⟩ v') F (RF b vi v') := by
  have hb : b < wd.heap.size := (Array.getElem?_eq_some_iff.1 h.row).1
  have sz : (w2.setCell ⟨b, 2, none⟩ v').heap.size = w2.heap.size := by simp [World.setCell]
  have oth : ∀ k, k ≠ b → (w2.setCell ⟨b, 2, none⟩ v').heap[k]? = w2.heap[k]? := fun k hk => heap_setCell_other _ ⟨b, 2, none⟩ k _ hk
  have hvob : vo.ownBlock ≠ some b := own_book h.outs h.row (by decide)
  have st : ∀ k, k < wd.heap.size → vo.ownBlock ≠ some k → w2.heap[k]? = wd.heap[k]? := fun k hk hne => (hg.block k (Nat.lt_of_lt_of_le hk hq.size) (fun e => hne e.symm)).trans (hq.block k hk)
  have vlt : ∀ k, vi.ownBlock = some k → k < wd.heap.size := own_lt h.ins
  have vol : ∀ k, vo.ownBlock = some k → k < wd.heap.size := own_lt h.outs
  have hvi : ∀ k, vi.ownBlock = some k → v'.ownBlock ≠ some k := fun k hk hk' => by
    rcases hv with e | e
    · exact h.apart k hk (e.symm.trans hk')
    · rw [e] at hk'
      have a1 := vlt k hk
      have a2 := hq.size
      simp only [Option.some.injEq] at hk'
      omega
  have hv'b : v'.ownBlock ≠ some b := fun hk' => by
    rcases hv with e | e
    · exact hvob (e.symm.trans hk')
    · rw [e] at hk'
      have a2 := hq.size
      simp only [Option.some.injEq] at hk'
      omega
  have row2 : w2.heap[b]? = some (.cells #[.int .i64 s.cpus, vi, vo] 39 (0, 0)) := (st b hb hvob).trans h.row
  refine ⟨⟨?_, ?_, ?_, hvi⟩, ⟨?_, ?_, ?_, ?_, ?_, ?_⟩⟩
  · rw [heap_setCell_same _ b 2 _ _ _ row2]; rfl
  · exact own_kept h.ins (fun k hk => (oth k (fun e => own_book h.ins h.row (by decide) (e ▸ hk))).trans (st k (vlt k hk) (h.apart k hk)))
  · exact own_kept ho (fun k hk => oth k (fun e => hv'b (e ▸ hk)))
  · rw [sz]; exact Nat.le_trans hT.size (Nat.le_trans hq.size hg.size)
  · simp only [World.setCell]; exact hg.os.trans (hq.os.trans hT.os)
  · simp only [World.setCell]; exact hg.tape.trans (hq.tape.trans hT.tape)
  · simp only [World.setCell]; exact hg.output.trans (hq.output.trans hT.output)
  · intro k hk hF
    have hkd : k < wd.heap.size := Nat.lt_of_lt_of_le hk hT.size
    have hR : ¬ RF b vi vo k := fun hr => by
      rcases hT.new k hr with h1 | h1
      · exact hF h1
      · omega
    rw [oth k (fun e => hR (.inl e)), st k hkd (fun e => hR (.inr (.inr e)))]
    exact hT.keep k hk hF
  · rintro k (rfl | hk | hk)
    · exact hT.new _ (.inl rfl)
    · exact hT.new _ (.inr (.inl hk))
    · rcases hv with e | e
      · exact hT.new _ (.inr (.inr (e.symm.trans hk)))
      · rw [e] at hk
        have a2 := hq.size
        have a3 := hT.size
        simp only [Option.some.injEq] at hk
        exact .inr (by omega)
/-- A store into a box that is none of the book's. -/
theorem rbox {w wd : World} {b g : Nat} {s : Bs} {vi vo u : Value} {j : Nat} {F : Nat → Prop} (h : RBk wd b s vi vo) (hT : Tn w wd F (RF b vi vo)) (hg : w.heap.size ≤ g) (h1 : g ≠ b) (h2 : vi.ownBlock ≠ some g) (h3 : vo.ownBlock ≠ some g) :
    RBk (wd.setCell ⟨g, j, none⟩ u) b s vi vo ∧ Tn w (wd.setCell ⟨g, j, none⟩ u) F (RF b vi vo) := by
  have oth : ∀ k, k ≠ g → (wd.setCell ⟨g, j, none⟩ u).heap[k]? = wd.heap[k]? := fun k hk => heap_setCell_other _ ⟨g, j, none⟩ k _ hk
  have sz : (wd.setCell ⟨g, j, none⟩ u).heap.size = wd.heap.size := by simp [World.setCell]
  refine ⟨⟨(oth b (Ne.symm h1)).trans h.row, own_kept h.ins (fun k hk => oth k (fun e => h2 (e ▸ hk))), own_kept h.outs (fun k hk => oth k (fun e => h3 (e ▸ hk))), h.apart⟩, ⟨?_, ?_, ?_, ?_, ?_, hT.new⟩⟩
  · rw [sz]; exact hT.size
  · simp only [World.setCell]; exact hT.os
  · simp only [World.setCell]; exact hT.tape
  · simp only [World.setCell]; exact hT.output
  · intro k hk hF
    rw [oth k (by omega)]
    exact hT.keep k hk hF
set_option maxHeartbeats 16000000 in
set_option maxRecDepth 100000 in
theorem rleave_any {w : World} {b : Nat} {s : Bs} {vi vo : Value} (h : RBk w b s vi vo) (hs : Small s) (hso : s.outs.length < 500) (id till now : Int) :
    Calls Try.prog 16 #[rptr b, .int .i64 id, .int .i64 till, .int .i64 now] w fun e w' => e = .returned (.int .i64 (leaveE s id till now)) ∧ ∃ vi' vo', Hid (RBk w' b (leave s id till now) vi' vo' ∧ Tn w w' (RF b vi vo) (RF b vi' vo')) := by
  have H := hide h
  have hbw0 : b < w.heap.size := (Array.getElem?_eq_some_iff.1 h.row).1
  have hvo := hide (own_lt h.outs)
  clear h
  have HFI := hide (rfind_any H.out hs.1 id)
  have KEEP : Hid (∀ w', Nx w w' → RBk w' b s vi vo ∧ Tn w w' (RF b vi vo) (RF b vi vo)) := hide (fun w' hB => rkeep H.out hB)
  by_cases t0 : till < 0
  · have E := hide (leave_1 (s := s) (id := id) (till := till) (now := now) (by omega))
    clear HFI
    go_enter Try.func16, Try.ntmps16
    go_wp2
    go_ret
    exact ⟨by rw [E.out.1]; rfl, _, _, hide (by rw [E.out.2]; exact KEEP.out _ (Nx.refl _))⟩
  have t1 : decide (till < 0) = false := decide_eq_false t0
  by_cases n0 : now < 0
  · have nt : (0 : Int) ≤ till := by omega
    have E := hide (leave_1 (s := s) (id := id) (till := till) (now := now) (by omega))
    clear HFI
    go_enter Try.func16, Try.ntmps16
    go_wp2
    go_ret
    exact ⟨by rw [E.out.1]; rfl, _, _, hide (by rw [E.out.2]; exact KEEP.out _ (Nx.refl _))⟩
  cases hl : isLive s id with
  | false =>
    have E := hide (leave_2 (s := s) (id := id) (till := till) (now := now) (by omega) hl)
    have hfv : findV s id = -1 := by unfold findV; rw [if_neg (by rw [hl]; decide)]
    rw [hfv] at HFI
    clear hl hfv
    go_enter Try.func16, Try.ntmps16
    go_wp2_with fail
    refine HFI.out.mono ?_
    rintro e w2 ⟨rfl, hN2⟩
    go_wp2
    go_ret
    exact ⟨by rw [E.out.1]; rfl, _, _, hide (by rw [E.out.2]; exact KEEP.out _ hN2)⟩
  | true =>
    have E := hide (leave_0 (s := s) (id := id) (till := till) (now := now) (by omega) hl)
    have hf := live_lt hl
    have hfv : findV s id = (findI s id : Int) := by unfold findV; rw [if_pos hl]
    rw [hfv] at HFI
    have EL : Hid (∀ f, findI s id = f → left s id till now = ⟨s.cpus, s.ins.take f ++ s.ins.drop (f + 1), if now < till then s.outs ++ [⟨(atE s.ins f).id, (atE s.ins f).pr, till⟩] else s.outs⟩) := hide (fun f hf => by subst hf; rfl)
    obtain ⟨f, hff⟩ : ∃ f, findI s id = f := ⟨_, rfl⟩
    have EF := hide (EL.out f hff)
    rw [hff] at hf HFI
    clear hl hfv EL hff
    have hf1 : (f : Int) < (s.ins.length : Int) := by omega
    have hf0 : (0 : Int) ≤ (f : Int) := by omega
    go_enter Try.func16, Try.ntmps16
    go_wp2_with fail
    refine HFI.out.mono ?_
    rintro e w2 ⟨rfl, hN2⟩
    have H2 := hide (H.out.on hN2)
    obtain ⟨p, cap, rfl, hn, hm⟩ := H2.out.rdI.form
    obtain ⟨_, c1, c2⟩ := row3 H2.out.row
    have hbl : b < w2.heap.size := World.block_lt_of_cell? w2 _ c1
    obtain ⟨be, oe, rfl, hbe, q0, q1, q2, q3⟩ := H2.out.rdI.at hf
    obtain ⟨e1, he1⟩ : ∃ e1, (atE s.ins f).id = e1 := ⟨_, rfl⟩
    obtain ⟨e2, he2⟩ : ∃ e2, (atE s.ins f).pr = e2 := ⟨_, rfl⟩
    rw [he1] at q0
    rw [he2] at q1 q2
    have EF2 := hide EF.out
    rw [he1, he2] at EF2
    obtain ⟨e21, e22⟩ := e2
    simp only at q1 q2
    generalize (atE s.ins f).till = e3 at *
    have HNc := hide (Nx.trans hN2 (Nx.alloc w2 (.cells #[.int .i64 e1, .int .i64 e21, .int .i64 e22, .int .i64 e3] 67)))
    have Hc := hide (H2.out.on (Nx.alloc w2 (.cells #[.int .i64 e1, .int .i64 e21, .int .i64 e22, .int .i64 e3] 67)))
    have XB := heap_alloc_new w2 (.cells #[.int .i64 e1, .int .i64 e21, .int .i64 e22, .int .i64 e3] 67)
    have hxw : w.heap.size ≤ w2.heap.size := hN2.size
    have RW := hide H2.out.row
    clear H2 he1 he2 EF HFI KEEP H
    go_upto_region 7 with fail
    clear c1 c2 q0 q1 q2 q3
    have cb : w2.heap[b]? = some (.cells #[.int .i64 s.cpus, .slice (some ⟨be, oe, none⟩) s.ins.length cap, vo] 39 (0, 0)) := RW.out
    obtain ⟨wc, hwc⟩ : ∃ wc, w2.alloc (.cells #[.int .i64 e1, .int .i64 e21, .int .i64 e22, .int .i64 e3] 67) = wc := ⟨_, rfl⟩
    obtain ⟨xb, hxb⟩ : ∃ xb, w2.heap.size = xb := ⟨_, rfl⟩
    have hszc : wc.heap.size = xb + 1 := by rw [← hwc, ← hxb]; simp
    rw [hwc] at HNc Hc XB
    rw [hxb] at XB hxw hbl hbe
    (try rw [hwc])
    (try rw [hxb])
    clear hwc hxb cb RW
    obtain ⟨p1, c1, hs1, r1⟩ := Hc.out.rdI.upto f (by omega)
    obtain ⟨p2, c2, hs2, r2⟩ := Hc.out.rdI.from (f + 1) (by omega)
    rw [show ((f + 1 : Nat) : Int) = (f : Int) + 1 by omega] at hs2
    have R1 := hide r1
    have R2 := hide r2
    have hl32 := hs.1
    have hwk : IntKind.i64.wrap ((f : Int) + 1) = (f : Int) + 1 := by rw [IntKind.wrap_i64]; omega
    obtain ⟨M, hM⟩ : ∃ M, s.ins.length - (f + 1) = M := ⟨_, rfl⟩
    obtain ⟨N, hN⟩ : ∃ N, f + M = N := ⟨_, rfl⟩
    rw [hM] at hs2 R2
    have hNl : N ≤ 64 := by omega
    obtain ⟨TK, hTK⟩ : ∃ TK, flatE (s.ins.take f) = TK := ⟨_, rfl⟩
    obtain ⟨DK, hDK⟩ : ∃ DK, flatE (s.ins.drop (f + 1)) = DK := ⟨_, rfl⟩
    obtain ⟨TD, hTD⟩ : ∃ TD, TK ++ DK = TD := ⟨_, rfl⟩
    have ON1 : Hid (∀ u ∈ TK, u.oneCell' = true) := hide (by rw [← hTK]; exact flatE_one _)
    have ON2 : Hid (∀ u ∈ DK, u.oneCell' = true) := hide (by rw [← hDK]; exact flatE_one _)
    have hLN : Hid ((s.ins.take f ++ s.ins.drop (f + 1)).length = N ∧ flatE (s.ins.take f ++ s.ins.drop (f + 1)) = TD) := hide ⟨by simp; omega, by rw [flatE_app, hTK, hDK, hTD]⟩
    rw [hTK] at R1
    rw [hDK] at R2
    have EN := hide hN
    have ETD := hide hTD
    have SZ1 : Hid (f ≤ maxLen ∧ f * 32 ≤ 140737488355328) := hide ⟨by unfold maxLen; omega, by omega⟩
    have SZ2 : Hid (N ≤ maxLen ∧ N * 32 ≤ 140737488355328) := hide ⟨by unfold maxLen; omega, by omega⟩
    obtain ⟨_, cc1, _⟩ := row3 Hc.out.row
    have hbc : b < wc.heap.size := World.block_lt_of_cell? wc _ cc1
    have KS : Hid (∀ w', Below wc.heap.size wc w' → w'.cell? ⟨b, 1, none⟩ = some (.slice (some ⟨be, oe, none⟩) s.ins.length cap) ∧ w'.frozen? ⟨b, 1, none⟩ = false) := hide (fun w' hB => ⟨(hB.cell (p := ⟨b, 1, none⟩) hbc).trans cc1, by simp [World.frozen?, (hB.block b hbc).trans Hc.out.row]⟩)
    have PUT : Hid (∀ q d w2, Below wc.heap.size wc w2 → w2.ownsRow wc.heap.size 67 4 (.slice q N d) N TD → Hid ((RBk (w2.setCell ⟨b, 1, none⟩ (.slice q N d)) b ⟨s.cpus, s.ins.take f ++ s.ins.drop (f + 1), s.outs⟩ (.slice q N d) vo ∧ Tn w (w2.setCell ⟨b, 1, none⟩ (.slice q N d)) (RF b (.slice (some ⟨be, oe, none⟩) s.ins.length cap) vo) (RF b (.slice q N d) vo)) ∧ (w2.setCell ⟨b, 1, none⟩ (.slice q N d)).heap[xb]? = some (.cells #[.int .i64 e1, .int .i64 e21, .int .i64 e22, .int .i64 e3] 67 (0, 0)) ∧ (Value.slice q N d).ownBlock ≠ some xb)) := hide (fun q d w2 hB ho => hide ⟨rput_ins (L := s.ins.take f ++ s.ins.drop (f + 1)) Hc.out HNc.out hbw0 hB (by rw [hLN.out.1, hLN.out.2]; exact ho) hvo.out, by
      rw [heap_setCell_other _ ⟨b, 1, none⟩ xb _ (by show xb ≠ b; omega)]
      exact (hB.block xb (by omega)).trans XB, fun hk => by have := own_past ho xb hk; omega⟩)
    have XBv : Hid (b ≠ xb ∧ w.heap.size ≤ xb ∧ vo.ownBlock ≠ some xb) := hide ⟨by omega, hxw, fun hk => by have := hvo.out xb hk; omega⟩
    obtain ⟨i0, hi, hz0, hz1', hz2⟩ := info_parts infoEn
    clear r1 r2 hM hN hTK hDK hTD hLN HNc Hc XB hvo hN2 hs
    have HSZ := hide hszc
    clear hszc
    go_wp2
    refine wp_region_noPanic ?_
    refine OrdT.region_T (S := fun w' => w'.cell? ⟨b, 1, none⟩ = some (.slice (some ⟨be, oe, none⟩) s.ins.length cap) ∧ w'.frozen? ⟨b, 1, none⟩ = false) 19 (by kernel_rfl) ?_ (fun hHeld => ?_)
    · exact KS.out _ (bel_drew (Below.refl _ _))
    refine OrdT.AnyT.take (i := 0) (v := ?_) (some 29) (by rfl) (by rfl) (by kernel_rfl) (by kernel_rfl) (by kernel_rfl) (by kernel_rfl) (fun _ _ _ h => h) (Or.inl ⟨by rfl, ?_⟩) (by assumption) ?_
    rotate_left
    · intro w hSw; (try dsimp only at hSw); first | (go_simp; done) | (go_simp; with_reducible rfl)
    (try simp only [Act.put, List.setIfInBounds_toArray, List.set_cons_zero, List.set_cons_succ])
    refine OrdT.AnyT.take (i := 2) (v := ?_) (some 31) (by rfl) (by rfl) (by kernel_rfl) (by kernel_rfl) (by kernel_rfl) (by kernel_rfl) (fun _ _ _ h => h) (Or.inl ⟨by rfl, ?_⟩) (by assumption) ?_
    rotate_left
    · intro w hSw; (try dsimp only at hSw); first | (go_simp; done) | (go_simp; with_reducible rfl)
    (try simp only [Act.put, List.setIfInBounds_toArray, List.set_cons_zero, List.set_cons_succ])
    refine OrdT.AnyT.take (i := 3) (v := ?_) (some 32) (by rfl) (by rfl) (by kernel_rfl) (by kernel_rfl) (by kernel_rfl) (by kernel_rfl) (fun _ _ _ h => h) (Or.inl ⟨by rfl, ?_⟩) (by assumption) ?_
    rotate_left
    · intro w hSw; (try dsimp only at hSw); first | (go_simp; done) | (go_simp; with_reducible rfl)
    (try simp only [Act.put, List.setIfInBounds_toArray, List.set_cons_zero, List.set_cons_succ])
    refine OrdT.AnyT.take (i := 4) (v := ?_) (some 33) (by rfl) (by rfl) (by kernel_rfl) (by kernel_rfl) (by kernel_rfl) (by kernel_rfl) (fun _ _ _ h => h) (Or.inl ⟨by rfl, ?_⟩) (by assumption) ?_
    rotate_left
    · intro w hSw; (try dsimp only at hSw); first | (go_simp; done) | (go_simp; with_reducible rfl)
    (try simp only [Act.put, List.setIfInBounds_toArray, List.set_cons_zero, List.set_cons_succ])
    refine OrdT.AnyT.take (i := 5) (v := ?_) (some 34) (by rfl) (by rfl) (by kernel_rfl) (by kernel_rfl) (by kernel_rfl) (by kernel_rfl) (fun _ _ _ h => h) (Or.inl ⟨by rfl, ?_⟩) (by assumption) ?_
    rotate_left
    · intro w hSw; (try dsimp only at hSw); first | (go_simp; done) | (go_simp; with_reducible rfl)
    (try simp only [Act.put, List.setIfInBounds_toArray, List.set_cons_zero, List.set_cons_succ])
    refine OrdT.AnyT.take (i := 6) (v := ?_) (some 35) (by rfl) (by rfl) (by kernel_rfl) (by kernel_rfl) (by kernel_rfl) (by kernel_rfl) (fun _ _ _ h => h) (Or.inl ⟨by rfl, ?_⟩) (by assumption) ?_
    rotate_left
    · intro w hSw; (try dsimp only at hSw); first | (go_simp; done) | (go_simp; with_reducible rfl)
    (try simp only [Act.put, List.setIfInBounds_toArray, List.set_cons_zero, List.set_cons_succ])
    refine OrdT.AnyT.take (i := 7) (v := ?_) (some 36) (by rfl) (by rfl) (by kernel_rfl) (by kernel_rfl) (by kernel_rfl) (by kernel_rfl) (fun _ _ _ h => h) (Or.inl ⟨by rfl, ?_⟩) (by assumption) ?_
    rotate_left
    · intro w hSw; (try dsimp only at hSw); first | (go_simp; done) | (go_simp; with_reducible rfl)
    (try simp only [Act.put, List.setIfInBounds_toArray, List.set_cons_zero, List.set_cons_succ])
    refine OrdT.AnyT.take (i := 9) (v := ?_) (some 38) (by rfl) (by rfl) (by kernel_rfl) (by kernel_rfl) (by kernel_rfl) (by kernel_rfl) (fun _ _ _ h => h) (Or.inl ⟨by rfl, ?_⟩) (by assumption) ?_
    rotate_left
    · intro w hSw; (try dsimp only at hSw); first | (go_simp; done) | (go_simp; with_reducible rfl)
    (try simp only [Act.put, List.setIfInBounds_toArray, List.set_cons_zero, List.set_cons_succ])
    refine OrdT.AnyT.take (i := 10) (v := ?_) (some 39) (by rfl) (by rfl) (by kernel_rfl) (by kernel_rfl) (by kernel_rfl) (by kernel_rfl) (fun _ _ _ h => h) (Or.inl ⟨by rfl, ?_⟩) (by assumption) ?_
    rotate_left
    · intro w hSw; (try dsimp only at hSw); first | (go_simp; done) | (go_simp; with_reducible rfl)
    (try simp only [Act.put, List.setIfInBounds_toArray, List.set_cons_zero, List.set_cons_succ])
    refine OrdT.AnyT.take (i := 11) (v := ?_) (some 40) (by rfl) (by rfl) (by kernel_rfl) (by kernel_rfl) (by kernel_rfl) (by kernel_rfl) (fun _ _ _ h => h) (Or.inl ⟨by rfl, ?_⟩) (by assumption) ?_
    rotate_left
    · intro w hSw; (try dsimp only at hSw); first | (go_simp; done) | (go_simp; with_reducible rfl)
    (try simp only [Act.put, List.setIfInBounds_toArray, List.set_cons_zero, List.set_cons_succ])
    refine OrdT.AnyT.take (i := 12) (v := ?_) (some 41) (by rfl) (by rfl) (by kernel_rfl) (by kernel_rfl) (by kernel_rfl) (by kernel_rfl) (fun _ _ _ h => h) (Or.inl ⟨by rfl, ?_⟩) (by assumption) ?_
    rotate_left
    · intro w hSw; (try dsimp only at hSw); first | (go_simp; done) | (go_simp; with_reducible rfl)
    (try simp only [Act.put, List.setIfInBounds_toArray, List.set_cons_zero, List.set_cons_succ])
    refine OrdT.AnyT.take (i := 13) (v := ?_) (some 42) (by rfl) (by rfl) (by kernel_rfl) (by kernel_rfl) (by kernel_rfl) (by kernel_rfl) (fun _ _ _ h => h) (Or.inl ⟨by rfl, ?_⟩) (by assumption) ?_
    rotate_left
    · intro w hSw; (try dsimp only at hSw); first | (go_simp; done) | (go_simp; with_reducible rfl)
    (try simp only [Act.put, List.setIfInBounds_toArray, List.set_cons_zero, List.set_cons_succ])
    refine OrdT.AnyT.take (i := 14) (v := ?_) (some 43) (by rfl) (by rfl) (by kernel_rfl) (by kernel_rfl) (by kernel_rfl) (by kernel_rfl) (fun _ _ _ h => h) (Or.inl ⟨by rfl, ?_⟩) (by assumption) ?_
    rotate_left
    · intro w hSw; (try dsimp only at hSw); first | (go_simp; done) | (go_simp; with_reducible rfl)
    (try simp only [Act.put, List.setIfInBounds_toArray, List.set_cons_zero, List.set_cons_succ])
    refine OrdT.AnyT.take (i := 15) (v := ?_) (some 44) (by rfl) (by rfl) (by kernel_rfl) (by kernel_rfl) (by kernel_rfl) (by kernel_rfl) (fun _ _ _ h => h) (Or.inl ⟨by rfl, ?_⟩) (by assumption) ?_
    rotate_left
    · intro w hSw; (try dsimp only at hSw); first | (go_simp; done) | (go_simp; with_reducible rfl)
    (try simp only [Act.put, List.setIfInBounds_toArray, List.set_cons_zero, List.set_cons_succ])
    clear hHeld
    refine OrdT.AnyT.one (i := 1) (by kernel_rfl) (by rfl) (fun K hK => ?_)
    go_simp
    refine hK.out _ _ (fun _ => KS.out _ (by repeat (first | (with_reducible exact Below.refl _ _) | (with_reducible exact HB2) | (with_reducible exact HB1) | refine bel_drew ?_ | refine bel_alloc ?_ (Nat.le_refl _) _))) ?_
    clear hK K
    (try simp only [Act.put, List.setIfInBounds_toArray, List.set_cons_zero, List.set_cons_succ])
    refine OrdT.AnyT.one (i := 8) (by kernel_rfl) (by rfl) (fun K hK => ?_)
    refine step_append_rd (some 37) (by rfl) (by rfl) _ _ 37 (by rfl) wc.heap.size 67 i0 (.agg #[.int .i64 0, .int .i64 0, .int .i64 0, .int .i64 0]) 4 32 Try.underlying37 hi hz0 hz1' hz2 rfl (by decide) (.slice (some ⟨wc.heap.size, 0, none⟩) 0 0) 0 [] (by rfl) (by exact own_empty (by exact heap_alloc_at _ _ _ (by simp)) (Nat.le_refl _)) _ (.slice p1 f c1) f TK (by rfl) (by exact (R1.out.below (by repeat (first | (with_reducible exact Below.refl _ _) | (with_reducible exact HB2) | (with_reducible exact HB1) | refine bel_drew ?_ | refine bel_alloc ?_ (Nat.le_refl _) _)))) (by exact ON1.out) f (by exact Nat.zero_add _) TK (by exact List.nil_append TK) (by exact SZ1.out.1) (by exact SZ1.out.2) (by exact bel_le (W := wc) (Nat.le_refl _) (by repeat (first | (with_reducible exact Below.refl _ _) | (with_reducible exact HB2) | (with_reducible exact HB1) | refine bel_drew ?_ | refine bel_alloc ?_ (Nat.le_refl _) _))) ?_
    intro q1 d1 w1 ho1 hg1 ha1 hp1
    have HB1 : Below wc.heap.size wc w1 := below_grown (by repeat (first | (with_reducible exact Below.refl _ _) | (with_reducible exact HB2) | (with_reducible exact HB1) | refine bel_drew ?_ | refine bel_alloc ?_ (Nat.le_refl _) _)) (by exact bel_le (W := wc) (Nat.le_refl _) (by repeat (first | (with_reducible exact Below.refl _ _) | (with_reducible exact HB2) | (with_reducible exact HB1) | refine bel_drew ?_ | refine bel_alloc ?_ (Nat.le_refl _) _))) hg1 hp1
    clear ha1 hp1
    refine hK.out _ _ (fun _ => KS.out _ HB1) ?_
    clear hK K
    (try simp only [Act.put, List.setIfInBounds_toArray, List.set_cons_zero, List.set_cons_succ])
    refine OrdT.AnyT.one (i := 16) (by kernel_rfl) (by rfl) (fun K hK => ?_)
    refine step_append_rd (some 45) (by rfl) (by rfl) _ _ 37 (by rfl) wc.heap.size 67 i0 (.agg #[.int .i64 0, .int .i64 0, .int .i64 0, .int .i64 0]) 4 32 Try.underlying37 hi hz0 hz1' hz2 rfl (by decide) (.slice q1 f d1) f TK (by rfl) (by exact ho1) _ (.slice p2 M c2) M DK (by rfl) (by exact (R2.out.below (by repeat (first | (with_reducible exact Below.refl _ _) | (with_reducible exact HB2) | (with_reducible exact HB1) | refine bel_drew ?_ | refine bel_alloc ?_ (Nat.le_refl _) _)))) (by exact ON2.out) N (by exact EN.out) TD (by exact ETD.out) (by exact SZ2.out.1) (by exact SZ2.out.2) (by exact bel_le (W := wc) (Nat.le_refl _) (by repeat (first | (with_reducible exact Below.refl _ _) | (with_reducible exact HB2) | (with_reducible exact HB1) | refine bel_drew ?_ | refine bel_alloc ?_ (Nat.le_refl _) _))) ?_
    intro q2 d2 w2 ho2 hg2 ha2 hp2
    have HB2 : Below wc.heap.size wc w2 := below_grown (by repeat (first | (with_reducible exact Below.refl _ _) | (with_reducible exact HB2) | (with_reducible exact HB1) | refine bel_drew ?_ | refine bel_alloc ?_ (Nat.le_refl _) _)) (by exact bel_le (W := wc) (Nat.le_refl _) (by repeat (first | (with_reducible exact Below.refl _ _) | (with_reducible exact HB2) | (with_reducible exact HB1) | refine bel_drew ?_ | refine bel_alloc ?_ (Nat.le_refl _) _))) hg2 hp2
    clear ha2 hp2
    refine hK.out _ _ (fun _ => KS.out _ HB2) ?_
    clear hK K
    (try simp only [Act.put, List.setIfInBounds_toArray, List.set_cons_zero, List.set_cons_succ])
    refine OrdT.AnyT.one (i := 17) (by kernel_rfl) (by rfl) (fun K hK => ?_)
    go_simp
    refine hK.out _ _ (fun _ => KS.out _ HB2) ?_
    clear hK K
    (try simp only [Act.put, List.setIfInBounds_toArray, List.set_cons_zero, List.set_cons_succ])
    refine OrdT.AnyT.one (i := 18) (by kernel_rfl) (by rfl) (fun K hK => ?_)
    go_simp
    refine hK.out _ _ (fun _ => KS.out _ HB2) ?_
    clear hK K
    (try simp only [Act.put, List.setIfInBounds_toArray, List.set_cons_zero, List.set_cons_succ])
    refine OrdT.AnyT.one (i := 19) (by kernel_rfl) (by rfl) (fun K hK => ?_)
    obtain ⟨fz2, fz3⟩ := KS.out _ HB2
    go_simp
    refine hK.out _ _ (fun h => absurd rfl h) ?_
    clear hK K
    (try simp only [Act.put, List.setIfInBounds_toArray, List.set_cons_zero, List.set_cons_succ])
    refine OrdT.AnyT.done (by kernel_rfl) ?_ _
    refine NoPanic.normal ?_
    obtain ⟨⟨hR, hT⟩, hX, hVx⟩ := (PUT.out _ _ _ HB2 ho2).out
    have HR := hide hR
    have HT := hide hT
    have HX := hide hX
    have HVx := hide hVx
    clear hR hT hX hVx PUT KS R1 R2 ho1 ho2 HB1 HB2 hg1 hg2 ON1 ON2 EN ETD SZ1 SZ2 hs1 hs2 cc1
    obtain ⟨wd, hwd⟩ : ∃ wd, w2.setCell ⟨b, 1, none⟩ (.slice q2 N d2) = wd := ⟨_, rfl⟩
    rw [hwd] at HR HT HX ⊢
    clear hwd
    have EE : Hid (leaveE s id till now = 0 ∧ leave s id till now = ⟨s.cpus, s.ins.take f ++ s.ins.drop (f + 1), if now < till then s.outs ++ [⟨e1, (e21, e22), till⟩] else s.outs⟩) := hide ⟨E.out.1, E.out.2.trans EF2.out⟩
    clear E EF2
    by_cases ht : now < till
    rotate_left
    · have EE2 := hide EE.out
      rw [if_neg ht] at EE2
      have htd : decide (now < till) = false := decide_eq_false ht
      clear EE HX HVx XBv
      go_wp2
      go_ret
      exact ⟨by rw [EE2.out.1]; rfl, _, _, hide (by rw [EE2.out.2]; exact ⟨HR.out, HT.out⟩)⟩
    have EE2 := hide EE.out
    rw [if_pos ht] at EE2
    clear EE
    obtain ⟨xne, xlo, xvo⟩ := XBv.out
    have RB := hide (rbox (j := 3) (u := .int .i64 till) HR.out HT.out xlo xne.symm HVx.out xvo)
    have x3f : wd.frozen? ⟨xb, 3, none⟩ = false := by simp [World.frozen?, HX.out]
    have HX2 : Hid ((wd.setCell ⟨xb, 3, none⟩ (.int .i64 till)).heap[xb]? = some (.cells #[.int .i64 e1, .int .i64 e21, .int .i64 e22, .int .i64 till] 67 (0, 0))) := hide (by rw [heap_setCell_same _ xb 3 _ _ _ HX.out]; rfl)
    have x3 : wd.cell? ⟨xb, 3, none⟩ = some (.int .i64 e3) := (cell_of_row wd xb 3 _ _ _ HX.out).trans rfl
    go_upto_region 10 with fail
    clear x3 x3f HR HT HX
    generalize wd.setCell ⟨xb, 3, none⟩ (.int .i64 till) = we at *
    have HR := hide RB.out.1
    have HT := hide RB.out.2
    clear RB
    obtain ⟨po, co, hpo⟩ := ownF HR.out.outs
    have hpo' : vo = .slice po s.outs.length co := hpo
    subst hpo'
    have HRO : Hid (we.ownsRow 0 67 4 (.slice po s.outs.length co) s.outs.length (flatE s.outs)) := hide HR.out.outs
    have hbd : b < we.heap.size := (Array.getElem?_eq_some_iff.1 HR.out.row).1
    have hxd : xb < we.heap.size := (Array.getElem?_eq_some_iff.1 HX2.out).1
    have HOB : Hid (some b ≠ (Value.slice po s.outs.length co).ownBlock) := hide (fun e => own_book HR.out.outs HR.out.row (by decide) e.symm)
    have HOX : Hid (some xb ≠ (Value.slice po s.outs.length co).ownBlock) := hide (fun e => xvo e.symm)
    have KS : Hid (∀ w' : World, w'.heap[b]? = we.heap[b]? → w'.heap[xb]? = we.heap[xb]? → w'.cell? ⟨b, 2, none⟩ = some (.slice po s.outs.length co) ∧ w'.frozen? ⟨b, 2, none⟩ = false ∧ w'.cell? ⟨xb, 0, none⟩ = some (.int .i64 e1) ∧ w'.cell? ⟨xb, 1, none⟩ = some (.int .i64 e21) ∧ w'.cell? ⟨xb, 2, none⟩ = some (.int .i64 e22) ∧ w'.cell? ⟨xb, 3, none⟩ = some (.int .i64 till)) := hide (fun w' h1 h2 => by
      have r1 := h1.trans HR.out.row
      have r2 := h2.trans HX2.out
      exact ⟨(cell_of_row w' b 2 _ _ _ r1).trans rfl, by simp [World.frozen?, r1], (cell_of_row w' xb 0 _ _ _ r2).trans rfl, (cell_of_row w' xb 1 _ _ _ r2).trans rfl, (cell_of_row w' xb 2 _ _ _ r2).trans rfl, (cell_of_row w' xb 3 _ _ _ r2).trans rfl⟩)
    have FIN : Hid (∀ (q : Option Addr) (d : Nat) (w3 : World) (c : Obj), (we.drew.alloc c).grownBy w3 (Value.slice po s.outs.length co).ownBlock → w3.ownsRow 0 67 4 (.slice q (s.outs.length + 1) d) (s.outs.length + 1) (flatE s.outs ++ [.int .i64 e1, .int .i64 e21, .int .i64 e22, .int .i64 till]) → ((Value.slice q (s.outs.length + 1) d).ownBlock = (Value.slice po s.outs.length co).ownBlock ∨ (Value.slice q (s.outs.length + 1) d).ownBlock = some (we.drew.alloc c).heap.size) → Hid (RBk (w3.setCell ⟨b, 2, none⟩ (.slice q (s.outs.length + 1) d)) b (leave s id till now) (.slice q2 N d2) (.slice q (s.outs.length + 1) d) ∧ Tn w (w3.setCell ⟨b, 2, none⟩ (.slice q (s.outs.length + 1) d)) (RF b (.slice (some ⟨be, oe, none⟩) s.ins.length cap) (.slice po s.outs.length co)) (RF b (.slice q2 N d2) (.slice q (s.outs.length + 1) d)))) := hide (fun q d w3 c hg ho hv => hide (by
      rw [EE2.out.2]
      have e1' : (s.outs ++ [(⟨e1, (e21, e22), till⟩ : En)]).length = s.outs.length + 1 := by simp
      have e2' : flatE (s.outs ++ [(⟨e1, (e21, e22), till⟩ : En)]) = flatE s.outs ++ [.int .i64 e1, .int .i64 e21, .int .i64 e22, .int .i64 till] := flatE_snoc1 _ _
      exact rput_outs (g := 0) (L := s.outs ++ [(⟨e1, (e21, e22), till⟩ : En)]) (wq := we.drew.alloc c) HR.out HT.out (bel_alloc (bel_drew (Below.refl _ we)) (Nat.le_refl _) c) hg (by rw [e1', e2']; exact ho) hv))
    have ON3 : Hid (∀ u ∈ [Value.int .i64 e1, .int .i64 e21, .int .i64 e22, .int .i64 till], u.oneCell' = true) := hide (by intro u hu; simp at hu; rcases hu with rfl | rfl | rfl | rfl <;> rfl)
    have SZ3 : Hid (s.outs.length + 1 ≤ maxLen ∧ (s.outs.length + 1) * 32 ≤ 140737488355328) := hide ⟨by unfold maxLen; omega, by omega⟩
    clear HR HT HX2 HVx XBv xvo hpo
    go_wp2
    refine wp_region_noPanic ?_
    refine OrdT.region_T (S := fun w' => w'.cell? ⟨b, 2, none⟩ = some (.slice po s.outs.length co) ∧ w'.frozen? ⟨b, 2, none⟩ = false ∧ w'.cell? ⟨xb, 0, none⟩ = some (.int .i64 e1) ∧ w'.cell? ⟨xb, 1, none⟩ = some (.int .i64 e21) ∧ w'.cell? ⟨xb, 2, none⟩ = some (.int .i64 e22) ∧ w'.cell? ⟨xb, 3, none⟩ = some (.int .i64 till)) 10 (by kernel_rfl) ?_ (fun hHeld => ?_)
    · exact KS.out _ rfl rfl
    refine OrdT.AnyT.take (i := 0) (v := ?_) (some 53) (by rfl) (by rfl) (by kernel_rfl) (by kernel_rfl) (by kernel_rfl) (by kernel_rfl) (fun _ _ _ h => h) (Or.inl ⟨by rfl, ?_⟩) (by assumption) ?_
    rotate_left
    · intro w hSw; (try dsimp only at hSw); first | (go_simp; done) | (go_simp; with_reducible rfl)
    (try simp only [Act.put, List.setIfInBounds_toArray, List.set_cons_zero, List.set_cons_succ])
    refine OrdT.AnyT.take (i := 1) (v := ?_) (some 54) (by rfl) (by rfl) (by kernel_rfl) (by kernel_rfl) (by kernel_rfl) (by kernel_rfl) (fun _ _ _ h => h) (Or.inl ⟨by rfl, ?_⟩) (by assumption) ?_
    rotate_left
    · intro w hSw; (try dsimp only at hSw); first | (go_simp; done) | (go_simp; with_reducible rfl)
    (try simp only [Act.put, List.setIfInBounds_toArray, List.set_cons_zero, List.set_cons_succ])
    refine OrdT.AnyT.take (i := 2) (v := ?_) (some 55) (by rfl) (by rfl) (by kernel_rfl) (by kernel_rfl) (by kernel_rfl) (by kernel_rfl) (fun _ _ _ h => h) (Or.inl ⟨by rfl, ?_⟩) (by assumption) ?_
    rotate_left
    · intro w hSw; (try dsimp only at hSw); first | (go_simp; done) | (go_simp; with_reducible rfl)
    (try simp only [Act.put, List.setIfInBounds_toArray, List.set_cons_zero, List.set_cons_succ])
    refine OrdT.AnyT.take (i := 3) (v := ?_) (some 56) (by rfl) (by rfl) (by kernel_rfl) (by kernel_rfl) (by kernel_rfl) (by kernel_rfl) (fun _ _ _ h => h) (Or.inl ⟨by rfl, ?_⟩) (by assumption) ?_
    rotate_left
    · intro w hSw; (try dsimp only at hSw); first | (go_simp; done) | (go_simp; with_reducible rfl)
    (try simp only [Act.put, List.setIfInBounds_toArray, List.set_cons_zero, List.set_cons_succ])
    refine OrdT.AnyT.take (i := 4) (v := ?_) (some 57) (by rfl) (by rfl) (by kernel_rfl) (by kernel_rfl) (by kernel_rfl) (by kernel_rfl) (fun _ _ _ h => h) (Or.inl ⟨by rfl, ?_⟩) (by assumption) ?_
    rotate_left
    · intro w hSw; (try dsimp only at hSw); first | (go_simp; done) | (go_simp; with_reducible rfl)
    (try simp only [Act.put, List.setIfInBounds_toArray, List.set_cons_zero, List.set_cons_succ])
    refine OrdT.AnyT.take (i := 5) (v := ?_) (some 58) (by rfl) (by rfl) (by kernel_rfl) (by kernel_rfl) (by kernel_rfl) (by kernel_rfl) (fun _ _ _ h => h) (Or.inl ⟨by rfl, ?_⟩) (by assumption) ?_
    rotate_left
    · intro w hSw; (try dsimp only at hSw); first | (go_simp; done) | (go_simp; with_reducible rfl)
    (try simp only [Act.put, List.setIfInBounds_toArray, List.set_cons_zero, List.set_cons_succ])
    clear hHeld
    refine OrdT.AnyT.one (i := 6) (by kernel_rfl) (by rfl) (fun K hK => ?_)
    go_simp
    refine hK.out _ _ (fun _ => KS.out _ (heap_alloc_old _ _ (by exact hbd)) (heap_alloc_old _ _ (by exact hxd))) ?_
    clear hK K
    (try simp only [Act.put, List.setIfInBounds_toArray, List.set_cons_zero, List.set_cons_succ])
    refine OrdT.AnyT.one (i := 7) (by kernel_rfl) (by rfl) (fun K hK => ?_)
    refine step_append_rd (some 60) (by rfl) (by rfl) _ _ 37 (by rfl) 0 67 i0 (.agg #[.int .i64 0, .int .i64 0, .int .i64 0, .int .i64 0]) 4 32 Try.underlying37 hi hz0 hz1' hz2 rfl (by decide) (.slice po s.outs.length co) s.outs.length (flatE s.outs) (by rfl) (by exact HRO.out.alloc _) _ _ 1 [.int .i64 e1, .int .i64 e21, .int .i64 e22, .int .i64 till] (by rfl) (by exact rd_one (cs := #[.int .i64 e1, .int .i64 e21, .int .i64 e22, .int .i64 till]) (by exact heap_alloc_at _ _ _ rfl) rfl) (by exact ON3.out) (s.outs.length + 1) (by exact rfl) (flatE s.outs ++ [.int .i64 e1, .int .i64 e21, .int .i64 e22, .int .i64 till]) (by exact rfl) (by exact SZ3.out.1) (by exact SZ3.out.2) (by exact Nat.zero_le _) ?_
    intro q3 d3 w3 ho3 hg3 ha3 hp3
    have HK3 := hide (KS.out w3 ((hg3.block b (by simp; omega) (by exact HOB.out)).trans (heap_alloc_old _ _ (by exact hbd))) ((hg3.block xb (by simp; omega) (by exact HOX.out)).trans (heap_alloc_old _ _ (by exact hxd))))
    have HF3 := hide (FIN.out _ _ _ _ hg3 ho3 ha3)
    clear ho3 hg3 ha3 hp3
    refine hK.out _ _ (fun _ => HK3.out) ?_
    clear hK K
    (try simp only [Act.put, List.setIfInBounds_toArray, List.set_cons_zero, List.set_cons_succ])
    refine OrdT.AnyT.one (i := 8) (by kernel_rfl) (by rfl) (fun K hK => ?_)
    go_simp
    refine hK.out _ _ (fun _ => HK3.out) ?_
    clear hK K
    (try simp only [Act.put, List.setIfInBounds_toArray, List.set_cons_zero, List.set_cons_succ])
    refine OrdT.AnyT.one (i := 9) (by kernel_rfl) (by rfl) (fun K hK => ?_)
    go_simp
    refine hK.out _ _ (fun _ => HK3.out) ?_
    clear hK K
    (try simp only [Act.put, List.setIfInBounds_toArray, List.set_cons_zero, List.set_cons_succ])
    refine OrdT.AnyT.one (i := 10) (by kernel_rfl) (by rfl) (fun K hK => ?_)
    obtain ⟨e2', e3', _, _, _, _⟩ := HK3.out
    go_simp
    refine hK.out _ _ (fun h => absurd rfl h) ?_
    clear hK K
    (try simp only [Act.put, List.setIfInBounds_toArray, List.set_cons_zero, List.set_cons_succ])
    refine OrdT.AnyT.done (by kernel_rfl) ?_ _
    refine NoPanic.normal ?_
    clear HRO KS FIN HK3
    go_wp2
    go_ret
    exact ⟨by rw [EE2.out.1]; rfl, _, _, HF3.out⟩
end Go.Proofs.Ytldccbinndbcdaa.Am
