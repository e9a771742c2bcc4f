/- Those that left: put (the walk). -/
import Derived.Test.YtldccbinndbcdaaAdL1
import Derived.Deep.RegionHeld3
namespace Go.Proofs.Ytldccbinndbcdaa.Am
open Go.RowKit Go.Proofs.Ytldccbinndbcdaa.Con Go.Proofs.Ytldccbinndbcdaa.Wn Go.Proofs.Ytldccbinndbcdaa.Fp
set_option linter.unusedVariables false
set_option linter.unusedSimpArgs false
attribute [local go_sem ↓] Go.wp_at_zero Go.wp_at_succ
theorem set_set (L : List Lv) (i p : Nat) : (L.set p (atL L i)).set i (atL L p) = swp L p i := rfl
theorem own_drew {w : World} {B e size n : Nat} {v : Value} {xs : List Value} (h : w.ownsRow B e size v n xs) : w.drew.ownsRow B e size v n xs := own_kept h (fun k _ => rfl)
theorem own_some {w : World} {B e size n d : Nat} {q : Option Addr} {xs : List Value} (h : w.ownsRow B e size (.slice q (n + 1) d) (n + 1) xs) : ∃ g, q = some ⟨g, 0, none⟩ := by
  obtain ⟨_, ⟨_, e0'⟩ | ⟨g, cap', cur, e0, _⟩⟩ := h
  · omega
  · simp only [Value.slice.injEq] at e0
    exact ⟨g, e0.1⟩
/-- Behind the rise it is a book. -/
theorem bput_end {w w6 wr : World} {b g n d : Nat} {s : Bs} {vi : Value} {L M : List Lv} {F : Nat → Prop} {e : En} (hR : w6.heap[b]? = some (.cells #[.int .i64 s.cpus, vi, .slice (some ⟨g, 0, none⟩) n d] 57 (0, 0)) ∧ w6.ownsRow 0 50 4 vi s.ins.length (flatE s.ins) ∧ w6.ownsRow 0 79 5 (.slice (some ⟨g, 0, none⟩) n d) n (flatL M)) (hT : Tn w w6 F (RF b vi (.slice (some ⟨g, 0, none⟩) n d))) (hO : wr.ownsRow 0 79 5 (.slice (some ⟨g, 0, none⟩) n d) n (flatL L)) (hl : L.length = n) (hN : Tn w6 wr (fun k => k = g) (fun k => k = g)) (ho : HO L (s.outs ++ [e])) :
    BB wr b ⟨s.cpus, s.ins, s.outs ++ [e]⟩ vi (.slice (some ⟨g, 0, none⟩) n d) L ∧ Tn w wr F (RF b vi (.slice (some ⟨g, 0, none⟩) n d)) := by
  obtain ⟨h1, h2, h3⟩ := hR
  have gb : (Value.slice (some ⟨g, 0, none⟩) n d).ownBlock = some g := rfl
  have hgb : b ≠ g := fun e => own_book h3 h1 (by decide) (e ▸ gb)
  have hb6 : b < w6.heap.size := (Array.getElem?_eq_some_iff.1 h1).1
  refine ⟨⟨(hN.keep b hb6 hgb).trans h1, own_kept h2 (fun k hk => hN.keep k (own_lt h2 k hk) (fun e => own_apart h2 h3 (by decide) hk (e ▸ gb))), by rw [hl]; exact hO, ho⟩, ?_⟩
  refine Tn.trans hT ⟨hN.size, hN.os, hN.tape, hN.output, fun k hk hF => hN.keep k hk (fun e => hF (.inr (.inr (e ▸ gb)))), fun k hk => .inl hk⟩
set_option maxHeartbeats 16000000 in
set_option maxRecDepth 100000 in
theorem put_any {w : World} {b : Nat} {s : Bs} {vi vo : Value} {H : List Lv} (h : BB w b s vi vo H) (hl : s.outs.length ≤ 500) (e : En) :
    Calls Try.prog 24 #[.pointer (some ⟨b, 2, none⟩), enV e] w fun e1 w' => e1 = .returned (.tuple #[]) ∧ ∃ vo' H', Hid (BB w' b ⟨s.cpus, s.ins, s.outs ++ [e]⟩ vi vo' H' ∧ Tn w w' (RF b vi vo) (RF b vi vo')) := by
  have HE := hide (rfl : e = e)
  obtain ⟨u0, ⟨u1, u2⟩, u3⟩ := e
  obtain ⟨n, hnn⟩ : ∃ n, H.length = n := ⟨_, rfl⟩
  have HNN := hide hnn
  have hn5 : n ≤ 500 := by rw [← hnn, h.ho.len]; exact hl
  have hno : (n : Int) = ((s.outs.length : Nat) : Int) := by rw [← hnn, h.ho.len]
  have HB0 := hide (Nx.alloc w (.cells #[.int .i64 u0, .int .i64 u1, .int .i64 u2, .int .i64 u3] 50))
  have HX := hide (heap_alloc_new w (.cells #[.int .i64 u0, .int .i64 u1, .int .i64 u2, .int .i64 u3] 50))
  obtain ⟨h0, t0⟩ := bkeep h HB0.out
  obtain ⟨p, cap, hpo⟩ := ownF h0.outs
  subst hpo
  have HEND : Hid (∀ (L : List Lv) (i : Nat), Rs L i → L.Perm (H ++ [(⟨u0, (u1, u2), u3⟩, (n : Int))]) → (i = 0 ∨ tl L i ≤ tl L ((i - 1) / 2)) → HO L (s.outs ++ [⟨u0, (u1, u2), u3⟩])) := hide (fun L i hr hp hs => ⟨by
    rw [nums_snoc, ← hno]
    exact hp.trans (h.ho.perm.append_right _), rs_stop hr hs⟩)
  have HST : Hid (Rs (H ++ [((⟨u0, (u1, u2), u3⟩ : En), (n : Int))]) n ∧ (H ++ [((⟨u0, (u1, u2), u3⟩ : En), (n : Int))]).length = n + 1) := hide ⟨by rw [← hnn]; exact rs_start h.ho.hp _, by simp [hnn]⟩
  clear h hno
  have H0 := hide h0
  have HT0 := hide t0
  clear h0 t0
  obtain ⟨w0, hw0⟩ : ∃ w0, w.alloc (.cells #[.int .i64 u0, .int .i64 u1, .int .i64 u2, .int .i64 u3] 50) = w0 := ⟨_, rfl⟩
  have hbl : b < w0.heap.size := by rw [← hw0]; exact (Array.getElem?_eq_some_iff.1 H0.out.row).1
  have hxl : w.heap.size < w0.heap.size := by rw [← hw0]; exact (Array.getElem?_eq_some_iff.1 HX.out).1
  go_enter Try.func24, Try.ntmps24
  go_upto_region 1 with fail
  rw [hw0] at HB0 HX H0 HT0
  (try rw [hw0])
  clear hw0
  obtain ⟨xb, hxb⟩ : ∃ xb, w.heap.size = xb := ⟨_, rfl⟩
  rw [hxb] at HX hxl
  (try rw [hxb])
  have HRO : Hid (w0.ownsRow 0 79 5 (.slice p n cap) n (flatL H)) := hide (by have := H0.out.outs; rwa [hnn] at this)
  rw [hnn] at H0 HT0
  (try rw [hnn])
  have HOB : Hid (some b ≠ (Value.slice p n cap).ownBlock) := hide (fun e => own_book H0.out.outs H0.out.row (by decide) e.symm)
  have HOX : Hid (some xb ≠ (Value.slice p n cap).ownBlock) := hide (fun e => own_book H0.out.outs HX.out (by decide) e.symm)
  have KS : Hid (∀ w' : World, w'.heap[b]? = w0.heap[b]? → w'.heap[xb]? = w0.heap[xb]? → w'.cell? ⟨b, 2, none⟩ = some (.slice p n cap) ∧ w'.frozen? ⟨b, 2, none⟩ = false ∧ w'.cell? ⟨xb, 0, none⟩ = some (.int .i64 u0) ∧ w'.cell? ⟨xb, 1, none⟩ = some (.int .i64 u1) ∧ w'.cell? ⟨xb, 2, none⟩ = some (.int .i64 u2) ∧ w'.cell? ⟨xb, 3, none⟩ = some (.int .i64 u3)) := hide (fun w' h1 h2 => by
    have r1 := h1.trans H0.out.row
    have r2 := h2.trans HX.out
    exact ⟨(cell_of_row w' b 2 _ _ _ r1).trans rfl, by simp [World.frozen?, r1], (cell_of_row w' xb 0 _ _ _ r2).trans rfl, (cell_of_row w' xb 1 _ _ _ r2).trans rfl, (cell_of_row w' xb 2 _ _ _ r2).trans rfl, (cell_of_row w' xb 3 _ _ _ r2).trans rfl⟩)
  have hfl : Hid (flatL (H ++ [((⟨u0, (u1, u2), u3⟩ : En), (n : Int))]) = flatL H ++ [.int .i64 u0, .int .i64 u1, .int .i64 u2, .int .i64 u3, .int .i64 (n : Int)] ∧ (H ++ [((⟨u0, (u1, u2), u3⟩ : En), (n : Int))]).length = n + 1) := hide ⟨flatL_snoc1 _ _, by simp [hnn]⟩
  have FIN : Hid (∀ (q : Option Addr) (d : Nat) (w3 : World) (c : Obj), (w0.drew.alloc c).grownBy w3 (Value.slice p n cap).ownBlock → w3.ownsRow 0 79 5 (.slice q (n + 1) d) (n + 1) (flatL H ++ [.int .i64 u0, .int .i64 u1, .int .i64 u2, .int .i64 u3, .int .i64 (n : Int)]) → ((Value.slice q (n + 1) d).ownBlock = (Value.slice p n cap).ownBlock ∨ (Value.slice q (n + 1) d).ownBlock = some (w0.drew.alloc c).heap.size) → Hid (((w3.setCell ⟨b, 2, none⟩ (.slice q (n + 1) d)).heap[b]? = some (.cells #[.int .i64 s.cpus, vi, .slice q (n + 1) d] 57 (0, 0)) ∧ (w3.setCell ⟨b, 2, none⟩ (.slice q (n + 1) d)).ownsRow 0 50 4 vi s.ins.length (flatE s.ins) ∧ (w3.setCell ⟨b, 2, none⟩ (.slice q (n + 1) d)).ownsRow 0 79 5 (.slice q (n + 1) d) (n + 1) (flatL (H ++ [((⟨u0, (u1, u2), u3⟩ : En), (n : Int))]))) ∧ Tn w (w3.setCell ⟨b, 2, none⟩ (.slice q (n + 1) d)) (RF b vi (.slice p n cap)) (RF b vi (.slice q (n + 1) d)))) := hide (fun q d w3 c hg ho hv => hide (by
    have := bput_outs (L := H ++ [((⟨u0, (u1, u2), u3⟩ : En), (n : Int))]) (wq := w0.drew.alloc c) H0.out HT0.out (bel_alloc (bel_drew (Below.refl _ w0)) (Nat.le_refl _) c) hg (by rw [hfl.out.1, hfl.out.2]; exact ho) hv
    rw [hfl.out.2] at this
    exact this))
  obtain ⟨i0, hi, hz0, hz1', hz2⟩ := info_parts infoLv
  have ON3 : Hid (∀ u ∈ [Value.int .i64 u0, .int .i64 u1, .int .i64 u2, .int .i64 u3, .int .i64 (n : Int)], u.oneCell' = true) := hide (by intro u hu; simp at hu; rcases hu with rfl | rfl | rfl | rfl | rfl <;> rfl)
  have SZ3 : Hid (n + 1 ≤ maxLen ∧ (n + 1) * 40 ≤ 140737488355328) := hide ⟨by unfold maxLen; omega, by omega⟩
  clear HB0 HX HT0 H0 hnn HE hfl
  obtain ⟨k2, kf, k0, k1, kk2, k3⟩ := KS.out w0 rfl rfl
  generalize flatL H = FL at *
  go_wp2
  go_region_held3 (fun w' => w'.cell? ⟨b, 2, none⟩ = some (.slice p n cap) ∧ w'.cell? ⟨xb, 0, none⟩ = some (.int .i64 u0) ∧ w'.cell? ⟨xb, 1, none⟩ = some (.int .i64 u1) ∧ w'.cell? ⟨xb, 2, none⟩ = some (.int .i64 u2) ∧ w'.cell? ⟨xb, 3, none⟩ = some (.int .i64 u3)) (first | (exact ⟨k2, k0, k1, kk2, k3⟩) | go_keep)
    (first | (refine step_append_rd (some 17) (by rfl) (by rfl) _ _ 55 (by rfl) 0 79 i0 (.agg #[.int .i64 0, .int .i64 0, .int .i64 0, .int .i64 0, .int .i64 0]) 5 40 Try.underlying55 hi hz0 hz1' hz2 rfl (by decide) (.slice p n cap) n FL (by rfl) (by exact HRO.out.alloc _) _ _ 1 [.int .i64 u0, .int .i64 u1, .int .i64 u2, .int .i64 u3, .int .i64 (n : Int)] (by rfl) (by exact rd_one (cs := #[.int .i64 u0, .int .i64 u1, .int .i64 u2, .int .i64 u3, .int .i64 (n : Int)]) (by exact heap_alloc_at _ _ _ rfl) rfl) (by exact ON3.out) (n + 1) (by exact rfl) (FL ++ [.int .i64 u0, .int .i64 u1, .int .i64 u2, .int .i64 u3, .int .i64 (n : Int)]) (by exact rfl) (by exact SZ3.out.1) (by exact SZ3.out.2) (by exact Nat.zero_le _) ?_; intro q3 d3 w3 ho3 hg3 ha3 hp3; have HK3 := hide (KS.out w3 ((hg3.block b (by simp; omega) (by exact HOB.out)).trans (heap_alloc_old _ _ (by exact hbl))) ((hg3.block xb (by simp; omega) (by exact HOX.out)).trans (heap_alloc_old _ _ (by exact hxl)))); have HF3 := hide (FIN.out _ _ _ _ hg3 ho3 ha3); clear k2 k0 k1 kk2 k3; obtain ⟨k2, _, k0, k1, kk2, k3⟩ := HK3.out; have hqg := hide (own_some ho3); clear ho3 hg3 ha3 hp3))
  obtain ⟨g, hqg⟩ := hqg.out
  subst hqg
  have fz := HK3.out.2.1
  clear k0 k1 kk2 k3 KS FIN HRO HOB HOX ON3 SZ3 HK3 kf
  go_upto_region 3 with fail
  clear k2 fz
  obtain ⟨hR6, hT6⟩ := HF3.out.out
  generalize w3.setCell ⟨b, 2, none⟩ (.slice (some ⟨g, 0, none⟩) (n + 1) d3) = w6 at *
  have HR6 := hide hR6
  have HT6 := hide hT6
  clear hR6 hT6 HF3
  go_wp2
  go_loopw [5, 6] (fun a _ wr => ∃ (i : Nat) (L : List Lv), a = .int .i64 i ∧ i ≤ n ∧ Hid (Rs L i ∧ L.Perm (H ++ [((⟨u0, (u1, u2), u3⟩ : En), (n : Int))]) ∧ L.length = n + 1) ∧ Hid (wr.ownsRow 0 79 5 (.slice (some ⟨g, 0, none⟩) (n + 1) d3) (n + 1) (flatL L)) ∧ Hid (Tn w6 wr (fun k => k = g) (fun k => k = g))) (fun a _ _ => (intOf a).toNat)
  case atStart => exact ⟨n, H ++ [((⟨u0, (u1, u2), u3⟩ : En), (n : Int))], by go_num, by omega, hide ⟨HST.out.1, List.Perm.refl _, HST.out.2⟩, hide HR6.out.2.2, hide (Tn.of_nx (Nx.refl _) _)⟩
  case round =>
    obtain ⟨i, L, rfl, hin, HL, HO, HN⟩ := hrel
    by_cases h0 : i = 0
    · subst h0
      have FF := hide (bput_end (s := s) (e := ⟨u0, (u1, u2), u3⟩) HR6.out HT6.out HO.out HL.out.2.2 HN.out (HEND.out L 0 HL.out.1 HL.out.2.1 (.inl rfl)))
      clear HEND HST HR6 HT6 HL HO HN
      go_wp2
      go_end0
      exact ⟨rfl, .slice (some ⟨g, 0, none⟩) (n + 1) d3, L, by rw [HNN.out]; exact FF⟩
    · obtain ⟨r, hrd⟩ : ∃ r, r = (i - 1) / 2 := ⟨_, rfl⟩
      have hr : ((i : Int) - 1) / 2 = (r : Int) := by omega
      have hri : r < i := by omega
      have HRD := hide hrd
      have hi0 : (0 : Int) < (i : Int) := by omega
      have hi1 : (i : Int) < (n : Int) + 1 := by omega
      have hr1 : (r : Int) < (n : Int) + 1 := by omega
      obtain ⟨⟨a0, a1, a2, a3, a4⟩, fz⟩ := lv_cells HO.out HL.out.2.2 (i := i) (by omega)
      obtain ⟨⟨c0, c1, c2, c3, c4⟩, _⟩ := lv_cells HO.out HL.out.2.2 (i := r) (by omega)
      obtain ⟨xi, hxi⟩ : ∃ xi, atL L i = xi := ⟨_, rfl⟩
      obtain ⟨xr, hxr⟩ : ∃ xr, atL L r = xr := ⟨_, rfl⟩
      rw [hxi] at a0 a1 a2 a3 a4
      rw [hxr] at c0 c1 c2 c3 c4
      have HXI := hide hxi
      have HXR := hide hxr
      clear hxi hxr hrd
      obtain ⟨⟨x0, ⟨x1, x2⟩, x3⟩, x4⟩ := xi
      obtain ⟨⟨z0, ⟨z1, z2⟩, z3⟩, z4⟩ := xr
      dsimp only at a0 a1 a2 a3 a4 c0 c1 c2 c3 c4
      by_cases ht : x3 ≤ z3
      · have FF := hide (bput_end (s := s) (e := ⟨u0, (u1, u2), u3⟩) HR6.out HT6.out (own_drew HO.out) HL.out.2.2 (HN.out.trans (tn_drew wr _)) (HEND.out L i HL.out.1 HL.out.2.1 (.inr (by unfold tl; rw [← HRD.out, HXI.out, HXR.out]; exact ht))))
        clear HEND HST HR6 HT6 HL HO HN HXI HXR HRD
        go_wp2
        go_region_held3 (fun w' => w'.cell? ⟨g, i * 5 + 3, none⟩ = some (.int .i64 x3) ∧ w'.cell? ⟨g, r * 5 + 3, none⟩ = some (.int .i64 z3)) (go_keep) (fail)
        go_wp2
        refine bodyPost_ret (results_none rfl _ _ _) rfl ?_
        exact ⟨rfl, .slice (some ⟨g, 0, none⟩) (n + 1) d3, L, by rw [HNN.out]; exact FF⟩
      · have ht2 : z3 < x3 := by omega
        have HS := hide (rs_step HL.out.1 (by omega) (by unfold tl; rw [← HRD.out, HXI.out, HXR.out]; exact ht2))
        rw [← HRD.out] at HS
        have HP2 := hide ((swp_perm L r i (by have := HL.out.2.2; omega) (by have := HL.out.2.2; omega)).trans HL.out.2.1)
        have HO1 := hide (own_drew (own_drew (own_st5 (i := r) (x := ((⟨x0, (x1, x2), x3⟩ : En), x4)) HO.out HL.out.2.2 (by omega))))
        have HL1 : Hid ((L.set r ((⟨x0, (x1, x2), x3⟩ : En), x4)).length = n + 1) := hide (by rw [List.length_set]; exact HL.out.2.2)
        have HL2 : Hid ((swp L r i).length = n + 1) := hide (by rw [swp_length]; exact HL.out.2.2)
        have HSW : Hid ((L.set r ((⟨x0, (x1, x2), x3⟩ : En), x4)).set i ((⟨z0, (z1, z2), z3⟩ : En), z4) = swp L r i) := hide (by rw [← HXI.out, ← HXR.out]; rfl)
        have HXI1 : Hid (atL (L.set r ((⟨x0, (x1, x2), x3⟩ : En), x4)) i = ((⟨x0, (x1, x2), x3⟩ : En), x4)) := hide (by rw [at_set _ _ _ _ (by have := HL.out.2.2; omega), if_neg (by omega)]; exact HXI.out)
        have HN1 := hide (((HN.out.trans (tn_st5 wr g r ((⟨x0, (x1, x2), x3⟩ : En), x4))).trans (tn_drew _ _)).trans (tn_drew _ _))
        obtain ⟨wx, hwx⟩ : ∃ wx, (st5 wr g r ((⟨x0, (x1, x2), x3⟩ : En), x4)).drew.drew = wx := ⟨_, rfl⟩
        have hwx2 : Hid ((((((wr.setCell ⟨g, r * 5, none⟩ (.int .i64 x0)).setCell ⟨g, r * 5 + 1, none⟩ (.int .i64 x1)).setCell ⟨g, r * 5 + 2, none⟩ (.int .i64 x2)).setCell ⟨g, r * 5 + 3, none⟩ (.int .i64 x3)).setCell ⟨g, r * 5 + 4, none⟩ (.int .i64 x4)).drew.drew = wx) := hide hwx
        rw [hwx] at HO1 HN1
        clear hwx
        have HC1 := hide (lv_cells HO1.out HL1.out (i := i) (by omega))
        have HO2 := hide (own_st5 (i := i) (x := ((⟨z0, (z1, z2), z3⟩ : En), z4)) HO1.out HL1.out (by omega))
        have HN2 := hide (HN1.out.trans (tn_st5 wx g i ((⟨z0, (z1, z2), z3⟩ : En), z4)))
        rw [HSW.out] at HO2
        have HLL := hide (And.intro HS.out (And.intro HP2.out HL2.out))
        rw [HXI1.out] at HC1
        clear HS HP2 HO1 HL1 HL2 HSW HXI1 HN1 HL HO HN HXI HXR
        go_wp2
        go_region_held3 (fun w' => w'.cell? ⟨g, i * 5 + 3, none⟩ = some (.int .i64 x3) ∧ w'.cell? ⟨g, r * 5 + 3, none⟩ = some (.int .i64 z3)) (go_keep) (fail)
        go_wp2
        refine wp_region_noPanic ?_
        refine OrdU.region_U (S := fun w' => (w'.cell? ⟨g, i * 5, none⟩ = some (.int .i64 x0) ∧ w'.cell? ⟨g, i * 5 + 1, none⟩ = some (.int .i64 x1) ∧ w'.cell? ⟨g, i * 5 + 2, none⟩ = some (.int .i64 x2) ∧ w'.cell? ⟨g, i * 5 + 3, none⟩ = some (.int .i64 x3) ∧ w'.cell? ⟨g, i * 5 + 4, none⟩ = some (.int .i64 x4)) ∧ w'.cell? ⟨g, r * 5, none⟩ = some (.int .i64 z0) ∧ w'.cell? ⟨g, r * 5 + 1, none⟩ = some (.int .i64 z1) ∧ w'.cell? ⟨g, r * 5 + 2, none⟩ = some (.int .i64 z2) ∧ w'.cell? ⟨g, r * 5 + 3, none⟩ = some (.int .i64 z3) ∧ w'.cell? ⟨g, r * 5 + 4, none⟩ = some (.int .i64 z4)) [13, 15] (by kernel_rfl) ?_ (fun hHeld => ?_)
        · exact ⟨⟨a0, a1, a2, a3, a4⟩, c0, c1, c2, c3, c4⟩
        refine OrdU.AnyU.takeP (i := 0) (v := ?_) (some 42) (by rfl) (by rfl) (by kernel_rfl) (by kernel_rfl) (by kernel_rfl) (fun _ _ _ h => h) (Or.inl ⟨by rfl, ?_⟩) ?_
        rotate_left
        · intro w _; first | (go_simp; done) | (go_simp; with_reducible rfl)
        (try simp only [Act.put, List.setIfInBounds_toArray, List.set_cons_zero, List.set_cons_succ])
        refine OrdU.AnyU.takeP (i := 1) (v := ?_) (some 43) (by rfl) (by rfl) (by kernel_rfl) (by kernel_rfl) (by kernel_rfl) (fun _ _ _ h => h) (Or.inl ⟨by rfl, ?_⟩) ?_
        rotate_left
        · intro w _; first | (go_simp; done) | (go_simp; with_reducible rfl)
        (try simp only [Act.put, List.setIfInBounds_toArray, List.set_cons_zero, List.set_cons_succ])
        refine OrdU.AnyU.takeP (i := 2) (v := ?_) (some 44) (by rfl) (by rfl) (by kernel_rfl) (by kernel_rfl) (by kernel_rfl) (fun _ _ _ h => h) (Or.inl ⟨by rfl, ?_⟩) ?_
        rotate_left
        · intro w _; first | (go_simp; done) | (go_simp; with_reducible rfl)
        (try simp only [Act.put, List.setIfInBounds_toArray, List.set_cons_zero, List.set_cons_succ])
        refine OrdU.AnyU.takeP (i := 3) (v := ?_) (some 45) (by rfl) (by rfl) (by kernel_rfl) (by kernel_rfl) (by kernel_rfl) (fun _ _ _ h => h) (Or.inl ⟨by rfl, ?_⟩) ?_
        rotate_left
        · intro w _; first | (go_simp; done) | (go_simp; with_reducible rfl)
        (try simp only [Act.put, List.setIfInBounds_toArray, List.set_cons_zero, List.set_cons_succ])
        refine OrdU.AnyU.takeP (i := 4) (v := ?_) (some 46) (by rfl) (by rfl) (by kernel_rfl) (by kernel_rfl) (by kernel_rfl) (fun _ _ _ h => h) (Or.inl ⟨by rfl, ?_⟩) ?_
        rotate_left
        · intro w _; first | (go_simp; done) | (go_simp; with_reducible rfl)
        (try simp only [Act.put, List.setIfInBounds_toArray, List.set_cons_zero, List.set_cons_succ])
        refine OrdU.AnyU.takeP (i := 5) (v := ?_) (some 47) (by rfl) (by rfl) (by kernel_rfl) (by kernel_rfl) (by kernel_rfl) (fun _ _ _ h => h) (Or.inl ⟨by rfl, ?_⟩) ?_
        rotate_left
        · intro w _; first | (go_simp; done) | (go_simp; with_reducible rfl)
        (try simp only [Act.put, List.setIfInBounds_toArray, List.set_cons_zero, List.set_cons_succ])
        refine OrdU.AnyU.takeP (i := 6) (v := ?_) (some 48) (by rfl) (by rfl) (by kernel_rfl) (by kernel_rfl) (by kernel_rfl) (fun _ _ _ h => h) (Or.inl ⟨by rfl, ?_⟩) ?_
        rotate_left
        · intro w _; first | (go_simp; done) | (go_simp; with_reducible rfl)
        (try simp only [Act.put, List.setIfInBounds_toArray, List.set_cons_zero, List.set_cons_succ])
        refine OrdU.AnyU.take (i := 7) (v := ?_) (some 49) (by rfl) (by rfl) (by kernel_rfl) (by kernel_rfl) (by kernel_rfl) (by kernel_rfl) (fun _ _ _ h => h) (Or.inl ⟨by rfl, ?_⟩) (by assumption) ?_
        rotate_left
        · intro w hSw; (try dsimp only at hSw); first | (go_simp; done) | (go_simp; with_reducible rfl)
        (try simp only [Act.put, List.setIfInBounds_toArray, List.set_cons_zero, List.set_cons_succ])
        refine OrdU.AnyU.takeP (i := 8) (v := ?_) (some 50) (by rfl) (by rfl) (by kernel_rfl) (by kernel_rfl) (by kernel_rfl) (fun _ _ _ h => h) (Or.inl ⟨by rfl, ?_⟩) ?_
        rotate_left
        · intro w _; first | (go_simp; done) | (go_simp; with_reducible rfl)
        (try simp only [Act.put, List.setIfInBounds_toArray, List.set_cons_zero, List.set_cons_succ])
        refine OrdU.AnyU.takeP (i := 9) (v := ?_) (some 51) (by rfl) (by rfl) (by kernel_rfl) (by kernel_rfl) (by kernel_rfl) (fun _ _ _ h => h) (Or.inl ⟨by rfl, ?_⟩) ?_
        rotate_left
        · intro w _; first | (go_simp; done) | (go_simp; with_reducible rfl)
        (try simp only [Act.put, List.setIfInBounds_toArray, List.set_cons_zero, List.set_cons_succ])
        refine OrdU.AnyU.takeP (i := 10) (v := ?_) (some 52) (by rfl) (by rfl) (by kernel_rfl) (by kernel_rfl) (by kernel_rfl) (fun _ _ _ h => h) (Or.inl ⟨by rfl, ?_⟩) ?_
        rotate_left
        · intro w _; first | (go_simp; done) | (go_simp; with_reducible rfl)
        (try simp only [Act.put, List.setIfInBounds_toArray, List.set_cons_zero, List.set_cons_succ])
        refine OrdU.AnyU.take (i := 11) (v := ?_) (some 53) (by rfl) (by rfl) (by kernel_rfl) (by kernel_rfl) (by kernel_rfl) (by kernel_rfl) (fun _ _ _ h => h) (Or.inl ⟨by rfl, ?_⟩) (by assumption) ?_
        rotate_left
        · intro w hSw; (try dsimp only at hSw); first | (go_simp; done) | (go_simp; with_reducible rfl)
        (try simp only [Act.put, List.setIfInBounds_toArray, List.set_cons_zero, List.set_cons_succ])
        refine OrdU.AnyU.takeP (i := 12) (v := ?_) (some 54) (by rfl) (by rfl) (by kernel_rfl) (by kernel_rfl) (by kernel_rfl) (fun _ _ _ h => h) (Or.inl ⟨by rfl, ?_⟩) ?_
        rotate_left
        · intro w _; first | (go_simp; done) | (go_simp; with_reducible rfl)
        (try simp only [Act.put, List.setIfInBounds_toArray, List.set_cons_zero, List.set_cons_succ])
        clear hHeld
        refine OrdU.AnyU.one (i := 13) (by kernel_rfl) (by rfl) (fun K hK => ?_)
        go_simp
        refine hK.out _ _ (fun _ h => absurd (by decide) h) ?_
        clear hK K
        (try simp only [Act.put, List.setIfInBounds_toArray, List.set_cons_zero, List.set_cons_succ])
        rw [hwx2.out]
        clear a0 a1 a2 a3 a4 c0 c1 c2 c3 c4 fz hwx2
        obtain ⟨⟨a0, a1, a2, a3, a4⟩, fz⟩ := HC1.out
        refine OrdU.AnyU.one (i := 14) (by kernel_rfl) (by rfl) (fun K hK => ?_)
        go_simp
        refine hK.out _ _ (fun h _ => h) ?_
        clear hK K
        (try simp only [Act.put, List.setIfInBounds_toArray, List.set_cons_zero, List.set_cons_succ])
        refine OrdU.AnyU.one (i := 15) (by kernel_rfl) (by rfl) (fun K hK => ?_)
        go_simp
        refine hK.out _ _ (fun _ h => absurd (by decide) h) ?_
        clear hK K
        (try simp only [Act.put, List.setIfInBounds_toArray, List.set_cons_zero, List.set_cons_succ])
        refine OrdU.AnyU.done (by kernel_rfl) ?_ _
        refine NoPanic.normal ?_
        clear HC1 a0 a1 a2 a3 a4 fz
        go_wp2
        go_roundw
        case rel => exact ⟨r, swp L r i, by go_num, by omega, HLL, HO2, HN2⟩
        case measure => simp [intOf]; omega
end Go.Proofs.Ytldccbinndbcdaa.Am
