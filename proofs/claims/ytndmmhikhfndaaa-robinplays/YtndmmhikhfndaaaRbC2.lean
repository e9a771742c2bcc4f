/- The landed code: Add, Drop, See, Take. -/
import Derived.Test.YtndmmhikhfndaaaRbC1
namespace Go.Proofs.Ytndmmhikhfndaaa.Rb
open Go.RowKit Go.Proofs.Ytndmmhikhfndaaa.Con Go.Proofs.Ytndmmhikhfndaaa.Fp
set_option linter.unusedVariables false
set_option linter.unusedSimpArgs false
attribute [local go_sem ↓] Go.wp_at_zero Go.wp_at_succ
theorem addC : AddC Ri := by
  rintro W b s F id ⟨fb, v, h⟩ g
  have c0 := h.cell
  have HR : Hid (Ri W b s F) := hide ⟨fb, v, h⟩
  have HK := hide (fun (w' : World) (hB : Nx W w') => (⟨⟨fb, v, h.nx hB⟩, Tn.of_nx hB F⟩ : Ri w' b s F ∧ Tn W w' F F))
  by_cases h1 : id < 0
  · have e1 : addE s id = 1 := by unfold addE; rw [if_pos h1]
    have e2 := add_n (s := s) (id := id) (by rw [e1]; decide)
    rw [e1, e2]
    clear h e1 e2 g
    go_enter Try.func9, Try.ntmps9
    go_wp2
    go_ret
    exact ⟨F, rfl, HK.out _ (Nx.refl _)⟩
  have HP := hide (rq_place h id)
  by_cases h2 : id ∈ s.l
  · have e1 : addE s id = 5 := by unfold addE; rw [if_neg h1, if_pos h2]
    have e2 := add_n (s := s) (id := id) (by rw [e1]; decide)
    rw [e1, e2]
    rw [show plc s.l id = ((s.l.idxOf id : Nat) : Int) by unfold plc; rw [if_pos h2]] at HP
    generalize s.l.idxOf id = k at *
    clear h e1 e2 g h2
    go_enter Try.func9, Try.ntmps9
    go_wp2_with (go_at_call 17; refine HP.out.mono ?_; rintro e w1 ⟨rfl, hw⟩; have hw2 := hw.symm; clear hw; subst hw2)
    go_ret
    exact ⟨F, rfl, HK.out _ (Nx.refl _)⟩
  rw [show plc s.l id = -1 by unfold plc; rw [if_neg h2]] at HP
  by_cases h3 : s.room ≤ s.l.length
  · have e1 : addE s id = 3 := by unfold addE; rw [if_neg h1, if_neg h2, if_pos h3]
    have e2 := add_n (s := s) (id := id) (by rw [e1]; decide)
    rw [e1, e2]
    have HF := hide (rq_full h id (by have := g.len; omega))
    clear h e1 e2 g h2 h3
    go_enter Try.func9, Try.ntmps9
    go_wp2_with (first
      | (go_at_call 17; refine HP.out.mono ?_; rintro e w1 ⟨rfl, hw⟩; have hw2 := hw.symm; clear hw; subst hw2)
      | (go_at_call 18; refine HF.out.mono ?_; rintro e w2 ⟨rfl, hb⟩; have HB := hide hb; clear hb))
    go_ret
    exact ⟨F, rfl, HK.out _ HB.out⟩
  · have e1 : addE s id = 0 := by unfold addE; rw [if_neg h1, if_neg h2, if_neg h3]
    rw [add_y e1, e1]
    have HF := hide (rq_put h id (by omega))
    clear h e1 g h2 h3
    go_enter Try.func9, Try.ntmps9
    go_wp2_with (first
      | (go_at_call 17; refine HP.out.mono ?_; rintro e w1 ⟨rfl, hw⟩; have hw2 := hw.symm; clear hw; subst hw2)
      | (go_at_call 18; refine HF.out.mono ?_; rintro e w2 ⟨rfl, F2, hb⟩; have HB := hide hb; clear hb))
    go_ret
    exact ⟨F2, rfl, HB.out⟩
theorem dropC : DropC Ri := by
  rintro W b s F id ⟨fb, v, h⟩ g
  have c0 := h.cell
  have HD := hide (rq_drop h id)
  have e2 : dropS s id = ⟨s.room, s.l.erase id⟩ := rfl
  rw [e2]
  clear e2 g
  by_cases h2 : id ∈ s.l
  · have e1 : dropE s id = 0 := by unfold dropE; rw [if_pos h2]
    rw [e1]
    rw [decide_eq_true h2] at HD
    clear h e1 h2
    go_enter Try.func10, Try.ntmps10
    go_wp2_with (go_at_call 19; refine HD.out.mono ?_; rintro e w1 ⟨rfl, F2, hb⟩; have HB := hide hb; clear hb)
    go_ret
    exact ⟨F2, rfl, HB.out⟩
  · have e1 : dropE s id = 2 := by unfold dropE; rw [if_neg h2]
    rw [e1]
    rw [decide_eq_false h2] at HD
    clear h e1 h2
    go_enter Try.func10, Try.ntmps10
    go_wp2_with (go_at_call 19; refine HD.out.mono ?_; rintro e w1 ⟨rfl, F2, hb⟩; have HB := hide hb; clear hb)
    go_ret
    exact ⟨F2, rfl, HB.out⟩
/-- A row made behind w0 is read up to its k-th. -/
theorem seeC : SeeC Ri := by
  rintro W b s F n ⟨fb, v, h⟩ g
  have c0 := h.cell
  have HA := hide (rq_all h)
  have HL := h.lt
  have hk := clN_le s n
  have HU : Hid (∀ (w1 : World) (p : Option Addr) (c : Nat), IRow W.heap.size w1 (.slice p s.l.length c) s.l → Nx W w1 → (∃ q d, (∀ w2 : World, (Instr.slice 28 (.slice p s.l.length c) none (some (.int .i64 (clN s n : Int))) none).run Try.prog w2 = .ok (.slice q (clN s n) d) w2) ∧ Sf w1 F (.slice q (clN s n) d) (seeL s n)) ∧ Ri w1 b s F ∧ Tn W w1 F F ∧ Calls Try.prog 20 #[ptr b, .int .i64 n] w1 fun e w' => e = .returned (.int .i64 (clN s n : Int)) ∧ w' = w1) := hide (fun w1 p c hr hB => by
    obtain ⟨q, d, h1, h2⟩ := upto_sf hr HL (clN s n) hk
    exact ⟨⟨q, d, h1, h2⟩, ⟨fb, v, h.nx hB⟩, Tn.of_nx hB F, held_ri ⟨fb, v, h.nx hB⟩ n⟩)
  generalize clN s n = N at *
  generalize seeL s n = S at *
  generalize s.l.length = M at *
  clear h g HL hk
  go_enter Try.func12, Try.ntmps12
  go_wp2_with (first
    | (go_at_call 22; refine HA.out.mono ?_; rintro e w1 ⟨p1, c1, rfl, hr, hb⟩; obtain ⟨⟨q, d, hs1, hS⟩, hI, hT, hH⟩ := HU.out w1 p1 c1 hr.out hb; have HS := hide hS; have HI := hide hI; have HT := hide hT; have HH := hide hH; clear hr hb hS hI hT hH)
    | (go_at_call 20; refine HH.out.mono ?_; rintro e w2 ⟨rfl, hw⟩; have hw2 := hw.symm; clear hw; subst hw2))
  go_ret
  exact ⟨_, F, rfl, HI.out, HT.out, HS.out⟩
theorem takeC : TakeC Ri := by
  rintro W b s F n h g
  have HS := hide (seeC W b s F n h g)
  have HT := hide (fun (w1 : World) (F1 : Nat → Prop) (hI : Ri w1 b s F1) => turn_ri hI (clN s n) (clN_le s n) (by have := g.len; have := g.most; omega))
  have hl : (seeL s n).length = clN s n := by unfold seeL; rw [List.length_take]; have := clN_le s n; omega
  have HL := hide hl
  have e2 : takeS s n = ⟨s.room, s.l.drop (clN s n) ++ s.l.take (clN s n)⟩ := rfl
  rw [← e2] at HT
  clear h g e2
  generalize seeL s n = S at *
  generalize takeS s n = S2 at *
  generalize clN s n = N at *
  subst hl
  go_enter Try.func14, Try.ntmps14
  go_wp2_with (first
    | (go_at_call 12; refine HS.out.mono ?_; rintro e w1 ⟨v1, F1, rfl, hh⟩; have H1 := hide hh.out; obtain ⟨p1, c1, rfl, _, _⟩ := hh.out.2.2.is.form; clear hh)
    | (go_at_call 21; refine (HT.out _ _ H1.out.1).mono ?_; rintro e w2 ⟨rfl, F2, hh⟩; have H2 := hide hh.out; clear hh))
  go_ret
  exact ⟨_, F2, rfl, H2.out.1, H1.out.2.1.trans H2.out.2, H1.out.2.2.tn H2.out.2⟩
end Go.Proofs.Ytndmmhikhfndaaa.Rb
