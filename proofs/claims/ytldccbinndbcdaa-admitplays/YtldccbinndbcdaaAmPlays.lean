/- AdmitPlays: the book against the reference's. -/
import Derived.Test.YtldccbinndbcdaaAmDu
import Derived.Test.YtldccbinndbcdaaAmEn
import Derived.Test.YtldccbinndbcdaaAmAsks
namespace Go.Proofs.Ytldccbinndbcdaa.Am
open Go.RowKit Go.Proofs.Ytldccbinndbcdaa.Con Go.Proofs.Ytldccbinndbcdaa.Wn Go.Proofs.Ytldccbinndbcdaa.Fp
set_option linter.unusedVariables false
set_option linter.unusedSimpArgs false
attribute [local go_sem ↓] Go.wp_at_zero Go.wp_at_succ
theorem change_outs2 {s : Bs} {id : Int} {x : Pr} {now : Int} : (change s id x now).outs = s.outs := by unfold change; split <;> rfl
/-- What the law keeps from round to round: both alike, boxes beside. -/
def Kq (I : BkI) (W w : World) (b r : Nat) (k : Nat) (bx : List (Nat × Obj)) : Prop := ∃ s, Du I W w b r s s bx ∧ s.outs.length ≤ k
theorem Kq.on {I : BkI} (K : Bk I) {W w w' : World} {b r k : Nat} {bx : List (Nat × Obj)} (h : Kq I W w b r k bx) (hB : Nx w w') : Kq I W w' b r k bx := by
  obtain ⟨s, h1, h2⟩ := h; exact ⟨s, h1.on K hB, h2⟩
theorem Kq.sub {I : BkI} {W w : World} {b r k : Nat} {bx bx' : List (Nat × Obj)} (h : Kq I W w b r k bx) (hs : ∀ p ∈ bx', p ∈ bx) : Kq I W w b r k bx' := by
  obtain ⟨s, h1, h2⟩ := h; exact ⟨s, h1.sub hs, h2⟩
theorem actcells {I : BkI} {W w : World} {b r g : Nat} {s sr : Bs} {bx : List (Nat × Obj)} {z0 z1 z2 z3 z4 z5 : Int} (h : Du I W w b r s sr bx) (hm : (g, Obj.cells #[.int .i64 z0, .int .i64 z1, .int .i64 z2, .int .i64 z3, .int .i64 z4, .int .i64 z5] 41) ∈ bx) :
    w.cell? ⟨g, 0, none⟩ = some (.int .i64 z0) ∧ w.cell? ⟨g, 1, none⟩ = some (.int .i64 z1) ∧ w.cell? ⟨g, 2, none⟩ = some (.int .i64 z2) ∧ w.cell? ⟨g, 3, none⟩ = some (.int .i64 z3) ∧ w.cell? ⟨g, 4, none⟩ = some (.int .i64 z4) ∧ w.cell? ⟨g, 5, none⟩ = some (.int .i64 z5) := by
  have r0 := h.box _ hm
  exact ⟨(cell_of_row w g 0 _ _ _ r0).trans rfl, (cell_of_row w g 1 _ _ _ r0).trans rfl, (cell_of_row w g 2 _ _ _ r0).trans rfl, (cell_of_row w g 3 _ _ _ r0).trans rfl, (cell_of_row w g 4 _ _ _ r0).trans rfl, (cell_of_row w g 5 _ _ _ r0).trans rfl⟩
theorem paircells {I : BkI} {W w : World} {b r g : Nat} {s sr : Bs} {bx : List (Nat × Obj)} {z2 z3 : Int} (h : Du I W w b r s sr bx) (hm : (g, Obj.cells #[.int .i64 z2, .int .i64 z3] 42) ∈ bx) :
    w.cell? ⟨g, 0, none⟩ = some (.int .i64 z2) ∧ w.cell? ⟨g, 1, none⟩ = some (.int .i64 z3) := row2 (h.box _ hm)
set_option maxHeartbeats 16000000 in
set_option maxRecDepth 100000 in
theorem plays_walk {I : BkI} (K : Hid (Bk I)) (hA : Hid AwakeC) (c : Int) (lp : Option Addr) (N cap : Nat) (Z : Nat → Nat → Int) (W : World) (hcl : Acts W lp N Z) :
    Calls Try.prog 4 #[.int .i64 c, .slice lp N cap] W fun e w' => e = .returned (.bool true) ∧ Nx W w' := by
  have HCL := hide hcl
  clear hcl
  go_enter Try.func4, Try.ntmps4
  go_wp2_with fail
  refine (hA.out _).mono ?_
  rintro e w1 ⟨rfl, hb⟩
  have B1 := hide hb
  clear hb
  by_cases hc : 1 ≤ c ∧ c ≤ 64
  rotate_left
  · go_wp2_with fail
    refine (at_not K.out (Nx.refl w1) hc).mono ?_
    rintro e w2 ⟨rfl, hb⟩
    have B2 := hide (Nx.trans B1.out hb)
    by_cases c1 : c < 1
    · go_wp2
      go_ret
      exact ⟨rfl, B2.out⟩
    · have c2 : 64 < c := by omega
      have c1' : decide (c < 1) = false := decide_eq_false c1
      go_wp2
      go_ret
      exact ⟨rfl, B2.out⟩
  have c1' : decide (c < 1) = false := decide_eq_false (by omega)
  have c2' : decide (64 < c) = false := decide_eq_false (by omega)
  go_wp2_with fail
  refine (du_new K.out hc).mono ?_
  rintro e w2 ⟨b, rfl, hD, hb⟩
  have D2 := hide hD.out
  have B2 := hide (Nx.trans B1.out hb)
  clear hb hD
  by_cases hN : 80 < (N : Int)
  · go_wp2
    go_ret
    exact ⟨rfl, B2.out⟩
  have dN : decide (80 < (N : Int)) = false := decide_eq_false hN
  have hN80 : N ≤ 80 := by omega
  go_wp2
  generalize w2.heap.size = r at *
  generalize w2.alloc (.cells #[.int .i64 c, .slice none 0 0, .slice none 0 0] 39) = w3 at *
  clear B2 c1' c2' hc
  go_loopw [8, 9, 10, 11, 12] (fun i _ _ _ _ wr => ∃ k : Nat, k ≤ N ∧ i = .int .i64 (k : Int) ∧ Hid (Kq I w1 wr b r k [])) (fun i _ _ _ _ _ => N - (intOf i).toNat)
  case atStart => exact ⟨0, by omega, rfl, hide ⟨_, D2.out, by simp⟩⟩
  case round =>
    obtain ⟨k, hk, rfl, HK⟩ := hrel
    by_cases hkn : k < N
    rotate_left
    · obtain rfl : k = N := by omega
      obtain ⟨s, hA1, _⟩ := HK.out
      have B2 := hide (Nx.trans B1.out hA1.nx)
      go_wp2
      go_ret
      exact ⟨rfl, B2.out⟩
    have hk1 : (k : Int) < (N : Int) := by omega
    obtain ⟨b0, o0, rfl, hcells⟩ := HCL.out.at hkn
    obtain ⟨s, hA1, hso⟩ := HK.out
    have HA := hide hA1
    obtain ⟨x0, x1, x2, x3, x4, x5⟩ := hcells wr (Nx.trans B1.out hA1.nx)
    clear hcells HK hA1
    generalize Z k 0 = z0 at *
    generalize Z k 1 = z1 at *
    generalize Z k 2 = z2 at *
    generalize Z k 3 = z3 at *
    generalize Z k 4 = z4 at *
    generalize Z k 5 = z5 at *
    have DA := hide (((HA.out.lay K.out (.cells #[.int .i64 z0, .int .i64 z1, .int .i64 z2, .int .i64 z3, .int .i64 z4, .int .i64 z5] 41)).lay K.out (.cells #[.int .i64 z2, .int .i64 z3] 42)))
    have sz1 : (wr.alloc (.cells #[.int .i64 z0, .int .i64 z1, .int .i64 z2, .int .i64 z3, .int .i64 z4, .int .i64 z5] 41)).heap.size = wr.heap.size + 1 := by simp
    rw [sz1] at DA
    clear sz1
    go_upto_region 15 with fail
    clear x0 x1 x2 x3 x4 x5
    generalize (wr.alloc (.cells #[.int .i64 z0, .int .i64 z1, .int .i64 z2, .int .i64 z3, .int .i64 z4, .int .i64 z5] 41)).alloc (.cells #[.int .i64 z2, .int .i64 z3] 42) = wa at *
    generalize wr.heap.size = g at *
    have MA : Hid ((g, Obj.cells #[.int .i64 z0, .int .i64 z1, .int .i64 z2, .int .i64 z3, .int .i64 z4, .int .i64 z5] 41) ∈ [(g + 1, Obj.cells #[.int .i64 z2, .int .i64 z3] 42), (g, Obj.cells #[.int .i64 z0, .int .i64 z1, .int .i64 z2, .int .i64 z3, .int .i64 z4, .int .i64 z5] 41)]) := hide (List.mem_cons_of_mem _ (List.mem_cons_self ..))
    have MP : Hid ((g + 1, Obj.cells #[.int .i64 z2, .int .i64 z3] 42) ∈ [(g + 1, Obj.cells #[.int .i64 z2, .int .i64 z3] 42), (g, Obj.cells #[.int .i64 z0, .int .i64 z1, .int .i64 z2, .int .i64 z3, .int .i64 z4, .int .i64 z5] 41)]) := hide (List.mem_cons_self ..)
    generalize hbx : [(g + 1, Obj.cells #[.int .i64 z2, .int .i64 z3] 42), (g, Obj.cells #[.int .i64 z0, .int .i64 z1, .int .i64 z2, .int .i64 z3, .int .i64 z4, .int .i64 z5] 41)] = bx at *
    clear hbx
    obtain ⟨x0, x1, x2, x3, x4, x5⟩ := actcells DA.out MA.out
    obtain ⟨q0, q1⟩ := paircells DA.out MP.out
    have QA : Hid (∀ s sr w, Du I w1 w b r s sr bx → w.cell? ⟨g, 1, none⟩ = some (.int .i64 z1) ∧ w.cell? ⟨g, 2, none⟩ = some (.int .i64 z2) ∧ w.cell? ⟨g, 3, none⟩ = some (.int .i64 z3) ∧ w.cell? ⟨g, 4, none⟩ = some (.int .i64 z4) ∧ w.cell? ⟨g + 1, 0, none⟩ = some (.int .i64 z2) ∧ w.cell? ⟨g + 1, 1, none⟩ = some (.int .i64 z3)) := hide (fun s sr w h => by
      obtain ⟨_, x1, x2, x3, x4, _⟩ := actcells h MA.out
      obtain ⟨q0, q1⟩ := paircells h MP.out
      exact ⟨x1, x2, x3, x4, q0, q1⟩)
    have D0 := hide (DA.out.on K.out (bel_drew (Nx.refl wa)))
    go_cut [86] from 71 to 181 (fun s wx => (∃ BB, s = .bool BB ∧ (BB = true → 0 ≤ z5 ∧ 0 ≤ z4 ∧ z5 ≤ 1099511627776 ∧ z4 ≤ 1099511627776)) ∧ wx = wa)
    case first => as_aux_lemma =>
      clear QA D0 MA MP HA
      by_cases h1 : 0 ≤ z5
      · by_cases h2 : 0 ≤ z4
        · by_cases h3 : z5 ≤ 1099511627776
          · by_cases h4 : z4 ≤ 1099511627776
            · go_wp2
              go_meet
              case rel => exact ⟨⟨_, rfl, fun _ => ⟨h1, h2, h3, h4⟩⟩, rfl⟩
            · go_wp2
              go_meet
              case rel => exact ⟨⟨_, rfl, fun h => by cases h⟩, rfl⟩
          · go_wp2
            go_meet
            case rel => exact ⟨⟨_, rfl, fun h => by cases h⟩, rfl⟩
        · go_wp2
          go_meet
          case rel => exact ⟨⟨_, rfl, fun h => by cases h⟩, rfl⟩
      · go_wp2
        go_meet
        case rel => exact ⟨⟨_, rfl, fun h => by cases h⟩, rfl⟩
    case rest => as_aux_lemma =>
      obtain ⟨⟨BB, rfl, hBB⟩, hw⟩ := hcut
      have hw2 := hw.symm; clear hw; subst hw2
      have AB := hide hBB
      clear hBB
      go_upto_if 86 with fail
      go_cut [11] from 71 to 181 (fun s wx => (∃ t2, s = .int .i64 t2) ∧ wx = wa)
      case first => as_aux_lemma =>
        clear QA D0 MA MP HA
        cases BB with
        | true =>
          have hb := AB.out rfl
          clear AB
          go_wp2
          go_meet
          case rel => exact ⟨⟨_, rfl⟩, rfl⟩
        | false =>
          clear AB
          go_wp2
          go_meet
          case rel => exact ⟨⟨_, rfl⟩, rfl⟩
      case rest => as_aux_lemma =>
        obtain ⟨⟨t2, rfl⟩, hw⟩ := hcut
        have hw2 := hw.symm; clear hw; subst hw2
        clear AB
        go_upto_block 2 with fail
        go_cut [12] from 71 to 181 (fun s wx => s = .bool true ∧ Hid (Kq I w1 wx b r (k + 1) bx))
        case first => as_aux_lemma =>
          by_cases h0 : z0 = 0
          · subst h0
            have HE := hide (fun w (h : Du I w1 w b r s s bx) => du_enter K.out h z1 (z2, z3) z4)
            have HR := hide (fun w s5 (h : Du I w1 w b r s5 s bx) => du_renter K.out h z1 (z2, z3) z4)
            clear x5 MA MP HA DA
            generalize enterE s z1 (z2, z3) z4 = er at *
            go_wp2
            go_region_held3 (fun w' => w'.cell? ⟨g, 1, none⟩ = some (.int .i64 z1) ∧ w'.cell? ⟨g, 2, none⟩ = some (.int .i64 z2) ∧ w'.cell? ⟨g, 3, none⟩ = some (.int .i64 z3) ∧ w'.cell? ⟨g, 4, none⟩ = some (.int .i64 z4) ∧ w'.cell? ⟨g + 1, 0, none⟩ = some (.int .i64 z2) ∧ w'.cell? ⟨g + 1, 1, none⟩ = some (.int .i64 z3)) (first | (exact ⟨x1, x2, x3, x4, q0, q1⟩) | go_keep) (first
              | (with_reducible refine (HE.out _ D0.out).mono ?_; rintro e w5 ⟨rfl, hD5⟩; have D5 := hide hD5.out; obtain ⟨x1, x2, x3, x4, q0, q1⟩ := QA.out _ _ _ hD5.out; clear hD5)
              | (with_reducible refine (HR.out _ _ D5.out).mono ?_; rintro e w6 ⟨rfl, hD6⟩; have D6 := hide hD6.out; obtain ⟨x1, x2, x3, x4, q0, q1⟩ := QA.out _ _ _ hD6.out; clear hD6))
            have HK6 := hide (show Kq I w1 w6 b r (k + 1) bx from ⟨_, D6.out, by rw [enter_outs]; omega⟩)
            clear HE HR D5 D6 D0 QA
            go_wp2
            go_meet
            case rel => exact ⟨rfl, HK6⟩
          have h0' : (z0 == 0) = false := by simp [h0]
          by_cases h1 : z0 = 1
          · subst h1
            have HE := hide (fun w (h : Du I w1 w b r s s bx) => du_leave K.out h z1 t2 z4 (by omega))
            have HR := hide (fun w s5 (h : Du I w1 w b r s5 s bx) => du_rleave K.out h z1 t2 z4 (by omega))
            clear x5 MA MP HA DA
            generalize leaveE s z1 t2 z4 = er at *
            go_wp2
            go_region_held3 (fun w' => w'.cell? ⟨g, 1, none⟩ = some (.int .i64 z1) ∧ w'.cell? ⟨g, 2, none⟩ = some (.int .i64 z2) ∧ w'.cell? ⟨g, 3, none⟩ = some (.int .i64 z3) ∧ w'.cell? ⟨g, 4, none⟩ = some (.int .i64 z4) ∧ w'.cell? ⟨g + 1, 0, none⟩ = some (.int .i64 z2) ∧ w'.cell? ⟨g + 1, 1, none⟩ = some (.int .i64 z3)) (first | (exact ⟨x1, x2, x3, x4, q0, q1⟩) | go_keep) (first
              | (with_reducible refine (HE.out _ D0.out).mono ?_; rintro e w5 ⟨rfl, hD5⟩; have D5 := hide hD5.out; obtain ⟨x1, x2, x3, x4, q0, q1⟩ := QA.out _ _ _ hD5.out; clear hD5)
              | (with_reducible refine (HR.out _ _ D5.out).mono ?_; rintro e w6 ⟨rfl, hD6⟩; have D6 := hide hD6.out; obtain ⟨x1, x2, x3, x4, q0, q1⟩ := QA.out _ _ _ hD6.out; clear hD6))
            have HK6 := hide (show Kq I w1 w6 b r (k + 1) bx from ⟨_, D6.out, by have := leave_outs (s := s) (id := z1) (till := t2) (now := z4); omega⟩)
            clear HE HR D5 D6 D0 QA
            go_wp2
            go_meet
            case rel => exact ⟨rfl, HK6⟩
          have h1' : (z0 == 1) = false := by simp [h1]
          by_cases h2 : z0 = 2
          · subst h2
            have HE := hide (fun w (h : Du I w1 w b r s s bx) => du_change K.out h z1 (z2, z3) z4)
            have HR := hide (fun w s5 (h : Du I w1 w b r s5 s bx) => du_rchange K.out h z1 (z2, z3) z4)
            clear x5 MA MP HA DA
            generalize changeE s z1 (z2, z3) z4 = er at *
            go_wp2
            go_region_held3 (fun w' => w'.cell? ⟨g, 1, none⟩ = some (.int .i64 z1) ∧ w'.cell? ⟨g, 2, none⟩ = some (.int .i64 z2) ∧ w'.cell? ⟨g, 3, none⟩ = some (.int .i64 z3) ∧ w'.cell? ⟨g, 4, none⟩ = some (.int .i64 z4) ∧ w'.cell? ⟨g + 1, 0, none⟩ = some (.int .i64 z2) ∧ w'.cell? ⟨g + 1, 1, none⟩ = some (.int .i64 z3)) (first | (exact ⟨x1, x2, x3, x4, q0, q1⟩) | go_keep) (first
              | (with_reducible refine (HE.out _ D0.out).mono ?_; rintro e w5 ⟨rfl, hD5⟩; have D5 := hide hD5.out; obtain ⟨x1, x2, x3, x4, q0, q1⟩ := QA.out _ _ _ hD5.out; clear hD5)
              | (with_reducible refine (HR.out _ _ D5.out).mono ?_; rintro e w6 ⟨rfl, hD6⟩; have D6 := hide hD6.out; obtain ⟨x1, x2, x3, x4, q0, q1⟩ := QA.out _ _ _ hD6.out; clear hD6))
            have HK6 := hide (show Kq I w1 w6 b r (k + 1) bx from ⟨_, D6.out, by rw [change_outs2]; omega⟩)
            clear HE HR D5 D6 D0 QA
            go_wp2
            go_meet
            case rel => exact ⟨rfl, HK6⟩
          have h2' : (z0 == 2) = false := by simp [h2]
          have HE := hide (fun w (h : Du I w1 w b r s s bx) => du_ask K.out h (z2, z3) z4)
          have HR := hide (fun w s5 (h : Du I w1 w b r s5 s bx) => du_rask K.out h (z2, z3) z4)
          clear x5 MA MP HA DA
          generalize askE s (z2, z3) z4 = er at *
          go_wp2
          go_region_held3 (fun w' => w'.cell? ⟨g, 1, none⟩ = some (.int .i64 z1) ∧ w'.cell? ⟨g, 2, none⟩ = some (.int .i64 z2) ∧ w'.cell? ⟨g, 3, none⟩ = some (.int .i64 z3) ∧ w'.cell? ⟨g, 4, none⟩ = some (.int .i64 z4) ∧ w'.cell? ⟨g + 1, 0, none⟩ = some (.int .i64 z2) ∧ w'.cell? ⟨g + 1, 1, none⟩ = some (.int .i64 z3)) (first | (exact ⟨x1, x2, x3, x4, q0, q1⟩) | go_keep) (first
            | (with_reducible refine (HE.out _ D0.out).mono ?_; rintro e w5 ⟨rfl, hD5⟩; have D5 := hide hD5.out; obtain ⟨x1, x2, x3, x4, q0, q1⟩ := QA.out _ _ _ hD5.out; clear hD5)
            | (with_reducible refine (HR.out _ _ D5.out).mono ?_; rintro e w6 ⟨rfl, hD6⟩; have D6 := hide hD6.out; obtain ⟨x1, x2, x3, x4, q0, q1⟩ := QA.out _ _ _ hD6.out; clear hD6))
          have HK6 := hide (show Kq I w1 w6 b r (k + 1) bx from ⟨_, D6.out, by omega⟩)
          clear HE HR D5 D6 D0 QA
          go_wp2
          go_meet
          case rel => exact ⟨rfl, HK6⟩
        case rest => as_aux_lemma =>
                  obtain ⟨rfl, HK⟩ := hcut
                  clear x0 x1 x2 x3 x4 x5 q0 q1 DA HA D0 hso
                  obtain ⟨s', hD, hso⟩ := HK.out
                  obtain ⟨vi, hvi, hEi⟩ := hD.rIn
                  have hrl := hD.rLt
                  have x4 := (QA.out _ _ _ hD).2.2.2.1
                  have QR : Hid (∀ w', Nx wc w' → w'.cell? ⟨r, 1, none⟩ = some vi ∧ w'.cell? ⟨g, 4, none⟩ = some (.int .i64 z4)) := hide (fun w' hB => ⟨(hB.cell (p := ⟨r, 1, none⟩) hrl).trans hvi, (QA.out _ _ _ (hD.on K.out hB)).2.2.2.1⟩)
                  have HL := hide (du_live K.out (hD.on K.out (bel_drew (Nx.refl wc))))
                  have HEN := hide (fun w va (hN : Nx wc w) (hE : Es w va s'.ins) => entries_any hE (hEi.below hN))
                  have HLG := hide (fun w (hN : Nx wc w) => du_lingers K.out (hD.on K.out hN) z4)
                  have HRG := hide (fun w (hN : Nx wc w) => du_rlingers K.out (hD.on K.out hN) z4)
                  have HEM := hide (fun w va vb (hE : Es w va (lingers s' z4)) (hE' : Es w vb (lingers s' z4)) => entries_any hE hE')
                  have HKN : Hid (∀ w', Nx wc w' → Kq I w1 w' b r (k + 1) []) := hide (fun w' hB => ((HK.out).on K.out hB).sub (fun p hp => by cases hp))
                  have ND : Hid (Nx wc wc.drew) := hide (bel_drew (Nx.refl wc))
                  obtain ⟨pi, capi, rfl, hni, hmi⟩ := hEi.form
                  clear hD HK QA MA MP hEi hrl
                  generalize lingers s' z4 = LG at *
                  generalize s'.ins = LV at *
                  go_wp2
                  go_region_held3 (fun w' => w'.cell? ⟨r, 1, none⟩ = some (.slice pi LV.length capi) ∧ w'.cell? ⟨g, 4, none⟩ = some (.int .i64 z4)) (first | (exact ⟨hvi, x4⟩) | go_keep) (first
                    | (with_reducible refine (HL.out).mono ?_; rintro e w5 ⟨v5, rfl, hE5, _, hN5⟩; have N5 := hide (Nx.trans ND.out hN5); have E5 := hide hE5.out; obtain ⟨hvi, x4⟩ := QR.out _ N5.out; clear hE5 hN5)
                    | (with_reducible refine (HEN.out _ _ N5.out E5.out).mono ?_; rintro e w6 ⟨rfl, hN6⟩; have N6 := hide (Nx.trans N5.out hN6); obtain ⟨hvi, x4⟩ := QR.out _ N6.out; clear hN6)
                    | (with_reducible refine (HLG.out _ N6.out).mono ?_; rintro e w7 ⟨v7, rfl, hE7, _, hN7⟩; have N7 := hide (Nx.trans N6.out hN7); have E7 := hide hE7.out; obtain ⟨hvi, x4⟩ := QR.out _ N7.out; clear hE7 hN7)
                    | (with_reducible refine (HRG.out _ N7.out).mono ?_; rintro e w8 ⟨v8, rfl, hE8, _, hN8⟩; have N8 := hide (Nx.trans N7.out hN8); have E8 := hide hE8.out; have E78 := hide (E7.out.below hN8); obtain ⟨hvi, x4⟩ := QR.out _ N8.out; clear hE8 hN8)
                    | (with_reducible refine (HEM.out _ _ _ E78.out E8.out).mono ?_; rintro e w9 ⟨rfl, hN9⟩; have N9 := hide (Nx.trans N8.out hN9); obtain ⟨hvi, x4⟩ := QR.out _ N9.out; clear hN9))
                  have HK9 := hide (HKN.out _ N9.out)
                  go_wp2
                  go_roundw
                  case rel => exact ⟨k + 1, by omega, by go_num, HK9⟩
                  case measure => simp [intOf]; omega
end Go.Proofs.Ytldccbinndbcdaa.Am
