/- WinSays: as the document says. -/
import Derived.Test.YtkfddjmhoekjgaaWnUse
import Derived.Test.YtkfddjmhoekjgaaWnRg
import Derived.Test.YtkfddjmhoekjgaaWnOwn
namespace Go.Proofs.Ytkfddjmhoekjgaa.Wn
open Go.RowKit Go.Proofs.Ytkfddjmhoekjgaa.Con
set_option linter.unusedVariables false
set_option linter.unusedSimpArgs false
attribute [local go_sem ↓] Go.wp_at_zero Go.wp_at_succ
/-- What two slices of the same pairs tell in all worlds on. -/
def Two (W : World) (b o b' o' : Nat) (L : List Pr) : Prop := ∀ w', Nx W w' → ∀ j, j < L.length → (w'.cell? ⟨b, o + j * 2, none⟩ = some (.int .i64 (at' L j).1) ∧ w'.cell? ⟨b, o + j * 2 + 1, none⟩ = some (.int .i64 (at' L j).2)) ∧ (w'.cell? ⟨b', o' + j * 2, none⟩ = some (.int .i64 (at' L j).1) ∧ w'.cell? ⟨b', o' + j * 2 + 1, none⟩ = some (.int .i64 (at' L j).2))
theorem two_of {W : World} {b o b' o' n n' c c' : Nat} {L : List Pr} (h : Sl W (.slice (some ⟨b, o, none⟩) n c) L) (h' : Sl W (.slice (some ⟨b', o', none⟩) n' c') L) : Two W b o b' o' L := fun w' hB j hj => by
  obtain ⟨x, y, e, hb, q0, q1⟩ := (h.below hB).at hj
  simp only [Option.some.injEq, Addr.mk.injEq, and_true] at e
  obtain ⟨rfl, rfl⟩ := e
  obtain ⟨x, y, e, hb, q2, q3⟩ := (h'.below hB).at hj
  simp only [Option.some.injEq, Addr.mk.injEq, and_true] at e
  obtain ⟨rfl, rfl⟩ := e
  exact ⟨⟨q0, q1⟩, q2, q3⟩
set_option maxHeartbeats 16000000 in
set_option maxRecDepth 100000 in
theorem says_walk (hA : Hid AwakeC) (hG : Hid GoodC) (hW : Hid WorkC) (hT : Hid TakesC) (hO : Hid OneC) (hAl : Hid AllC) (m k n : Int) (L : List Pr) (v : Value) (W : World) (h : Sl W v L) :
    Calls Try.prog 4 #[.int .i64 m, v, .int .i64 k, .int .i64 n] W fun e w' => e = .returned (.bool true) ∧ Nx W w' := by
  obtain ⟨p, cap, rfl, hn, hm⟩ := h.form
  have hmx : (L.length : Int) ≤ 9223372036854775807 := by unfold maxLen at hm; omega
  have H := hide h
  clear h
  go_enter Try.func4, Try.ntmps4
  go_wp2_with fail
  refine (hA.out _).mono ?_
  rintro e w1 ⟨rfl, hb⟩
  have HB1 := hide hb
  clear hb
  by_cases hl : 70 < (L.length : Int)
  · go_wp2
    go_ret
    exact ⟨rfl, HB1.out⟩
  have hl64 : L.length ≤ 70 := by omega
  have H1 := hide (H.out.below HB1.out)
  go_wp2_with fail
  refine (own_any H1.out (by omega)).mono ?_
  rintro e w2 ⟨v2, rfl, ho, hb⟩
  obtain ⟨p2, cap2, rfl⟩ := own_form ho
  have R2 := hide (Sl.own ho)
  have H2 := hide (H1.out.below hb)
  have HB2 := hide (nx_of HB1.out hb)
  clear ho hb H1 HB1
  obtain ⟨a, ha⟩ : ∃ a, oneB m L k = a := ⟨_, rfl⟩
  obtain ⟨ae, hae⟩ : ∃ a, oneE m L k = a := ⟨_, rfl⟩
  obtain ⟨c, hc⟩ : ∃ a, allB m L = a := ⟨_, rfl⟩
  obtain ⟨ce, hce⟩ : ∃ a, allE m L = a := ⟨_, rfl⟩
  have E1 := hide (And.intro ha hae)
  have E2 := hide (And.intro hc hce)
  clear ha hae hc hce
  go_wp2_with fail
  refine (hO.out m L _ k _ H2.out).mono ?_
  rintro e w3 ⟨rfl, hb⟩
  rw [E1.out.1, E1.out.2]
  have R3 := hide (R2.out.below hb)
  have H3 := hide (H2.out.below hb)
  have HB3 := hide (nx_of HB2.out hb)
  clear hb R2 H2 HB2
  go_wp2_with fail
  refine (rone_any R3.out m k).mono ?_
  rintro e w4 ⟨rfl, hb⟩
  rw [E1.out.1, E1.out.2]
  have R4 := hide (R3.out.below hb)
  have H4 := hide (H3.out.below hb)
  have HB4 := hide (nx_of HB3.out hb)
  clear hb R3 H3 HB3 E1
  go_wp2_with fail
  refine (hAl.out m L _ _ H4.out).mono ?_
  rintro e w5 ⟨rfl, hb⟩
  rw [E2.out.1, E2.out.2]
  have R5 := hide (R4.out.below hb)
  have H5 := hide (H4.out.below hb)
  have HB5 := hide (nx_of HB4.out hb)
  clear hb R4 H4 HB4
  go_wp2_with fail
  refine (rall_any R5.out m).mono ?_
  rintro e w6 ⟨rfl, hb⟩
  rw [E2.out.1, E2.out.2]
  have R6 := hide (R5.out.below hb)
  have H6 := hide (H5.out.below hb)
  have HB6 := hide (nx_of HB5.out hb)
  clear hb R5 H5 HB5 E2
  go_wp2
  go_loopw [18, 19, 20, 21, 22, 23, 24, 25, 26] (fun i _ _ _ _ _ _ _ _ wr => ∃ k : Nat, k ≤ L.length ∧ i = .int .i64 k ∧ Hid (Nx w6 wr)) (fun i _ _ _ _ _ _ _ _ _ => L.length - (intOf i).toNat)
  case atStart => exact ⟨0, by omega, rfl, hide (Nx.refl _)⟩
  case round =>
    obtain ⟨j, hj, rfl, HB⟩ := hrel
    by_cases hjn : j + 1 < L.length
    · have hj1 : (j : Int) + 1 < (L.length : Int) := by omega
      have hj0 : (j : Int) < (L.length : Int) := by omega
      obtain ⟨b, o, rfl, hbW, _, _⟩ := H6.out.at (show j < L.length by omega)
      obtain ⟨b', o', rfl, hbW', _, _⟩ := R6.out.at (show j < L.length by omega)
      have TW := hide (two_of H6.out R6.out)
      have QQ : Hid (∀ w', Nx w6 w' → ((w'.cell? ⟨b, o + j * 2, none⟩ = some (.int .i64 (at' L j).1) ∧ w'.cell? ⟨b, o + j * 2 + 1, none⟩ = some (.int .i64 (at' L j).2)) ∧ (w'.cell? ⟨b', o' + j * 2, none⟩ = some (.int .i64 (at' L j).1) ∧ w'.cell? ⟨b', o' + j * 2 + 1, none⟩ = some (.int .i64 (at' L j).2))) ∧ (w'.cell? ⟨b, o + (j + 1) * 2, none⟩ = some (.int .i64 (at' L (j + 1)).1) ∧ w'.cell? ⟨b, o + (j + 1) * 2 + 1, none⟩ = some (.int .i64 (at' L (j + 1)).2)) ∧ (w'.cell? ⟨b', o' + (j + 1) * 2, none⟩ = some (.int .i64 (at' L (j + 1)).1) ∧ w'.cell? ⟨b', o' + (j + 1) * 2 + 1, none⟩ = some (.int .i64 (at' L (j + 1)).2))) := hide (fun w' hB => ⟨TW.out w' hB j (by omega), TW.out w' hB (j + 1) hjn⟩)
      have C1 : Hid (∀ w, Calls Try.prog 12 #[.agg #[.int .i64 (at' L j).1, .int .i64 (at' L j).2], .int .i64 n] w fun e w' => e = .returned (.tuple #[.int .i64 (workV (at' L j) n), .bool (workB (at' L j) n)]) ∧ Nx w w') := hide (hW.out (at' L j) n)
      have C2 : Hid (∀ w, Calls Try.prog 18 #[.agg #[.int .i64 (at' L j).1, .int .i64 (at' L j).2], .int .i64 n] w fun e w' => e = .returned (.tuple #[.int .i64 (workV (at' L j) n), .bool (workB (at' L j) n)]) ∧ Nx w w') := hide (rwork_any (at' L j) n)
      have C3 : Hid (∀ w, Calls Try.prog 13 #[.agg #[.int .i64 (at' L j).1, .int .i64 (at' L j).2], .agg #[.int .i64 (at' L (j + 1)).1, .int .i64 (at' L (j + 1)).2]] w fun e w' => e = .returned (.tuple #[.int .i64 (takesV (at' L j) (at' L (j + 1))), .bool (takesB (at' L j) (at' L (j + 1)))]) ∧ Nx w w') := hide (hT.out (at' L j) (at' L (j + 1)))
      have C4 : Hid (∀ w, Calls Try.prog 19 #[.agg #[.int .i64 (at' L j).1, .int .i64 (at' L j).2], .agg #[.int .i64 (at' L (j + 1)).1, .int .i64 (at' L (j + 1)).2]] w fun e w' => e = .returned (.tuple #[.int .i64 (takesV (at' L j) (at' L (j + 1))), .bool (takesB (at' L j) (at' L (j + 1)))]) ∧ Nx w w') := hide (rtakes_any (at' L j) (at' L (j + 1)))
      have C5 : Hid (∀ w, Calls Try.prog 20 #[.agg #[.int .i64 (at' L j).1, .int .i64 (at' L j).2]] w fun e w' => e = .returned (.bool (gp (at' L j))) ∧ Nx w w') := hide (hG.out (at' L j))
      have C6 : Hid (∀ w, Calls Try.prog 21 #[.int .i64 (at' L j).1, .int .i64 (at' L j).2] w fun e w' => e = .returned (.bool (gp (at' L j))) ∧ w' = w) := hide (rgp_any (at' L j).1 (at' L j).2)
      generalize workV (at' L j) n = u1 at *
      generalize workB (at' L j) n = u2 at *
      generalize takesV (at' L j) (at' L (j + 1)) = u3 at *
      generalize takesB (at' L j) (at' L (j + 1)) = u4 at *
      generalize gp (at' L j) = u5 at *
      generalize (at' L j).1 = z at *
      generalize (at' L j).2 = z' at *
      generalize (at' L (j + 1)).1 = y at *
      generalize (at' L (j + 1)).2 = y' at *
      clear TW
      have hwk : IntKind.i64.wrap ((j : Int) + 1) = (j : Int) + 1 := by rw [IntKind.wrap_i64]; omega
      have hjc : ((j : Int) + 1).toNat = j + 1 := by omega
      have hjp : (0 : Int) ≤ (j : Int) + 1 := by omega
      have hjq : (0 : Int) ≤ (j : Int) := by omega
      obtain ⟨⟨⟨x0, x1⟩, x2, x3⟩, ⟨x4, x5⟩, x6, x7⟩ := QQ.out wr HB.out
      go_wp2_with fail
      refine (C1.out _).mono ?_
      rintro e s1 ⟨rfl, hb⟩
      have D1 := hide (Nx.trans HB.out hb)
      clear hb x0 x1 x2 x3 x4 x5 x6 x7
      obtain ⟨⟨⟨x0, x1⟩, x2, x3⟩, ⟨x4, x5⟩, x6, x7⟩ := QQ.out s1 D1.out
      go_wp2_with fail
      refine (C2.out _).mono ?_
      rintro e s2 ⟨rfl, hb⟩
      have D2 := hide (Nx.trans D1.out hb)
      clear hb x0 x1 x2 x3 x4 x5 x6 x7 D1 C1 C2
      obtain ⟨⟨⟨x0, x1⟩, x2, x3⟩, ⟨x4, x5⟩, x6, x7⟩ := QQ.out s2 D2.out
      have F2 : Hid (∀ w', Nx s2.drew w' → Nx w6 w') := hide (fun w' h => Nx.trans (bel_drew D2.out) h)
      go_wp2
      go_region_held3 (fun w' => w'.cell? ⟨b, o + j * 2, none⟩ = some (.int .i64 z) ∧ w'.cell? ⟨b, o + j * 2 + 1, none⟩ = some (.int .i64 z') ∧ w'.cell? ⟨b, o + (j + 1) * 2, none⟩ = some (.int .i64 y) ∧ w'.cell? ⟨b, o + (j + 1) * 2 + 1, none⟩ = some (.int .i64 y')) (first | (exact ⟨x0, x1, x4, x5⟩) | go_keep) ((with_reducible refine (C3.out _).mono ?_; rintro e s3 ⟨rfl, hb⟩; obtain ⟨⟨⟨x0, x1⟩, x2, x3⟩, ⟨x4, x5⟩, x6, x7⟩ := QQ.out s3 (F2.out s3 hb)))
      have D3 := hide (F2.out _ hb)
      have F3 : Hid (∀ w', Nx s3.drew w' → Nx w6 w') := hide (fun w' h => Nx.trans (bel_drew D3.out) h)
      clear hb F2 D2 C3
      go_wp2
      go_region_held3 (fun w' => w'.cell? ⟨b', o' + j * 2, none⟩ = some (.int .i64 z) ∧ w'.cell? ⟨b', o' + j * 2 + 1, none⟩ = some (.int .i64 z') ∧ w'.cell? ⟨b', o' + (j + 1) * 2, none⟩ = some (.int .i64 y) ∧ w'.cell? ⟨b', o' + (j + 1) * 2 + 1, none⟩ = some (.int .i64 y')) (first | (exact ⟨x2, x3, x6, x7⟩) | go_keep) ((with_reducible refine (C4.out _).mono ?_; rintro e s4 ⟨rfl, hb⟩; obtain ⟨⟨⟨x0, x1⟩, x2, x3⟩, ⟨x4, x5⟩, x6, x7⟩ := QQ.out s4 (F3.out s4 hb)))
      have D4 := hide (F3.out _ hb)
      have F4 : Hid (∀ w', Nx s4.drew w' → Nx w6 w') := hide (fun w' h => Nx.trans (bel_drew D4.out) h)
      clear hb F3 D3 C4
      go_wp2
      go_region_held3 (fun w' => w'.cell? ⟨b, o + j * 2, none⟩ = some (.int .i64 z) ∧ w'.cell? ⟨b, o + j * 2 + 1, none⟩ = some (.int .i64 z')) (first | (exact ⟨x0, x1⟩) | go_keep) (first | (with_reducible refine (C5.out _).mono ?_; rintro e s5 ⟨rfl, hb⟩; obtain ⟨⟨⟨x0, x1⟩, x2, x3⟩, ⟨x4, x5⟩, x6, x7⟩ := QQ.out s5 (F4.out s5 hb)) | (with_reducible refine (C6.out _).mono ?_; rintro e w9 ⟨rfl, hw9⟩; rw [hw9]; clear hw9))
      have D5 := hide (F4.out _ hb)
      clear hb F4 D4 C5 C6
      go_wp2
      go_roundw
      case rel => exact ⟨j + 1, by omega, by go_num, D5⟩
      case measure => simp [intOf]; omega
    · have hj1 : ¬ (j : Int) + 1 < (L.length : Int) := by omega
      have D := hide (nx_of HB6.out HB.out)
      go_wp2
      go_ret
      exact ⟨rfl, D.out⟩
end Go.Proofs.Ytkfddjmhoekjgaa.Wn
