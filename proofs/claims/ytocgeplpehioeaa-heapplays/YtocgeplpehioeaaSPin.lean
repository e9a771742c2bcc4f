/- partialInsertionSortCmpFunc. -/
import Derived.Test.YtocgeplpehioeaaSSift
import Derived.Deep.CutBlock
import Derived.Deep.CutRange
namespace Go.Proofs.Ytocgeplpehioeaa.Con
open Go.RowKit Go.Proofs.Ytocgeplpehioeaa.Hq
set_option linter.unusedVariables false
set_option linter.unusedSimpArgs false
attribute [local go_sem ↓] Go.wp_at_zero Go.wp_at_succ
/-- The one ahead of the range is ahead of all in it. -/
def Bel (g : Bool) (a b : Nat) (m : List It) : Prop := 0 < a → ∀ k, a ≤ k → k < b → lt g (at' m (a - 1)) (at' m k) = true
theorem Bel.rng {g : Bool} {a b : Nat} {m m' : List It} (h : Bel g a b m) (hr : Rng a b m m') : Bel g a b m' := fun h0 => by
  have := hr.all (P := fun x => lt g (at' m (a - 1)) x = true) (h h0)
  rw [hr.out (k := a - 1) (.inl (by omega))]
  exact this
theorem srt_out {g : Bool} {a i b : Nat} {m m' : List It} (h : Srt g a i m) (hr : Rng i b m m') : Srt g a i m' := fun k k1 k2 => by
  rw [hr.out (.inl (by omega)), hr.out (.inl (by omega))]; exact h k k1 k2
theorem srt_more {g : Bool} {a i : Nat} {m : List It} (h : Srt g a i m) (hl : lt g (at' m i) (at' m (i - 1)) = false) : Srt g a (i + 1) m := fun k k1 k2 => by
  by_cases e : k = i
  · subst e; exact hl
  · exact h k k1 (by omega)
theorem ins_swapped {g : Bool} {a i : Nat} {m : List It} (h : Srt g a i m) (h0 : a < i) (hi : i < m.length) : Ins g a (i - 1) (i - 1) (swp m i (i - 1)) := by
  have A := fun k => at_swp m i (i - 1) k hi (by omega)
  refine ⟨fun k k1 k2 k3 => ?_, fun h1 h2 => by omega⟩
  rw [A, A, if_neg (by omega), if_neg (by omega), if_neg (by omega), if_neg (by omega)]
  exact h k k1 (by omega)
def PinPost (W0 : World) (hb r : Nat) (g : Bool) (m : List It) (a b : Nat) (e : Ending) (w' : World) : Prop :=
  ∃ (res : Bool) (m' : List It), e = .returned (.bool res) ∧ So W0 hb r g m' w' ∧ Rng a b m m' ∧ (res = true → Srt g a b m')
set_option maxRecDepth 100000 in
set_option maxHeartbeats 8000000 in
theorem pin_any {W0 W : World} {hb r : Nat} {g : Bool} {m : List It} {n : Nat} (a b : Nat) (hn : m.length = n) (S : So W0 hb r g m W) (hb' : b ≤ n) (ha : a + 1 < b) (hbel : Bel g a b m) :
    Calls Try.prog 45 #[.slice (some ⟨r, 0, none⟩) n n, .int .i64 a, .int .i64 b, .func (.func 27) #[.pointer (some ⟨hb, 0, none⟩)] #[]] W fun e w' => PinPost W0 hb r g m a b e w' := by
  have hn2 : n ≤ 1024 := by rw [← hn]; exact S.len
  have NN := hide hn
  have S0 := hide S
  have BL := hide hbel
  have z1 : (a : Int) ≤ 1024 := by omega
  have z2 : (b : Int) ≤ 1024 := by omega
  clear S hn hbel
  go_enter Try.func45, Try.ntmps45
  go_wp2
  go_loopw [9, 10] (fun s t wr => ∃ (i j : Nat) (q : List It), s = .int .i64 i ∧ t = .int .i64 j ∧ j ≤ 5 ∧ a < i ∧ i ≤ b ∧ q.length = n ∧ Hid (So W0 hb r g q wr) ∧ Hid (Rng a b m q) ∧ Hid (Srt g a i q)) (fun _ t _ => 5 - (intOf t).toNat)
  case atStart => exact ⟨a + 1, 0, m, by go_num, rfl, by omega, by omega, by omega, NN.out, S0, hide (.refl _), hide (fun k h1 h2 => by omega)⟩
  case round =>
    obtain ⟨i0, j, q, rfl, rfl, hj5, hai0, hib0, LQ, Sq, Rq, Oq⟩ := hrel
    by_cases hj : j < 5
    · have hj1 : (j : Int) < 5 := by omega
      go_upto_block 2 with fail
      go_cut [9] from 15 to 140 (fun s wc => ∃ i : Nat, s = .int .i64 i ∧ a < i ∧ i ≤ b ∧ Hid (So W0 hb r g q wc) ∧ Hid (Srt g a i q) ∧ Hid (i < b → lt g (at' q i) (at' q (i - 1)) = true))
      case first => as_aux_lemma =>
        go_wp2_with fail
        go_loopw [9] (fun s wr => ∃ i : Nat, s = .int .i64 i ∧ a < i ∧ i ≤ b ∧ Hid (So W0 hb r g q wr) ∧ Hid (Srt g a i q)) (fun s _ => b - (intOf s).toNat)
        case atStart => exact ⟨i0, rfl, hai0, hib0, Sq, Oq⟩
        case round =>
          obtain ⟨i, rfl, hai, hib, Sr, Or⟩ := hrel
          by_cases hi : i < b
          · have hi1 : (i : Int) < (b : Int) := by omega
            obtain ⟨im, him⟩ : ∃ im, i - 1 = im := ⟨_, rfl⟩
            have e1 : (i : Int) - 1 = (im : Int) := by omega
            have v1 := wrapN im (by omega)
            have l1 : im + 1 ≤ i ∧ i ≤ im + 1 := by omega
            have IM := hide him
            clear him
            obtain ⟨x0, x1, _, _⟩ := Sr.out.item i (by omega)
            obtain ⟨y0, y1, _, _⟩ := Sr.out.item im (by omega)
            have un : (i : Int) < (n : Int) := by omega
            have vn : (im : Int) < (n : Int) := by omega
            have hgr := Sr.out.great
            have hbl := Sr.out.hlt
            have rl := Sr.out.rlt
            have CM := hide (fun w' hg => compare_any hb g (at' q i).1 (at' q i).2 (at' q im).1 (at' q im).2 w' hg)
            have HL := hide (show lt g (at' q i) (at' q im) = decide (cf g ((at' q i).1, (at' q i).2) ((at' q im).1, (at' q im).2) < 0) from rfl)
            generalize (at' q i).1 = X0 at *
            generalize (at' q i).2 = X1 at *
            generalize (at' q im).1 = Y0 at *
            generalize (at' q im).2 = Y1 at *
            generalize cf g (X0, X1) (Y0, Y1) = c at *
            go_wp2
            go_region_held3 (fun w' => w'.cell? ⟨hb, 1, none⟩ = some (.bool g) ∧ w'.cell? ⟨r, i * 2, none⟩ = some (.int .i64 X0) ∧ w'.cell? ⟨r, i * 2 + 1, none⟩ = some (.int .i64 X1) ∧ w'.cell? ⟨r, im * 2, none⟩ = some (.int .i64 Y0) ∧ w'.cell? ⟨r, im * 2 + 1, none⟩ = some (.int .i64 Y1))
              (first | go_keep | (go_split_ands; refine ⟨?_, ?_, ?_, ?_, ?_⟩ <;> (rw [hcl _ _ (by first | exact hbl | exact rl)]; assumption)))
              ((go_at_call 27; refine (CM.out _ ?_).mono ?_; (simp [*]); rintro e w' ⟨rfl, hB⟩; obtain ⟨hcl, hfr⟩ := bcell hB))
            have Sw' := hide (Sr.out.drew.below hB)
            clear hcl hfr x0 x1 y0 y1 hB CM hgr
            by_cases hlt : c < 0
            · have ht := hide (show lt g (at' q i) (at' q (i - 1)) = true by rw [IM.out, HL.out]; exact decide_eq_true hlt)
              have HN := hide (decide_eq_true hlt)
              go_wp2
              · exact absurd ‹(!decide (c < 0)) = true› (by rw [HN.out]; decide)
              · go_meet
                case rel => exact ⟨i, rfl, hai, hib, Sw', Or, hide (fun _ => ht.out)⟩
            · have ht := hide (show lt g (at' q i) (at' q (i - 1)) = false by rw [IM.out, HL.out]; exact decide_eq_false hlt)
              have HN := hide (decide_eq_false hlt)
              go_wp2
              · go_roundw
                case rel => exact ⟨i + 1, by go_num, by omega, by omega, Sw', hide (srt_more Or.out ht.out)⟩
                case measure => simp [intOf]; omega
              · exact absurd ‹(!decide (c < 0)) = false› (by rw [HN.out]; decide)
          · have hd : decide ((i : Int) < (b : Int)) = false := decide_eq_false (by omega)
            go_wp2
            go_quiet (fail)
            go_wp2
            go_meet
            case rel => exact ⟨i, rfl, hai, hib, hide (by first | exact Sr.out.drew | exact Sr.out.below (below_drewN (Below.refl _ _) _)), Or, hide (fun h => absurd h hi)⟩
      case rest => as_aux_lemma =>
        obtain ⟨i, rfl, hai, hib, S1, O1, E1⟩ := hcut
        clear Sq Oq
        by_cases hieq : i = b
        · subst hieq
          go_wp2
          go_ret
          exact ⟨true, q, rfl, S1.out, Rq.out, fun _ => O1.out⟩
        · have hib1 : (i : Int) < (b : Int) := by omega
          have hne : ¬ ((i : Int) = (b : Int)) := by omega
          have hnb : ((i : Int) == (b : Int)) = false := by simp; omega
          by_cases h50 : b < a + 50
          · have h51 : (b : Int) - (a : Int) < 50 := by omega
            go_wp2
            go_ret
            exact ⟨false, q, rfl, S1.out, Rq.out, fun h => by cases h⟩
          · have h51 : ¬ (b : Int) - (a : Int) < 50 := by omega
            obtain ⟨im, him⟩ : ∃ im, i - 1 = im := ⟨_, rfl⟩
            have e1 : (i : Int) - 1 = (im : Int) := by omega
            have v1 := wrapN im (by omega)
            have l1 : im + 1 ≤ i ∧ i ≤ im + 1 := by omega
            have I0 := hide (show Ins g a im im (swp q i im) by have := ins_swapped O1.out hai (by omega); rwa [him] at this)
            have RS := hide (Rq.out.step i im (by omega) (by omega) (by omega) (by omega) (by omega) (by omega))
            have LS : (swp q i im).length = n := by rw [swp_length]; exact LQ
            have IM := hide him
            clear him
            obtain ⟨x0, x1, fx0, fx1⟩ := S1.out.item i (by omega)
            obtain ⟨y0, y1, fy0, fy1⟩ := S1.out.item im (by omega)
            have un : (i : Int) < (n : Int) := by omega
            have vn : (im : Int) < (n : Int) := by omega
            generalize ex0 : (at' q i).1 = X0 at *
            generalize ex1 : (at' q i).2 = X1 at *
            generalize ey0 : (at' q im).1 = Y0 at *
            generalize ey1 : (at' q im).2 = Y1 at *
            have SS := hide (S1.out.swap (i := i) (j := im) (by omega) (by omega) ex0 ex1 ey0 ey1)
            clear ex0 ex1 ey0 ey1
            obtain ⟨⟨z0, hz0⟩, ⟨z1, hz1⟩, ⟨z2, hz2⟩, ⟨z3, hz3⟩⟩ := four_cells r i im y0 y1
            obtain ⟨⟨z4, hz4⟩, ⟨z5, hz5⟩, ⟨z6, hz6⟩, ⟨z7, hz7⟩⟩ := four_cells r im i x0 x1
            go_wp2
            go_region
            clear hz0 hz1 hz2 hz3 hz4 hz5 hz6 hz7 x0 x1 y0 y1 fx0 fx1 fy0 fy1
            clear S1 O1 E1 Rq LQ
            generalize swp q i im = q1 at *
            generalize ((((wc.setCell ⟨r, i * 2, none⟩ (.int .i64 Y0)).setCell ⟨r, i * 2 + 1, none⟩ (.int .i64 Y1)).setCell ⟨r, im * 2, none⟩ (.int .i64 X0)).setCell ⟨r, im * 2 + 1, none⟩ (.int .i64 X1)).drew = W2 at *
            go_upto_if 65 with fail
            go_cut [9] from 15 to 140 (fun s wc => s = .int .i64 i ∧ ∃ q2 : List It, q2.length = n ∧ Hid (So W0 hb r g q2 wc) ∧ Hid (Rng a b m q2) ∧ Hid (Srt g a i q2))
            case first => as_aux_lemma =>
              by_cases h2 : a + 2 ≤ i
              · have h21 : (2 : Int) ≤ (i : Int) - (a : Int) := by omega
                simp only [decide_eq_true h21]
                go_wp2_with fail
                go_loopw [11] (fun s wr => ∃ (k : Nat) (p : List It), s = .int .i64 k ∧ a ≤ k ∧ k ≤ im ∧ p.length = n ∧ Hid (So W0 hb r g p wr) ∧ Hid (Rng a b m p) ∧ Hid (Ins g a im k p)) (fun s _ => (intOf s).toNat)
                case atStart => exact ⟨im, q1, rfl, by omega, by omega, LS, SS, RS, I0⟩
                case round =>
                  clear SS RS I0 LS
                  obtain ⟨k, p, rfl, hak, hki, LP, Sp, Rp, Ip⟩ := hrel
                  by_cases hk1 : 1 ≤ k
                  · have hk2 : (1 : Int) ≤ (k : Int) := by omega
                    obtain ⟨km, hkm⟩ : ∃ km, k - 1 = km := ⟨_, rfl⟩
                    have e2 : (k : Int) - 1 = (km : Int) := by omega
                    have v2 := wrapN km (by omega)
                    have l2 : km + 1 ≤ k ∧ k ≤ km + 1 := by omega
                    have KM := hide hkm
                    clear hkm
                    obtain ⟨x0, x1, _, _⟩ := Sp.out.item k (by omega)
                    obtain ⟨y0, y1, _, _⟩ := Sp.out.item km (by omega)
                    have un : (k : Int) < (n : Int) := by omega
                    have vn : (km : Int) < (n : Int) := by omega
                    have hgr := Sp.out.great
                    have hbl := Sp.out.hlt
                    have rl := Sp.out.rlt
                    have CM := hide (fun w' hg => compare_any hb g (at' p k).1 (at' p k).2 (at' p km).1 (at' p km).2 w' hg)
                    have HL := hide (show lt g (at' p k) (at' p km) = decide (cf g ((at' p k).1, (at' p k).2) ((at' p km).1, (at' p km).2) < 0) from rfl)
                    generalize (at' p k).1 = X0 at *
                    generalize (at' p k).2 = X1 at *
                    generalize (at' p km).1 = Y0 at *
                    generalize (at' p km).2 = Y1 at *
                    generalize cf g (X0, X1) (Y0, Y1) = c at *
                    go_wp2
                    go_region_held3 (fun w' => w'.cell? ⟨hb, 1, none⟩ = some (.bool g) ∧ w'.cell? ⟨r, k * 2, none⟩ = some (.int .i64 X0) ∧ w'.cell? ⟨r, k * 2 + 1, none⟩ = some (.int .i64 X1) ∧ w'.cell? ⟨r, km * 2, none⟩ = some (.int .i64 Y0) ∧ w'.cell? ⟨r, km * 2 + 1, none⟩ = some (.int .i64 Y1))
                      (first | go_keep | (go_split_ands; refine ⟨?_, ?_, ?_, ?_, ?_⟩ <;> (rw [hcl _ _ (by first | exact hbl | exact rl)]; assumption)))
                      ((go_at_call 27; refine (CM.out _ ?_).mono ?_; (simp [*]); rintro e w' ⟨rfl, hB⟩; obtain ⟨hcl, hfr⟩ := bcell hB))
                    have Sw' := hide (Sp.out.drew.below hB)
                    clear hcl hfr x0 x1 y0 y1 hB CM hgr
                    rename_i hHeld
                    clear hHeld
                    by_cases hlt : c < 0
                    · have HN := hide (decide_eq_true hlt)
                      have ht := hide (show lt g (at' p k) (at' p km) = true by rw [HL.out]; exact decide_eq_true hlt)
                      have hka : Hid (a < k) := hide (by
                        rcases Nat.lt_or_ge a k with h | h
                        · exact h
                        · exfalso
                          have hb2 := (BL.out.rng Rp.out) (by omega) k (by omega) (by omega)
                          rw [show a - 1 = km by omega] at hb2
                          have h3 := le_of_lt hb2
                          unfold le at h3
                          rw [ht.out] at h3; cases h3)
                      have hka' := hka.out
                      have IN := hide (show Ins g a im km (swp p k km) by have := ins_step Ip.out hka.out hki (by omega) (by rw [KM.out]; exact ht.out); rwa [KM.out] at this)
                      have RS := hide (Rp.out.step k km (by omega) (by omega) (by omega) (by omega) (by omega) (by omega))
                      clear HL
                      go_wp2
                      · exact absurd ‹(!decide (c < 0)) = true› (by rw [HN.out]; decide)
                      · skip
                        obtain ⟨x0, x1, fx0, fx1⟩ := Sw'.out.item k (by omega)
                        obtain ⟨y0, y1, fy0, fy1⟩ := Sw'.out.item km (by omega)
                        have un : (k : Int) < (n : Int) := by omega
                        have vn : (km : Int) < (n : Int) := by omega
                        generalize ex0 : (at' p k).1 = X0 at *
                        generalize ex1 : (at' p k).2 = X1 at *
                        generalize ey0 : (at' p km).1 = Y0 at *
                        generalize ey1 : (at' p km).2 = Y1 at *
                        have SS := hide (Sw'.out.swap (i := k) (j := km) (by omega) (by omega) ex0 ex1 ey0 ey1)
                        clear ex0 ex1 ey0 ey1
                        obtain ⟨⟨z0, hz0⟩, ⟨z1, hz1⟩, ⟨z2, hz2⟩, ⟨z3, hz3⟩⟩ := four_cells r k km y0 y1
                        obtain ⟨⟨z4, hz4⟩, ⟨z5, hz5⟩, ⟨z6, hz6⟩, ⟨z7, hz7⟩⟩ := four_cells r km k x0 x1
                        go_region
                        clear hz0 hz1 hz2 hz3 hz4 hz5 hz6 hz7 x0 x1 y0 y1 fx0 fx1 fy0 fy1
                        go_wp2
                        go_roundw
                        case rel => exact ⟨km, swp p k km, rfl, by omega, by omega, by rw [swp_length]; exact LP, SS, RS, IN⟩
                        case measure => simp [intOf]; omega
                    · have HN := hide (decide_eq_false hlt)
                      have ht := hide (show lt g (at' p k) (at' p km) = false by rw [HL.out]; exact decide_eq_false hlt)
                      have SE := hide (show Srt g a i p by have := ins_end Ip.out hak (.inr (by rw [KM.out]; exact ht.out)); rwa [show im + 1 = i by omega] at this)
                      go_wp2
                      · go_meet
                        case rel => exact ⟨rfl, p, LP, Sw', Rp, SE⟩
                      · exact absurd ‹(!decide (c < 0)) = false› (by rw [HN.out]; decide)
                  · have hk2 : ¬ (1 : Int) ≤ (k : Int) := by omega
                    have SE := hide (show Srt g a i p by have := ins_end Ip.out hak (.inl (by omega)); rwa [show im + 1 = i by omega] at this)
                    go_wp2
                    go_meet
                    case rel => exact ⟨rfl, p, LP, Sp, Rp, SE⟩
              · have h21 : ¬ (2 : Int) ≤ (i : Int) - (a : Int) := by omega
                go_wp2_with fail
                go_meet
                case rel => exact ⟨rfl, q1, LS, SS, RS, hide (fun k k1 k2 => by omega)⟩
            case rest => as_aux_lemma =>
              clear SS RS I0 LS
              obtain ⟨rfl, q2, LQ2, S3, R3, O3⟩ := hcut
              by_cases h2 : i + 2 ≤ b
              · have h21 : (2 : Int) ≤ (b : Int) - (i : Int) := by omega
                go_wp2_with fail
                go_loopw [12] (fun s wr => ∃ (k : Nat) (p : List It), s = .int .i64 k ∧ i < k ∧ k ≤ b ∧ p.length = n ∧ Hid (So W0 hb r g p wr) ∧ Hid (Rng a b m p) ∧ Hid (Srt g a i p)) (fun s _ => b - (intOf s).toNat)
                case atStart => exact ⟨i + 1, q2, by go_num, by omega, by omega, LQ2, S3, R3, O3⟩
                case round =>
                  clear S3 R3 O3 LQ2
                  obtain ⟨k, p, rfl, hik, hkb, LP, Sp, Rp, Op⟩ := hrel
                  by_cases hk1 : k < b
                  · have hk2 : (k : Int) < (b : Int) := by omega
                    obtain ⟨km, hkm⟩ : ∃ km, k - 1 = km := ⟨_, rfl⟩
                    have e2 : (k : Int) - 1 = (km : Int) := by omega
                    have v2 := wrapN km (by omega)
                    have l2 : km + 1 ≤ k ∧ k ≤ km + 1 := by omega
                    clear hkm
                    obtain ⟨x0, x1, _, _⟩ := Sp.out.item k (by omega)
                    obtain ⟨y0, y1, _, _⟩ := Sp.out.item km (by omega)
                    have un : (k : Int) < (n : Int) := by omega
                    have vn : (km : Int) < (n : Int) := by omega
                    have hgr := Sp.out.great
                    have hbl := Sp.out.hlt
                    have rl := Sp.out.rlt
                    have CM := hide (fun w' hg => compare_any hb g (at' p k).1 (at' p k).2 (at' p km).1 (at' p km).2 w' hg)
                    have HL := hide (show lt g (at' p k) (at' p km) = decide (cf g ((at' p k).1, (at' p k).2) ((at' p km).1, (at' p km).2) < 0) from rfl)
                    generalize (at' p k).1 = X0 at *
                    generalize (at' p k).2 = X1 at *
                    generalize (at' p km).1 = Y0 at *
                    generalize (at' p km).2 = Y1 at *
                    generalize cf g (X0, X1) (Y0, Y1) = c at *
                    go_wp2
                    go_region_held3 (fun w' => w'.cell? ⟨hb, 1, none⟩ = some (.bool g) ∧ w'.cell? ⟨r, k * 2, none⟩ = some (.int .i64 X0) ∧ w'.cell? ⟨r, k * 2 + 1, none⟩ = some (.int .i64 X1) ∧ w'.cell? ⟨r, km * 2, none⟩ = some (.int .i64 Y0) ∧ w'.cell? ⟨r, km * 2 + 1, none⟩ = some (.int .i64 Y1))
                      (first | go_keep | (go_split_ands; refine ⟨?_, ?_, ?_, ?_, ?_⟩ <;> (rw [hcl _ _ (by first | exact hbl | exact rl)]; assumption)))
                      ((go_at_call 27; refine (CM.out _ ?_).mono ?_; (simp [*]); rintro e w' ⟨rfl, hB⟩; obtain ⟨hcl, hfr⟩ := bcell hB))
                    have Sw' := hide (Sp.out.drew.below hB)
                    clear hcl hfr x0 x1 y0 y1 hB CM hgr
                    rename_i hHeld
                    clear hHeld
                    by_cases hlt : c < 0
                    · have HN := hide (decide_eq_true hlt)
                      have RS := hide (Rp.out.step k km (by omega) (by omega) (by omega) (by omega) (by omega) (by omega))
                      have OS := hide (srt_out (b := b) Op.out ((Rng.refl p).step k km (by omega) (by omega) (by omega) (by omega) (by omega) (by omega)))
                      clear HL
                      go_wp2
                      · exact absurd ‹(!decide (c < 0)) = true› (by rw [HN.out]; decide)
                      · skip
                        obtain ⟨x0, x1, fx0, fx1⟩ := Sw'.out.item k (by omega)
                        obtain ⟨y0, y1, fy0, fy1⟩ := Sw'.out.item km (by omega)
                        have un : (k : Int) < (n : Int) := by omega
                        have vn : (km : Int) < (n : Int) := by omega
                        generalize ex0 : (at' p k).1 = X0 at *
                        generalize ex1 : (at' p k).2 = X1 at *
                        generalize ey0 : (at' p km).1 = Y0 at *
                        generalize ey1 : (at' p km).2 = Y1 at *
                        have SS := hide (Sw'.out.swap (i := k) (j := km) (by omega) (by omega) ex0 ex1 ey0 ey1)
                        clear ex0 ex1 ey0 ey1
                        obtain ⟨⟨z0, hz0⟩, ⟨z1, hz1⟩, ⟨z2, hz2⟩, ⟨z3, hz3⟩⟩ := four_cells r k km y0 y1
                        obtain ⟨⟨z4, hz4⟩, ⟨z5, hz5⟩, ⟨z6, hz6⟩, ⟨z7, hz7⟩⟩ := four_cells r km k x0 x1
                        go_region
                        clear hz0 hz1 hz2 hz3 hz4 hz5 hz6 hz7 x0 x1 y0 y1 fx0 fx1 fy0 fy1
                        go_wp2
                        go_roundw
                        case rel => exact ⟨k + 1, swp p k km, by go_num, by omega, by omega, by rw [swp_length]; exact LP, SS, RS, OS⟩
                        case measure => simp [intOf]; omega
                    · have HN := hide (decide_eq_false hlt)
                      go_wp2
                      · go_roundw
                        case rel => exact ⟨i, j + 1, p, rfl, by go_num, by omega, by omega, by omega, LP, Sw', Rp, Op⟩
                        case measure => simp [intOf]; omega
                      · exact absurd ‹(!decide (c < 0)) = false› (by rw [HN.out]; decide)
                  · have hk2 : ¬ (k : Int) < (b : Int) := by omega
                    go_wp2
                    go_roundw
                    case rel => exact ⟨i, j + 1, p, rfl, by go_num, by omega, by omega, by omega, LP, Sp, Rp, Op⟩
                    case measure => simp [intOf]; omega
              · have h21 : ¬ (2 : Int) ≤ (b : Int) - (i : Int) := by omega
                go_wp2_with fail
                go_roundw
                case rel => exact ⟨i, j + 1, q2, rfl, by go_num, by omega, by omega, by omega, LQ2, S3, R3, O3⟩
                case measure => simp [intOf]; omega
    · have hj1 : ¬ (j : Int) < 5 := by omega
      go_wp2
      go_ret
      exact ⟨false, q, rfl, Sq.out, Rq.out, fun h => by cases h⟩
end Go.Proofs.Ytocgeplpehioeaa.Con
