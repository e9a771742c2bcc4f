/- pdqsortCmpFunc's walk. -/
import Derived.Test.YtocgeplpehioeaaSPdq
namespace Go.Proofs.Ytocgeplpehioeaa.Con
open Go.RowKit Go.Proofs.Ytocgeplpehioeaa.Hq
set_option linter.unusedVariables false
set_option linter.unusedSimpArgs false
attribute [local go_sem ↓] Go.wp_at_zero Go.wp_at_succ
set_option maxRecDepth 100000 in
set_option maxHeartbeats 16000000 in
theorem pdq_any (W0 : World) (hb r : Nat) (g : Bool) (n : Nat) : ∀ (N a b lim0 : Nat) (m : List It) (W : World), b - a < N → m.length = n → So W0 hb r g m W → b ≤ n → a ≤ b → lim0 ≤ 64 → Bel g a b m →
    Calls Try.prog 33 #[.slice (some ⟨r, 0, none⟩) n n, .int .i64 a, .int .i64 b, .int .i64 lim0, .func (.func 27) #[.pointer (some ⟨hb, 0, none⟩)] #[]] W fun e w' => SrtPost W0 hb r g m a b e w' := by
  intro N
  induction N with
  | zero => intro a b lim0 m W h; omega
  | succ N ih =>
    intro a b lim0 m W hN hn S hb' ha hl0 hbel
    have hn2 : n ≤ 1024 := by rw [← hn]; exact S.len
    have NN := hide hn
    have S0 := hide S
    have B0 := hide hbel
    have IH := hide ih
    clear S hn hbel ih
    go_enter Try.func33, Try.ntmps33
    go_wp2
    go_loopw [1, 2, 3, 10, 11] (fun s1 s2 s3 s4 s5 wr => ∃ (x y lim : Nat) (wb wp : Bool) (q : List It), s1 = .int .i64 x ∧ s2 = .int .i64 y ∧ s3 = .int .i64 lim ∧ s4 = .bool wb ∧ s5 = .bool wp ∧ a ≤ x ∧ x ≤ y ∧ y ≤ b ∧ lim ≤ 64 ∧ q.length = n ∧ Hid (So W0 hb r g q wr) ∧ Hid (Rng a b m q) ∧ Hid (Bel g x y q) ∧ Hid (Todo g a b x y q)) (fun s1 s2 _ _ _ _ => (intOf s2 - intOf s1).toNat)
    case atStart => exact ⟨a, b, lim0, true, true, m, rfl, rfl, rfl, rfl, rfl, Nat.le_refl _, ha, Nat.le_refl _, hl0, NN.out, S0, hide (.refl _), B0, hide (todo_start g a b m)⟩
    case round =>
      obtain ⟨x, y, lim, wb, wp, q, rfl, rfl, rfl, rfl, rfl, hax, hxy, hyb, hlim, LQ, Sq, Rq, Bq, Tq⟩ := hrel
      have zx : (x : Int) ≤ 1024 := by omega
      have zy : (y : Int) ≤ 1024 := by omega
      by_cases h12 : y ≤ x + 12
      · have h121 : (y : Int) - (x : Int) ≤ 12 := by omega
        have IN := hide (ins_any x y LQ Sq.out (by omega) hxy)
        go_wp2_with (go_at_call 40; refine IN.out.mono ?_; rintro e w1 ⟨rfl, p, s1, r1, o1⟩)
        refine bodyPost_ret (results_none rfl _ _ _) rfl ?_
        exact ⟨rfl, p, s1, Rq.out.trans (r1.mono hax hyb), Tq.out p r1 o1⟩
      · have h121 : ¬ (y : Int) - (x : Int) ≤ 12 := by omega
        by_cases hl : lim = 0
        · subst hl
          have IN := hide (hsort_any x y LQ Sq.out (by omega) (by omega))
          go_wp2_with (go_at_call 41; refine IN.out.mono ?_; rintro e w1 ⟨rfl, p, s1, r1, o1⟩)
          refine bodyPost_ret (results_none rfl _ _ _) rfl ?_
          exact ⟨rfl, p, s1, Rq.out.trans (r1.mono hax hyb), Tq.out p r1 o1⟩
        · have hl1 : ¬ ((lim : Int) = 0) := by omega
          have hl2 : ((lim : Int) == 0) = false := by simp; omega
          go_upto_if 39 with fail
          go_cut [3] from 21 to 147 (fun s wc => ∃ (lim1 : Nat) (p : List It), s = .int .i64 lim1 ∧ lim1 ≤ 64 ∧ p.length = n ∧ Hid (So W0 hb r g p wc) ∧ Hid (Rng x y q p))
          case first => as_aux_lemma =>
            cases wb
            · have BR := hide (break_any x y LQ Sq.out (by omega) (by omega))
              go_wp2_with (go_at_call 42; refine BR.out.mono ?_; rintro e w1 ⟨rfl, p, s1, r1⟩)
              go_meet
              case rel => exact ⟨lim - 1, p, by go_num, by omega, by rw [r1.length]; exact LQ, hide s1, hide r1⟩
            · go_wp2_with fail
              go_meet
              case rel => exact ⟨lim, q, rfl, hlim, LQ, Sq, hide (.refl _)⟩
          case rest => as_aux_lemma =>
            obtain ⟨lim1, p, rfl, hlim1, LP, Sp, Rp⟩ := hcut
            have CH := hide (choose_any x y LP Sp.out (by omega) (by omega))
            go_wp2_with fail
            refine CH.out.mono ?_
            rintro e w1 ⟨pv, hh, rfl, hp1, hp2, hh3, s1⟩
            have S1 := hide s1
            clear s1 CH
            have zp : (pv : Int) ≤ 1024 := by omega
            go_upto_if 56 with fail
            go_cut [13, 14] from 21 to 147 (fun s t wc => ∃ (pv1 : Nat) (h1 : Int) (p1 : List It), s = .int .i64 pv1 ∧ t = .int .i64 h1 ∧ x ≤ pv1 ∧ pv1 < y ∧ p1.length = n ∧ Hid (So W0 hb r g p1 wc) ∧ Hid (Rng x y q p1))
            case first => as_aux_lemma =>
              by_cases h2 : hh = 2
              · subst h2
                have RV := hide (reverse_any x y LP S1.out (by omega) (by omega))
                go_wp2_with (go_at_call 44; refine RV.out.mono ?_; rintro e w2 ⟨rfl, p1, s1, r1⟩)
                go_meet
                case rel => exact ⟨y - 1 - (pv - x), 1, p1, by go_num, rfl, by omega, by omega, by rw [r1.length]; exact LP, hide s1, hide (Rp.out.trans r1)⟩
              · have h21 : (hh == 2) = false := by simp [h2]
                go_wp2_with fail
                go_meet
                case rel => exact ⟨pv, hh, p, rfl, rfl, hp1, hp2, LP, S1, Rp⟩
            case rest => as_aux_lemma =>
              clear S1 hp1 hp2 hh3 zp Sp
              obtain ⟨pv, hh, p1, rfl, rfl, hp1, hp2, LP1, S2, R2⟩ := hcut
              have zp : (pv : Int) ≤ 1024 := by omega
              go_upto_region 15 with fail
              go_cut [75] from 21 to 147 (fun s wx => ∃ t : Bool, s = .bool t ∧ wx = wc)
              case first => as_aux_lemma =>
                cases wb
                · go_wp2_with fail
                  go_meet
                  case rel => exact ⟨_, rfl, rfl⟩
                · cases wp
                  · go_wp2_with fail
                    go_meet
                    case rel => exact ⟨_, rfl, rfl⟩
                  · go_wp2_with fail
                    go_meet
                    case rel => exact ⟨_, rfl, rfl⟩
              case rest =>
              obtain ⟨tt, rfl, rfl⟩ := hcut
              go_upto_if 75 with fail
              go_cut [13] from 21 to 147 (fun s wc => s = .int .i64 pv ∧ ∃ p2 : List It, p2.length = n ∧ Hid (So W0 hb r g p2 wc) ∧ Hid (Rng x y q p2))
              case first => as_aux_lemma =>
                have PI := hide (pin_any x y LP1 S2.out (by omega) (by omega) (Bq.out.rng R2.out))
                cases tt
                · go_wp2_with fail
                  go_meet
                  case rel => exact ⟨rfl, p1, LP1, S2, R2⟩
                · go_wp2_with fail
                  refine PI.out.mono ?_
                  rintro e w2 ⟨res, p2, rfl, s1, r1, o1⟩
                  have O1 := hide o1
                  clear o1
                  cases res
                  · go_wp2_with fail
                    go_meet
                    case rel => exact ⟨rfl, p2, by rw [r1.length]; exact LP1, hide s1, hide (R2.out.trans r1)⟩
                  · go_wp2_with fail
                    refine bodyPost_ret (results_none rfl _ _ _) rfl ?_
                    exact ⟨rfl, p2, s1, Rq.out.trans ((R2.out.trans r1).mono hax hyb), Tq.out p2 (R2.out.trans r1) (O1.out (by first | exact rfl | trivial))⟩
              case rest => as_aux_lemma =>
                obtain ⟨rfl, p2, LP2, S3, R3⟩ := hcut
                go_upto_region 17 with fail
                go_cut [97] from 21 to 147 (fun s wc => s = .bool false ∧ Hid (So W0 hb r g p2 wc))
                case first => as_aux_lemma =>
                  by_cases hx0 : 0 < x
                  · have hx1 : (0 : Int) < (x : Int) := by omega
                    obtain ⟨xm, hxm⟩ : ∃ xm, x - 1 = xm := ⟨_, rfl⟩
                    have e2 : (x : Int) - 1 = (xm : Int) := by omega
                    have v2 := wrapN xm (by omega)
                    have l2 : xm + 1 ≤ x ∧ x ≤ xm + 1 := by omega
                    have BB := hide (show lt g (at' p2 xm) (at' p2 pv) = true by have := (Bq.out.rng R3.out) hx0 pv hp1 hp2; rwa [hxm] at this)
                    clear hxm
                    obtain ⟨x0, x1, _, _⟩ := S3.out.item xm (by omega)
                    obtain ⟨y0, y1, _, _⟩ := S3.out.item pv (by omega)
                    have un : (xm : Int) < (n : Int) := by omega
                    have vn : (pv : Int) < (n : Int) := by omega
                    have hgr := S3.out.great
                    have hbl := S3.out.hlt
                    have rl := S3.out.rlt
                    have CM := hide (fun w' hg => compare_any hb g (at' p2 xm).1 (at' p2 xm).2 (at' p2 pv).1 (at' p2 pv).2 w' hg)
                    have HL := hide (show lt g (at' p2 xm) (at' p2 pv) = decide (cf g ((at' p2 xm).1, (at' p2 xm).2) ((at' p2 pv).1, (at' p2 pv).2) < 0) from rfl)
                    generalize (at' p2 xm).1 = X0 at *
                    generalize (at' p2 xm).2 = X1 at *
                    generalize (at' p2 pv).1 = Y0 at *
                    generalize (at' p2 pv).2 = Y1 at *
                    generalize cf g (X0, X1) (Y0, Y1) = c at *
                    go_wp2
                    go_region_held3 (fun w' => w'.cell? ⟨hb, 1, none⟩ = some (.bool g) ∧ w'.cell? ⟨r, xm * 2, none⟩ = some (.int .i64 X0) ∧ w'.cell? ⟨r, xm * 2 + 1, none⟩ = some (.int .i64 X1) ∧ w'.cell? ⟨r, pv * 2, none⟩ = some (.int .i64 Y0) ∧ w'.cell? ⟨r, pv * 2 + 1, none⟩ = some (.int .i64 Y1))
                      (first | go_keep | (go_split_ands; refine ⟨?_, ?_, ?_, ?_, ?_⟩ <;> (rw [hcl _ _ (by first | exact hbl | exact rl)]; assumption)))
                      ((go_at_call 27; refine (CM.out _ ?_).mono ?_; (simp [*]); rintro e w' ⟨rfl, hB⟩; obtain ⟨hcl, hfr⟩ := bcell hB))
                    have Sw' := hide (S3.out.drew.below hB)
                    clear hcl hfr x0 x1 y0 y1 hB CM hgr
                    have hlt : c < 0 := by have := BB.out; rw [HL.out] at this; exact of_decide_eq_true this
                    have HN := hide (decide_eq_true hlt)
                    go_wp2
                    go_meet
                    case rel => exact ⟨by first | rfl | (simp [hlt]), Sw'⟩
                  · have hd : decide ((0 : Int) < (x : Int)) = false := decide_eq_false (by omega)
                    go_wp2
                    go_quiet (fail)
                    go_wp2
                    go_meet
                    case rel => exact ⟨rfl, hide (by first | exact S3.out.drew | exact S3.out.below (below_drewN (Below.refl _ _) _))⟩
                case rest => as_aux_lemma =>
                  clear S3
                  obtain ⟨rfl, S4⟩ := hcut
                  have PA := hide (part_any x y pv LP2 S4.out (by omega) (by omega) hp1 hp2)
                  go_wp2_with fail
                  refine PA.out.mono ?_
                  rintro e w3 ⟨mid, ap, p3, rfl, m1, m2, s5, r5, pt5⟩
                  have S5 := hide s5
                  have R5 := hide (R3.out.trans r5)
                  have P5 := hide pt5
                  have L5 : p3.length = n := by rw [r5.length]; exact LP2
                  clear s5 r5 pt5 PA S4
                  have zm : (mid : Int) ≤ 1024 := by omega
                  by_cases hlr : mid - x < y - mid
                  · have hlr1 : (mid : Int) - (x : Int) < (y : Int) - (mid : Int) := by omega
                    have RC := hide (IH.out x mid lim1 p3 w3 (by omega) L5 S5.out (by omega) (by omega) hlim1 ((Bq.out.rng R5.out).left (by omega)))
                    go_wp2_with (go_at_call 33; refine RC.out.mono ?_; rintro e w4 ⟨rfl, p4, s6, r6, o6⟩; have S6 := hide s6; have R6 := hide r6; have O6 := hide o6; clear s6 r6 o6)
                    have L6 : p4.length = n := by rw [R6.out.length]; exact L5
                    go_roundw
                    case rel => exact ⟨mid + 1, y, lim1, _, ap, p4, by go_num, rfl, rfl, rfl, rfl, by omega, by omega, hyb, hlim1, L6, S6, hide (Rq.out.trans ((R5.out.trans (R6.out.mono (Nat.le_refl _) (by omega))).mono hax hyb)), hide (parted_bel S6.out.ids (by omega) (P5.out.left m1 m2 R6.out) m1 m2), hide (Todo.left (Tq.out.rng (R5.out.trans (R6.out.mono (Nat.le_refl _) (by omega)))) (P5.out.left m1 m2 R6.out) m1 m2 O6.out)⟩
                    case measure => simp [intOf]; omega
                  · have hlr1 : ¬ (mid : Int) - (x : Int) < (y : Int) - (mid : Int) := by omega
                    have RC := hide (IH.out (mid + 1) y lim1 p3 w3 (by omega) L5 S5.out (by omega) (by omega) hlim1 (parted_bel S5.out.ids (by omega) P5.out m1 m2))
                    rw [show ((mid + 1 : Nat) : Int) = (mid : Int) + 1 by omega] at RC
                    go_wp2_with (go_at_call 33; refine RC.out.mono ?_; rintro e w4 ⟨rfl, p4, s6, r6, o6⟩; have S6 := hide s6; have R6 := hide r6; have O6 := hide o6; clear s6 r6 o6)
                    have L6 : p4.length = n := by rw [R6.out.length]; exact L5
                    go_roundw
                    case rel => exact ⟨x, mid, lim1, _, ap, p4, rfl, rfl, rfl, rfl, rfl, hax, by omega, by omega, hlim1, L6, S6, hide (Rq.out.trans ((R5.out.trans (R6.out.mono (by omega) (Nat.le_refl _))).mono hax hyb)), hide ((Bq.out.rng (R5.out.trans (R6.out.mono (by omega) (Nat.le_refl _)))).left (by omega)), hide (Todo.right (Tq.out.rng (R5.out.trans (R6.out.mono (by omega) (Nat.le_refl _)))) (P5.out.right m1 m2 R6.out) m1 m2 O6.out)⟩
                    case measure => simp [intOf]; omega
end Go.Proofs.Ytocgeplpehioeaa.Con
