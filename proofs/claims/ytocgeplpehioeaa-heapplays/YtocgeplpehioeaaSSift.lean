/- siftDownCmpFunc. -/
import Derived.Test.YtocgeplpehioeaaSHeap
import Derived.Test.YtocgeplpehioeaaSPiv
namespace Go.Proofs.Ytocgeplpehioeaa.Con
open Go.RowKit Go.Proofs.Ytocgeplpehioeaa.Hq
set_option linter.unusedVariables false
set_option linter.unusedSimpArgs false
attribute [local go_sem ↓] Go.wp_at_zero Go.wp_at_succ
theorem wrapN (k : Nat) (h : k ≤ 4096) : IntKind.i64.wrap (k : Int) = (k : Int) := by rw [IntKind.wrap_i64]; omega
def SiftPost (W0 : World) (hb r : Nat) (g : Bool) (m : List It) (a lo hi : Nat) (e : Ending) (w' : World) : Prop :=
  e = .returned (.tuple #[]) ∧ ∃ m', So W0 hb r g m' w' ∧ Rng a (a + hi) m m' ∧ Mx g a lo hi m'
set_option maxRecDepth 100000 in
set_option maxHeartbeats 8000000 in
theorem sift_any {W0 W : World} {hb r : Nat} {g : Bool} {m : List It} {n : Nat} (a lo hi : Nat) (hn : m.length = n) (S : So W0 hb r g m W) (hh : a + hi ≤ n) (hlo : lo ≤ hi) (hM : Mx g a (lo + 1) hi m) :
    Calls Try.prog 52 #[.slice (some ⟨r, 0, none⟩) n n, .int .i64 lo, .int .i64 hi, .int .i64 a, .func (.func 27) #[.pointer (some ⟨hb, 0, none⟩)] #[]] W fun e w' => SiftPost W0 hb r g m a lo hi e w' := by
  have hn2 : n ≤ 1024 := by rw [← hn]; exact S.len
  have NN := hide hn
  have S0 := hide S
  have M0 := hide (mxx_start hM)
  clear S hn hM
  go_enter Try.func52, Try.ntmps52
  go_wp2
  go_loopw [10] (fun s wr => ∃ (x : Nat) (q : List It), s = .int .i64 x ∧ lo ≤ x ∧ x ≤ hi ∧ q.length = n ∧ Hid (So W0 hb r g q wr) ∧ Hid (Rng a (a + hi) m q) ∧ Hid (Mxx g a lo hi x q)) (fun s _ => hi - (intOf s).toNat)
  case atStart => exact ⟨lo, m, rfl, Nat.le_refl _, hlo, NN.out, S0, hide (.refl _), M0⟩
  case round =>
    obtain ⟨x, q, rfl, hlx, hxh, LQ, Sq, Rq, Mq⟩ := hrel
    obtain ⟨d1, hd1⟩ : ∃ d, d = 2 * x + 1 := ⟨_, rfl⟩
    have l1 : d1 ≤ 2 * x + 1 ∧ 2 * x + 1 ≤ d1 := by omega
    have e1 : 2 * (x : Int) + 1 = (d1 : Int) := by omega
    have x1 : (x : Int) ≤ 1024 := by omega
    have y1 : (d1 : Int) ≤ 4096 := by omega
    have z1 : (a : Int) ≤ 1024 := by omega
    clear hd1
    by_cases hc : hi ≤ d1
    · have hc1 : (hi : Int) ≤ (d1 : Int) := by omega
      have ME := hide (mxx_end Mq.out (fun c c0 c1 c2 => by omega))
      go_wp2
      refine bodyPost_ret (results_none rfl _ _ _) rfl ?_
      exact ⟨rfl, q, Sq.out, Rq.out, ME.out⟩
    · have hc1 : ¬ (hi : Int) ≤ (d1 : Int) := by omega
      obtain ⟨d2, hd2⟩ : ∃ d, d = d1 + 1 := ⟨_, rfl⟩
      obtain ⟨X, hX⟩ : ∃ X, X = a + x := ⟨_, rfl⟩
      obtain ⟨D1, hD1⟩ : ∃ D, D = a + d1 := ⟨_, rfl⟩
      obtain ⟨D2, hD2⟩ : ∃ D, D = a + d2 := ⟨_, rfl⟩
      have e2 : (d1 : Int) + 1 = (d2 : Int) := by omega
      have e3 : (a : Int) + (x : Int) = (X : Int) := by omega
      have e4 : (a : Int) + (d1 : Int) = (D1 : Int) := by omega
      have e5 : (D1 : Int) + 1 = (D2 : Int) := by omega
      have e6 : (a : Int) + (d2 : Int) = (D2 : Int) := by omega
      have y2 : (d2 : Int) ≤ 4096 := by omega
      have y3 : (D1 : Int) ≤ 4096 := by omega
      have l2 : d2 ≤ d1 + 1 ∧ d1 + 1 ≤ d2 := by omega
      have l3 : X ≤ a + x ∧ a + x ≤ X := by omega
      have l4 : D1 ≤ a + d1 ∧ a + d1 ≤ D1 := by omega
      have l5 : D2 ≤ a + d2 ∧ a + d2 ≤ D2 := by omega
      have HX := hide hX
      have HD1 := hide hD1
      have HD2 := hide hD2
      clear hX hD1 hD2 hd2
      have v1 := wrapN d1 (by omega)
      have v2 := wrapN d2 (by omega)
      have v3 := wrapN X (by omega)
      have v4 := wrapN D1 (by omega)
      have v5 := wrapN D2 (by omega)
      by_cases hd2h : d2 < hi
      · have hd3 : (d2 : Int) < (hi : Int) := by omega
        obtain ⟨x0, x1, _, _⟩ := Sq.out.item D1 (by omega)
        obtain ⟨y0, y1, _, _⟩ := Sq.out.item D2 (by omega)
        have un : (D1 : Int) < (n : Int) := by omega
        have vn : (D2 : Int) < (n : Int) := by omega
        have hgr := Sq.out.great
        have hbl := Sq.out.hlt
        have rl := Sq.out.rlt
        have CM := hide (fun w' hg => compare_any hb g (at' q D1).1 (at' q D1).2 (at' q D2).1 (at' q D2).2 w' hg)
        have HL := hide (show lt g (at' q D1) (at' q D2) = decide (cf g ((at' q D1).1, (at' q D1).2) ((at' q D2).1, (at' q D2).2) < 0) from rfl)
        generalize (at' q D1).1 = X0 at *
        generalize (at' q D1).2 = X1 at *
        generalize (at' q D2).1 = Y0 at *
        generalize (at' q D2).2 = Y1 at *
        generalize cf g (X0, X1) (Y0, Y1) = c at *
        go_wp2
        go_region_held3 (fun w' => w'.cell? ⟨hb, 1, none⟩ = some (.bool g) ∧ w'.cell? ⟨r, D1 * 2, none⟩ = some (.int .i64 X0) ∧ w'.cell? ⟨r, D1 * 2 + 1, none⟩ = some (.int .i64 X1) ∧ w'.cell? ⟨r, D2 * 2, none⟩ = some (.int .i64 Y0) ∧ w'.cell? ⟨r, D2 * 2 + 1, none⟩ = some (.int .i64 Y1))
          (first | go_keep | (go_split_ands; refine ⟨?_, ?_, ?_, ?_, ?_⟩ <;> (rw [hcl _ _ (by first | exact hbl | exact rl)]; assumption)))
          ((go_at_call 27; refine (CM.out _ ?_).mono ?_; (simp [*]); rintro e w' ⟨rfl, hB⟩; obtain ⟨hcl, hfr⟩ := bcell hB))
        have Sw' := hide (Sq.out.drew.below hB)
        clear hcl hfr x0 x1 y0 y1 hB CM hgr
        rename_i hHeld
        clear hHeld
        have S2 := Sw'
        clear Sw'
        by_cases hlt : c < 0
        · have h12 := hide (show lt g (at' q D1) (at' q D2) = true by rw [HL.out]; exact decide_eq_true hlt)
          have BK : Hid (∀ c, 0 < c → c < hi → (c - 1) / 2 = x → le g (at' q (a + c)) (at' q D2)) := hide (fun k k0 k1 k2 => by
            rcases (show k = d1 ∨ k = d2 by omega) with rfl | rfl
            · rw [← HD1.out]; exact le_of_lt h12.out
            · rw [← HD2.out]; exact le_refl _ _)
          clear HL un vn
          go_wp2
          obtain ⟨x0, x1, _, _⟩ := S2.out.item X (by omega)
          obtain ⟨y0, y1, _, _⟩ := S2.out.item D2 (by omega)
          have un : (X : Int) < (n : Int) := by omega
          have vn : (D2 : Int) < (n : Int) := by omega
          have hgr := S2.out.great
          have hbl := S2.out.hlt
          have rl := S2.out.rlt
          have CM := hide (fun w' hg => compare_any hb g (at' q X).1 (at' q X).2 (at' q D2).1 (at' q D2).2 w' hg)
          have HL := hide (show lt g (at' q X) (at' q D2) = decide (cf g ((at' q X).1, (at' q X).2) ((at' q D2).1, (at' q D2).2) < 0) from rfl)
          generalize (at' q X).1 = X0 at *
          generalize (at' q X).2 = X1 at *
          generalize (at' q D2).1 = Y0 at *
          generalize (at' q D2).2 = Y1 at *
          generalize cf g (X0, X1) (Y0, Y1) = c at *
          go_region_held3 (fun w' => w'.cell? ⟨hb, 1, none⟩ = some (.bool g) ∧ w'.cell? ⟨r, X * 2, none⟩ = some (.int .i64 X0) ∧ w'.cell? ⟨r, X * 2 + 1, none⟩ = some (.int .i64 X1) ∧ w'.cell? ⟨r, D2 * 2, none⟩ = some (.int .i64 Y0) ∧ w'.cell? ⟨r, D2 * 2 + 1, none⟩ = some (.int .i64 Y1))
            (first | go_keep | (go_split_ands; refine ⟨?_, ?_, ?_, ?_, ?_⟩ <;> (rw [hcl _ _ (by first | exact hbl | exact rl)]; assumption)))
            ((go_at_call 27; refine (CM.out _ ?_).mono ?_; (simp [*]); rintro e w' ⟨rfl, hB⟩; obtain ⟨hcl, hfr⟩ := bcell hB))
          have Sw' := hide (S2.out.drew.below hB)
          clear hcl hfr x0 x1 y0 y1 hB CM hgr
          rename_i hHeld
          clear hHeld
          by_cases hlt : c < 0
          · have HN := hide (decide_eq_true hlt)
            have ht := hide (show lt g (at' q X) (at' q D2) = true by rw [HL.out]; exact decide_eq_true hlt)
            have MS := hide (show Mxx g a lo hi d2 (swp q X D2) by rw [HX.out, HD2.out]; exact mxx_step Mq.out hlx (by omega) (by omega) (by omega) (by omega) (by rw [← HX.out, ← HD2.out]; exact ht.out) (by rw [← HD2.out]; exact BK.out))
            have RS := hide (Rq.out.step X D2 (by omega) (by omega) (by omega) (by omega) (by omega) (by omega))
            clear HL
            go_wp2
            · exact absurd ‹(!decide (c < 0)) = true› (by rw [HN.out]; decide)
            · skip
              obtain ⟨x0, x1, fx0, fx1⟩ := Sw'.out.item X (by omega)
              obtain ⟨y0, y1, fy0, fy1⟩ := Sw'.out.item D2 (by omega)
              have un : (X : Int) < (n : Int) := by omega
              have vn : (D2 : Int) < (n : Int) := by omega
              generalize ex0 : (at' q X).1 = X0 at *
              generalize ex1 : (at' q X).2 = X1 at *
              generalize ey0 : (at' q D2).1 = Y0 at *
              generalize ey1 : (at' q D2).2 = Y1 at *
              have SS := hide (Sw'.out.swap (i := X) (j := D2) (by omega) (by omega) ex0 ex1 ey0 ey1)
              clear ex0 ex1 ey0 ey1
              obtain ⟨⟨z0, hz0⟩, ⟨z1, hz1⟩, ⟨z2, hz2⟩, ⟨z3, hz3⟩⟩ := four_cells r X D2 y0 y1
              obtain ⟨⟨z4, hz4⟩, ⟨z5, hz5⟩, ⟨z6, hz6⟩, ⟨z7, hz7⟩⟩ := four_cells r D2 X x0 x1
              go_region
              clear hz0 hz1 hz2 hz3 hz4 hz5 hz6 hz7 x0 x1 y0 y1 fx0 fx1 fy0 fy1
              go_wp2
              go_roundw
              case rel => exact ⟨d2, swp q X D2, rfl, by omega, by omega, by rw [swp_length]; exact LQ, SS, RS, MS⟩
              case measure => simp [intOf]; omega
          · have HN := hide (decide_eq_false hlt)
            have ht := hide (show lt g (at' q X) (at' q D2) = false by rw [HL.out]; exact decide_eq_false hlt)
            have ME := hide (mxx_end Mq.out (fun c c0 c1 c2 => le_trans (BK.out c c0 c1 c2) (by rw [← HX.out]; exact ht.out)))
            go_wp2
            · refine bodyPost_ret (results_none rfl _ _ _) rfl ?_
              exact ⟨rfl, q, Sw'.out, Rq.out, ME.out⟩
            · exact absurd ‹(!decide (c < 0)) = false› (by rw [HN.out]; decide)
        · have h12 := hide (show lt g (at' q D1) (at' q D2) = false by rw [HL.out]; exact decide_eq_false hlt)
          have BK : Hid (∀ c, 0 < c → c < hi → (c - 1) / 2 = x → le g (at' q (a + c)) (at' q D1)) := hide (fun k k0 k1 k2 => by
            rcases (show k = d1 ∨ k = d2 by omega) with rfl | rfl
            · rw [← HD1.out]; exact le_refl _ _
            · rw [← HD2.out]; exact h12.out)
          clear HL un vn
          go_wp2
          obtain ⟨x0, x1, _, _⟩ := S2.out.item X (by omega)
          obtain ⟨y0, y1, _, _⟩ := S2.out.item D1 (by omega)
          have un : (X : Int) < (n : Int) := by omega
          have vn : (D1 : Int) < (n : Int) := by omega
          have hgr := S2.out.great
          have hbl := S2.out.hlt
          have rl := S2.out.rlt
          have CM := hide (fun w' hg => compare_any hb g (at' q X).1 (at' q X).2 (at' q D1).1 (at' q D1).2 w' hg)
          have HL := hide (show lt g (at' q X) (at' q D1) = decide (cf g ((at' q X).1, (at' q X).2) ((at' q D1).1, (at' q D1).2) < 0) from rfl)
          generalize (at' q X).1 = X0 at *
          generalize (at' q X).2 = X1 at *
          generalize (at' q D1).1 = Y0 at *
          generalize (at' q D1).2 = Y1 at *
          generalize cf g (X0, X1) (Y0, Y1) = c at *
          go_region_held3 (fun w' => w'.cell? ⟨hb, 1, none⟩ = some (.bool g) ∧ w'.cell? ⟨r, X * 2, none⟩ = some (.int .i64 X0) ∧ w'.cell? ⟨r, X * 2 + 1, none⟩ = some (.int .i64 X1) ∧ w'.cell? ⟨r, D1 * 2, none⟩ = some (.int .i64 Y0) ∧ w'.cell? ⟨r, D1 * 2 + 1, none⟩ = some (.int .i64 Y1))
            (first | go_keep | (go_split_ands; refine ⟨?_, ?_, ?_, ?_, ?_⟩ <;> (rw [hcl _ _ (by first | exact hbl | exact rl)]; assumption)))
            ((go_at_call 27; refine (CM.out _ ?_).mono ?_; (simp [*]); rintro e w' ⟨rfl, hB⟩; obtain ⟨hcl, hfr⟩ := bcell hB))
          have Sw' := hide (S2.out.drew.below hB)
          clear hcl hfr x0 x1 y0 y1 hB CM hgr
          rename_i hHeld
          clear hHeld
          by_cases hlt : c < 0
          · have HN := hide (decide_eq_true hlt)
            have ht := hide (show lt g (at' q X) (at' q D1) = true by rw [HL.out]; exact decide_eq_true hlt)
            have MS := hide (show Mxx g a lo hi d1 (swp q X D1) by rw [HX.out, HD1.out]; exact mxx_step Mq.out hlx (by omega) (by omega) (by omega) (by omega) (by rw [← HX.out, ← HD1.out]; exact ht.out) (by rw [← HD1.out]; exact BK.out))
            have RS := hide (Rq.out.step X D1 (by omega) (by omega) (by omega) (by omega) (by omega) (by omega))
            clear HL
            go_wp2
            · exact absurd ‹(!decide (c < 0)) = true› (by rw [HN.out]; decide)
            · skip
              obtain ⟨x0, x1, fx0, fx1⟩ := Sw'.out.item X (by omega)
              obtain ⟨y0, y1, fy0, fy1⟩ := Sw'.out.item D1 (by omega)
              have un : (X : Int) < (n : Int) := by omega
              have vn : (D1 : Int) < (n : Int) := by omega
              generalize ex0 : (at' q X).1 = X0 at *
              generalize ex1 : (at' q X).2 = X1 at *
              generalize ey0 : (at' q D1).1 = Y0 at *
              generalize ey1 : (at' q D1).2 = Y1 at *
              have SS := hide (Sw'.out.swap (i := X) (j := D1) (by omega) (by omega) ex0 ex1 ey0 ey1)
              clear ex0 ex1 ey0 ey1
              obtain ⟨⟨z0, hz0⟩, ⟨z1, hz1⟩, ⟨z2, hz2⟩, ⟨z3, hz3⟩⟩ := four_cells r X D1 y0 y1
              obtain ⟨⟨z4, hz4⟩, ⟨z5, hz5⟩, ⟨z6, hz6⟩, ⟨z7, hz7⟩⟩ := four_cells r D1 X x0 x1
              go_region
              clear hz0 hz1 hz2 hz3 hz4 hz5 hz6 hz7 x0 x1 y0 y1 fx0 fx1 fy0 fy1
              go_wp2
              go_roundw
              case rel => exact ⟨d1, swp q X D1, rfl, by omega, by omega, by rw [swp_length]; exact LQ, SS, RS, MS⟩
              case measure => simp [intOf]; omega
          · have HN := hide (decide_eq_false hlt)
            have ht := hide (show lt g (at' q X) (at' q D1) = false by rw [HL.out]; exact decide_eq_false hlt)
            have ME := hide (mxx_end Mq.out (fun c c0 c1 c2 => le_trans (BK.out c c0 c1 c2) (by rw [← HX.out]; exact ht.out)))
            go_wp2
            · refine bodyPost_ret (results_none rfl _ _ _) rfl ?_
              exact ⟨rfl, q, Sw'.out, Rq.out, ME.out⟩
            · exact absurd ‹(!decide (c < 0)) = false› (by rw [HN.out]; decide)
      · have hd3 : decide ((d2 : Int) < (hi : Int)) = false := decide_eq_false (by omega)
        have BK : Hid (∀ c, 0 < c → c < hi → (c - 1) / 2 = x → le g (at' q (a + c)) (at' q D1)) := hide (fun k k0 k1 k2 => by
          obtain rfl : k = d1 := by omega
          rw [← HD1.out]; exact le_refl _ _)
        go_wp2
        go_quiet (fail)
        go_wp2
        generalize hWn : wr.drewN nq = Wn
        have S2 : Hid (So W0 hb r g q Wn) := hide (by rw [← hWn]; exact Sq.out.below (below_drewN (Below.refl _ _) nq))
        clear hWn
        obtain ⟨x0, x1, _, _⟩ := S2.out.item X (by omega)
        obtain ⟨y0, y1, _, _⟩ := S2.out.item D1 (by omega)
        have un : (X : Int) < (n : Int) := by omega
        have vn : (D1 : Int) < (n : Int) := by omega
        have hgr := S2.out.great
        have hbl := S2.out.hlt
        have rl := S2.out.rlt
        have CM := hide (fun w' hg => compare_any hb g (at' q X).1 (at' q X).2 (at' q D1).1 (at' q D1).2 w' hg)
        have HL := hide (show lt g (at' q X) (at' q D1) = decide (cf g ((at' q X).1, (at' q X).2) ((at' q D1).1, (at' q D1).2) < 0) from rfl)
        generalize (at' q X).1 = X0 at *
        generalize (at' q X).2 = X1 at *
        generalize (at' q D1).1 = Y0 at *
        generalize (at' q D1).2 = Y1 at *
        generalize cf g (X0, X1) (Y0, Y1) = c at *
        go_region_held3 (fun w' => w'.cell? ⟨hb, 1, none⟩ = some (.bool g) ∧ w'.cell? ⟨r, X * 2, none⟩ = some (.int .i64 X0) ∧ w'.cell? ⟨r, X * 2 + 1, none⟩ = some (.int .i64 X1) ∧ w'.cell? ⟨r, D1 * 2, none⟩ = some (.int .i64 Y0) ∧ w'.cell? ⟨r, D1 * 2 + 1, none⟩ = some (.int .i64 Y1))
          (first | go_keep | (go_split_ands; refine ⟨?_, ?_, ?_, ?_, ?_⟩ <;> (rw [hcl _ _ (by first | exact hbl | exact rl)]; assumption)))
          ((go_at_call 27; refine (CM.out _ ?_).mono ?_; (simp [*]); rintro e w' ⟨rfl, hB⟩; obtain ⟨hcl, hfr⟩ := bcell hB))
        have Sw' := hide (S2.out.drew.below hB)
        clear hcl hfr x0 x1 y0 y1 hB CM hgr
        rename_i hHeld
        clear hHeld
        by_cases hlt : c < 0
        · have HN := hide (decide_eq_true hlt)
          have ht := hide (show lt g (at' q X) (at' q D1) = true by rw [HL.out]; exact decide_eq_true hlt)
          have MS := hide (show Mxx g a lo hi d1 (swp q X D1) by rw [HX.out, HD1.out]; exact mxx_step Mq.out hlx (by omega) (by omega) (by omega) (by omega) (by rw [← HX.out, ← HD1.out]; exact ht.out) (by rw [← HD1.out]; exact BK.out))
          have RS := hide (Rq.out.step X D1 (by omega) (by omega) (by omega) (by omega) (by omega) (by omega))
          clear HL
          go_wp2
          · exact absurd ‹(!decide (c < 0)) = true› (by rw [HN.out]; decide)
          · skip
            obtain ⟨x0, x1, fx0, fx1⟩ := Sw'.out.item X (by omega)
            obtain ⟨y0, y1, fy0, fy1⟩ := Sw'.out.item D1 (by omega)
            have un : (X : Int) < (n : Int) := by omega
            have vn : (D1 : Int) < (n : Int) := by omega
            generalize ex0 : (at' q X).1 = X0 at *
            generalize ex1 : (at' q X).2 = X1 at *
            generalize ey0 : (at' q D1).1 = Y0 at *
            generalize ey1 : (at' q D1).2 = Y1 at *
            have SS := hide (Sw'.out.swap (i := X) (j := D1) (by omega) (by omega) ex0 ex1 ey0 ey1)
            clear ex0 ex1 ey0 ey1
            obtain ⟨⟨z0, hz0⟩, ⟨z1, hz1⟩, ⟨z2, hz2⟩, ⟨z3, hz3⟩⟩ := four_cells r X D1 y0 y1
            obtain ⟨⟨z4, hz4⟩, ⟨z5, hz5⟩, ⟨z6, hz6⟩, ⟨z7, hz7⟩⟩ := four_cells r D1 X x0 x1
            go_region
            clear hz0 hz1 hz2 hz3 hz4 hz5 hz6 hz7 x0 x1 y0 y1 fx0 fx1 fy0 fy1
            go_wp2
            go_roundw
            case rel => exact ⟨d1, swp q X D1, rfl, by omega, by omega, by rw [swp_length]; exact LQ, SS, RS, MS⟩
            case measure => simp [intOf]; omega
        · have HN := hide (decide_eq_false hlt)
          have ht := hide (show lt g (at' q X) (at' q D1) = false by rw [HL.out]; exact decide_eq_false hlt)
          have ME := hide (mxx_end Mq.out (fun c c0 c1 c2 => le_trans (BK.out c c0 c1 c2) (by rw [← HX.out]; exact ht.out)))
          go_wp2
          · refine bodyPost_ret (results_none rfl _ _ _) rfl ?_
            exact ⟨rfl, q, Sw'.out, Rq.out, ME.out⟩
          · exact absurd ‹(!decide (c < 0)) = false› (by rw [HN.out]; decide)
end Go.Proofs.Ytocgeplpehioeaa.Con
