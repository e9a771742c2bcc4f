/- partitionCmpFunc. -/
import Derived.Test.YtocgeplpehioeaaSPiv
import Derived.Deep.CutBlock
import Derived.Deep.CutRange
namespace Go.Proofs.Ytocgeplpehioeaa.Con
open Go.RowKit Go.Proofs.Ytocgeplpehioeaa.Hq
set_option linter.unusedVariables false
set_option linter.unusedSimpArgs false
attribute [local go_sem ↓] Go.wp_at_zero Go.wp_at_succ
/-- Ahead of i all are ahead of the one at a, past j none. -/
def Pt (g : Bool) (a b i j : Nat) (q : List It) : Prop := (∀ k, a < k → k < i → lt g (at' q k) (at' q a) = true) ∧ (∀ k, j < k → k < b → le g (at' q a) (at' q k))
theorem pt_start (g : Bool) (a b : Nat) (q : List It) : Pt g a b (a + 1) (b - 1) q := ⟨fun k h1 h2 => by omega, fun k h1 h2 => by omega⟩
theorem pt_left {g : Bool} {a b i j : Nat} {q : List It} (h : Pt g a b i j q) (hl : lt g (at' q i) (at' q a) = true) : Pt g a b (i + 1) j q :=
  ⟨fun k h1 h2 => by
    by_cases e : k = i
    · subst e; exact hl
    · exact h.1 k h1 (by omega), h.2⟩
theorem pt_right {g : Bool} {a b i j j' : Nat} {q : List It} (h : Pt g a b i j q) (hj : j' + 1 = j) (hl : lt g (at' q j) (at' q a) = false) : Pt g a b i j' q :=
  ⟨h.1, fun k h1 h2 => by
    by_cases e : k = j
    · subst e; exact hl
    · exact h.2 k (by omega) h2⟩
theorem pt_swap {g : Bool} {a b i j j' : Nat} {q : List It} (h : Pt g a b i j q) (hai : a < i) (hij : i ≤ j) (hj : j < q.length) (hj' : j' + 1 = j) (h1 : lt g (at' q i) (at' q a) = false) (h2 : lt g (at' q j) (at' q a) = true) : Pt g a b (i + 1) j' (swp q i j) := by
  have hne : i ≠ j := by rintro rfl; rw [h1] at h2; cases h2
  have A := fun k => at_swp q i j k (by omega) hj
  have ea : at' (swp q i j) a = at' q a := by rw [A, if_neg (by omega), if_neg (by omega)]
  refine ⟨fun k k1 k2 => ?_, fun k k1 k2 => ?_⟩
  · rw [ea, A, if_neg (by omega)]
    by_cases e : k = i
    · rw [if_pos e]; exact h2
    · rw [if_neg e]; exact h.1 k k1 (by omega)
  · rw [ea, A]
    by_cases e : k = j
    · rw [if_pos e]; exact h1
    · rw [if_neg e, if_neg (by omega)]; exact h.2 k (by omega) k2
/-- Parted at mid. -/
def Parted (g : Bool) (a b mid : Nat) (q : List It) : Prop := (∀ k, a ≤ k → k < mid → lt g (at' q k) (at' q mid) = true) ∧ (∀ k, mid < k → k < b → le g (at' q mid) (at' q k))
theorem pt_end {g : Bool} {a b i j : Nat} {q : List It} (h : Pt g a b i j q) (hai : a ≤ j) (hij : i = j + 1) (hj : j < q.length) : Parted g a b j (swp q j a) := by
  have A := fun k => at_swp q j a k hj (by omega)
  have ej : at' (swp q j a) j = at' q a := by
    rw [A]
    by_cases e : j = a
    · subst e; rw [if_pos rfl]
    · rw [if_neg e, if_pos rfl]
  refine ⟨fun k k1 k2 => ?_, fun k k1 k2 => ?_⟩
  · rw [ej, A]
    by_cases e : k = a
    · rw [if_pos e]; exact h.1 j (by omega) (by omega)
    · rw [if_neg e, if_neg (by omega)]; exact h.1 k (by omega) (by omega)
  · rw [ej, A, if_neg (by omega), if_neg (by omega)]; exact h.2 k k1 k2
def PartPost (W0 : World) (hb r : Nat) (g : Bool) (m : List It) (a b : Nat) (e : Ending) (w' : World) : Prop :=
  ∃ (mid : Nat) (ap : Bool) (m' : List It), e = .returned (.tuple #[.int .i64 mid, .bool ap]) ∧ a ≤ mid ∧ mid < b ∧ So W0 hb r g m' w' ∧ Rng a b m m' ∧ Parted g a b mid m'
set_option maxRecDepth 100000 in
set_option maxHeartbeats 8000000 in
theorem part_any {W0 W : World} {hb r : Nat} {g : Bool} {m : List It} {n : Nat} (a b pv : Nat) (hn : m.length = n) (S : So W0 hb r g m W) (hb' : b ≤ n) (ha : a < b) (hp : a ≤ pv) (hp' : pv < b) :
    Calls Try.prog 47 #[.slice (some ⟨r, 0, none⟩) n n, .int .i64 a, .int .i64 b, .int .i64 pv, .func (.func 27) #[.pointer (some ⟨hb, 0, none⟩)] #[]] W fun e w' => PartPost W0 hb r g m a b e w' := by
  have hn2 : n ≤ 1024 := by rw [← hn]; exact S.len
  have NN := hide hn
  obtain ⟨x0, x1, fx0, fx1⟩ := S.item a (by omega)
  obtain ⟨y0, y1, fy0, fy1⟩ := S.item pv (by omega)
  have i1 : (a : Int) < (n : Int) := by omega
  have j1 : (pv : Int) < (n : Int) := by omega
  generalize ex0 : (at' m a).1 = X0 at *
  generalize ex1 : (at' m a).2 = X1 at *
  generalize ey0 : (at' m pv).1 = Y0 at *
  generalize ey1 : (at' m pv).2 = Y1 at *
  have S1 := hide (S.swap (i := a) (j := pv) (by omega) (by omega) ex0 ex1 ey0 ey1)
  have R1 := hide ((Rng.refl (a := a) (b := b) m).step a pv (by omega) (by omega) hp hp' (by omega) (by omega))
  clear ex0 ex1 ey0 ey1 S hn
  obtain ⟨⟨z0, hz0⟩, ⟨z1, hz1⟩, ⟨z2, hz2⟩, ⟨z3, hz3⟩⟩ := four_cells r a pv y0 y1
  obtain ⟨⟨z4, hz4⟩, ⟨z5, hz5⟩, ⟨z6, hz6⟩, ⟨z7, hz7⟩⟩ := four_cells r pv a x0 x1
  go_enter Try.func47, Try.ntmps47
  go_wp2
  go_region
  clear hz0 hz1 hz2 hz3 hz4 hz5 hz6 hz7 x0 x1 y0 y1 fx0 fx1 fy0 fy1
  have LQ : (swp m a pv).length = n := by rw [swp_length]; exact NN.out
  have P0 := hide (pt_start g a b (swp m a pv))
  generalize hq : swp m a pv = q at *
  generalize hW1 : ((((W.setCell ⟨r, a * 2, none⟩ (.int .i64 Y0)).setCell ⟨r, a * 2 + 1, none⟩ (.int .i64 Y1)).setCell ⟨r, pv * 2, none⟩ (.int .i64 X0)).setCell ⟨r, pv * 2 + 1, none⟩ (.int .i64 X1)).drew = W1 at *
  clear hq hW1
  obtain ⟨b1, hb1⟩ : ∃ b1, b1 + 1 = b := ⟨b - 1, by omega⟩
  have eb : (b : Int) - 1 = (b1 : Int) := by omega
  rw [show b - 1 = b1 by omega] at P0
  go_upto_block 0 with fail
  go_cut [12] from 32 (fun s wc => ∃ i : Nat, s = .int .i64 i ∧ a < i ∧ i ≤ b1 + 1 ∧ Hid (So W0 hb r g q wc) ∧ Hid (Pt g a b i b1 q) ∧ Hid (i ≤ b1 → lt g (at' q i) (at' q a) = false))
  case first => as_aux_lemma =>
    go_wp2_with fail
    go_loopw [12] (fun s wr => ∃ i : Nat, s = .int .i64 i ∧ a < i ∧ i ≤ b1 + 1 ∧ Hid (So W0 hb r g q wr) ∧ Hid (Pt g a b i b1 q)) (fun s _ => b1 + 1 - (intOf s).toNat)
    case atStart => exact ⟨a + 1, by go_num, by omega, by omega, S1, P0⟩
    case round =>
      obtain ⟨i, rfl, hai, hij, Sr, Pr⟩ := hrel
      by_cases hle : i ≤ b1
      · have hle1 : (i : Int) ≤ (b1 : Int) := by omega
        obtain ⟨x0, x1, _, _⟩ := Sr.out.item i (by omega)
        obtain ⟨y0, y1, _, _⟩ := Sr.out.item a (by omega)
        have un : (i : Int) < (n : Int) := by omega
        have vn : (a : Int) < (n : Int) := by omega
        have hgr := Sr.out.great
        have hbl := Sr.out.hlt
        have rl := Sr.out.rlt
        have CM := hide (fun w' hg => compare_any hb g (at' q i).1 (at' q i).2 (at' q a).1 (at' q a).2 w' hg)
        have HL := hide (show lt g (at' q i) (at' q a) = decide (cf g ((at' q i).1, (at' q i).2) ((at' q a).1, (at' q a).2) < 0) from rfl)
        generalize (at' q i).1 = X0 at *
        generalize (at' q i).2 = X1 at *
        generalize (at' q a).1 = Y0 at *
        generalize (at' q a).2 = Y1 at *
        generalize cf g (X0, X1) (Y0, Y1) = c at *
        go_wp2
        go_region_held3 (fun w' => w'.cell? ⟨hb, 1, none⟩ = some (.bool g) ∧ w'.cell? ⟨r, i * 2, none⟩ = some (.int .i64 X0) ∧ w'.cell? ⟨r, i * 2 + 1, none⟩ = some (.int .i64 X1) ∧ w'.cell? ⟨r, a * 2, none⟩ = some (.int .i64 Y0) ∧ w'.cell? ⟨r, a * 2 + 1, none⟩ = some (.int .i64 Y1))
          (first | go_keep | (go_split_ands; refine ⟨?_, ?_, ?_, ?_, ?_⟩ <;> (rw [hcl _ _ (by first | exact hbl | exact rl)]; assumption)))
          ((go_at_call 27; refine (CM.out _ ?_).mono ?_; (simp [*]); rintro e w' ⟨rfl, hB⟩; obtain ⟨hcl, hfr⟩ := bcell hB))
        have Sw' := hide (Sr.out.drew.below hB)
        clear hcl hfr x0 x1 y0 y1 hB CM hgr
        by_cases hlt : c < 0
        · have ht := hide (show lt g (at' q i) (at' q a) = true by rw [HL.out]; exact decide_eq_true hlt)
          go_wp2
          go_roundw
          case rel => exact ⟨i + 1, by go_num, by omega, by omega, Sw', hide (pt_left Pr.out ht.out)⟩
          case measure => simp [intOf]; omega
        · have ht := hide (show lt g (at' q i) (at' q a) = false by rw [HL.out]; exact decide_eq_false hlt)
          go_wp2
          go_meet
          case rel => exact ⟨i, rfl, hai, hij, Sw', Pr, hide (fun _ => ht.out)⟩
      · have hd : decide ((i : Int) ≤ (b1 : Int)) = false := decide_eq_false (by omega)
        go_wp2
        go_quiet (fail)
        go_wp2
        go_meet
        case rel => exact ⟨i, rfl, hai, hij, hide (by first | exact Sr.out.drew | exact Sr.out.below (below_drewN (Below.refl _ _) _)), Pr, hide (fun h => absurd h hle)⟩
  case rest => as_aux_lemma =>
    obtain ⟨i, rfl, hai, hij, S2, P2, E2⟩ := hcut
    go_upto_block 2 with fail
    go_cut [13] from 50 (fun s wc => ∃ jj : Nat, s = .int .i64 jj ∧ a ≤ jj ∧ jj ≤ b1 ∧ i ≤ jj + 1 ∧ Hid (So W0 hb r g q wc) ∧ Hid (Pt g a b i jj q) ∧ Hid (i ≤ jj → lt g (at' q jj) (at' q a) = true))
    case first => as_aux_lemma =>
      go_wp2_with fail
      go_loopw [13] (fun s wr => ∃ jj : Nat, s = .int .i64 jj ∧ a ≤ jj ∧ jj ≤ b1 ∧ i ≤ jj + 1 ∧ Hid (So W0 hb r g q wr) ∧ Hid (Pt g a b i jj q)) (fun s _ => (intOf s).toNat)
      case atStart => exact ⟨b1, rfl, by omega, by omega, by omega, S2, P2⟩
      case round =>
        obtain ⟨jj, rfl, haj, hjb, hij, Sr, Pr⟩ := hrel
        by_cases hle : i ≤ jj
        · have hle1 : (i : Int) ≤ (jj : Int) := by omega
          obtain ⟨x0, x1, _, _⟩ := Sr.out.item jj (by omega)
          obtain ⟨y0, y1, _, _⟩ := Sr.out.item a (by omega)
          have un : (jj : Int) < (n : Int) := by omega
          have vn : (a : Int) < (n : Int) := by omega
          have hgr := Sr.out.great
          have hbl := Sr.out.hlt
          have rl := Sr.out.rlt
          have CM := hide (fun w' hg => compare_any hb g (at' q jj).1 (at' q jj).2 (at' q a).1 (at' q a).2 w' hg)
          have HL := hide (show lt g (at' q jj) (at' q a) = decide (cf g ((at' q jj).1, (at' q jj).2) ((at' q a).1, (at' q a).2) < 0) from rfl)
          generalize (at' q jj).1 = X0 at *
          generalize (at' q jj).2 = X1 at *
          generalize (at' q a).1 = Y0 at *
          generalize (at' q a).2 = Y1 at *
          generalize cf g (X0, X1) (Y0, Y1) = c at *
          go_wp2
          go_region_held3 (fun w' => w'.cell? ⟨hb, 1, none⟩ = some (.bool g) ∧ w'.cell? ⟨r, jj * 2, none⟩ = some (.int .i64 X0) ∧ w'.cell? ⟨r, jj * 2 + 1, none⟩ = some (.int .i64 X1) ∧ w'.cell? ⟨r, a * 2, none⟩ = some (.int .i64 Y0) ∧ w'.cell? ⟨r, a * 2 + 1, none⟩ = some (.int .i64 Y1))
            (first | go_keep | (go_split_ands; refine ⟨?_, ?_, ?_, ?_, ?_⟩ <;> (rw [hcl _ _ (by first | exact hbl | exact rl)]; assumption)))
            ((go_at_call 27; refine (CM.out _ ?_).mono ?_; (simp [*]); rintro e w' ⟨rfl, hB⟩; obtain ⟨hcl, hfr⟩ := bcell hB))
          have Sw' := hide (Sr.out.drew.below hB)
          clear hcl hfr x0 x1 y0 y1 hB CM hgr
          by_cases hlt : c < 0
          · have ht := hide (show lt g (at' q jj) (at' q a) = true by rw [HL.out]; exact decide_eq_true hlt)
            have HN := hide (decide_eq_true hlt)
            go_wp2
            · rename_i hh; rw [HN.out] at hh; cases hh
            · go_meet
              case rel => exact ⟨jj, rfl, haj, hjb, hij, Sw', Pr, hide (fun _ => ht.out)⟩
          · have ht := hide (show lt g (at' q jj) (at' q a) = false by rw [HL.out]; exact decide_eq_false hlt)
            have HN := hide (decide_eq_false hlt)
            go_wp2
            · go_roundw
              case rel => exact ⟨jj - 1, by go_num, by omega, by omega, by omega, Sw', hide (pt_right Pr.out (by omega) ht.out)⟩
              case measure => simp [intOf]; omega
            · rename_i hh; rw [HN.out] at hh; cases hh
        · have hd : decide ((i : Int) ≤ (jj : Int)) = false := decide_eq_false (by omega)
          go_wp2
          go_quiet (fail)
          go_wp2
          go_meet
          case rel => exact ⟨jj, rfl, haj, hjb, hij, hide (by first | exact Sr.out.drew | exact Sr.out.below (below_drewN (Below.refl _ _) _)), Pr, hide (fun h => absurd h hle)⟩
    case rest => as_aux_lemma =>
      obtain ⟨j, rfl, haj, hjb, hij2, S3, P3, E3⟩ := hcut
      by_cases hgt : j < i
      · have hgt1 : (j : Int) < (i : Int) := by omega
        have PE := hide (pt_end P3.out haj (by omega) (by omega))
        have RE := hide (R1.out.step j a (by omega) (by omega) (by omega) (by omega) (by omega) (by omega))
        obtain ⟨x0, x1, fx0, fx1⟩ := S3.out.item j (by omega)
        obtain ⟨y0, y1, fy0, fy1⟩ := S3.out.item a (by omega)
        have un : (j : Int) < (n : Int) := by omega
        have vn : (a : Int) < (n : Int) := by omega
        generalize ex0 : (at' q j).1 = X0 at *
        generalize ex1 : (at' q j).2 = X1 at *
        generalize ey0 : (at' q a).1 = Y0 at *
        generalize ey1 : (at' q a).2 = Y1 at *
        have SS := hide (S3.out.swap (i := j) (j := a) (by omega) (by omega) ex0 ex1 ey0 ey1)
        clear ex0 ex1 ey0 ey1
        obtain ⟨⟨z0, hz0⟩, ⟨z1, hz1⟩, ⟨z2, hz2⟩, ⟨z3, hz3⟩⟩ := four_cells r j a y0 y1
        obtain ⟨⟨z4, hz4⟩, ⟨z5, hz5⟩, ⟨z6, hz6⟩, ⟨z7, hz7⟩⟩ := four_cells r a j x0 x1
        go_wp2
        go_region
        clear hz0 hz1 hz2 hz3 hz4 hz5 hz6 hz7 x0 x1 y0 y1 fx0 fx1 fy0 fy1
        go_wp2
        go_ret2
        exact ⟨j, true, _, rfl, haj, by omega, SS.out, RE.out, PE.out⟩
      · have hgt1 : ¬ (j : Int) < (i : Int) := by omega
        have hne : i ≠ j := by
          rintro rfl
          have h1 := E2.out (by omega)
          have h2 := E3.out (by omega)
          rw [h1] at h2; cases h2
        have PS := hide (pt_swap (j' := j - 1) P3.out hai (by omega) (by omega) (by omega) (E2.out (by omega)) (E3.out (by omega)))
        have RS := hide (R1.out.step i j (by omega) (by omega) (by omega) (by omega) (by omega) (by omega))
        have LS : (swp q i j).length = n := by rw [swp_length]; exact LQ
        obtain ⟨x0, x1, fx0, fx1⟩ := S3.out.item i (by omega)
        obtain ⟨y0, y1, fy0, fy1⟩ := S3.out.item j (by omega)
        have un : (i : Int) < (n : Int) := by omega
        have vn : (j : Int) < (n : Int) := by omega
        generalize ex0 : (at' q i).1 = X0 at *
        generalize ex1 : (at' q i).2 = X1 at *
        generalize ey0 : (at' q j).1 = Y0 at *
        generalize ey1 : (at' q j).2 = Y1 at *
        have SS := hide (S3.out.swap (i := i) (j := j) (by omega) (by omega) ex0 ex1 ey0 ey1)
        clear ex0 ex1 ey0 ey1
        obtain ⟨⟨z0, hz0⟩, ⟨z1, hz1⟩, ⟨z2, hz2⟩, ⟨z3, hz3⟩⟩ := four_cells r i j y0 y1
        obtain ⟨⟨z4, hz4⟩, ⟨z5, hz5⟩, ⟨z6, hz6⟩, ⟨z7, hz7⟩⟩ := four_cells r j i x0 x1
        go_wp2
        go_region
        clear hz0 hz1 hz2 hz3 hz4 hz5 hz6 hz7 x0 x1 y0 y1 fx0 fx1 fy0 fy1
        clear S1 S2 S3 P0 P2 P3 E2 E3 R1
        generalize swp q i j = q3 at *
        generalize ((((wc.setCell ⟨r, i * 2, none⟩ (.int .i64 Y0)).setCell ⟨r, i * 2 + 1, none⟩ (.int .i64 Y1)).setCell ⟨r, j * 2, none⟩ (.int .i64 X0)).setCell ⟨r, j * 2 + 1, none⟩ (.int .i64 X1)).drew = W3 at *
        go_wp2
        go_loopw [12, 13] (fun s t wr => ∃ (i j : Nat) (q : List It), s = .int .i64 i ∧ t = .int .i64 j ∧ a < i ∧ i ≤ j + 1 ∧ j < b ∧ q.length = n ∧ Hid (So W0 hb r g q wr) ∧ Hid (Rng a b m q) ∧ Hid (Pt g a b i j q)) (fun _ t _ => (intOf t).toNat)
        case atStart => exact ⟨i + 1, j - 1, q3, by go_num, by go_num, by omega, by omega, by omega, LS, SS, RS, PS⟩
        case round =>
          clear SS RS PS LS hgt hgt1 hne hij hij2 hai haj hjb LQ
          obtain ⟨i, j, q, rfl, rfl, hai, hij, hjb, LQ, S4, R4, P4⟩ := hrel
          go_upto_block 6 with fail
          go_cut [12] from 105 to 162 (fun s wc => ∃ i : Nat, s = .int .i64 i ∧ a < i ∧ i ≤ j + 1 ∧ Hid (So W0 hb r g q wc) ∧ Hid (Pt g a b i j q) ∧ Hid (i ≤ j → lt g (at' q i) (at' q a) = false))
          case first => as_aux_lemma =>
            go_wp2_with fail
            go_loopw [12] (fun s wr => ∃ i : Nat, s = .int .i64 i ∧ a < i ∧ i ≤ j + 1 ∧ Hid (So W0 hb r g q wr) ∧ Hid (Pt g a b i j q)) (fun s _ => j + 1 - (intOf s).toNat)
            case atStart => exact ⟨i, rfl, by omega, by omega, S4, P4⟩
            case round =>
              obtain ⟨i, rfl, hai, hij, Sr, Pr⟩ := hrel
              by_cases hle : i ≤ j
              · have hle1 : (i : Int) ≤ (j : Int) := by omega
                obtain ⟨x0, x1, _, _⟩ := Sr.out.item i (by omega)
                obtain ⟨y0, y1, _, _⟩ := Sr.out.item a (by omega)
                have un : (i : Int) < (n : Int) := by omega
                have vn : (a : Int) < (n : Int) := by omega
                have hgr := Sr.out.great
                have hbl := Sr.out.hlt
                have rl := Sr.out.rlt
                have CM := hide (fun w' hg => compare_any hb g (at' q i).1 (at' q i).2 (at' q a).1 (at' q a).2 w' hg)
                have HL := hide (show lt g (at' q i) (at' q a) = decide (cf g ((at' q i).1, (at' q i).2) ((at' q a).1, (at' q a).2) < 0) from rfl)
                generalize (at' q i).1 = X0 at *
                generalize (at' q i).2 = X1 at *
                generalize (at' q a).1 = Y0 at *
                generalize (at' q a).2 = Y1 at *
                generalize cf g (X0, X1) (Y0, Y1) = c at *
                go_wp2
                go_region_held3 (fun w' => w'.cell? ⟨hb, 1, none⟩ = some (.bool g) ∧ w'.cell? ⟨r, i * 2, none⟩ = some (.int .i64 X0) ∧ w'.cell? ⟨r, i * 2 + 1, none⟩ = some (.int .i64 X1) ∧ w'.cell? ⟨r, a * 2, none⟩ = some (.int .i64 Y0) ∧ w'.cell? ⟨r, a * 2 + 1, none⟩ = some (.int .i64 Y1))
                  (first | go_keep | (go_split_ands; refine ⟨?_, ?_, ?_, ?_, ?_⟩ <;> (rw [hcl _ _ (by first | exact hbl | exact rl)]; assumption)))
                  ((go_at_call 27; refine (CM.out _ ?_).mono ?_; (simp [*]); rintro e w' ⟨rfl, hB⟩; obtain ⟨hcl, hfr⟩ := bcell hB))
                have Sw' := hide (Sr.out.drew.below hB)
                clear hcl hfr x0 x1 y0 y1 hB CM hgr
                by_cases hlt : c < 0
                · have ht := hide (show lt g (at' q i) (at' q a) = true by rw [HL.out]; exact decide_eq_true hlt)
                  go_wp2
                  go_roundw
                  case rel => exact ⟨i + 1, by go_num, by omega, by omega, Sw', hide (pt_left Pr.out ht.out)⟩
                  case measure => simp [intOf]; omega
                · have ht := hide (show lt g (at' q i) (at' q a) = false by rw [HL.out]; exact decide_eq_false hlt)
                  go_wp2
                  go_meet
                  case rel => exact ⟨i, rfl, hai, hij, Sw', Pr, hide (fun _ => ht.out)⟩
              · have hd : decide ((i : Int) ≤ (j : Int)) = false := decide_eq_false (by omega)
                go_wp2
                go_quiet (fail)
                go_wp2
                go_meet
                case rel => exact ⟨i, rfl, hai, hij, hide (by first | exact Sr.out.drew | exact Sr.out.below (below_drewN (Below.refl _ _) _)), Pr, hide (fun h => absurd h hle)⟩
          case rest => as_aux_lemma =>
            clear S4 P4 hij hai
            obtain ⟨i, rfl, hai, hij, S5, P5, E5⟩ := hcut
            go_upto_block 8 with fail
            go_cut [13] from 105 to 162 (fun s wc => ∃ jj : Nat, s = .int .i64 jj ∧ a ≤ jj ∧ jj ≤ j ∧ i ≤ jj + 1 ∧ Hid (So W0 hb r g q wc) ∧ Hid (Pt g a b i jj q) ∧ Hid (i ≤ jj → lt g (at' q jj) (at' q a) = true))
            case first => as_aux_lemma =>
              go_wp2_with fail
              go_loopw [13] (fun s wr => ∃ jj : Nat, s = .int .i64 jj ∧ a ≤ jj ∧ jj ≤ j ∧ i ≤ jj + 1 ∧ Hid (So W0 hb r g q wr) ∧ Hid (Pt g a b i jj q)) (fun s _ => (intOf s).toNat)
              case atStart => exact ⟨j, rfl, by omega, by omega, by omega, S5, P5⟩
              case round =>
                obtain ⟨jj, rfl, haj, hjb, hij, Sr, Pr⟩ := hrel
                by_cases hle : i ≤ jj
                · have hle1 : (i : Int) ≤ (jj : Int) := by omega
                  obtain ⟨x0, x1, _, _⟩ := Sr.out.item jj (by omega)
                  obtain ⟨y0, y1, _, _⟩ := Sr.out.item a (by omega)
                  have un : (jj : Int) < (n : Int) := by omega
                  have vn : (a : Int) < (n : Int) := by omega
                  have hgr := Sr.out.great
                  have hbl := Sr.out.hlt
                  have rl := Sr.out.rlt
                  have CM := hide (fun w' hg => compare_any hb g (at' q jj).1 (at' q jj).2 (at' q a).1 (at' q a).2 w' hg)
                  have HL := hide (show lt g (at' q jj) (at' q a) = decide (cf g ((at' q jj).1, (at' q jj).2) ((at' q a).1, (at' q a).2) < 0) from rfl)
                  generalize (at' q jj).1 = X0 at *
                  generalize (at' q jj).2 = X1 at *
                  generalize (at' q a).1 = Y0 at *
                  generalize (at' q a).2 = Y1 at *
                  generalize cf g (X0, X1) (Y0, Y1) = c at *
                  go_wp2
                  go_region_held3 (fun w' => w'.cell? ⟨hb, 1, none⟩ = some (.bool g) ∧ w'.cell? ⟨r, jj * 2, none⟩ = some (.int .i64 X0) ∧ w'.cell? ⟨r, jj * 2 + 1, none⟩ = some (.int .i64 X1) ∧ w'.cell? ⟨r, a * 2, none⟩ = some (.int .i64 Y0) ∧ w'.cell? ⟨r, a * 2 + 1, none⟩ = some (.int .i64 Y1))
                    (first | go_keep | (go_split_ands; refine ⟨?_, ?_, ?_, ?_, ?_⟩ <;> (rw [hcl _ _ (by first | exact hbl | exact rl)]; assumption)))
                    ((go_at_call 27; refine (CM.out _ ?_).mono ?_; (simp [*]); rintro e w' ⟨rfl, hB⟩; obtain ⟨hcl, hfr⟩ := bcell hB))
                  have Sw' := hide (Sr.out.drew.below hB)
                  clear hcl hfr x0 x1 y0 y1 hB CM hgr
                  by_cases hlt : c < 0
                  · have ht := hide (show lt g (at' q jj) (at' q a) = true by rw [HL.out]; exact decide_eq_true hlt)
                    have HN := hide (decide_eq_true hlt)
                    go_wp2
                    · rename_i hh; rw [HN.out] at hh; cases hh
                    · go_meet
                      case rel => exact ⟨jj, rfl, haj, hjb, hij, Sw', Pr, hide (fun _ => ht.out)⟩
                  · have ht := hide (show lt g (at' q jj) (at' q a) = false by rw [HL.out]; exact decide_eq_false hlt)
                    have HN := hide (decide_eq_false hlt)
                    go_wp2
                    · go_roundw
                      case rel => exact ⟨jj - 1, by go_num, by omega, by omega, by omega, Sw', hide (pt_right Pr.out (by omega) ht.out)⟩
                      case measure => simp [intOf]; omega
                    · rename_i hh; rw [HN.out] at hh; cases hh
                · have hd : decide ((i : Int) ≤ (jj : Int)) = false := decide_eq_false (by omega)
                  go_wp2
                  go_quiet (fail)
                  go_wp2
                  go_meet
                  case rel => exact ⟨jj, rfl, haj, hjb, hij, hide (by first | exact Sr.out.drew | exact Sr.out.below (below_drewN (Below.refl _ _) _)), Pr, hide (fun h => absurd h hle)⟩
            case rest => as_aux_lemma =>
              clear S5 P5
              obtain ⟨j2, rfl, haj, hjb2, hij2, S6, P6, E6⟩ := hcut
              by_cases hgt : j2 < i
              · have hgt1 : (j2 : Int) < (i : Int) := by omega
                have PE := hide (pt_end P6.out haj (by omega) (by omega))
                have RE := hide (R4.out.step j2 a (by omega) (by omega) (by omega) (by omega) (by omega) (by omega))
                obtain ⟨x0, x1, fx0, fx1⟩ := S6.out.item j2 (by omega)
                obtain ⟨y0, y1, fy0, fy1⟩ := S6.out.item a (by omega)
                have un : (j2 : Int) < (n : Int) := by omega
                have vn : (a : Int) < (n : Int) := by omega
                generalize ex0 : (at' q j2).1 = X0 at *
                generalize ex1 : (at' q j2).2 = X1 at *
                generalize ey0 : (at' q a).1 = Y0 at *
                generalize ey1 : (at' q a).2 = Y1 at *
                have SS := hide (S6.out.swap (i := j2) (j := a) (by omega) (by omega) ex0 ex1 ey0 ey1)
                clear ex0 ex1 ey0 ey1
                obtain ⟨⟨z0, hz0⟩, ⟨z1, hz1⟩, ⟨z2, hz2⟩, ⟨z3, hz3⟩⟩ := four_cells r j2 a y0 y1
                obtain ⟨⟨z4, hz4⟩, ⟨z5, hz5⟩, ⟨z6, hz6⟩, ⟨z7, hz7⟩⟩ := four_cells r a j2 x0 x1
                go_wp2
                go_region
                clear hz0 hz1 hz2 hz3 hz4 hz5 hz6 hz7 x0 x1 y0 y1 fx0 fx1 fy0 fy1
                go_wp2
                go_ret2
                exact ⟨j2, false, _, rfl, haj, by omega, SS.out, RE.out, PE.out⟩
              · have hgt1 : ¬ (j2 : Int) < (i : Int) := by omega
                have hne : i ≠ j2 := by
                  rintro rfl
                  have h1 := E5.out (by omega)
                  have h2 := E6.out (by omega)
                  rw [h1] at h2; cases h2
                have PS := hide (pt_swap (j' := j2 - 1) P6.out hai (by omega) (by omega) (by omega) (E5.out (by omega)) (E6.out (by omega)))
                have RS := hide (R4.out.step i j2 (by omega) (by omega) (by omega) (by omega) (by omega) (by omega))
                have LS : (swp q i j2).length = n := by rw [swp_length]; exact LQ
                obtain ⟨x0, x1, fx0, fx1⟩ := S6.out.item i (by omega)
                obtain ⟨y0, y1, fy0, fy1⟩ := S6.out.item j2 (by omega)
                have un : (i : Int) < (n : Int) := by omega
                have vn : (j2 : Int) < (n : Int) := by omega
                generalize ex0 : (at' q i).1 = X0 at *
                generalize ex1 : (at' q i).2 = X1 at *
                generalize ey0 : (at' q j2).1 = Y0 at *
                generalize ey1 : (at' q j2).2 = Y1 at *
                have SS := hide (S6.out.swap (i := i) (j := j2) (by omega) (by omega) ex0 ex1 ey0 ey1)
                clear ex0 ex1 ey0 ey1
                obtain ⟨⟨z0, hz0⟩, ⟨z1, hz1⟩, ⟨z2, hz2⟩, ⟨z3, hz3⟩⟩ := four_cells r i j2 y0 y1
                obtain ⟨⟨z4, hz4⟩, ⟨z5, hz5⟩, ⟨z6, hz6⟩, ⟨z7, hz7⟩⟩ := four_cells r j2 i x0 x1
                go_wp2
                go_region
                clear hz0 hz1 hz2 hz3 hz4 hz5 hz6 hz7 x0 x1 y0 y1 fx0 fx1 fy0 fy1
                go_wp2
                go_roundw
                case rel => exact ⟨i + 1, j2 - 1, swp q i j2, by go_num, by go_num, by omega, by omega, by omega, LS, SS, RS, PS⟩
                case measure => simp [intOf]; omega
end Go.Proofs.Ytocgeplpehioeaa.Con
