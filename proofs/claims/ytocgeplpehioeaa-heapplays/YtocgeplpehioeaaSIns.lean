/- insertionSortCmpFunc. -/
import Derived.Test.YtocgeplpehioeaaSSo
namespace Go.Proofs.Ytocgeplpehioeaa.Con
open Go.RowKit Go.Proofs.Ytocgeplpehioeaa.Hq
set_option linter.unusedVariables false
set_option linter.unusedSimpArgs false
attribute [local go_sem ↓] Go.wp_at_zero Go.wp_at_succ
/-- In order from a to i, but for j. -/
def Ins (g : Bool) (a i j : Nat) (m : List It) : Prop := (∀ k, a < k → k ≤ i → k ≠ j → le g (at' m (k - 1)) (at' m k)) ∧ (a < j → j < i → le g (at' m (j - 1)) (at' m (j + 1)))
theorem ins_start {g : Bool} {a i : Nat} {m : List It} (h : Srt g a i m) : Ins g a i i m := ⟨fun k h1 h2 h3 => h k h1 (by omega), fun _ h => by omega⟩
theorem ins_step {g : Bool} {a i j : Nat} {m : List It} (h : Ins g a i j m) (h0 : a < j) (h1 : j ≤ i) (hi : i < m.length) (hlt : lt g (at' m j) (at' m (j - 1)) = true) : Ins g a i (j - 1) (swp m j (j - 1)) := by
  have A := fun k => at_swp m j (j - 1) k (by omega) (by omega)
  have hle := le_of_lt hlt
  refine ⟨fun k k1 k2 k3 => ?_, fun k1 k2 => ?_⟩
  · rw [A, A]
    by_cases e : k = j
    · subst e; rw [if_pos rfl, if_neg (by omega), if_pos rfl]; exact hle
    · by_cases e' : k = j + 1
      · subst e'
        rw [show j + 1 - 1 = j by omega, if_neg (by omega), if_pos rfl, if_neg (by omega), if_neg (by omega)]
        exact h.2 h0 (by omega)
      · rw [if_neg (by omega), if_neg (by omega), if_neg (by omega), if_neg (by omega)]
        exact h.1 k k1 k2 e
  · rw [show j - 1 + 1 = j by omega, A, A, if_neg (by omega), if_neg (by omega), if_neg (by omega), if_pos rfl]
    exact h.1 (j - 1) k1 (by omega) (by omega)
theorem ins_end {g : Bool} {a i j : Nat} {m : List It} (h : Ins g a i j m) (h1 : a ≤ j) (hx : j = a ∨ le g (at' m (j - 1)) (at' m j)) : Srt g a (i + 1) m := by
  intro k k1 k2
  by_cases e : k = j
  · subst e
    rcases hx with e | e
    · omega
    · exact e
  · exact h.1 k k1 (by omega) e
def SrtPost (W0 : World) (hb r : Nat) (g : Bool) (m : List It) (a b : Nat) (e : Ending) (w' : World) : Prop :=
  e = .returned (.tuple #[]) ∧ ∃ m', So W0 hb r g m' w' ∧ Rng a b m m' ∧ Srt g a b m'
set_option maxRecDepth 100000 in
set_option maxHeartbeats 4000000 in
theorem ins_any {W0 W : World} {hb r : Nat} {g : Bool} {m : List It} {n : Nat} (a b : Nat) (hn : m.length = n) (S : So W0 hb r g m W) (hb' : b ≤ n) (ha : a ≤ b) :
    Calls Try.prog 40 #[.slice (some ⟨r, 0, none⟩) n n, .int .i64 a, .int .i64 b, .func (.func 27) #[.pointer (some ⟨hb, 0, none⟩)] #[]] W fun e w' => SrtPost W0 hb r g m a b e w' := by
  have hn2 : n ≤ 1024 := by rw [← hn]; exact S.len
  have NN := hide hn
  have S0 := hide S
  clear S hn
  go_enter Try.func40, Try.ntmps40
  go_wp2
  go_loopw [8] (fun s wr => ∃ (i : Nat) (p : List It), s = .int .i64 i ∧ a < i ∧ (i ≤ b ∨ i = a + 1) ∧ Hid (So W0 hb r g p wr) ∧ Hid (Rng a b m p) ∧ Hid (Srt g a i p)) (fun s _ => b + 1 - (intOf s).toNat)
  case atStart => exact ⟨a + 1, m, by go_num, by omega, .inr rfl, S0, hide (.refl _), hide (fun k h1 h2 => by omega)⟩
  case round =>
    obtain ⟨i, p, rfl, hai, hib, Sp, Rp, Op⟩ := hrel
    by_cases hi : i < b
    · have hi1 : (i : Int) < (b : Int) := by omega
      have IS := hide (ins_start Op.out)
      go_wp2
      go_loopw [9] (fun s wr => ∃ (j : Nat) (q : List It), s = .int .i64 j ∧ a ≤ j ∧ j ≤ i ∧ Hid (So W0 hb r g q wr) ∧ Hid (Rng a b m q) ∧ Hid (Ins g a i j q)) (fun s _ => (intOf s).toNat)
      case atStart => exact ⟨i, p, rfl, by omega, Nat.le_refl _, Sp, Rp, IS⟩
      case round =>
        obtain ⟨j, q, rfl, haj, hji, Sq, Rq, Iq⟩ := hrel
        have hql : q.length = n := by rw [Rq.out.length]; exact NN.out
        by_cases hj : a < j
        · have hj1 : (a : Int) < (j : Int) := by omega
          obtain ⟨jm, hjm⟩ : ∃ jm, j - 1 = jm := ⟨_, rfl⟩
          have hj2 : (j : Int) - 1 = (jm : Int) := by omega
          have hj3 : IntKind.i64.wrap (jm : Int) = (jm : Int) := by rw [IntKind.wrap_i64]; omega
          have hj4 : (0 : Int) ≤ (jm : Int) := by omega
          obtain ⟨x0, x1, fx0, fx1⟩ := Sq.out.item j (by omega)
          obtain ⟨y0, y1, fy0, fy1⟩ := Sq.out.item jm (by omega)
          have jn : (j : Int) < (n : Int) := by omega
          have jn' : (jm : Int) < (n : Int) := by omega
          have hgr := Sq.out.great
          have hbl := Sq.out.hlt
          have rl := Sq.out.rlt
          have CM := hide (fun w' hg => compare_any hb g (at' q j).1 (at' q j).2 (at' q jm).1 (at' q jm).2 w' hg)
          have HL := hide (show lt g (at' q j) (at' q jm) = decide (cf g ((at' q j).1, (at' q j).2) ((at' q jm).1, (at' q jm).2) < 0) from rfl)
          have JM := hide hjm
          clear hjm
          generalize ex0 : (at' q j).1 = X0 at *
          generalize ex1 : (at' q j).2 = X1 at *
          generalize ey0 : (at' q jm).1 = Y0 at *
          generalize ey1 : (at' q jm).2 = Y1 at *
          have EX := hide (And.intro ex0 (And.intro ex1 (And.intro ey0 ey1)))
          clear ex0 ex1 ey0 ey1
          generalize cf g (X0, X1) (Y0, Y1) = c at *
          go_wp2
          go_region_held3 (fun w' => w'.cell? ⟨hb, 1, none⟩ = some (.bool g) ∧ w'.cell? ⟨r, j * 2, none⟩ = some (.int .i64 X0) ∧ w'.cell? ⟨r, j * 2 + 1, none⟩ = some (.int .i64 X1) ∧ w'.cell? ⟨r, jm * 2, none⟩ = some (.int .i64 Y0) ∧ w'.cell? ⟨r, jm * 2 + 1, none⟩ = some (.int .i64 Y1))
            (first | go_keep | (go_split_ands; refine ⟨?_, ?_, ?_, ?_, ?_⟩ <;> (rw [hcl _ _ (by first | exact hbl | exact rl)]; assumption)))
            ((go_at_call 27; refine (CM.out _ ?_).mono ?_; (simp [*]); rintro e w' ⟨rfl, hB⟩; obtain ⟨hcl, hfr⟩ := bcell hB))
          have Sw := hide (Sq.out.drew.below hB)
          clear hcl hfr x0 x1 y0 y1 fx0 fx1 fy0 fy1 hB CM hgr
          by_cases hlt : c < 0
          · have hl2 := hide (show lt g (at' q j) (at' q jm) = true by rw [HL.out]; exact decide_eq_true hlt)
            obtain ⟨x0, x1, fx0, fx1⟩ := Sw.out.item j (by omega)
            obtain ⟨y0, y1, fy0, fy1⟩ := Sw.out.item jm (by have := JM.out; omega)
            rw [EX.out.1] at x0
            rw [EX.out.2.1] at x1
            rw [EX.out.2.2.1] at y0
            rw [EX.out.2.2.2] at y1
            obtain ⟨⟨z0, hz0⟩, ⟨z1, hz1⟩, ⟨z2, hz2⟩, ⟨z3, hz3⟩⟩ := four_cells r j jm y0 y1
            obtain ⟨⟨z4, hz4⟩, ⟨z5, hz5⟩, ⟨z6, hz6⟩, ⟨z7, hz7⟩⟩ := four_cells r jm j x0 x1
            go_wp2
            go_region
            go_wp2
            go_roundw
            case rel => exact ⟨jm, swp q j jm, rfl, by have := JM.out; omega, by have := JM.out; omega, hide (Sw.out.swap (by omega) (by have := JM.out; omega) EX.out.1 EX.out.2.1 EX.out.2.2.1 EX.out.2.2.2), hide (Rq.out.step j jm (by omega) (by omega) (by have := JM.out; omega) (by have := JM.out; omega) (by omega) (by have := JM.out; omega)), hide (by rw [← JM.out]; exact ins_step Iq.out hj hji (by omega) (by rw [JM.out]; exact hl2.out))⟩
            case measure => have := JM.out; simp [intOf]; omega
          · have hl2 := hide (show lt g (at' q j) (at' q jm) = false by rw [HL.out]; exact decide_eq_false hlt)
            go_wp2
            go_roundw
            case rel => exact ⟨i + 1, q, by go_num, by omega, by omega, Sw, Rq, hide (ins_end Iq.out haj (.inr (by rw [JM.out]; exact hl2.out)))⟩
            case measure => simp [intOf]; omega
        · have hjd : decide ((a : Int) < (j : Int)) = false := decide_eq_false (by omega)
          go_wp2
          go_quiet (fail)
          go_wp2
          go_roundw
          case rel => exact ⟨i + 1, q, by go_num, by omega, by omega, hide (by first | exact Sq.out.drew | exact Sq.out.below (below_drewN (Below.refl _ _) _)), Rq, hide (ins_end Iq.out haj (.inl (by omega)))⟩
          case measure => simp [intOf]; omega
    · go_wp2
      go_end0
      unfold SrtPost
      refine ⟨rfl, p, Sp.out, Rp.out, fun k h1 h2 => Op.out k h1 (by omega)⟩
end Go.Proofs.Ytocgeplpehioeaa.Con
