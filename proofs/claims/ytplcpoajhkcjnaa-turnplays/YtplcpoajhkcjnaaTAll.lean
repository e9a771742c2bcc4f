/- TurnAll's walk. -/
import Derived.Test.YtplcpoajhkcjnaaTL
namespace Go.Proofs.Ytplcpoajhkcjnaa.Con
open Go.RowKit
set_option linter.unusedVariables false
set_option linter.unusedSimpArgs false
/-- A lock, and a row of numbers beside it. -/
structure RA (W wr : World) (b m n : Nat) (L : List Tk) (v : Value) (ws : List Int) : Prop where
  lp : LP W wr b m n L
  row : NRow 3 .i64 W.heap.size wr v ws
section
variable {W wr w' : World} {b m n n' : Nat} {L L' : List Tk} {v v' : Value} {ws : List Int}
theorem RA.got (h : RA W wr b m n L v ws) (hG : Got W wr b m n' L' w') : RA W w' b m n' L' v ws :=
  ⟨hG.1, h.row.stp h.lp.lk (by decide) hG.2⟩
theorem LK.notrow {s : Nat} (h : LK wr b m n s L) {e : TypeId} {q : IntKind} {B : Nat} (he : e ≠ 34) (hr : NRow e q B wr v ws) : some b ≠ v.ownBlock ∧ some m ≠ v.ownBlock := by
  constructor
  · intro e1
    obtain ⟨cur, hc⟩ := hr.blk e1.symm
    rw [h.str] at hc
    injection hc with hc
    injection hc with _ hc
    exact he hc.symm
  · intro e1
    obtain ⟨cur, hc⟩ := hr.blk e1.symm
    obtain ⟨es, c, hm⟩ := h.map.isMap
    rw [hm] at hc
    cases hc
theorem RA.app (h : RA W wr b m n L v ws) {x : Int} (hN : NRow 3 .i64 W.heap.size w' v' (ws ++ [x])) (hg : wr.grownBy w' v.ownBlock) : RA W w' b m n L v' (ws ++ [x]) := by
  obtain ⟨h1, h2⟩ := h.lp.lk.notrow (by decide) h.row
  exact ⟨⟨h.lp.lk.kept (hg.block b h.lp.lk.blt h1) (hg.block m h.lp.lk.mlt h2), below_grown h.lp.below h.lp.below.size hg (fun k hk => h.row.past k hk), h.lp.fb, h.lp.fm⟩, hN⟩
theorem p_refuse (h : LP W wr b m n L) (x : Int) (hx : in64 x) (hb : tkOf L x ≠ none ∨ x < 0 ∨ 256 ≤ x) : ∃ e0 : Int, e0 ≠ 0 ∧ Calls Try.prog 9 #[.pointer (some ⟨b, 0, none⟩), .int .i64 x] wr fun e w' => e = .returned (.tuple #[.int .u32 0, .int .i64 e0]) ∧ w' = wr := by
  cases e : tkOf L x with
  | some d => exact ⟨5, by decide, draw_busy h.lk x hx d e⟩
  | none => exact ⟨1, by decide, draw_arg h.lk x hx e (by rcases hb with hb | hb; exact absurd e hb; exact hb)⟩
end
theorem ahd_head {x : Int} {d : Nat} {r : List Tk} (ho : Ord ((x, d) :: r)) : ahd ((x, d) :: r) d = 0 := by
  unfold ahd
  rw [List.countP_eq_zero]
  intro p hp
  rcases List.mem_cons.1 hp with rfl | hp
  · simp
  · have := ((List.pairwise_cons.1 ho).1 p hp).2
    simp; omega
theorem tk_tail {x : Int} {d : Nat} {r : List Tk} (ho : Ord ((x, d) :: r)) : tkOf r x = none := tkOf_none fun p hp e => ((List.pairwise_cons.1 ho).1 p hp).1 e.symm
theorem zip_snoc (ws : List Int) (x : Int) : ws.zipIdx ++ [(x, ws.length)] = (ws ++ [x]).zipIdx := by simp [List.zipIdx_append]
theorem zip_drop (ws : List Int) (k : Nat) (h : k < ws.length) : ws.zipIdx.drop k = (ws.getD k 0, k) :: ws.zipIdx.drop (k + 1) := by
  rw [List.drop_eq_getElem_cons (by simpa using h)]
  congr 1
  rw [List.getElem_zipIdx, List.getD_eq_getElem?_getD, List.getElem?_eq_getElem h]
  simp
set_option maxRecDepth 100000 in
set_option maxHeartbeats 1600000 in
theorem all_walk (p : Option Addr) (c : Nat) (zs : List Int) (W : World) (hl : zs.length ≤ 9223372036854775807) (hz : ∀ z ∈ zs, in64 z)
    (h1 : 0 < zs.length → ∃ b o, p = some ⟨b, o, none⟩ ∧ b < W.heap.size ∧ ∀ j, j < zs.length → W.cell? ⟨b, o + j, none⟩ = some (.int .i64 (zs.getD j 0))) :
    Calls Try.prog 5 #[.slice p zs.length c] W fun e w' => e = .returned (.bool true) ∧ Below W.heap.size W w' := by
  have hA := hide (awake_any W)
  by_cases hn : 64 < zs.length
  · have hn' : (64 : Int) < (zs.length : Int) := by omega
    go_enter Try.func5, Try.ntmps5
    go_wp2_with (go_at_call 7; refine hA.out.mono ?_; rintro e w1 ⟨rfl, hB1⟩)
    go_ret
    exact ⟨rfl, hB1⟩
  · have H1 := hide h1
    clear h1
    have hn' : ¬ (64 : Int) < (zs.length : Int) := by omega
    obtain ⟨K, hnn⟩ : ∃ n, zs.length = n := ⟨_, rfl⟩
    have NN := hide hnn
    have HZ : Hid (∀ k, k < K → in64 (zs.getD k 0)) := hide (fun k hk => by
      rw [← hnn] at hk
      rw [List.getD_eq_getElem?_getD, List.getElem?_eq_getElem hk]
      exact hz _ (List.getElem_mem hk))
    rw [hnn] at hl hn hn' ⊢
    clear hnn hz
    have HN := hide (fun W' => new_any W')
    unfold NewPost at HN
    go_enter Try.func5, Try.ntmps5
    go_wp2_with (first
      | (go_at_call 7; refine hA.out.mono ?_; rintro e w0 ⟨rfl, hB0⟩; have HB0 := hide hB0; clear hB0)
      | (go_at_call 8; refine (HN.out _).mono ?_; rintro e w1 ⟨b, m, rfl, hk, hB1, hb, hm⟩; have P0 := hide (LP.start HB0.out hk hB1 hb hm); clear hk hB1 hb hm))
    have J0 : Hid (RA W w1 b m 0 ([] : List Int).zipIdx (.slice none 0 0) []) := hide ⟨P0.out, NRow.nil _ _ _ _⟩
    clear HB0 HN hA P0
    go_loopw [4, 5] (fun u s wr => ∃ (k : Nat) (ws : List Int), k ≤ K ∧ ws.length ≤ k ∧ s = .int .i64 k ∧ Hid (RA W wr b m ws.length ws.zipIdx u ws)) (fun _ s _ => K - (intOf s).toNat)
    case atStart => exact ⟨0, [], by omega, by simp, rfl, J0⟩
    case round =>
      clear J0
      obtain ⟨k, ws, hk, hwk, rfl, HR⟩ := hrel
      obtain ⟨pu, cu, hu⟩ := HR.out.row.form
      subst hu
      obtain ⟨N, hN⟩ : ∃ N, ws.length = N := ⟨_, rfl⟩
      have NW := hide hN
      by_cases hkn : k < K
      · obtain ⟨g, o, rfl, hbl, hcl⟩ := H1.out (by rw [NN.out]; omega)
        have hc0 := hcl k (by rw [NN.out]; exact hkn)
        have hi := HZ.out k hkn
        have CL : Hid (∀ w' n' L' v' ws', RA W w' b m n' L' v' ws' → w'.cell? ⟨g, o + k, none⟩ = some (.int .i64 (zs.getD k 0))) := hide (fun w' _ _ _ _ h => by rw [h.lp.below.cell (p := ⟨g, o + k, none⟩) hbl]; exact hc0)
        have a0 := CL.out _ _ _ _ _ HR.out
        have hk1 : (k : Int) < (K : Int) := by omega
        generalize zs.getD k 0 = z at *
        clear hcl hc0
        by_cases hr : tkOf ws.zipIdx z ≠ none ∨ z < 0 ∨ 256 ≤ z
        · obtain ⟨e0, he0, hD⟩ := p_refuse HR.out.lp z hi hr
          have D := hide hD
          clear hD hr
          rw [hN] at HR ⊢
          go_wp2_with (go_at_call 9; refine D.out.mono ?_; rintro e w' ⟨rfl, hw⟩; have hw2 := hw.symm; clear hw; subst hw2)
          go_roundw
          case rel => exact ⟨k + 1, ws, by omega, by omega, by go_num, by rw [hN]; exact HR⟩
          case measure => simp [intOf]; omega
        · have hd : tkOf ws.zipIdx z = none := by
            cases e : tkOf ws.zipIdx z with
            | none => rfl
            | some d => exact absurd (.inl (by rw [e]; simp)) hr
          have hz0 : 0 ≤ z ∧ z ≤ 255 := by
            have : ¬ (z < 0 ∨ 256 ≤ z) := fun e => hr (.inr e)
            omega
          have D := hide (p_draw HR.out.lp z hz0.1 hz0.2 hd (by simp; omega) (by omega) (ws ++ [z]).length ((ws ++ [z]).zipIdx) (by simp) (zip_snoc ws z))
          clear hr hd
          rw [hN] at HR D ⊢
          go_wp2_with (first
            | (go_at_call 9; refine D.out.mono ?_; rintro e w2 ⟨rfl, G⟩; have R2 := hide (HR.out.got G.out); have a1 := CL.out _ _ _ _ _ R2.out)
            | (at_builtin; refine wpList_iapp (w := w2) rfl _ _ rfl W.heap.size z _ ws rfl (by exact rfl) (by exact R2.out.row) (by exact R2.out.lp.below.size) (by omega) ?_; intro p3 c3 w3 HA))
          have R3 := hide (R2.out.app HA.out.1 HA.out.2.1)
          rw [hN] at R3
          go_roundw
          case rel => exact ⟨k + 1, ws ++ [z], by omega, by simp; omega, by go_num, R3⟩
          case measure => simp [intOf]; omega
      · obtain rfl : k = K := by omega
        rw [hN] at HR ⊢
        go_wp2
        go_loopw [8] (fun s wr => ∃ i : Nat, i ≤ N ∧ s = .int .i64 i ∧ Hid (RA W wr b m N (ws.zipIdx.drop i) (.slice pu N cu) ws)) (fun s _ => N - (intOf s).toNat)
        case atStart => exact ⟨0, by omega, rfl, HR⟩
        case round =>
          clear HR
          obtain ⟨i, hi, rfl, R⟩ := hrel
          by_cases hin : i < N
          · have hi1 : (i : Int) < (N : Int) := by omega
            have ZD := hide (zip_drop ws i (by omega))
            rw [ZD.out] at R
            obtain ⟨g, cc, hv, g1, g2, g3, g4, gc⟩ := R.out.row.at (by omega)
            injection hv with hv1 hv2 hv3
            subst hv1
            subst hv3
            clear hv2
            have a0 := gc i (by omega)
            have CL : Hid (∀ w' n' L', RA W w' b m n' L' (.slice (some ⟨g, 0, none⟩) N cu) ws → w'.cell? ⟨g, i, none⟩ = some (.int .i64 (ws.getD i 0))) := hide (fun w' _ _ h => by
              obtain ⟨g', cc', hv', _, _, _, _, gc'⟩ := h.row.at (by omega)
              injection hv' with hv1' hv2' hv3'
              injection hv1' with hv1'
              injection hv1' with hv1'
              subst hv1'
              exact gc' i (by omega))
            have hx := R.out.lp.lk.in64 (p := (ws.getD i 0, i)) (by simp)
            simp only at hx
            have HS := hide (p_has R.out.lp _ hx true (by simp [hasB, tkOf, sv]))
            have AH := hide (p_ahead R.out.lp _ hx i (by simp [tkOf]) 0 (ahd_head R.out.lp.lk.ord))
            have TT := hide (tk_tail R.out.lp.lk.ord)
            clear gc
            generalize ws.getD i 0 = x at *
            go_wp2_with fail
            refine HS.out.mono ?_
            rintro e w' ⟨rfl, hw⟩
            have hw2 := hw.symm
            clear hw
            subst hw2
            go_wp2_with fail
            refine AH.out.mono ?_
            rintro e w2 ⟨rfl, G2⟩
            have R2 := hide (R.out.got G2.out)
            have a2 := CL.out _ _ _ R2.out
            go_wp2_with fail
            refine (p_free R2.out.lp hx).mono ?_
            rintro e w3 ⟨rfl, G3⟩
            have R3 := hide (R2.out.got G3.out)
            have a3 := CL.out _ _ _ R3.out
            go_wp2_with fail
            refine (p_has R3.out.lp x hx false (by simp [hasB, TT.out])).mono ?_
            rintro e w' ⟨rfl, hw⟩
            have hw2 := hw.symm
            clear hw
            subst hw2
            go_wp2
            go_roundw
            case rel => exact ⟨i + 1, by omega, by go_num, R3⟩
            case measure => simp [intOf]; omega
          · obtain rfl : i = N := by omega
            rw [List.drop_of_length_le (by simp; omega)] at R
            obtain ⟨c0, c1⟩ := R.out.lp.cells
            have LN := hide (fun nq => len_any (R.out.lp.lk.below (bel_drewN (Below.refl wr.heap.size wr) nq)))
            have cw : IntKind.u32.wrap (i : Int) = (i : Int) := u32_in _ (by omega)
            simp only [sv, List.length_nil] at c1 LN
            have SB := hide R.out.lp.below
            clear R
            go_wp2
            go_quiet ((go_at_call 14; exact Calls.quiet_of_same (LN.out _)))
            go_wp2
            go_ret
            exact ⟨rfl, bel_drewN SB.out _⟩
end Go.Proofs.Ytplcpoajhkcjnaa.Con
