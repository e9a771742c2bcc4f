/- TurnLeaves' walk. -/
import Derived.Test.YtplcpoajhkcjnaaTAll
namespace Go.Proofs.Ytplcpoajhkcjnaa.Con
open Go.RowKit
set_option linter.unusedVariables false
set_option linter.unusedSimpArgs false
/-- One that is not served leaves. -/
theorem q_leave {W0 W : World} {b m n : Nat} {L : List Tk} (h : LP W0 W b m n L) (x : Int) (d : Nat) (hd : tkOf L x = some d) (hs : d ≠ sv L n) (L' : List Tk) (hL : out L x = L') :
    Calls Try.prog 11 #[.pointer (some ⟨b, 0, none⟩), .int .i64 x] W fun e w' => e = .returned (.int .i64 0) ∧ Hid (Got W0 W b m n L' w') := by
  cases L with
  | nil => cases hd
  | cons p r =>
    obtain ⟨y, c⟩ := p
    have hne : x ≠ y := by
      intro e
      subst e
      simp [tkOf] at hd
      exact hs (by simp [sv, hd])
    subst hL
    have e1 : out ((y, c) :: r) x = (y, c) :: out r x := by unfold out; rw [List.filter_cons_of_pos (by simpa using fun e => hne e.symm)]
    rw [e1]
    exact p_leave h x d hd hne _ rfl
/-- Each with the ticket of its own number. -/
def pr (ls : List Nat) : List Tk := ls.map (fun j : Nat => (((j : Nat) : Int), j))
def iv (ls : List Nat) : List Int := ls.map (fun j : Nat => ((j : Nat) : Int))
theorem pr_len (ls : List Nat) : (pr ls).length = ls.length := by simp [pr]
theorem iv_len (ls : List Nat) : (iv ls).length = ls.length := by simp [iv]
theorem pr_mem {ls : List Nat} {j : Nat} (h : j ∈ ls) : ((j : Int), j) ∈ pr ls := List.mem_map.2 ⟨j, h, rfl⟩
theorem pr_out (ls : List Nat) (i : Nat) : out (pr ls) (i : Int) = pr (ls.filter (fun j => decide (j ≠ i))) := by
  unfold out pr
  rw [List.filter_map]
  congr 1
  refine List.filter_congr fun j _ => ?_
  simp [Function.comp]
  omega
theorem pr_none {k : Nat} : tkOf (pr (List.range k)) (k : Int) = none := by
  refine tkOf_none fun p hp => ?_
  obtain ⟨i, hi, rfl⟩ := List.mem_map.1 hp
  have := List.mem_range.1 hi
  simp; omega
theorem pr_snoc (k : Nat) : pr (List.range k) ++ [((k : Int), k)] = pr (List.range (k + 1)) := by simp [pr, List.range_succ]
/-- Those that are there when all below i have been looked at. -/
def kp (gd : Nat → Bool) (j : Nat) : Bool := (j == 0) || !gd j
def Fl (gd : Nat → Bool) (n i : Nat) : List Nat := (List.range n).filter (fun j => decide (i ≤ j) || kp gd j)
def Lf (gd : Nat → Bool) (i : Nat) : List Nat := (List.range i).filter (fun j => kp gd j)
theorem Fl_one (gd : Nat → Bool) (n : Nat) : Fl gd n 1 = List.range n := by
  unfold Fl
  rw [List.filter_eq_self]
  intro j _
  unfold kp
  by_cases h : j = 0
  · subst h; simp
  · simp; omega
theorem Fl_stay {gd : Nat → Bool} {n i : Nat} (h : kp gd i = true) : Fl gd n i = Fl gd n (i + 1) := by
  unfold Fl
  refine List.filter_congr fun j _ => ?_
  by_cases e : j = i
  · subst e; simp [h]
  · have : decide (i ≤ j) = decide (i + 1 ≤ j) := by congr 1; simp; omega
    rw [this]
theorem Fl_gone {gd : Nat → Bool} {n i : Nat} (h : kp gd i = false) : (Fl gd n i).filter (fun j => decide (j ≠ i)) = Fl gd n (i + 1) := by
  unfold Fl
  rw [List.filter_filter]
  refine List.filter_congr fun j _ => ?_
  by_cases e : j = i
  · subst e; simp [h]
  · have : decide (i ≤ j) = decide (i + 1 ≤ j) := by congr 1; simp; omega
    rw [this]; simp [e]
theorem Fl_end (gd : Nat → Bool) (n : Nat) : Fl gd n n = Lf gd n := by
  unfold Fl Lf
  refine List.filter_congr fun j hj => ?_
  have := List.mem_range.1 hj
  have : decide (n ≤ j) = false := by simp; omega
  rw [this]; rfl
theorem Fl_mem (gd : Nat → Bool) {n i : Nat} (h : i < n) : i ∈ Fl gd n i := by
  unfold Fl
  rw [List.mem_filter]
  exact ⟨List.mem_range.2 h, by simp⟩
theorem Fl_head (gd : Nat → Bool) {n : Nat} (h : 1 ≤ n) (i q : Nat) : sv (pr (Fl gd n i)) q = 0 := by
  obtain ⟨k, rfl⟩ : ∃ k, n = k + 1 := ⟨n - 1, by omega⟩
  have : Fl gd (k + 1) i = 0 :: ((List.range k).map Nat.succ).filter (fun j => decide (i ≤ j) || kp gd j) := by
    unfold Fl
    rw [List.range_succ_eq_map, List.filter_cons_of_pos (by simp [kp])]
  rw [this]; rfl
theorem Lf_one (gd : Nat → Bool) : Lf gd 1 = [0] := by simp [Lf, kp, List.range_succ]
theorem Lf_stay {gd : Nat → Bool} {i : Nat} (h : kp gd i = true) : iv (Lf gd i) ++ [(i : Int)] = iv (Lf gd (i + 1)) := by
  simp [Lf, iv, List.range_succ, List.filter_append, h]
theorem Lf_gone {gd : Nat → Bool} {i : Nat} (h : kp gd i = false) : Lf gd (i + 1) = Lf gd i := by
  simp [Lf, List.range_succ, List.filter_append, h]
theorem Lf_len (gd : Nat → Bool) (i : Nat) : (Lf gd i).length ≤ i := by
  have := List.length_filter_le (fun j => kp gd j) (List.range i)
  unfold Lf
  simpa using this
theorem iv_get (ls : List Nat) (i : Nat) : (iv ls).getD i 0 = ((ls.getD i 0 : Nat) : Int) := by
  unfold iv
  rw [List.getD_eq_getElem?_getD, List.getD_eq_getElem?_getD, List.getElem?_map]
  cases ls[i]? <;> rfl
theorem pr_drop (ls : List Nat) (i : Nat) (h : i < ls.length) : (pr ls).drop i = (((ls.getD i 0 : Nat) : Int), ls.getD i 0) :: (pr ls).drop (i + 1) := by
  rw [List.drop_eq_getElem_cons (by rw [pr_len]; exact h)]
  congr 1
  rw [List.getD_eq_getElem?_getD, List.getElem?_eq_getElem h]
  simp [pr]
set_option maxRecDepth 100000 in
set_option maxHeartbeats 3200000 in
theorem leaves_walk (z : Int) (hz : in64 z) (p : Option Addr) (c N : Nat) (B : Nat → Bool) (W : World) (hN : N ≤ 9223372036854775807)
    (h1 : 0 < N → ∃ b o, p = some ⟨b, o, none⟩ ∧ b < W.heap.size ∧ ∀ j, j < N → W.cell? ⟨b, o + j, none⟩ = some (.bool (B j))) :
    Calls Try.prog 6 #[.int .i64 z, .slice p N c] W fun e w' => e = .returned (.bool true) ∧ Below W.heap.size W w' := by
  have hA := hide (awake_any W)
  by_cases hz1 : z < 1
  · go_enter Try.func6, Try.ntmps6
    go_wp2_with (go_at_call 7; refine hA.out.mono ?_; rintro e w1 ⟨rfl, hB1⟩)
    go_ret
    exact ⟨rfl, hB1⟩
  by_cases hz2 : 64 < z
  · go_enter Try.func6, Try.ntmps6
    go_wp2_with (go_at_call 7; refine hA.out.mono ?_; rintro e w1 ⟨rfl, hB1⟩)
    go_ret
    exact ⟨rfl, hB1⟩
  obtain ⟨n, rfl⟩ : ∃ n : Nat, z = (n : Int) := ⟨z.toNat, by omega⟩
  have n1 : 1 ≤ n := by omega
  have n64 : n ≤ 64 := by omega
  have H1 := hide h1
  have HN := hide (fun W' => new_any W')
  unfold NewPost at HN
  clear h1 hz
  go_enter Try.func6, Try.ntmps6
  go_wp2_with (first
    | (go_at_call 7; refine hA.out.mono ?_; rintro e w0 ⟨rfl, hB0⟩; have HB0 := hide hB0; clear hB0)
    | (go_at_call 8; refine (HN.out _).mono ?_; rintro e w1 ⟨b, m, rfl, hk, hB1, hb, hm⟩; have P0 := hide (LP.start HB0.out hk hB1 hb hm); clear hk hB1 hb hm))
  have J0 : Hid (LP W w1 b m 0 (pr (List.range 0))) := P0
  clear HB0 HN hA P0
  go_loopw [6] (fun s wr => ∃ k : Nat, k ≤ n ∧ s = .int .i64 k ∧ Hid (LP W wr b m k (pr (List.range k)))) (fun s _ => n - (intOf s).toNat)
  case atStart => exact ⟨0, by omega, rfl, J0⟩
  case round =>
    clear J0
    obtain ⟨k, hk, rfl, R⟩ := hrel
    by_cases hkn : k < n
    · have hk1 : (k : Int) < (n : Int) := by omega
      have D := hide (p_draw R.out (k : Int) (by omega) (by omega) pr_none (by rw [pr_len, List.length_range]; omega) (by omega) (k + 1) (pr (List.range (k + 1))) rfl (pr_snoc k))
      go_wp2_with (go_at_call 9; refine D.out.mono ?_; rintro e w2 ⟨rfl, G⟩)
      go_roundw
      case rel => exact ⟨k + 1, by omega, by go_num, hide G.out.1⟩
      case measure => simp [intOf]; omega
    · obtain rfl : k = n := by omega
      obtain ⟨gd, hgd⟩ : ∃ gd : Nat → Bool, gd = fun i => decide (i < N) && B i := ⟨_, rfl⟩
      have GD := hide hgd
      clear hgd
      have J1 : Hid (RA W (wr.alloc (.cells #[.int .i64 0] 3)) b m k (pr (Fl gd k 1)) (.slice (some ⟨wr.heap.size, 0, none⟩) 1 1) (iv (Lf gd 1))) := by
        rw [Fl_one, Lf_one]
        have hB := (Below.refl wr.heap.size wr).alloc (Nat.le_refl _) (.cells #[.int .i64 0] 3)
        refine hide ⟨R.out.bel hB, ⟨rfl, .inr ⟨wr.heap.size, 1, #[.int .i64 0], rfl, R.out.below.size, heap_alloc_new wr _, Nat.le_refl _, by unfold maxLen; omega, rfl, rfl⟩⟩⟩
      clear R
      go_wp2
      go_loopw [9, 10] (fun u s wr => ∃ i : Nat, 1 ≤ i ∧ i ≤ k ∧ s = .int .i64 i ∧ Hid (RA W wr b m k (pr (Fl gd k i)) u (iv (Lf gd i)))) (fun _ s _ => k - (intOf s).toNat)
      case atStart => exact ⟨1, by omega, by omega, rfl, J1⟩
      case round =>
        clear J1
        obtain ⟨i, hi1, hi, rfl, R⟩ := hrel
        obtain ⟨pu, cu, hu⟩ := R.out.row.form
        subst hu
        by_cases hik : i < k
        · have hi2 : (i : Int) < (k : Int) := by omega
          have LL : Hid ((iv (Lf gd i)).length ≤ 64) := hide (by rw [iv_len]; have := Lf_len gd i; omega)
          cases hg : gd i with
          | true =>
            have hkp : kp gd i = false := by unfold kp; rw [hg]; simp; omega
            have hg2 := hg
            rw [GD.out] at hg2
            simp only [Bool.and_eq_true, decide_eq_true_eq] at hg2
            obtain ⟨hiN, hBi⟩ := hg2
            obtain ⟨g, o, rfl, hbl, hcl⟩ := H1.out (by omega)
            have a0 : wr.cell? ⟨g, o + i, none⟩ = some (.bool true) := by rw [R.out.lp.below.cell (p := ⟨g, o + i, none⟩) hbl, hcl i hiN, hBi]
            have hiN' : (i : Int) < (N : Int) := by omega
            have LV := hide (q_leave R.out.lp (i : Int) i (tkOf_of R.out.lp.lk.ord (pr_mem (Fl_mem gd hik))) (by rw [Fl_head gd n1]; omega) (pr (Fl gd k (i + 1))) (by rw [pr_out, Fl_gone hkp]))
            have LG := hide (Lf_gone hkp)
            clear hcl hg hkp
            generalize hLN : (iv (Lf gd i)).length = LN at *
            go_wp2_with (go_at_call 11; refine LV.out.mono ?_; rintro e w2 ⟨rfl, G⟩; have R2 := hide (R.out.got G.out))
            go_roundw
            case rel => exact ⟨i + 1, by omega, by omega, by go_num, by rw [LG.out]; exact R2⟩
            case measure => simp [intOf]; omega
          | false =>
            have hkp : kp gd i = true := by unfold kp; rw [hg]; simp
            have FS := hide (Fl_stay (n := k) hkp)
            have LS := hide (Lf_stay hkp)
            have hg2 := hg
            rw [GD.out] at hg2
            have XL : Hid ((iv (Lf gd i)).length ≤ 1000) := hide (by have := LL.out; omega)
            rw [FS.out] at R
            clear hg hkp FS
            by_cases hiN : i < N
            · obtain ⟨g, o, rfl, hbl, hcl⟩ := H1.out (by omega)
              have hBi : B i = false := by simpa [hiN] using hg2
              have a0 : wr.cell? ⟨g, o + i, none⟩ = some (.bool false) := by rw [R.out.lp.below.cell (p := ⟨g, o + i, none⟩) hbl, hcl i hiN, hBi]
              have hiN' : (i : Int) < (N : Int) := by omega
              clear hcl hg2
              generalize hXS : iv (Lf gd i) = XS at *
              go_wp2_with (at_builtin; refine wpList_iapp (w := wr) rfl _ _ rfl W.heap.size (i : Int) _ XS rfl (by exact rfl) (by exact R.out.row) (by exact R.out.lp.below.size) (by exact XL.out) ?_; intro p3 c3 w3 HA)
              have R3 := hide (R.out.app HA.out.1 HA.out.2.1)
              rw [LS.out] at R3
              go_roundw
              case rel => exact ⟨i + 1, by omega, by omega, by go_num, R3⟩
              case measure => simp [intOf]; omega
            · have hiN' : ¬ (i : Int) < (N : Int) := by omega
              clear hg2
              generalize hXS : iv (Lf gd i) = XS at *
              go_wp2_with (at_builtin; refine wpList_iapp (w := wr) rfl _ _ rfl W.heap.size (i : Int) _ XS rfl (by exact rfl) (by exact R.out.row) (by exact R.out.lp.below.size) (by exact XL.out) ?_; intro p3 c3 w3 HA)
              have R3 := hide (R.out.app HA.out.1 HA.out.2.1)
              rw [LS.out] at R3
              go_roundw
              case rel => exact ⟨i + 1, by omega, by omega, by go_num, R3⟩
              case measure => simp [intOf]; omega
        · obtain rfl : i = k := by omega
          rw [Fl_end] at R
          obtain ⟨ls, hls⟩ : ∃ ls, Lf gd i = ls := ⟨_, rfl⟩
          have hl64 : ls.length ≤ 64 := by rw [← hls]; have := Lf_len gd i; omega
          rw [hls] at R ⊢
          clear hls
          obtain ⟨M, hM⟩ : ∃ M, ls.length = M := ⟨_, rfl⟩
          have J2 := R
          rw [iv_len, hM] at J2 ⊢
          rw [hM] at hl64
          have HM := hide hM
          clear R hM
          go_wp2
          go_loopw [11] (fun s wr => ∃ j : Nat, j ≤ M ∧ s = .int .i64 j ∧ Hid (RA W wr b m i ((pr ls).drop j) (.slice pu M cu) (iv ls))) (fun s _ => M - (intOf s).toNat)
          case atStart => exact ⟨0, by omega, rfl, J2⟩
          case round =>
            clear J2
            obtain ⟨j, hj, rfl, R⟩ := hrel
            by_cases hjm : j < M
            · have hj1 : (j : Int) < (M : Int) := by omega
              have hM := HM.out
              have HL := hide (len_any R.out.lp.lk)
              rw [List.length_drop, pr_len, hM] at HL
              rw [pr_drop ls j (by omega)] at R
              obtain ⟨g, cc, hv, g1, g2, g3, g4, gc⟩ := R.out.row.at (by rw [iv_len]; omega)
              injection hv with hv1 hv2 hv3
              subst hv1
              subst hv3
              clear hv2
              have a0 := gc j (by rw [iv_len]; omega)
              rw [iv_get] at a0
              have hx := R.out.lp.lk.in64 (p := (((ls.getD j 0 : Nat) : Int), ls.getD j 0)) (by simp)
              simp only at hx
              have HS := hide (p_has R.out.lp _ hx true (by simp [hasB, tkOf, sv]))
              have FR := hide (p_free R.out.lp hx)
              have sb : IntKind.i64.wrap ((M : Int) - (j : Int)) = ((M - j : Nat) : Int) := by
                rw [show ((M - j : Nat) : Int) = (M : Int) - (j : Int) by omega]
                rw [IntKind.wrap_i64]; omega
              have hnn : ¬ ((M - j : Nat) : Int) < 0 := by omega
              clear gc hM
              generalize ls.getD j 0 = x at *
              generalize hq : M - j = q at *
              clear hq
              go_wp2_with (first
                | (go_at_call 12; refine HS.out.mono ?_; rintro e w' ⟨rfl, hw⟩; have hw2 := hw.symm; clear hw; subst hw2)
                | (go_at_call 14; refine HL.out.mono ?_; rintro e w' ⟨rfl, hw⟩; have hw2 := hw.symm; clear hw; subst hw2)
                | (go_at_call 10; refine FR.out.mono ?_; rintro e w3 ⟨rfl, G3⟩; have R3 := hide (R.out.got G3.out)))
              go_roundw
              case rel => exact ⟨j + 1, by omega, by go_num, R3⟩
              case measure => simp [intOf]; omega
            · obtain rfl : j = M := by omega
              rw [List.drop_of_length_le (by rw [pr_len, HM.out]; omega)] at R
              have LN := hide (len_any R.out.lp.lk)
              simp only [List.length_nil] at LN
              have SB := hide R.out.lp.below
              clear R
              go_wp2_with (go_at_call 14; refine LN.out.mono ?_; rintro e w' ⟨rfl, hw⟩; have hw2 := hw.symm; clear hw; subst hw2)
              go_ret
              exact ⟨rfl, SB.out⟩
end Go.Proofs.Ytplcpoajhkcjnaa.Con
