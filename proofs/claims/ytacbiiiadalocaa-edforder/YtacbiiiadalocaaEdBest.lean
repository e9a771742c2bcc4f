/- EdfBest: who runs is as many as can be. -/
import Derived.Test.YtacbiiiadalocaaEdCon
import Derived.Test.YtacbiiiadalocaaEdRs
import Derived.Test.YtacbiiiadalocaaOrdU
import Derived.Test.YtacbiiiadalocaaJSeg
namespace Go.Proofs.Ytacbiiiadalocaa.Ed
open Go.RowKit Go.Proofs.Ytacbiiiadalocaa.Con
set_option linter.unusedVariables false
set_option linter.unusedSimpArgs false
attribute [local go_sem ↓] Go.wp_at_zero Go.wp_at_succ
/-- What is known of who runs, while it is written: the first i, and of the i-th the first k. -/
def ru (R : Nat → Bool) (i : Nat) (t : Bool) : Nat → Bool := fun j => if j < i then R j else if j = i then t else false
theorem ru_at (R : Nat → Bool) (i : Nat) (t : Bool) : ru R i t i = t := by unfold ru; rw [if_neg (by omega), if_pos rfl]
theorem ru_set (R : Nat → Bool) (i : Nat) (t u : Bool) : (fun j => if j = i then u else ru R i t j) = ru R i u := by
  funext j; unfold ru
  by_cases h : j = i
  · subst h; simp
  · rw [if_neg h]
    by_cases h2 : j < i
    · rw [if_pos h2, if_pos h2]
    · rw [if_neg h2, if_neg h, if_neg h2, if_neg h]
theorem ru_next (R : Nat → Bool) (i : Nat) : ru R i (R i) = ru R (i + 1) false := by
  funext j; unfold ru
  by_cases h : j < i
  · rw [if_pos h, if_pos (by omega)]
  · rw [if_neg h]
    by_cases h2 : j = i
    · subst h2; rw [if_pos rfl, if_pos (by omega)]
    · rw [if_neg h2, if_neg (by omega)]; split <;> rfl
theorem mem_take_s {l : List Int} {k : Nat} (hk : k < l.length) (c : Int) : decide (c ∈ l.take (k + 1)) = (decide (c ∈ l.take k) || l.getD k 0 == c) := by
  rw [Bool.eq_iff_iff]
  rw [List.take_add_one, List.getElem?_eq_getElem hk, List.getD_eq_getElem?_getD, List.getElem?_eq_getElem hk]
  simp only [Option.toList_some, List.mem_append, List.mem_singleton, decide_eq_true_eq, Bool.or_eq_true, beq_iff_eq, Option.getD_some]
  constructor
  · rintro (h | h)
    · exact .inl h
    · exact .inr h.symm
  · rintro (h | h)
    · exact .inl h
    · exact .inr h.symm
theorem infoBool' : (Try.prog.info? 4).map (fun i => (i.zero, i.size, i.bytes)) = some (some (.bool false), 1, 1) := by kernel_rfl
set_option maxHeartbeats 16000000 in
set_option maxRecDepth 100000 in
theorem best_walk (hA : Hid AwakeC) (hG : Hid GoodC) (hL : Hid LessC) (hP : Hid PickC) (m : Int) (L : List Et) (v : Value) (W : World) (h : Sl W v L) :
    Calls Try.prog 5 #[.int .i64 m, v] W fun e w' => e = .returned (.bool true) ∧ Nx W w' := by
  obtain ⟨p, cap, rfl, hn, hm⟩ := h.form
  have hmx : (L.length : Int) ≤ 9223372036854775807 := by unfold maxLen at hm; omega
  have H := hide h
  clear h
  go_enter Try.func5, Try.ntmps5
  go_wp2_with fail
  refine (hA.out _).mono ?_
  rintro e w1 ⟨rfl, hb⟩
  have B1 := hide hb
  clear hb
  by_cases hl : 64 < (L.length : Int)
  · have hl' : decide (64 < (L.length : Int)) = true := decide_eq_true hl
    go_wp2
    go_ret
    exact ⟨rfl, B1.out⟩
  have hl' : decide (64 < (L.length : Int)) = false := decide_eq_false hl
  have hl1 : L.length ≤ 100 := by omega
  go_wp2_with fail
  refine (hG.out m L _ w1 (H.out.below B1.out) hl1).mono ?_
  rintro e w2 ⟨rfl, hb⟩
  have B2 := hide (Nx.trans B1.out hb)
  clear hb B1
  cases hg : goodE m L with
  | false =>
    clear hg
    go_wp2
    go_ret
    exact ⟨rfl, B2.out⟩
  | true =>
    have hpl := pick_len hg
    obtain ⟨⟨m1, m2⟩, _⟩ := good_iff.1 hg
    have HPc := hide (hP.out m L _ w2 (H.out.below B2.out) hl1)
    have HM : Hid (∀ i, i < L.length → decide ((at' L i).1 ∈ pickL m L) = runs m L (at' L i)) := hide (fun i hi => by rw [Bool.eq_iff_iff, decide_eq_true_iff, pick_runs hg (at_mem hi)])
    have HX : Hid (∀ i, i < L.length → (at' L i).2.2 = true → runs m L (at' L i) = true) := hide (fun i hi hf => fixed_runs hg (at_mem hi) hf)
    have HBs : Hid (∀ i k, i < L.length → k < L.length → runs m L (at' L i) = true → runs m L (at' L k) = false → (at' L i).2.2 = false → lessB (at' L k) (at' L i) = false) := hide (fun i k hi hk h1 h2 h3 => best hg (at_mem hi) (at_mem hk) h1 h2 h3)
    obtain ⟨R, hR⟩ : ∃ R : Nat → Bool, (fun j => runs m L (at' L j)) = R := ⟨_, rfl⟩
    have hRj : ∀ j, runs m L (at' L j) = R j := fun j => by rw [← hR]
    simp only [hRj] at HM HX HBs
    clear hg hR hRj
    go_wp2_with fail
    refine HPc.out.mono ?_
    rintro e w3 ⟨v3, rfl, hI, hb⟩
    have I3 := hide hI.out
    have B3 := hide (Nx.trans B2.out hb)
    clear hb hI B2 HPc
    obtain ⟨p3, c3, rfl, hn3, hm3⟩ := I3.out.form
    generalize pickL m L = PL at *
    have hPx : (PL.length : Int) ≤ 64 := by omega
    obtain ⟨ib, hib, hz⟩ := Option.map_eq_some_iff.1 infoBool'
    simp only [Prod.mk.injEq] at hz
    obtain ⟨hz0, hz1, hz2⟩ := hz
    have N4 := hide (Nx.alloc w3 (.cells (madeCells #[.bool false] L.length) 4))
    have HB0 : Hid (Bn (w3.alloc (.cells (madeCells #[.bool false] L.length) 4)) w3.heap.size L.length (ru R 0 false)) := hide ((Bn.made w3 L.length).congr (fun j hj => by unfold ru; rw [if_neg (by omega)]; split <;> rfl))
    have HI : Hid (∀ w, Nx w3 w → ∀ k, k < PL.length → ∃ b o, p3 = some ⟨b, o, none⟩ ∧ b < w.heap.size ∧ w.cell? ⟨b, o + k, none⟩ = some (.int .i64 (PL.getD k 0))) := hide (fun w h k hk => (I3.out.below h).at hk)
    have HMT : Hid (∀ k, k < PL.length → ∀ c, decide (c ∈ PL.take (k + 1)) = (decide (c ∈ PL.take k) || PL.getD k 0 == c)) := hide (fun k hk c => mem_take_s hk c)
    have HTL : Hid (PL.take PL.length = PL) := hide List.take_length
    obtain ⟨n3, hq⟩ : ∃ n, PL.length = n := ⟨_, rfl⟩
    rw [hq] at HI HMT HTL hPx hpl hn3
    rw [hq]
    clear I3 hq
    by_cases hlm : (L.length : Int) < m
    · have hlm' : decide ((L.length : Int) < m) = true := decide_eq_true hlm
      obtain rfl : n3 = L.length := by omega
      clear hpl
      go_upto_region 11 with fail
      clear hlm hlm'
      go_wp2_with (refine wpList_make_row _ rfl _ _ 47 rfl 4 ib (.bool false) Try.underlying47 hib hz0 hz1 rfl .i64 .i64 L.length rfl rfl (by rw [hz2]; omega) (by omega) ?_)
      clear hib hz0 hz1 hz2
      generalize w3.alloc (.cells (madeCells #[.bool false] L.length) 4) = W4 at *
      obtain ⟨g, hgg⟩ : ∃ g, w3.heap.size = g := ⟨_, rfl⟩
      have HGE : Hid (w3.heap.size ≤ g) := hide (by omega)
      rw [hgg] at HB0
      rw [hgg]
      clear hgg
      go_wp2
      go_loopw [8] (fun i wr => ∃ k : Nat, k ≤ L.length ∧ i = .int .i64 (k : Int) ∧ Hid (Bn wr g L.length (ru R k false)) ∧ Hid (Nx w3 wr)) (fun i _ => L.length - (intOf i).toNat)
      case atStart => exact ⟨0, by omega, rfl, HB0, N4⟩
      case round =>
        obtain ⟨i, hi', rfl, HB, HN⟩ := hrel
        by_cases hi : i < L.length
        · have hi1 : (i : Int) < (L.length : Int) := by omega
          have hi0 : decide ((i : Int) < 0) = false := decide_eq_false (by omega)
          generalize wr = wq at *
          have HMi := hide (HM.out i hi)
          have HXi := hide (HX.out i hi)
          have HS : Hid (∀ w, Nx w3 w → Sl w (.slice p L.length cap) L) := hide (fun w h => H.out.below (Nx.trans B3.out h))
          go_wp2
          go_loopw [9] (fun j wr => ∃ k : Nat, k ≤ L.length ∧ j = .int .i64 (k : Int) ∧ Hid (Bn wr g L.length (ru R i (decide ((at' L i).1 ∈ PL.take k)))) ∧ Hid (Nx w3 wr)) (fun j _ => L.length - (intOf j).toNat)
          case atStart => exact ⟨0, by omega, rfl, hide (HB.out.congr (fun j hj => by simp)), HN⟩
          case round =>
            obtain ⟨k, hk', rfl, HBk, HNk⟩ := hrel
            by_cases hk : k < L.length
            · have hk1 : (k : Int) < (L.length : Int) := by omega
              have hk0 : decide ((k : Int) < 0) = false := decide_eq_false (by omega)
              obtain ⟨b, o, rfl, hb, z0, z1, z2⟩ := (HS.out _ HNk.out).at hi
              obtain ⟨bp, op, rfl, hbp, x0⟩ := HI.out _ HNk.out k hk
              have y0 := HBk.out.cell i hi
              have fz := HBk.out.frozen i
              rw [ru_at] at y0
              have HT := hide (HMT.out k hk (at' L i).1)
              have HB2 : Hid (∀ v, (decide ((at' L i).1 ∈ PL.take k) || PL.getD k 0 == (at' L i).1) = v → Bn ((wr.setCell ⟨g, i, none⟩ (.bool v)).drew) g L.length (ru R i (decide ((at' L i).1 ∈ PL.take (k + 1))))) := hide (fun v h => by
                have h0 := HBk.out.set i hi v
                rw [ru_set] at h0
                rw [HT.out, h]
                exact h0.nx (bel_drew (Nx.refl _)))
              have HN2 : Hid (∀ v, Nx w3 ((wr.setCell ⟨g, i, none⟩ (.bool v)).drew)) := hide (fun v => bel_drew (HNk.out.setCell (p := ⟨g, i, none⟩) HGE.out (.bool v)))
              clear HBk HNk HT z1 z2 HMi HXi HB HN
              generalize decide ((at' L i).1 ∈ PL.take k) = run at *
              generalize (at' L i).1 = C0 at *
              generalize PL.getD k 0 = P0 at *
              cases run with
              | true =>
                go_wp2
                refine wp_region_noPanic ?_
                refine OrdU.region_U (S := fun w' => w'.cell? ⟨g, i, none⟩ = some (.bool true) ∧ w'.cell? ⟨bp, op + k, none⟩ = some (.int .i64 P0) ∧ w'.cell? ⟨b, o + i * 3, none⟩ = some (.int .i64 C0)) [19] (by kernel_rfl) ?_ (fun hHeld => ?_)
                · exact ⟨y0, x0, z0⟩
                refine OrdU.AnyU.takeP (i := 0) (v := ?_) (some 52) (by rfl) (by rfl) (by kernel_rfl) (by kernel_rfl) (by kernel_rfl) (fun _ _ _ h => h) (Or.inl ⟨by rfl, ?_⟩) ?_
                rotate_left
                · intro w _; first | (go_simp; done) | (go_simp; with_reducible rfl)
                (try simp only [Act.put, List.setIfInBounds_toArray, List.set_cons_zero, List.set_cons_succ])
                refine OrdU.AnyU.takeP (i := 1) (v := ?_) (some 53) (by rfl) (by rfl) (by kernel_rfl) (by kernel_rfl) (by kernel_rfl) (fun _ _ _ h => h) (Or.inl ⟨by rfl, ?_⟩) ?_
                rotate_left
                · intro w _; first | (go_simp; done) | (go_simp; with_reducible rfl)
                (try simp only [Act.put, List.setIfInBounds_toArray, List.set_cons_zero, List.set_cons_succ])
                refine OrdU.AnyU.takeP (i := 2) (v := ?_) (some 54) (by rfl) (by rfl) (by kernel_rfl) (by kernel_rfl) (by kernel_rfl) (fun _ _ _ h => h) (Or.inl ⟨by rfl, ?_⟩) ?_
                rotate_left
                · intro w _; first | (go_simp; done) | (go_simp; with_reducible rfl)
                (try simp only [Act.put, List.setIfInBounds_toArray, List.set_cons_zero, List.set_cons_succ])
                refine OrdU.AnyU.takeP (i := 3) (v := ?_) (some 55) (by rfl) (by rfl) (by kernel_rfl) (by kernel_rfl) (by kernel_rfl) (fun _ _ _ h => h) (Or.inl ⟨by rfl, ?_⟩) ?_
                rotate_left
                · intro w _; first | (go_simp; done) | (go_simp; with_reducible rfl)
                (try simp only [Act.put, List.setIfInBounds_toArray, List.set_cons_zero, List.set_cons_succ])
                refine OrdU.AnyU.takeP (i := 4) (v := ?_) (some 56) (by rfl) (by rfl) (by kernel_rfl) (by kernel_rfl) (by kernel_rfl) (fun _ _ _ h => h) (Or.inl ⟨by rfl, ?_⟩) ?_
                rotate_left
                · intro w _; first | (go_simp; done) | (go_simp; with_reducible rfl)
                (try simp only [Act.put, List.setIfInBounds_toArray, List.set_cons_zero, List.set_cons_succ])
                refine OrdU.AnyU.take (i := 5) (v := ?_) (some 57) (by rfl) (by rfl) (by kernel_rfl) (by kernel_rfl) (by kernel_rfl) (by kernel_rfl) (fun _ _ _ h => h) (Or.inl ⟨by rfl, ?_⟩) (by assumption) ?_
                rotate_left
                · intro w hSw; (try dsimp only at hSw); first | (go_simp; done) | (go_simp; with_reducible rfl)
                (try simp only [Act.put, List.setIfInBounds_toArray, List.set_cons_zero, List.set_cons_succ])
                refine OrdU.AnyU.takeP (i := 6) (v := ?_) (some 58) (by rfl) (by rfl) (by kernel_rfl) (by kernel_rfl) (by kernel_rfl) (fun _ _ _ h => h) (Or.inl ⟨by rfl, ?_⟩) ?_
                rotate_left
                · intro w _; first | (go_simp; done) | (go_simp; with_reducible rfl)
                (try simp only [Act.put, List.setIfInBounds_toArray, List.set_cons_zero, List.set_cons_succ])
                refine OrdU.AnyU.takeP (i := 7) (v := undef) (some 59) (by rfl) (by rfl) (by kernel_rfl) (by kernel_rfl) (by kernel_rfl) (fun _ _ _ h => h) (Or.inr ⟨by rfl, rfl⟩) ?_
                (try simp only [Act.put, List.setIfInBounds_toArray, List.set_cons_zero, List.set_cons_succ])
                refine OrdU.AnyU.takeP (i := 8) (v := undef) (some 60) (by rfl) (by rfl) (by kernel_rfl) (by kernel_rfl) (by kernel_rfl) (fun _ _ _ h => h) (Or.inr ⟨by rfl, rfl⟩) ?_
                (try simp only [Act.put, List.setIfInBounds_toArray, List.set_cons_zero, List.set_cons_succ])
                refine OrdU.AnyU.takeP (i := 9) (v := undef) (some 61) (by rfl) (by rfl) (by kernel_rfl) (by kernel_rfl) (by kernel_rfl) (fun _ _ _ h => h) (Or.inr ⟨by rfl, rfl⟩) ?_
                (try simp only [Act.put, List.setIfInBounds_toArray, List.set_cons_zero, List.set_cons_succ])
                refine OrdU.AnyU.takeP (i := 10) (v := undef) (some 62) (by rfl) (by rfl) (by kernel_rfl) (by kernel_rfl) (by kernel_rfl) (fun _ _ _ h => h) (Or.inr ⟨by rfl, rfl⟩) ?_
                (try simp only [Act.put, List.setIfInBounds_toArray, List.set_cons_zero, List.set_cons_succ])
                refine OrdU.AnyU.takeP (i := 11) (v := undef) (some 63) (by rfl) (by rfl) (by kernel_rfl) (by kernel_rfl) (by kernel_rfl) (fun _ _ _ h => h) (Or.inr ⟨by rfl, rfl⟩) ?_
                (try simp only [Act.put, List.setIfInBounds_toArray, List.set_cons_zero, List.set_cons_succ])
                refine OrdU.AnyU.takeP (i := 12) (v := undef) (some 64) (by rfl) (by rfl) (by kernel_rfl) (by kernel_rfl) (by kernel_rfl) (fun _ _ _ h => h) (Or.inr ⟨by rfl, rfl⟩) ?_
                (try simp only [Act.put, List.setIfInBounds_toArray, List.set_cons_zero, List.set_cons_succ])
                refine OrdU.AnyU.takeP (i := 13) (v := undef) (some 65) (by rfl) (by rfl) (by kernel_rfl) (by kernel_rfl) (by kernel_rfl) (fun _ _ _ h => h) (Or.inr ⟨by rfl, rfl⟩) ?_
                (try simp only [Act.put, List.setIfInBounds_toArray, List.set_cons_zero, List.set_cons_succ])
                refine OrdU.AnyU.takeP (i := 14) (v := undef) (some 66) (by rfl) (by rfl) (by kernel_rfl) (by kernel_rfl) (by kernel_rfl) (fun _ _ _ h => h) (Or.inr ⟨by rfl, rfl⟩) ?_
                (try simp only [Act.put, List.setIfInBounds_toArray, List.set_cons_zero, List.set_cons_succ])
                refine OrdU.AnyU.takeP (i := 15) (v := undef) (some 67) (by rfl) (by rfl) (by kernel_rfl) (by kernel_rfl) (by kernel_rfl) (fun _ _ _ h => h) (Or.inr ⟨by rfl, rfl⟩) ?_
                (try simp only [Act.put, List.setIfInBounds_toArray, List.set_cons_zero, List.set_cons_succ])
                refine OrdU.AnyU.takeP (i := 16) (v := undef) (some 68) (by rfl) (by rfl) (by kernel_rfl) (by kernel_rfl) (by kernel_rfl) (fun _ _ _ h => h) (Or.inr ⟨by rfl, rfl⟩) ?_
                (try simp only [Act.put, List.setIfInBounds_toArray, List.set_cons_zero, List.set_cons_succ])
                refine OrdU.AnyU.takeP (i := 17) (v := ?_) (some 69) (by rfl) (by rfl) (by kernel_rfl) (by kernel_rfl) (by kernel_rfl) (fun _ _ _ h => h) (Or.inl ⟨by rfl, ?_⟩) ?_
                rotate_left
                · intro w _; first | (go_simp; done) | (go_simp; with_reducible rfl)
                (try simp only [Act.put, List.setIfInBounds_toArray, List.set_cons_zero, List.set_cons_succ])
                refine OrdU.AnyU.takeP (i := 18) (v := ?_) (some 70) (by rfl) (by rfl) (by kernel_rfl) (by kernel_rfl) (by kernel_rfl) (fun _ _ _ h => h) (Or.inl ⟨by rfl, ?_⟩) ?_
                rotate_left
                · intro w _; first | (go_simp; done) | (go_simp; with_reducible rfl)
                (try simp only [Act.put, List.setIfInBounds_toArray, List.set_cons_zero, List.set_cons_succ])
                clear hHeld
                refine OrdU.AnyU.one (i := 19) (by kernel_rfl) (by rfl) (fun K hK => ?_)
                go_simp
                refine hK.out _ _ (fun _ h => absurd (by decide) h) ?_
                clear hK K
                (try simp only [Act.put, List.setIfInBounds_toArray, List.set_cons_zero, List.set_cons_succ])
                refine OrdU.AnyU.done (by kernel_rfl) ?_ _
                refine NoPanic.normal ?_
                go_wp2
                go_roundw
                case rel => exact ⟨k + 1, by omega, by go_num, hide (HB2.out _ rfl), hide (HN2.out _)⟩
                case measure => simp [intOf]; omega
              | false =>
                go_wp2
                refine wp_region_noPanic ?_
                refine OrdU.region_U (S := fun w' => w'.cell? ⟨g, i, none⟩ = some (.bool false) ∧ w'.cell? ⟨bp, op + k, none⟩ = some (.int .i64 P0) ∧ w'.cell? ⟨b, o + i * 3, none⟩ = some (.int .i64 C0)) [19] (by kernel_rfl) ?_ (fun hHeld => ?_)
                · exact ⟨y0, x0, z0⟩
                refine OrdU.AnyU.takeP (i := 0) (v := ?_) (some 52) (by rfl) (by rfl) (by kernel_rfl) (by kernel_rfl) (by kernel_rfl) (fun _ _ _ h => h) (Or.inl ⟨by rfl, ?_⟩) ?_
                rotate_left
                · intro w _; first | (go_simp; done) | (go_simp; with_reducible rfl)
                (try simp only [Act.put, List.setIfInBounds_toArray, List.set_cons_zero, List.set_cons_succ])
                refine OrdU.AnyU.takeP (i := 1) (v := ?_) (some 53) (by rfl) (by rfl) (by kernel_rfl) (by kernel_rfl) (by kernel_rfl) (fun _ _ _ h => h) (Or.inl ⟨by rfl, ?_⟩) ?_
                rotate_left
                · intro w _; first | (go_simp; done) | (go_simp; with_reducible rfl)
                (try simp only [Act.put, List.setIfInBounds_toArray, List.set_cons_zero, List.set_cons_succ])
                refine OrdU.AnyU.takeP (i := 2) (v := ?_) (some 54) (by rfl) (by rfl) (by kernel_rfl) (by kernel_rfl) (by kernel_rfl) (fun _ _ _ h => h) (Or.inl ⟨by rfl, ?_⟩) ?_
                rotate_left
                · intro w _; first | (go_simp; done) | (go_simp; with_reducible rfl)
                (try simp only [Act.put, List.setIfInBounds_toArray, List.set_cons_zero, List.set_cons_succ])
                refine OrdU.AnyU.takeP (i := 3) (v := ?_) (some 55) (by rfl) (by rfl) (by kernel_rfl) (by kernel_rfl) (by kernel_rfl) (fun _ _ _ h => h) (Or.inl ⟨by rfl, ?_⟩) ?_
                rotate_left
                · intro w _; first | (go_simp; done) | (go_simp; with_reducible rfl)
                (try simp only [Act.put, List.setIfInBounds_toArray, List.set_cons_zero, List.set_cons_succ])
                refine OrdU.AnyU.takeP (i := 4) (v := ?_) (some 56) (by rfl) (by rfl) (by kernel_rfl) (by kernel_rfl) (by kernel_rfl) (fun _ _ _ h => h) (Or.inl ⟨by rfl, ?_⟩) ?_
                rotate_left
                · intro w _; first | (go_simp; done) | (go_simp; with_reducible rfl)
                (try simp only [Act.put, List.setIfInBounds_toArray, List.set_cons_zero, List.set_cons_succ])
                refine OrdU.AnyU.take (i := 5) (v := ?_) (some 57) (by rfl) (by rfl) (by kernel_rfl) (by kernel_rfl) (by kernel_rfl) (by kernel_rfl) (fun _ _ _ h => h) (Or.inl ⟨by rfl, ?_⟩) (by assumption) ?_
                rotate_left
                · intro w hSw; (try dsimp only at hSw); first | (go_simp; done) | (go_simp; with_reducible rfl)
                (try simp only [Act.put, List.setIfInBounds_toArray, List.set_cons_zero, List.set_cons_succ])
                refine OrdU.AnyU.takeP (i := 6) (v := ?_) (some 58) (by rfl) (by rfl) (by kernel_rfl) (by kernel_rfl) (by kernel_rfl) (fun _ _ _ h => h) (Or.inl ⟨by rfl, ?_⟩) ?_
                rotate_left
                · intro w _; first | (go_simp; done) | (go_simp; with_reducible rfl)
                (try simp only [Act.put, List.setIfInBounds_toArray, List.set_cons_zero, List.set_cons_succ])
                refine OrdU.AnyU.takeP (i := 7) (v := ?_) (some 59) (by rfl) (by rfl) (by kernel_rfl) (by kernel_rfl) (by kernel_rfl) (fun _ _ _ h => h) (Or.inl ⟨by rfl, ?_⟩) ?_
                rotate_left
                · intro w _; first | (go_simp; done) | (go_simp; with_reducible rfl)
                (try simp only [Act.put, List.setIfInBounds_toArray, List.set_cons_zero, List.set_cons_succ])
                refine OrdU.AnyU.takeP (i := 8) (v := ?_) (some 60) (by rfl) (by rfl) (by kernel_rfl) (by kernel_rfl) (by kernel_rfl) (fun _ _ _ h => h) (Or.inl ⟨by rfl, ?_⟩) ?_
                rotate_left
                · intro w _; first | (go_simp; done) | (go_simp; with_reducible rfl)
                (try simp only [Act.put, List.setIfInBounds_toArray, List.set_cons_zero, List.set_cons_succ])
                refine OrdU.AnyU.takeP (i := 9) (v := ?_) (some 61) (by rfl) (by rfl) (by kernel_rfl) (by kernel_rfl) (by kernel_rfl) (fun _ _ _ h => h) (Or.inl ⟨by rfl, ?_⟩) ?_
                rotate_left
                · intro w _; first | (go_simp; done) | (go_simp; with_reducible rfl)
                (try simp only [Act.put, List.setIfInBounds_toArray, List.set_cons_zero, List.set_cons_succ])
                refine OrdU.AnyU.take (i := 10) (v := ?_) (some 62) (by rfl) (by rfl) (by kernel_rfl) (by kernel_rfl) (by kernel_rfl) (by kernel_rfl) (fun _ _ _ h => h) (Or.inl ⟨by rfl, ?_⟩) (by assumption) ?_
                rotate_left
                · intro w hSw; (try dsimp only at hSw); first | (go_simp; done) | (go_simp; with_reducible rfl)
                (try simp only [Act.put, List.setIfInBounds_toArray, List.set_cons_zero, List.set_cons_succ])
                refine OrdU.AnyU.takeP (i := 11) (v := ?_) (some 63) (by rfl) (by rfl) (by kernel_rfl) (by kernel_rfl) (by kernel_rfl) (fun _ _ _ h => h) (Or.inl ⟨by rfl, ?_⟩) ?_
                rotate_left
                · intro w _; first | (go_simp; done) | (go_simp; with_reducible rfl)
                (try simp only [Act.put, List.setIfInBounds_toArray, List.set_cons_zero, List.set_cons_succ])
                refine OrdU.AnyU.takeP (i := 12) (v := ?_) (some 64) (by rfl) (by rfl) (by kernel_rfl) (by kernel_rfl) (by kernel_rfl) (fun _ _ _ h => h) (Or.inl ⟨by rfl, ?_⟩) ?_
                rotate_left
                · intro w _; first | (go_simp; done) | (go_simp; with_reducible rfl)
                (try simp only [Act.put, List.setIfInBounds_toArray, List.set_cons_zero, List.set_cons_succ])
                refine OrdU.AnyU.takeP (i := 13) (v := ?_) (some 65) (by rfl) (by rfl) (by kernel_rfl) (by kernel_rfl) (by kernel_rfl) (fun _ _ _ h => h) (Or.inl ⟨by rfl, ?_⟩) ?_
                rotate_left
                · intro w _; first | (go_simp; done) | (go_simp; with_reducible rfl)
                (try simp only [Act.put, List.setIfInBounds_toArray, List.set_cons_zero, List.set_cons_succ])
                refine OrdU.AnyU.takeP (i := 14) (v := ?_) (some 66) (by rfl) (by rfl) (by kernel_rfl) (by kernel_rfl) (by kernel_rfl) (fun _ _ _ h => h) (Or.inl ⟨by rfl, ?_⟩) ?_
                rotate_left
                · intro w _; first | (go_simp; done) | (go_simp; with_reducible rfl)
                (try simp only [Act.put, List.setIfInBounds_toArray, List.set_cons_zero, List.set_cons_succ])
                refine OrdU.AnyU.take (i := 15) (v := ?_) (some 67) (by rfl) (by rfl) (by kernel_rfl) (by kernel_rfl) (by kernel_rfl) (by kernel_rfl) (fun _ _ _ h => h) (Or.inl ⟨by rfl, ?_⟩) (by assumption) ?_
                rotate_left
                · intro w hSw; (try dsimp only at hSw); first | (go_simp; done) | (go_simp; with_reducible rfl)
                (try simp only [Act.put, List.setIfInBounds_toArray, List.set_cons_zero, List.set_cons_succ])
                refine OrdU.AnyU.takeP (i := 16) (v := ?_) (some 68) (by rfl) (by rfl) (by kernel_rfl) (by kernel_rfl) (by kernel_rfl) (fun _ _ _ h => h) (Or.inl ⟨by rfl, ?_⟩) ?_
                rotate_left
                · intro w _; first | (go_simp; done) | (go_simp; with_reducible rfl)
                (try simp only [Act.put, List.setIfInBounds_toArray, List.set_cons_zero, List.set_cons_succ])
                refine OrdU.AnyU.takeP (i := 17) (v := ?_) (some 69) (by rfl) (by rfl) (by kernel_rfl) (by kernel_rfl) (by kernel_rfl) (fun _ _ _ h => h) (Or.inl ⟨by rfl, ?_⟩) ?_
                rotate_left
                · intro w _; first | (go_simp; done) | (go_simp; with_reducible rfl)
                (try simp only [Act.put, List.setIfInBounds_toArray, List.set_cons_zero, List.set_cons_succ])
                refine OrdU.AnyU.takeP (i := 18) (v := ?_) (some 70) (by rfl) (by rfl) (by kernel_rfl) (by kernel_rfl) (by kernel_rfl) (fun _ _ _ h => h) (Or.inl ⟨by rfl, ?_⟩) ?_
                rotate_left
                · intro w _; first | (go_simp; done) | (go_simp; with_reducible rfl)
                (try simp only [Act.put, List.setIfInBounds_toArray, List.set_cons_zero, List.set_cons_succ])
                clear hHeld
                refine OrdU.AnyU.one (i := 19) (by kernel_rfl) (by rfl) (fun K hK => ?_)
                go_simp
                refine hK.out _ _ (fun _ h => absurd (by decide) h) ?_
                clear hK K
                (try simp only [Act.put, List.setIfInBounds_toArray, List.set_cons_zero, List.set_cons_succ])
                refine OrdU.AnyU.done (by kernel_rfl) ?_ _
                refine NoPanic.normal ?_
                go_wp2
                go_roundw
                case rel => exact ⟨k + 1, by omega, by go_num, hide (HB2.out _ rfl), hide (HN2.out _)⟩
                case measure => simp [intOf]; omega
            · obtain rfl : k = L.length := by omega
              obtain ⟨b, o, rfl, hb, z0, z1, z2⟩ := (HS.out _ HNk.out).at hi
              have y0 := HBk.out.cell i hi
              rw [ru_at, HTL.out, HMi.out] at y0
              have HB2 := HBk.out
              rw [HTL.out, HMi.out, ru_next] at HB2
              have HB3 := hide HB2
              clear HBk HB2 HMi z0 z1 HB HN
              cases hf : (at' L i).2.2 with
              | true =>
                rw [HXi.out hf] at y0
                rw [hf] at z2
                clear HXi hf
                go_wp2
                go_roundw
                case rel => exact ⟨i + 1, by omega, by go_num, HB3, HNk⟩
                case measure => simp [intOf]; omega
              | false =>
                rw [hf] at z2
                clear HXi hf
                go_wp2
                go_roundw
                case rel => exact ⟨i + 1, by omega, by go_num, HB3, HNk⟩
                case measure => simp [intOf]; omega
        · obtain rfl : i = L.length := by omega
          have HR : Hid (Bn wr g L.length R) := hide (HB.out.congr (fun j hj => by unfold ru; rw [if_pos hj]))
          have HNW := hide (Nx.trans B3.out HN.out)
          generalize wr = wq at *
          clear HB HN HM HX
          clear HMT HTL HI
          go_wp2
          go_loopw [10] (fun i wr => ∃ k : Nat, k ≤ L.length ∧ i = .int .i64 (k : Int) ∧ Hid (Nx wq wr)) (fun i _ => L.length - (intOf i).toNat)
          case atStart => exact ⟨0, by omega, rfl, hide (Nx.refl _)⟩
          case round =>
            obtain ⟨i, hi', rfl, HN⟩ := hrel
            by_cases hi : i < L.length
            rotate_left
            · obtain rfl : i = L.length := by omega
              have BW := hide (Nx.trans HNW.out HN.out)
              go_wp2
              go_ret
              exact ⟨rfl, BW.out⟩
            have hi1 : (i : Int) < (L.length : Int) := by omega
            have hi0 : decide ((i : Int) < 0) = false := decide_eq_false (by omega)
            generalize wr = wi at *
            go_wp2
            go_loopw [11] (fun j wr => ∃ k : Nat, k ≤ L.length ∧ j = .int .i64 (k : Int) ∧ Hid (Nx wq wr)) (fun j _ => L.length - (intOf j).toNat)
            case atStart => exact ⟨0, by omega, rfl, HN⟩
            case round =>
              obtain ⟨k, hk', rfl, HNk⟩ := hrel
              by_cases hk : k < L.length
              rotate_left
              · obtain rfl : k = L.length := by omega
                go_wp2
                go_roundw
                case rel => exact ⟨i + 1, by omega, by go_num, HNk⟩
                case measure => simp [intOf]; omega
              have hk1 : (k : Int) < (L.length : Int) := by omega
              have hk0 : decide ((k : Int) < 0) = false := decide_eq_false (by omega)
              have HRk := hide (HR.out.nx HNk.out)
              have r0 := HRk.out.cell i hi
              have r1 := HRk.out.cell k hk
              have hgl := HRk.out.lt
              obtain ⟨b, o, rfl, hb, ⟨x0, x1, x2⟩, ⟨z0, z1, z2⟩⟩ := (H.out.below (Nx.trans HNW.out HNk.out)).two hk hi
              have HNn : Hid (∀ n, Nx wq (wr.drewN n)) := hide (fun n => bel_drewN HNk.out n)
              have HBk := hide (HBs.out i k hi hk)
              clear HRk
              cases hRi : R i with
              | false =>
                rw [hRi] at r0
                clear HN HNk HBk x0 x1 x2 z0 z1 z2 r1 hRi
                go_wp2
                go_quiet (fail)
                go_wp2
                go_round
                case rel => exact ⟨k + 1, by omega, by go_num, hide (HNn.out _)⟩
                case measure => simp [intOf]; omega
              | true =>
                rw [hRi] at r0
                cases hRk : R k with
                | true =>
                  rw [hRk] at r1
                  clear HN HNk HBk x0 x1 x2 z0 z1 z2 hRi hRk
                  go_wp2
                  go_quiet (fail)
                  go_wp2
                  go_round
                  case rel => exact ⟨k + 1, by omega, by go_num, hide (HNn.out _)⟩
                  case measure => simp [intOf]; omega
                | false =>
                  rw [hRk] at r1
                  cases hf : (at' L i).2.2 with
                  | true =>
                    rw [hf] at z2
                    clear HN HNk HBk x0 x1 x2 z0 z1 hRi hRk hf
                    go_wp2
                    go_quiet (fail)
                    go_wp2
                    go_round
                    case rel => exact ⟨k + 1, by omega, by go_num, hide (HNn.out _)⟩
                    case measure => simp [intOf]; omega
                  | false =>
                    have HLk : Hid (∀ w, Calls Try.prog 21 #[.agg #[.int .i64 (at' L k).1, .int .i64 (at' L k).2.1, .bool (at' L k).2.2], .agg #[.int .i64 (at' L i).1, .int .i64 (at' L i).2.1, .bool (at' L i).2.2]] w fun e w' => e = .returned (.bool (lessB (at' L k) (at' L i))) ∧ Nx w w') := hide (fun w => hL.out (at' L k) (at' L i) w)
                    rw [HBk.out hRi hRk hf, hf] at HLk
                    rw [hf] at z2
                    have HN' : Hid (∀ w, Nx wr w → Nx wq w) := hide (fun w h => Nx.trans HNk.out h)
                    have ND : Hid (Nx wr wr.drew) := hide (bel_drew (Nx.refl wr))
                    clear hRi hRk hf HBk HN HNk
                    generalize (at' L k).1 = k0 at *
                    generalize (at' L k).2.1 = k1 at *
                    generalize (at' L k).2.2 = k2 at *
                    generalize (at' L i).1 = i0 at *
                    generalize (at' L i).2.1 = i1 at *
                    have SS : Hid (∀ x, Nx wr x → ∃ p : Regrown, x = Sort.grow (redrawn wr p.d) p.os) := hide (fun x hx => regrown_of_below hx)
                    have f0 := fun d os => ((below_regrown wr d os).cell (p := ⟨b, o + k * 3, none⟩) hb).trans x0
                    have f1 := fun d os => ((below_regrown wr d os).cell (p := ⟨b, o + k * 3 + 1, none⟩) hb).trans x1
                    have f2 := fun d os => ((below_regrown wr d os).cell (p := ⟨b, o + k * 3 + 2, none⟩) hb).trans x2
                    have f3 := fun d os => ((below_regrown wr d os).cell (p := ⟨b, o + i * 3, none⟩) hb).trans z0
                    have f4 := fun d os => ((below_regrown wr d os).cell (p := ⟨b, o + i * 3 + 1, none⟩) hb).trans z1
                    have f5 := fun d os => ((below_regrown wr d os).cell (p := ⟨b, o + i * 3 + 2, none⟩) hb).trans z2
                    have f6 := fun d os => ((below_regrown wr d os).cell (p := ⟨g, i, none⟩) hgl).trans r0
                    have f7 := fun d os => ((below_regrown wr d os).cell (p := ⟨g, k, none⟩) hgl).trans r1
                    clear x0 x1 x2 z0 z1 z2 r0 r1
                    go_wp2
                    refine wp_region_noPanic ?_
                    refine wp_region_held_drew (S := fun x => ∃ p : Regrown, x = Sort.grow (redrawn wr p.d) p.os) (by as_aux_lemma => kernel_rfl) (SS.out _ ND.out) (fun hHeld => ?_)
                    clear hHeld
                    refine Seg.seg 0 28 2 #[true, true, true, true, true, true, true, true, true, true, true, true, true, true, true, true, true, true, true, true, true, true, true, true, true, true, true, true, false, false] (by as_aux_lemma => kernel_rfl) (fun _ _ _ _ _ h => h) (SS.out _ ND.out) (by as_aux_lemma => kernel_rfl) (by kernel_rfl) (by kernel_rfl) ?_
                    simp only [List.drop_succ_cons, List.drop_zero, List.take_succ_cons, List.take_zero]
                    iterate 12 (go_big_quiet_step (fail))
                    iterate 12 (go_big_quiet_step (fail))
                    iterate 4 (go_big_quiet_step (fail))
                    refine wpQuiet_nil ?_
                    refine wpAnyH_ready (rs := [28]) (by as_aux_lemma => kernel_rfl) (by simp) ?_
                    refine AllReadyH.cons rfl (fun K hK => ?_) AllReadyH.nil
                    go_simp
                    refine (HLk.out _).mono ?_
                    rintro e w9 ⟨rfl, hb⟩
                    have n1 := hide (Nx.trans ND.out hb)
                    clear hb
                    refine hK.out _ _ (SS.out _ n1.out) (fun hHeld => ?_)
                    clear hK K hHeld
                    (try simp only [Act.put, List.setIfInBounds_toArray, List.set_cons_zero, List.set_cons_succ])
                    refine Seg.seg 29 1 0 #[true, true, true, true, true, true, true, true, true, true, true, true, true, true, true, true, true, true, true, true, true, true, true, true, true, true, true, true, true, true] (by as_aux_lemma => kernel_rfl) (fun _ _ _ _ _ h => h) (SS.out _ n1.out) (by as_aux_lemma => kernel_rfl) (by kernel_rfl) (by kernel_rfl) ?_
                    simp only [List.drop_succ_cons, List.drop_zero, List.take_succ_cons, List.take_zero]
                    iterate 1 (go_big_quiet_step (fail))
                    refine wpQuiet_nil ?_
                    refine wpAnyH_done (by as_aux_lemma => kernel_rfl) ?_ _
                    refine NoPanic.normal ?_
                    go_wp2
                    go_roundw
                    case rel => exact ⟨k + 1, by omega, by go_num, hide (HN'.out _ n1.out)⟩
                    case measure => simp [intOf]; omega
    · have hlm' : decide ((L.length : Int) < m) = false := decide_eq_false hlm
      obtain rfl : m = (n3 : Int) := by omega
      have hlm2 : n3 ≤ L.length := by omega
      have hlm3 : decide (L.length < n3) = false := decide_eq_false (by omega)
      have hlm4 : ¬ L.length < n3 := by omega
      clear hpl hlm
      go_upto_region 11 with fail
      clear hlm' hlm2 hlm3 hlm4
      go_wp2_with (refine wpList_make_row _ rfl _ _ 47 rfl 4 ib (.bool false) Try.underlying47 hib hz0 hz1 rfl .i64 .i64 L.length rfl rfl (by rw [hz2]; omega) (by omega) ?_)
      clear hib hz0 hz1 hz2
      generalize w3.alloc (.cells (madeCells #[.bool false] L.length) 4) = W4 at *
      obtain ⟨g, hgg⟩ : ∃ g, w3.heap.size = g := ⟨_, rfl⟩
      have HGE : Hid (w3.heap.size ≤ g) := hide (by omega)
      rw [hgg] at HB0
      rw [hgg]
      clear hgg
      go_wp2
      go_loopw [8] (fun i wr => ∃ k : Nat, k ≤ L.length ∧ i = .int .i64 (k : Int) ∧ Hid (Bn wr g L.length (ru R k false)) ∧ Hid (Nx w3 wr)) (fun i _ => L.length - (intOf i).toNat)
      case atStart => exact ⟨0, by omega, rfl, HB0, N4⟩
      case round =>
        obtain ⟨i, hi', rfl, HB, HN⟩ := hrel
        by_cases hi : i < L.length
        · have hi1 : (i : Int) < (L.length : Int) := by omega
          have hi0 : decide ((i : Int) < 0) = false := decide_eq_false (by omega)
          generalize wr = wq at *
          have HMi := hide (HM.out i hi)
          have HXi := hide (HX.out i hi)
          have HS : Hid (∀ w, Nx w3 w → Sl w (.slice p L.length cap) L) := hide (fun w h => H.out.below (Nx.trans B3.out h))
          go_wp2
          go_loopw [9] (fun j wr => ∃ k : Nat, k ≤ n3 ∧ j = .int .i64 (k : Int) ∧ Hid (Bn wr g L.length (ru R i (decide ((at' L i).1 ∈ PL.take k)))) ∧ Hid (Nx w3 wr)) (fun j _ => n3 - (intOf j).toNat)
          case atStart => exact ⟨0, by omega, rfl, hide (HB.out.congr (fun j hj => by simp)), HN⟩
          case round =>
            obtain ⟨k, hk', rfl, HBk, HNk⟩ := hrel
            by_cases hk : k < n3
            · have hk1 : (k : Int) < (n3 : Int) := by omega
              have hk0 : decide ((k : Int) < 0) = false := decide_eq_false (by omega)
              obtain ⟨b, o, rfl, hb, z0, z1, z2⟩ := (HS.out _ HNk.out).at hi
              obtain ⟨bp, op, rfl, hbp, x0⟩ := HI.out _ HNk.out k hk
              have y0 := HBk.out.cell i hi
              have fz := HBk.out.frozen i
              rw [ru_at] at y0
              have HT := hide (HMT.out k hk (at' L i).1)
              have HB2 : Hid (∀ v, (decide ((at' L i).1 ∈ PL.take k) || PL.getD k 0 == (at' L i).1) = v → Bn ((wr.setCell ⟨g, i, none⟩ (.bool v)).drew) g L.length (ru R i (decide ((at' L i).1 ∈ PL.take (k + 1))))) := hide (fun v h => by
                have h0 := HBk.out.set i hi v
                rw [ru_set] at h0
                rw [HT.out, h]
                exact h0.nx (bel_drew (Nx.refl _)))
              have HN2 : Hid (∀ v, Nx w3 ((wr.setCell ⟨g, i, none⟩ (.bool v)).drew)) := hide (fun v => bel_drew (HNk.out.setCell (p := ⟨g, i, none⟩) HGE.out (.bool v)))
              clear HBk HNk HT z1 z2 HMi HXi HB HN
              generalize decide ((at' L i).1 ∈ PL.take k) = run at *
              generalize (at' L i).1 = C0 at *
              generalize PL.getD k 0 = P0 at *
              cases run with
              | true =>
                go_wp2
                refine wp_region_noPanic ?_
                refine OrdU.region_U (S := fun w' => w'.cell? ⟨g, i, none⟩ = some (.bool true) ∧ w'.cell? ⟨bp, op + k, none⟩ = some (.int .i64 P0) ∧ w'.cell? ⟨b, o + i * 3, none⟩ = some (.int .i64 C0)) [19] (by kernel_rfl) ?_ (fun hHeld => ?_)
                · exact ⟨y0, x0, z0⟩
                refine OrdU.AnyU.takeP (i := 0) (v := ?_) (some 52) (by rfl) (by rfl) (by kernel_rfl) (by kernel_rfl) (by kernel_rfl) (fun _ _ _ h => h) (Or.inl ⟨by rfl, ?_⟩) ?_
                rotate_left
                · intro w _; first | (go_simp; done) | (go_simp; with_reducible rfl)
                (try simp only [Act.put, List.setIfInBounds_toArray, List.set_cons_zero, List.set_cons_succ])
                refine OrdU.AnyU.takeP (i := 1) (v := ?_) (some 53) (by rfl) (by rfl) (by kernel_rfl) (by kernel_rfl) (by kernel_rfl) (fun _ _ _ h => h) (Or.inl ⟨by rfl, ?_⟩) ?_
                rotate_left
                · intro w _; first | (go_simp; done) | (go_simp; with_reducible rfl)
                (try simp only [Act.put, List.setIfInBounds_toArray, List.set_cons_zero, List.set_cons_succ])
                refine OrdU.AnyU.takeP (i := 2) (v := ?_) (some 54) (by rfl) (by rfl) (by kernel_rfl) (by kernel_rfl) (by kernel_rfl) (fun _ _ _ h => h) (Or.inl ⟨by rfl, ?_⟩) ?_
                rotate_left
                · intro w _; first | (go_simp; done) | (go_simp; with_reducible rfl)
                (try simp only [Act.put, List.setIfInBounds_toArray, List.set_cons_zero, List.set_cons_succ])
                refine OrdU.AnyU.takeP (i := 3) (v := ?_) (some 55) (by rfl) (by rfl) (by kernel_rfl) (by kernel_rfl) (by kernel_rfl) (fun _ _ _ h => h) (Or.inl ⟨by rfl, ?_⟩) ?_
                rotate_left
                · intro w _; first | (go_simp; done) | (go_simp; with_reducible rfl)
                (try simp only [Act.put, List.setIfInBounds_toArray, List.set_cons_zero, List.set_cons_succ])
                refine OrdU.AnyU.takeP (i := 4) (v := ?_) (some 56) (by rfl) (by rfl) (by kernel_rfl) (by kernel_rfl) (by kernel_rfl) (fun _ _ _ h => h) (Or.inl ⟨by rfl, ?_⟩) ?_
                rotate_left
                · intro w _; first | (go_simp; done) | (go_simp; with_reducible rfl)
                (try simp only [Act.put, List.setIfInBounds_toArray, List.set_cons_zero, List.set_cons_succ])
                refine OrdU.AnyU.take (i := 5) (v := ?_) (some 57) (by rfl) (by rfl) (by kernel_rfl) (by kernel_rfl) (by kernel_rfl) (by kernel_rfl) (fun _ _ _ h => h) (Or.inl ⟨by rfl, ?_⟩) (by assumption) ?_
                rotate_left
                · intro w hSw; (try dsimp only at hSw); first | (go_simp; done) | (go_simp; with_reducible rfl)
                (try simp only [Act.put, List.setIfInBounds_toArray, List.set_cons_zero, List.set_cons_succ])
                refine OrdU.AnyU.takeP (i := 6) (v := ?_) (some 58) (by rfl) (by rfl) (by kernel_rfl) (by kernel_rfl) (by kernel_rfl) (fun _ _ _ h => h) (Or.inl ⟨by rfl, ?_⟩) ?_
                rotate_left
                · intro w _; first | (go_simp; done) | (go_simp; with_reducible rfl)
                (try simp only [Act.put, List.setIfInBounds_toArray, List.set_cons_zero, List.set_cons_succ])
                refine OrdU.AnyU.takeP (i := 7) (v := undef) (some 59) (by rfl) (by rfl) (by kernel_rfl) (by kernel_rfl) (by kernel_rfl) (fun _ _ _ h => h) (Or.inr ⟨by rfl, rfl⟩) ?_
                (try simp only [Act.put, List.setIfInBounds_toArray, List.set_cons_zero, List.set_cons_succ])
                refine OrdU.AnyU.takeP (i := 8) (v := undef) (some 60) (by rfl) (by rfl) (by kernel_rfl) (by kernel_rfl) (by kernel_rfl) (fun _ _ _ h => h) (Or.inr ⟨by rfl, rfl⟩) ?_
                (try simp only [Act.put, List.setIfInBounds_toArray, List.set_cons_zero, List.set_cons_succ])
                refine OrdU.AnyU.takeP (i := 9) (v := undef) (some 61) (by rfl) (by rfl) (by kernel_rfl) (by kernel_rfl) (by kernel_rfl) (fun _ _ _ h => h) (Or.inr ⟨by rfl, rfl⟩) ?_
                (try simp only [Act.put, List.setIfInBounds_toArray, List.set_cons_zero, List.set_cons_succ])
                refine OrdU.AnyU.takeP (i := 10) (v := undef) (some 62) (by rfl) (by rfl) (by kernel_rfl) (by kernel_rfl) (by kernel_rfl) (fun _ _ _ h => h) (Or.inr ⟨by rfl, rfl⟩) ?_
                (try simp only [Act.put, List.setIfInBounds_toArray, List.set_cons_zero, List.set_cons_succ])
                refine OrdU.AnyU.takeP (i := 11) (v := undef) (some 63) (by rfl) (by rfl) (by kernel_rfl) (by kernel_rfl) (by kernel_rfl) (fun _ _ _ h => h) (Or.inr ⟨by rfl, rfl⟩) ?_
                (try simp only [Act.put, List.setIfInBounds_toArray, List.set_cons_zero, List.set_cons_succ])
                refine OrdU.AnyU.takeP (i := 12) (v := undef) (some 64) (by rfl) (by rfl) (by kernel_rfl) (by kernel_rfl) (by kernel_rfl) (fun _ _ _ h => h) (Or.inr ⟨by rfl, rfl⟩) ?_
                (try simp only [Act.put, List.setIfInBounds_toArray, List.set_cons_zero, List.set_cons_succ])
                refine OrdU.AnyU.takeP (i := 13) (v := undef) (some 65) (by rfl) (by rfl) (by kernel_rfl) (by kernel_rfl) (by kernel_rfl) (fun _ _ _ h => h) (Or.inr ⟨by rfl, rfl⟩) ?_
                (try simp only [Act.put, List.setIfInBounds_toArray, List.set_cons_zero, List.set_cons_succ])
                refine OrdU.AnyU.takeP (i := 14) (v := undef) (some 66) (by rfl) (by rfl) (by kernel_rfl) (by kernel_rfl) (by kernel_rfl) (fun _ _ _ h => h) (Or.inr ⟨by rfl, rfl⟩) ?_
                (try simp only [Act.put, List.setIfInBounds_toArray, List.set_cons_zero, List.set_cons_succ])
                refine OrdU.AnyU.takeP (i := 15) (v := undef) (some 67) (by rfl) (by rfl) (by kernel_rfl) (by kernel_rfl) (by kernel_rfl) (fun _ _ _ h => h) (Or.inr ⟨by rfl, rfl⟩) ?_
                (try simp only [Act.put, List.setIfInBounds_toArray, List.set_cons_zero, List.set_cons_succ])
                refine OrdU.AnyU.takeP (i := 16) (v := undef) (some 68) (by rfl) (by rfl) (by kernel_rfl) (by kernel_rfl) (by kernel_rfl) (fun _ _ _ h => h) (Or.inr ⟨by rfl, rfl⟩) ?_
                (try simp only [Act.put, List.setIfInBounds_toArray, List.set_cons_zero, List.set_cons_succ])
                refine OrdU.AnyU.takeP (i := 17) (v := ?_) (some 69) (by rfl) (by rfl) (by kernel_rfl) (by kernel_rfl) (by kernel_rfl) (fun _ _ _ h => h) (Or.inl ⟨by rfl, ?_⟩) ?_
                rotate_left
                · intro w _; first | (go_simp; done) | (go_simp; with_reducible rfl)
                (try simp only [Act.put, List.setIfInBounds_toArray, List.set_cons_zero, List.set_cons_succ])
                refine OrdU.AnyU.takeP (i := 18) (v := ?_) (some 70) (by rfl) (by rfl) (by kernel_rfl) (by kernel_rfl) (by kernel_rfl) (fun _ _ _ h => h) (Or.inl ⟨by rfl, ?_⟩) ?_
                rotate_left
                · intro w _; first | (go_simp; done) | (go_simp; with_reducible rfl)
                (try simp only [Act.put, List.setIfInBounds_toArray, List.set_cons_zero, List.set_cons_succ])
                clear hHeld
                refine OrdU.AnyU.one (i := 19) (by kernel_rfl) (by rfl) (fun K hK => ?_)
                go_simp
                refine hK.out _ _ (fun _ h => absurd (by decide) h) ?_
                clear hK K
                (try simp only [Act.put, List.setIfInBounds_toArray, List.set_cons_zero, List.set_cons_succ])
                refine OrdU.AnyU.done (by kernel_rfl) ?_ _
                refine NoPanic.normal ?_
                go_wp2
                go_roundw
                case rel => exact ⟨k + 1, by omega, by go_num, hide (HB2.out _ rfl), hide (HN2.out _)⟩
                case measure => simp [intOf]; omega
              | false =>
                go_wp2
                refine wp_region_noPanic ?_
                refine OrdU.region_U (S := fun w' => w'.cell? ⟨g, i, none⟩ = some (.bool false) ∧ w'.cell? ⟨bp, op + k, none⟩ = some (.int .i64 P0) ∧ w'.cell? ⟨b, o + i * 3, none⟩ = some (.int .i64 C0)) [19] (by kernel_rfl) ?_ (fun hHeld => ?_)
                · exact ⟨y0, x0, z0⟩
                refine OrdU.AnyU.takeP (i := 0) (v := ?_) (some 52) (by rfl) (by rfl) (by kernel_rfl) (by kernel_rfl) (by kernel_rfl) (fun _ _ _ h => h) (Or.inl ⟨by rfl, ?_⟩) ?_
                rotate_left
                · intro w _; first | (go_simp; done) | (go_simp; with_reducible rfl)
                (try simp only [Act.put, List.setIfInBounds_toArray, List.set_cons_zero, List.set_cons_succ])
                refine OrdU.AnyU.takeP (i := 1) (v := ?_) (some 53) (by rfl) (by rfl) (by kernel_rfl) (by kernel_rfl) (by kernel_rfl) (fun _ _ _ h => h) (Or.inl ⟨by rfl, ?_⟩) ?_
                rotate_left
                · intro w _; first | (go_simp; done) | (go_simp; with_reducible rfl)
                (try simp only [Act.put, List.setIfInBounds_toArray, List.set_cons_zero, List.set_cons_succ])
                refine OrdU.AnyU.takeP (i := 2) (v := ?_) (some 54) (by rfl) (by rfl) (by kernel_rfl) (by kernel_rfl) (by kernel_rfl) (fun _ _ _ h => h) (Or.inl ⟨by rfl, ?_⟩) ?_
                rotate_left
                · intro w _; first | (go_simp; done) | (go_simp; with_reducible rfl)
                (try simp only [Act.put, List.setIfInBounds_toArray, List.set_cons_zero, List.set_cons_succ])
                refine OrdU.AnyU.takeP (i := 3) (v := ?_) (some 55) (by rfl) (by rfl) (by kernel_rfl) (by kernel_rfl) (by kernel_rfl) (fun _ _ _ h => h) (Or.inl ⟨by rfl, ?_⟩) ?_
                rotate_left
                · intro w _; first | (go_simp; done) | (go_simp; with_reducible rfl)
                (try simp only [Act.put, List.setIfInBounds_toArray, List.set_cons_zero, List.set_cons_succ])
                refine OrdU.AnyU.takeP (i := 4) (v := ?_) (some 56) (by rfl) (by rfl) (by kernel_rfl) (by kernel_rfl) (by kernel_rfl) (fun _ _ _ h => h) (Or.inl ⟨by rfl, ?_⟩) ?_
                rotate_left
                · intro w _; first | (go_simp; done) | (go_simp; with_reducible rfl)
                (try simp only [Act.put, List.setIfInBounds_toArray, List.set_cons_zero, List.set_cons_succ])
                refine OrdU.AnyU.take (i := 5) (v := ?_) (some 57) (by rfl) (by rfl) (by kernel_rfl) (by kernel_rfl) (by kernel_rfl) (by kernel_rfl) (fun _ _ _ h => h) (Or.inl ⟨by rfl, ?_⟩) (by assumption) ?_
                rotate_left
                · intro w hSw; (try dsimp only at hSw); first | (go_simp; done) | (go_simp; with_reducible rfl)
                (try simp only [Act.put, List.setIfInBounds_toArray, List.set_cons_zero, List.set_cons_succ])
                refine OrdU.AnyU.takeP (i := 6) (v := ?_) (some 58) (by rfl) (by rfl) (by kernel_rfl) (by kernel_rfl) (by kernel_rfl) (fun _ _ _ h => h) (Or.inl ⟨by rfl, ?_⟩) ?_
                rotate_left
                · intro w _; first | (go_simp; done) | (go_simp; with_reducible rfl)
                (try simp only [Act.put, List.setIfInBounds_toArray, List.set_cons_zero, List.set_cons_succ])
                refine OrdU.AnyU.takeP (i := 7) (v := ?_) (some 59) (by rfl) (by rfl) (by kernel_rfl) (by kernel_rfl) (by kernel_rfl) (fun _ _ _ h => h) (Or.inl ⟨by rfl, ?_⟩) ?_
                rotate_left
                · intro w _; first | (go_simp; done) | (go_simp; with_reducible rfl)
                (try simp only [Act.put, List.setIfInBounds_toArray, List.set_cons_zero, List.set_cons_succ])
                refine OrdU.AnyU.takeP (i := 8) (v := ?_) (some 60) (by rfl) (by rfl) (by kernel_rfl) (by kernel_rfl) (by kernel_rfl) (fun _ _ _ h => h) (Or.inl ⟨by rfl, ?_⟩) ?_
                rotate_left
                · intro w _; first | (go_simp; done) | (go_simp; with_reducible rfl)
                (try simp only [Act.put, List.setIfInBounds_toArray, List.set_cons_zero, List.set_cons_succ])
                refine OrdU.AnyU.takeP (i := 9) (v := ?_) (some 61) (by rfl) (by rfl) (by kernel_rfl) (by kernel_rfl) (by kernel_rfl) (fun _ _ _ h => h) (Or.inl ⟨by rfl, ?_⟩) ?_
                rotate_left
                · intro w _; first | (go_simp; done) | (go_simp; with_reducible rfl)
                (try simp only [Act.put, List.setIfInBounds_toArray, List.set_cons_zero, List.set_cons_succ])
                refine OrdU.AnyU.take (i := 10) (v := ?_) (some 62) (by rfl) (by rfl) (by kernel_rfl) (by kernel_rfl) (by kernel_rfl) (by kernel_rfl) (fun _ _ _ h => h) (Or.inl ⟨by rfl, ?_⟩) (by assumption) ?_
                rotate_left
                · intro w hSw; (try dsimp only at hSw); first | (go_simp; done) | (go_simp; with_reducible rfl)
                (try simp only [Act.put, List.setIfInBounds_toArray, List.set_cons_zero, List.set_cons_succ])
                refine OrdU.AnyU.takeP (i := 11) (v := ?_) (some 63) (by rfl) (by rfl) (by kernel_rfl) (by kernel_rfl) (by kernel_rfl) (fun _ _ _ h => h) (Or.inl ⟨by rfl, ?_⟩) ?_
                rotate_left
                · intro w _; first | (go_simp; done) | (go_simp; with_reducible rfl)
                (try simp only [Act.put, List.setIfInBounds_toArray, List.set_cons_zero, List.set_cons_succ])
                refine OrdU.AnyU.takeP (i := 12) (v := ?_) (some 64) (by rfl) (by rfl) (by kernel_rfl) (by kernel_rfl) (by kernel_rfl) (fun _ _ _ h => h) (Or.inl ⟨by rfl, ?_⟩) ?_
                rotate_left
                · intro w _; first | (go_simp; done) | (go_simp; with_reducible rfl)
                (try simp only [Act.put, List.setIfInBounds_toArray, List.set_cons_zero, List.set_cons_succ])
                refine OrdU.AnyU.takeP (i := 13) (v := ?_) (some 65) (by rfl) (by rfl) (by kernel_rfl) (by kernel_rfl) (by kernel_rfl) (fun _ _ _ h => h) (Or.inl ⟨by rfl, ?_⟩) ?_
                rotate_left
                · intro w _; first | (go_simp; done) | (go_simp; with_reducible rfl)
                (try simp only [Act.put, List.setIfInBounds_toArray, List.set_cons_zero, List.set_cons_succ])
                refine OrdU.AnyU.takeP (i := 14) (v := ?_) (some 66) (by rfl) (by rfl) (by kernel_rfl) (by kernel_rfl) (by kernel_rfl) (fun _ _ _ h => h) (Or.inl ⟨by rfl, ?_⟩) ?_
                rotate_left
                · intro w _; first | (go_simp; done) | (go_simp; with_reducible rfl)
                (try simp only [Act.put, List.setIfInBounds_toArray, List.set_cons_zero, List.set_cons_succ])
                refine OrdU.AnyU.take (i := 15) (v := ?_) (some 67) (by rfl) (by rfl) (by kernel_rfl) (by kernel_rfl) (by kernel_rfl) (by kernel_rfl) (fun _ _ _ h => h) (Or.inl ⟨by rfl, ?_⟩) (by assumption) ?_
                rotate_left
                · intro w hSw; (try dsimp only at hSw); first | (go_simp; done) | (go_simp; with_reducible rfl)
                (try simp only [Act.put, List.setIfInBounds_toArray, List.set_cons_zero, List.set_cons_succ])
                refine OrdU.AnyU.takeP (i := 16) (v := ?_) (some 68) (by rfl) (by rfl) (by kernel_rfl) (by kernel_rfl) (by kernel_rfl) (fun _ _ _ h => h) (Or.inl ⟨by rfl, ?_⟩) ?_
                rotate_left
                · intro w _; first | (go_simp; done) | (go_simp; with_reducible rfl)
                (try simp only [Act.put, List.setIfInBounds_toArray, List.set_cons_zero, List.set_cons_succ])
                refine OrdU.AnyU.takeP (i := 17) (v := ?_) (some 69) (by rfl) (by rfl) (by kernel_rfl) (by kernel_rfl) (by kernel_rfl) (fun _ _ _ h => h) (Or.inl ⟨by rfl, ?_⟩) ?_
                rotate_left
                · intro w _; first | (go_simp; done) | (go_simp; with_reducible rfl)
                (try simp only [Act.put, List.setIfInBounds_toArray, List.set_cons_zero, List.set_cons_succ])
                refine OrdU.AnyU.takeP (i := 18) (v := ?_) (some 70) (by rfl) (by rfl) (by kernel_rfl) (by kernel_rfl) (by kernel_rfl) (fun _ _ _ h => h) (Or.inl ⟨by rfl, ?_⟩) ?_
                rotate_left
                · intro w _; first | (go_simp; done) | (go_simp; with_reducible rfl)
                (try simp only [Act.put, List.setIfInBounds_toArray, List.set_cons_zero, List.set_cons_succ])
                clear hHeld
                refine OrdU.AnyU.one (i := 19) (by kernel_rfl) (by rfl) (fun K hK => ?_)
                go_simp
                refine hK.out _ _ (fun _ h => absurd (by decide) h) ?_
                clear hK K
                (try simp only [Act.put, List.setIfInBounds_toArray, List.set_cons_zero, List.set_cons_succ])
                refine OrdU.AnyU.done (by kernel_rfl) ?_ _
                refine NoPanic.normal ?_
                go_wp2
                go_roundw
                case rel => exact ⟨k + 1, by omega, by go_num, hide (HB2.out _ rfl), hide (HN2.out _)⟩
                case measure => simp [intOf]; omega
            · obtain rfl : k = n3 := by omega
              obtain ⟨b, o, rfl, hb, z0, z1, z2⟩ := (HS.out _ HNk.out).at hi
              have y0 := HBk.out.cell i hi
              rw [ru_at, HTL.out, HMi.out] at y0
              have HB2 := HBk.out
              rw [HTL.out, HMi.out, ru_next] at HB2
              have HB3 := hide HB2
              clear HBk HB2 HMi z0 z1 HB HN
              cases hf : (at' L i).2.2 with
              | true =>
                rw [HXi.out hf] at y0
                rw [hf] at z2
                clear HXi hf
                go_wp2
                go_roundw
                case rel => exact ⟨i + 1, by omega, by go_num, HB3, HNk⟩
                case measure => simp [intOf]; omega
              | false =>
                rw [hf] at z2
                clear HXi hf
                go_wp2
                go_roundw
                case rel => exact ⟨i + 1, by omega, by go_num, HB3, HNk⟩
                case measure => simp [intOf]; omega
        · obtain rfl : i = L.length := by omega
          have HR : Hid (Bn wr g L.length R) := hide (HB.out.congr (fun j hj => by unfold ru; rw [if_pos hj]))
          have HNW := hide (Nx.trans B3.out HN.out)
          generalize wr = wq at *
          clear HB HN HM HX
          clear HMT HTL HI
          go_wp2
          go_loopw [10] (fun i wr => ∃ k : Nat, k ≤ L.length ∧ i = .int .i64 (k : Int) ∧ Hid (Nx wq wr)) (fun i _ => L.length - (intOf i).toNat)
          case atStart => exact ⟨0, by omega, rfl, hide (Nx.refl _)⟩
          case round =>
            obtain ⟨i, hi', rfl, HN⟩ := hrel
            by_cases hi : i < L.length
            rotate_left
            · obtain rfl : i = L.length := by omega
              have BW := hide (Nx.trans HNW.out HN.out)
              go_wp2
              go_ret
              exact ⟨rfl, BW.out⟩
            have hi1 : (i : Int) < (L.length : Int) := by omega
            have hi0 : decide ((i : Int) < 0) = false := decide_eq_false (by omega)
            generalize wr = wi at *
            go_wp2
            go_loopw [11] (fun j wr => ∃ k : Nat, k ≤ L.length ∧ j = .int .i64 (k : Int) ∧ Hid (Nx wq wr)) (fun j _ => L.length - (intOf j).toNat)
            case atStart => exact ⟨0, by omega, rfl, HN⟩
            case round =>
              obtain ⟨k, hk', rfl, HNk⟩ := hrel
              by_cases hk : k < L.length
              rotate_left
              · obtain rfl : k = L.length := by omega
                go_wp2
                go_roundw
                case rel => exact ⟨i + 1, by omega, by go_num, HNk⟩
                case measure => simp [intOf]; omega
              have hk1 : (k : Int) < (L.length : Int) := by omega
              have hk0 : decide ((k : Int) < 0) = false := decide_eq_false (by omega)
              have HRk := hide (HR.out.nx HNk.out)
              have r0 := HRk.out.cell i hi
              have r1 := HRk.out.cell k hk
              have hgl := HRk.out.lt
              obtain ⟨b, o, rfl, hb, ⟨x0, x1, x2⟩, ⟨z0, z1, z2⟩⟩ := (H.out.below (Nx.trans HNW.out HNk.out)).two hk hi
              have HNn : Hid (∀ n, Nx wq (wr.drewN n)) := hide (fun n => bel_drewN HNk.out n)
              have HBk := hide (HBs.out i k hi hk)
              clear HRk
              cases hRi : R i with
              | false =>
                rw [hRi] at r0
                clear HN HNk HBk x0 x1 x2 z0 z1 z2 r1 hRi
                go_wp2
                go_quiet (fail)
                go_wp2
                go_round
                case rel => exact ⟨k + 1, by omega, by go_num, hide (HNn.out _)⟩
                case measure => simp [intOf]; omega
              | true =>
                rw [hRi] at r0
                cases hRk : R k with
                | true =>
                  rw [hRk] at r1
                  clear HN HNk HBk x0 x1 x2 z0 z1 z2 hRi hRk
                  go_wp2
                  go_quiet (fail)
                  go_wp2
                  go_round
                  case rel => exact ⟨k + 1, by omega, by go_num, hide (HNn.out _)⟩
                  case measure => simp [intOf]; omega
                | false =>
                  rw [hRk] at r1
                  cases hf : (at' L i).2.2 with
                  | true =>
                    rw [hf] at z2
                    clear HN HNk HBk x0 x1 x2 z0 z1 hRi hRk hf
                    go_wp2
                    go_quiet (fail)
                    go_wp2
                    go_round
                    case rel => exact ⟨k + 1, by omega, by go_num, hide (HNn.out _)⟩
                    case measure => simp [intOf]; omega
                  | false =>
                    have HLk : Hid (∀ w, Calls Try.prog 21 #[.agg #[.int .i64 (at' L k).1, .int .i64 (at' L k).2.1, .bool (at' L k).2.2], .agg #[.int .i64 (at' L i).1, .int .i64 (at' L i).2.1, .bool (at' L i).2.2]] w fun e w' => e = .returned (.bool (lessB (at' L k) (at' L i))) ∧ Nx w w') := hide (fun w => hL.out (at' L k) (at' L i) w)
                    rw [HBk.out hRi hRk hf, hf] at HLk
                    rw [hf] at z2
                    have HN' : Hid (∀ w, Nx wr w → Nx wq w) := hide (fun w h => Nx.trans HNk.out h)
                    have ND : Hid (Nx wr wr.drew) := hide (bel_drew (Nx.refl wr))
                    clear hRi hRk hf HBk HN HNk
                    generalize (at' L k).1 = k0 at *
                    generalize (at' L k).2.1 = k1 at *
                    generalize (at' L k).2.2 = k2 at *
                    generalize (at' L i).1 = i0 at *
                    generalize (at' L i).2.1 = i1 at *
                    have SS : Hid (∀ x, Nx wr x → ∃ p : Regrown, x = Sort.grow (redrawn wr p.d) p.os) := hide (fun x hx => regrown_of_below hx)
                    have f0 := fun d os => ((below_regrown wr d os).cell (p := ⟨b, o + k * 3, none⟩) hb).trans x0
                    have f1 := fun d os => ((below_regrown wr d os).cell (p := ⟨b, o + k * 3 + 1, none⟩) hb).trans x1
                    have f2 := fun d os => ((below_regrown wr d os).cell (p := ⟨b, o + k * 3 + 2, none⟩) hb).trans x2
                    have f3 := fun d os => ((below_regrown wr d os).cell (p := ⟨b, o + i * 3, none⟩) hb).trans z0
                    have f4 := fun d os => ((below_regrown wr d os).cell (p := ⟨b, o + i * 3 + 1, none⟩) hb).trans z1
                    have f5 := fun d os => ((below_regrown wr d os).cell (p := ⟨b, o + i * 3 + 2, none⟩) hb).trans z2
                    have f6 := fun d os => ((below_regrown wr d os).cell (p := ⟨g, i, none⟩) hgl).trans r0
                    have f7 := fun d os => ((below_regrown wr d os).cell (p := ⟨g, k, none⟩) hgl).trans r1
                    clear x0 x1 x2 z0 z1 z2 r0 r1
                    go_wp2
                    refine wp_region_noPanic ?_
                    refine wp_region_held_drew (S := fun x => ∃ p : Regrown, x = Sort.grow (redrawn wr p.d) p.os) (by as_aux_lemma => kernel_rfl) (SS.out _ ND.out) (fun hHeld => ?_)
                    clear hHeld
                    refine Seg.seg 0 28 2 #[true, true, true, true, true, true, true, true, true, true, true, true, true, true, true, true, true, true, true, true, true, true, true, true, true, true, true, true, false, false] (by as_aux_lemma => kernel_rfl) (fun _ _ _ _ _ h => h) (SS.out _ ND.out) (by as_aux_lemma => kernel_rfl) (by kernel_rfl) (by kernel_rfl) ?_
                    simp only [List.drop_succ_cons, List.drop_zero, List.take_succ_cons, List.take_zero]
                    iterate 12 (go_big_quiet_step (fail))
                    iterate 12 (go_big_quiet_step (fail))
                    iterate 4 (go_big_quiet_step (fail))
                    refine wpQuiet_nil ?_
                    refine wpAnyH_ready (rs := [28]) (by as_aux_lemma => kernel_rfl) (by simp) ?_
                    refine AllReadyH.cons rfl (fun K hK => ?_) AllReadyH.nil
                    go_simp
                    refine (HLk.out _).mono ?_
                    rintro e w9 ⟨rfl, hb⟩
                    have n1 := hide (Nx.trans ND.out hb)
                    clear hb
                    refine hK.out _ _ (SS.out _ n1.out) (fun hHeld => ?_)
                    clear hK K hHeld
                    (try simp only [Act.put, List.setIfInBounds_toArray, List.set_cons_zero, List.set_cons_succ])
                    refine Seg.seg 29 1 0 #[true, true, true, true, true, true, true, true, true, true, true, true, true, true, true, true, true, true, true, true, true, true, true, true, true, true, true, true, true, true] (by as_aux_lemma => kernel_rfl) (fun _ _ _ _ _ h => h) (SS.out _ n1.out) (by as_aux_lemma => kernel_rfl) (by kernel_rfl) (by kernel_rfl) ?_
                    simp only [List.drop_succ_cons, List.drop_zero, List.take_succ_cons, List.take_zero]
                    iterate 1 (go_big_quiet_step (fail))
                    refine wpQuiet_nil ?_
                    refine wpAnyH_done (by as_aux_lemma => kernel_rfl) ?_ _
                    refine NoPanic.normal ?_
                    go_wp2
                    go_roundw
                    case rel => exact ⟨k + 1, by omega, by go_num, hide (HN'.out _ n1.out)⟩
                    case measure => simp [intOf]; omega
end Go.Proofs.Ytacbiiiadalocaa.Ed
