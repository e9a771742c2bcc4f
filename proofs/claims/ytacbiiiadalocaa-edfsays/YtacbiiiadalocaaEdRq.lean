/- The reference's Pick. -/
import Derived.Test.YtacbiiiadalocaaEdRp
import Derived.Test.YtacbiiiadalocaaEdAp
namespace Go.Proofs.Ytacbiiiadalocaa.Ed
open Go.RowKit Go.Proofs.Ytacbiiiadalocaa.Con
set_option linter.unusedVariables false
set_option linter.unusedSimpArgs false
attribute [local go_sem ↓] Go.wp_at_zero Go.wp_at_succ
def hit (L : List Et) (F : Nat → Bool) (i : Nat) (j : Nat) : Bool := F j && ((at' L j).1 == (i : Int))
/-- What is told of the id i, among the first k. -/
def rowI (L : List Et) (F : Nat → Bool) (i k : Nat) : List Int := List.replicate ((List.range k).countP (hit L F i)) (i : Int)
def allI (L : List Et) (F : Nat → Bool) : Nat → List Int
  | 0 => []
  | n + 1 => allI L F n ++ rowI L F n L.length
theorem rowI_zero (L : List Et) (F : Nat → Bool) (i : Nat) : rowI L F i 0 = [] := rfl
theorem rowI_y {L : List Et} {F : Nat → Bool} {i k : Nat} (h : hit L F i k = true) : rowI L F i (k + 1) = rowI L F i k ++ [(i : Int)] := by
  unfold rowI
  rw [List.range_succ, List.countP_append, List.countP_singleton, if_pos h, List.replicate_succ']
theorem rowI_n {L : List Et} {F : Nat → Bool} {i k : Nat} (h : hit L F i k = false) : rowI L F i (k + 1) = rowI L F i k := by
  unfold rowI
  rw [List.range_succ, List.countP_append, List.countP_singleton, if_neg (by rw [h]; decide)]; rfl
theorem rowI_le (L : List Et) (F : Nat → Bool) (i k : Nat) : (rowI L F i k).length ≤ k := by
  unfold rowI
  rw [List.length_replicate]
  exact Nat.le_trans List.countP_le_length (by simp)
theorem rowI_mono (L : List Et) (F : Nat → Bool) (i : Nat) {k n : Nat} (h : k ≤ n) : (rowI L F i k).length ≤ (rowI L F i n).length := by
  unfold rowI
  rw [List.length_replicate, List.length_replicate]
  exact (List.range_sublist.2 h).countP_le
theorem allI_len (L : List Et) (F : Nat → Bool) : ∀ n, (allI L F n).length = (List.range L.length).countP (fun j => F j && decide (0 ≤ (at' L j).1 ∧ (at' L j).1 < (n : Int))) := by
  intro n
  induction n with
  | zero => exact (List.countP_eq_zero.2 (fun a _ => by simp <;> omega)).symm
  | succ n ih =>
    show (allI L F n ++ rowI L F n L.length).length = _
    rw [List.length_append, ih]
    unfold rowI
    rw [List.length_replicate]
    have : ∀ M : List Nat, M.countP (fun j => F j && decide (0 ≤ (at' L j).1 ∧ (at' L j).1 < ((n + 1 : Nat) : Int))) = M.countP (fun j => F j && decide (0 ≤ (at' L j).1 ∧ (at' L j).1 < (n : Int))) + M.countP (hit L F n) := by
      intro M
      induction M with
      | nil => rfl
      | cons x M ih =>
        rw [List.countP_cons, List.countP_cons, List.countP_cons, ih]
        generalize M.countP (fun j => F j && decide (0 ≤ (at' L j).1 ∧ (at' L j).1 < (n : Int))) = Y
        generalize M.countP (hit L F n) = Z
        unfold hit
        have e1 : decide (0 ≤ (at' L x).1 ∧ (at' L x).1 < ((n + 1 : Nat) : Int)) = (decide (0 ≤ (at' L x).1 ∧ (at' L x).1 < (n : Int)) || ((at' L x).1 == (n : Int))) := by
          rw [Bool.eq_iff_iff]; simp only [Bool.or_eq_true, decide_eq_true_eq, beq_iff_eq]; omega
        have e2 : (decide (0 ≤ (at' L x).1 ∧ (at' L x).1 < (n : Int)) && ((at' L x).1 == (n : Int))) = false := by
          rw [Bool.eq_false_iff]; simp only [ne_eq, Bool.and_eq_true, decide_eq_true_eq, beq_iff_eq]; omega
        rw [e1]
        revert e2
        generalize decide (0 ≤ (at' L x).1 ∧ (at' L x).1 < (n : Int)) = p
        generalize ((at' L x).1 == (n : Int)) = q
        intro e2
        cases hF : F x <;> cases p <;> cases q <;> simp at e2 ⊢ <;> omega
    rw [this]
theorem allI_le (L : List Et) (F : Nat → Bool) (n : Nat) : (allI L F n).length ≤ L.length := by
  rw [allI_len]; exact Nat.le_trans List.countP_le_length (by simp)
theorem part_le (L : List Et) (F : Nat → Bool) (i : Nat) {k : Nat} (hk : k ≤ L.length) : (allI L F i ++ rowI L F i k).length ≤ L.length := by
  have h := allI_le L F (i + 1)
  have : (allI L F i ++ rowI L F i L.length).length ≤ L.length := h
  rw [List.length_append] at *
  have := rowI_mono L F i hk
  omega
theorem ids_range (L : List Et) : ids L = (List.range L.length).map (fun j => (at' L j).1) := by
  apply List.ext_getElem?
  intro i
  unfold ids
  rw [List.getElem?_map, List.getElem?_map]
  by_cases hi : i < L.length
  · rw [at_eq hi, List.getElem?_range hi]; rfl
  · rw [List.getElem?_eq_none (by omega), List.getElem?_eq_none (by simp; omega)]; rfl
theorem rowI_one {L : List Et} (hn : (ids L).Nodup) (F : Nat → Bool) (i : Nat) : rowI L F i L.length = if (List.range L.length).any (hit L F i) = true then [(i : Int)] else [] := by
  have hle : (List.range L.length).countP (hit L F i) ≤ 1 := by
    have := List.nodup_iff_count.1 hn (i : Int)
    rw [ids_range, List.count_eq_countP, List.countP_map] at this
    refine Nat.le_trans (List.countP_mono_left fun x _ hx => ?_) this
    unfold hit at hx
    simp only [Bool.and_eq_true] at hx
    simpa using hx.2
  unfold rowI
  split
  · rename_i h
    have : 0 < (List.range L.length).countP (hit L F i) := List.countP_pos_iff.2 (by simpa using h)
    rw [show (List.range L.length).countP (hit L F i) = 1 by omega]; rfl
  · rename_i h
    have : (List.range L.length).countP (hit L F i) = 0 := List.countP_eq_zero.2 fun a ha hh => h (List.any_eq_true.2 ⟨a, ha, hh⟩)
    rw [this]; rfl
theorem allI_sorted {L : List Et} (hn : (ids L).Nodup) (F : Nat → Bool) : ∀ n, allI L F n = ((List.range n).filter (fun i => (List.range L.length).any (hit L F i))).map (fun (i : Nat) => (i : Int)) := by
  intro n
  induction n with
  | zero => rfl
  | succ n ih =>
    show allI L F n ++ rowI L F n L.length = _
    rw [ih, rowI_one hn, List.range_succ, List.filter_append, List.map_append]
    congr 1
    split
    · rename_i h; simp [h]
    · rename_i h; simp [Bool.eq_false_iff.2 h]
theorem allI_none {L : List Et} {F : Nat → Bool} (h : ∀ j, F j = false) : ∀ n, allI L F n = [] := by
  intro n
  induction n with
  | zero => rfl
  | succ n ih =>
    show allI L F n ++ rowI L F n L.length = _
    rw [ih]
    unfold rowI
    rw [List.countP_eq_zero.2 (fun a _ => by unfold hit; rw [h a]; simp)]; rfl
theorem allI_pick {m : Int} {L : List Et} {F : Nat → Bool} (hF : ∀ j, F j = (goodE m L && runs m L (at' L j))) : allI L F 1024 = pickL m L := by
  cases hg : goodE m L with
  | false =>
    rw [allI_none (fun j => by rw [hF, hg]; rfl)]
    unfold pickL; rw [if_neg (by rw [hg]; decide)]
  | true =>
    rw [allI_sorted (good_iff.1 hg).2.2.2.1, pick_good hg]
    unfold sorted
    have : ∀ M : List Nat, M.filter (fun i => (List.range L.length).any (hit L F i)) = M.filter (fun (i : Nat) => (rl m L).any (fun e => e.1 == (i : Int))) := fun M => List.filter_congr fun i _ => by
      rw [Bool.eq_iff_iff]
      simp only [List.any_eq_true, List.mem_range]
      unfold hit rl
      simp only [Bool.and_eq_true, beq_iff_eq, List.mem_filter]
      constructor
      · rintro ⟨j, hj, h1, h2⟩
        rw [hF, hg, Bool.true_and] at h1
        exact ⟨at' L j, ⟨at_mem hj, h1⟩, h2⟩
      · rintro ⟨e, ⟨he, h1⟩, h2⟩
        obtain ⟨j, hj, rfl⟩ := mem_at he
        exact ⟨j, hj, by rw [hF, hg, h1]; rfl, h2⟩
    rw [this]
set_option maxHeartbeats 8000000 in
theorem rpick_any {W : World} {v : Value} {L : List Et} (h : Sl W v L) (hl : L.length ≤ 100) (m : Int) : Calls Try.prog 24 #[.int .i64 m, v] W fun e w' =>
    ∃ v', e = .returned v' ∧ Hid (w'.ownsRow W.heap.size 3 1 v' (pickL m L).length (ivs (pickL m L))) ∧ Nx W w' := by
  obtain ⟨p, cap, rfl, hn, hm⟩ := h.form
  have H := hide h
  have HP := hide (rpicked_any h hl m)
  clear h
  go_enter Try.func24, Try.ntmps24
  go_wp2_with fail
  refine HP.out.mono ?_
  rintro e w1 ⟨g, rfl, hB, hN⟩
  obtain ⟨F, hF⟩ : ∃ F : Nat → Bool, (fun j => goodE m L && runs m L (at' L j)) = F := ⟨_, rfl⟩
  have HB := hide hB.out
  rw [hF] at HB
  have HE : Hid (allI L F 1024 = pickL m L) := hide (allI_pick (fun j => by rw [← hF]))
  have HN := hide hN
  clear hB hN hF HP
  go_wp2
  go_loopw [6, 7, 8] (fun r i _ wr => ∃ n : Nat, n ≤ 1024 ∧ i = .int .i64 (n : Int) ∧ Hid (wr.ownsRow w1.heap.size 3 1 r (allI L F n).length (ivs (allI L F n))) ∧ Hid (Nx w1 wr)) (fun _ i _ _ => 1024 - (intOf i).toNat)
  case atStart => exact ⟨0, by omega, rfl, hide (World.ownsRow_nil _ _ _ _), hide (Nx.refl _)⟩
  case round =>
    obtain ⟨n, hn, rfl, HO, HW⟩ := hrel
    by_cases hn4 : n < 1024
    rotate_left
    · obtain rfl : n = 1024 := by omega
      have FO := HO.out
      rw [HE.out] at FO
      have FO := hide FO
      have FN := hide (Nx.trans HN.out HW.out)
      clear HO HW
      go_wp2
      go_ret
      exact ⟨_, rfl, hide (ownB FO.out HN.out.size), FN.out⟩
    have hn1 : (n : Int) ≤ 1023 := by omega
    have HO0 : Hid (wr.ownsRow w1.heap.size 3 1 u6 (allI L F n ++ rowI L F n 0).length (ivs (allI L F n ++ rowI L F n 0))) := hide (by rw [rowI_zero, List.append_nil]; exact HO.out)
    clear HO
    go_wp2
    go_loopw [6, 8] (fun r j wr => ∃ k : Nat, k ≤ L.length ∧ j = .int .i64 (k : Int) ∧ Hid (wr.ownsRow w1.heap.size 3 1 r (allI L F n ++ rowI L F n k).length (ivs (allI L F n ++ rowI L F n k))) ∧ Hid (Nx w1 wr)) (fun _ j _ => L.length - (intOf j).toNat)
    case atStart => exact ⟨0, by omega, rfl, HO0, HW⟩
    case round =>
      obtain ⟨k, hk, rfl, HO, HW⟩ := hrel
      by_cases hkn : k < L.length
      rotate_left
      · obtain rfl : k = L.length := by omega
        go_wp2
        go_round
        case rel => exact ⟨n + 1, by omega, by go_num, HO, HW⟩
        case measure => simp [intOf]; omega
      have hk1 : (k : Int) < (L.length : Int) := by omega
      have HNW := hide (Nx.trans HN.out HW.out)
      obtain ⟨b, o, rfl, hb, x0, x1, x2⟩ := (H.out.below HNW.out).at hkn
      have y0 := (HB.out.nx HW.out).cell k hkn
      obtain ⟨C0, hC0⟩ : ∃ C0, (at' L k).1 = C0 := ⟨_, rfl⟩
      obtain ⟨p0, c0, rfl⟩ := ownF HO.out
      rw [hC0] at x0
      have hle := part_le L F n (show k ≤ L.length by omega)
      by_cases hit1 : F k = true ∧ C0 = (n : Int)
      · obtain ⟨hFk, hCn⟩ := hit1
        have hr := rowI_y (L := L) (F := F) (i := n) (k := k) (by unfold hit; rw [hFk, hC0, hCn]; simp)
        have hs1 := hide (show (allI L F n ++ rowI L F n (k + 1)).length = (allI L F n ++ rowI L F n k).length + 1 by rw [hr, ← List.append_assoc, List.length_append]; rfl)
        have hs2 := hide (show ivs (allI L F n ++ rowI L F n (k + 1)) = ivs (allI L F n ++ rowI L F n k) ++ [.int .i64 (n : Int)] by rw [hr, ← List.append_assoc, ivs_app]; rfl)
        rw [hFk] at y0
        subst hCn
        have BD := hide HW.out
        have OW := hide HO.out
        clear hr hFk hC0 HNW HW HO
        generalize (allI L F n ++ rowI L F n k).length = N at *
        generalize ivs (allI L F n ++ rowI L F n k) = FL at *
        go_wp2_with (at_builtin; refine wpList_app (w := wr) rfl _ _ 32 rfl #[.int .i64 (n : Int)] rfl rfl rfl Try.underlying32 infoInt rfl (by decide) (by decide) OW.out BD.out.size (by omega) rfl (by intro u hu; simp at hu; subst hu; rfl) ?_; intro p5 c5 w5 HA5; refine Hid.out ?_)
        refine hide ?_
        have HB5 := hide (below_grown BD.out BD.out.size HA5.out.2 (own_past OW.out))
        have HO5 : Hid (w5.ownsRow w1.heap.size 3 1 (.slice p5 (N + 1) c5) (allI L F n ++ rowI L F n (k + 1)).length (ivs (allI L F n ++ rowI L F n (k + 1)))) := hide (by rw [hs1.out, hs2.out]; exact HA5.out.1)
        clear HA5 BD OW hs1 hs2
        go_wp2
        go_roundw
        case rel => exact ⟨k + 1, by omega, by go_num, HO5, HB5⟩
        case measure => simp [intOf]; omega
      · have hr := rowI_n (L := L) (F := F) (i := n) (k := k) (by
          unfold hit; rw [hC0]
          cases e : F k with
          | false => rfl
          | true => have : C0 ≠ (n : Int) := fun h => hit1 ⟨e, h⟩
                    simp [this])
        have HO5 : Hid (wr.ownsRow w1.heap.size 3 1 (.slice p0 (allI L F n ++ rowI L F n k).length c0) (allI L F n ++ rowI L F n (k + 1)).length (ivs (allI L F n ++ rowI L F n (k + 1)))) := hide (by rw [hr]; exact HO.out)
        clear hr HO HNW hC0
        cases hFk : F k with
        | false =>
          rw [hFk] at y0
          clear hFk hit1
          go_wp2
          go_roundw
          case rel => exact ⟨k + 1, by omega, by go_num, HO5, HW⟩
          case measure => simp [intOf]; omega
        | true =>
          rw [hFk] at y0
          have hne : (C0 == (n : Int)) = false := by
            have : C0 ≠ (n : Int) := fun h => hit1 ⟨hFk, h⟩
            simp [this]
          clear hFk hit1
          go_wp2
          go_roundw
          case rel => exact ⟨k + 1, by omega, by go_num, HO5, HW⟩
          case measure => simp [intOf]; omega
end Go.Proofs.Ytacbiiiadalocaa.Ed
