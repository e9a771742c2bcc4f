/- The reference's entries: EntLess, GoodEnts. -/
import Derived.Test.YtacbiiiadalocaaEdPm
import Derived.Test.YtacbiiiadalocaaEdSl
import Derived.Deep.RegionHeld3
import Derived.Deep.DrawnRows
namespace Go.Proofs.Ytacbiiiadalocaa.Ed
open Go.RowKit Go.Proofs.Ytacbiiiadalocaa.Con
set_option linter.unusedVariables false
set_option linter.unusedSimpArgs false
attribute [local go_sem ↓] Go.wp_at_zero Go.wp_at_succ
theorem bel2 {W : World} (o p : Obj) : Below W.heap.size W ((W.alloc o).alloc p) := (bel1 o).alloc (by simp) p
set_option maxHeartbeats 2000000 in
theorem rless_any (a b : Et) (W : World) : Calls Try.prog 22 #[ev a, ev b] W fun e w' => e = .returned (.bool (lessB a b)) ∧ Nx W w' := by
  obtain ⟨a0, a1, a2⟩ := a
  obtain ⟨b0, b1, b2⟩ := b
  have HB := hide (bel2 (W := W) (.cells #[.int .i64 a0, .int .i64 a1, .bool a2] 37) (.cells #[.int .i64 b0, .int .i64 b1, .bool b2] 37))
  by_cases h : a1 = b1
  · have FE : Hid (lessB (a0, a1, a2) (b0, b1, b2) = decide (a0 < b0)) := hide (by unfold lessB; simp [h])
    subst h
    go_enter Try.func22, Try.ntmps22
    go_wp2
    go_ret
    exact ⟨by rw [FE.out]; rfl, HB.out⟩
  · have FE : Hid (lessB (a0, a1, a2) (b0, b1, b2) = decide (a1 < b1)) := hide (by unfold lessB; simp [h])
    have h' : (a1 == b1) = false := by simp [h]
    have h2 : (a1 != b1) = true := by simp [h]
    go_enter Try.func22, Try.ntmps22
    go_wp2
    go_ret
    exact ⟨by rw [FE.out]; rfl, HB.out⟩
theorem good_bad_id {m : Int} {L : List Et} {k : Nat} (hk : k < L.length) (h : ¬ (0 ≤ (at' L k).1 ∧ (at' L k).1 ≤ 1023)) : goodE m L = false := by
  cases e : goodE m L with
  | false => rfl
  | true => exact absurd ((good_iff.1 e).2.2.1 _ (at_mem hk)) h
theorem good_dup {m : Int} {L : List Et} {i k : Nat} (hk : k < L.length) (hi : i < k) (h : (at' L i).1 = (at' L k).1) : goodE m L = false := by
  cases e : goodE m L with
  | false => rfl
  | true => exact absurd h (nodup_ne (good_iff.1 e).2.2.2.1 (by omega) hk (by omega))
theorem good_end {m : Int} {L : List Et} (h1 : ∀ k, k < L.length → 0 ≤ (at' L k).1 ∧ (at' L k).1 ≤ 1023) (h2 : ∀ i k, i < k → k < L.length → (at' L i).1 ≠ (at' L k).1) :
    goodE m L = decide ((1 ≤ m ∧ m ≤ 64) ∧ (L.length : Int) ≤ 64 ∧ (fixN L : Int) ≤ m) := by
  have hn : (ids L).Nodup := List.pairwise_iff_getElem.2 fun i j hi hj hij => by
    unfold ids at hi hj
    simp only [List.length_map] at hi hj
    unfold ids
    simp only [List.getElem_map]
    have a := at_eq hi
    have b := at_eq hj
    rw [List.getElem?_eq_getElem hi] at a
    rw [List.getElem?_eq_getElem hj] at b
    rw [Option.some.inj a, Option.some.inj b]
    exact h2 i j hij hj
  rw [Bool.eq_iff_iff, good_iff, decide_eq_true_iff]
  constructor
  · rintro ⟨a, b, _, _, c⟩; exact ⟨a, by omega, c⟩
  · rintro ⟨a, b, c⟩
    exact ⟨a, by omega, fun e he => by obtain ⟨k, hk, rfl⟩ := mem_at he; exact h1 k hk, hn, c⟩
theorem fix_snoc (L : List Et) (k : Nat) (h : k < L.length) : fixN (L.take (k + 1)) = fixN (L.take k) + if (at' L k).2.2 = true then 1 else 0 := by
  unfold fixN; rw [take_snoc L k h, List.countP_append, List.countP_singleton]
set_option maxHeartbeats 8000000 in
theorem rgood_any {W : World} {v : Value} {L : List Et} (h : Sl W v L) (hl : L.length ≤ 100) (m : Int) : Calls Try.prog 23 #[.int .i64 m, v] W fun e w' => e = .returned (.bool (goodE m L)) ∧ Nx W w' := by
  obtain ⟨p, cap, rfl, hn, hm⟩ := h.form
  have H := hide h
  clear h
  have HI : Hid (∀ k, k < L.length → ¬ (0 ≤ (at' L k).1 ∧ (at' L k).1 ≤ 1023) → goodE m L = false) := hide (fun k hk h => good_bad_id hk h)
  have HD : Hid (∀ i k, i < k → k < L.length → (at' L i).1 = (at' L k).1 → goodE m L = false) := hide (fun i k hi hk h => good_dup hk hi h)
  have HE : Hid ((∀ k, k < L.length → 0 ≤ (at' L k).1 ∧ (at' L k).1 ≤ 1023) → (∀ i k, i < k → k < L.length → (at' L i).1 ≠ (at' L k).1) → goodE m L = decide ((1 ≤ m ∧ m ≤ 64) ∧ (L.length : Int) ≤ 64 ∧ (fixN (L.take L.length) : Int) ≤ m)) := hide (fun h1 h2 => by rw [List.take_length]; exact good_end h1 h2)
  have HF := hide (fun k hk => fix_snoc L k hk)
  have HFb : Hid (∀ k, fixN (L.take k) ≤ 100) := hide (fun k => Nat.le_trans List.countP_le_length (by simp; omega))
  go_enter Try.func23, Try.ntmps23
  go_wp2
  go_loopw [5, 6, 7] (fun f i _ wr => ∃ k : Nat, k ≤ L.length ∧ i = .int .i64 (k : Int) ∧ f = .int .i64 ((fixN (L.take k) : Nat) : Int) ∧ Hid (∀ j, j < k → 0 ≤ (at' L j).1 ∧ (at' L j).1 ≤ 1023) ∧ Hid (∀ i j, i < j → j < k → (at' L i).1 ≠ (at' L j).1) ∧ Hid (Nx W wr)) (fun _ i _ _ => L.length - (intOf i).toNat)
  case atStart => exact ⟨0, by omega, rfl, rfl, hide (fun j hj => by omega), hide (fun i j hij hj => by omega), hide (Nx.refl _)⟩
  case round =>
    obtain ⟨k, hk, rfl, rfl, H1, H2, HN⟩ := hrel
    by_cases hkn : k < L.length
    · have hk1 : (k : Int) < (L.length : Int) := by omega
      have hf := HF.out k hkn
      have hfb := HFb.out k
      obtain ⟨b, o, rfl, hb, x0, x1, x2⟩ := (H.out.below HN.out).at hkn
      obtain ⟨K0, hK0⟩ : ∃ K0, (at' L k).1 = K0 := ⟨_, rfl⟩
      obtain ⟨K2, hK2⟩ : ∃ K2, (at' L k).2.2 = K2 := ⟨_, rfl⟩
      rw [hK0] at x0
      rw [hK2] at x2 hf
      have HK0 := hide hK0
      clear hK0 hK2
      by_cases h0 : 0 ≤ K0
      rotate_left
      · have FE := hide (HI.out k hkn (by rw [HK0.out]; omega))
        go_wp2
        go_ret
        exact ⟨by rw [FE.out]; rfl, HN.out⟩
      by_cases h3 : K0 ≤ 1023
      rotate_left
      · have FE := hide (HI.out k hkn (by rw [HK0.out]; omega))
        go_wp2
        go_ret
        exact ⟨by rw [FE.out]; rfl, HN.out⟩
      have H1' : Hid (∀ j, j < k + 1 → 0 ≤ (at' L j).1 ∧ (at' L j).1 ≤ 1023) := hide (fun j hj => by
        rcases Nat.lt_or_ge j k with g | g
        · exact H1.out j g
        · obtain rfl : j = k := by omega
          rw [HK0.out]; exact ⟨h0, h3⟩)
      clear H1
      cases K2 with
      | true =>
        rw [if_pos rfl] at hf
        have hf := hide hf
        go_wp2
        go_loopw [7] (fun j wr => ∃ c : Nat, c ≤ k ∧ j = .int .i64 (c : Int) ∧ Hid (∀ i, i < c → (at' L i).1 ≠ K0) ∧ Hid (Nx W wr)) (fun j _ => k - (intOf j).toNat)
        case atStart => exact ⟨0, by omega, rfl, hide (fun i hi => by omega), HN⟩
        case round =>
          obtain ⟨c, hc, rfl, H3, HN⟩ := hrel
          by_cases hck : c < k
          · have hc1 : (c : Int) < (k : Int) := by omega
            have hc2 : (c : Int) < (L.length : Int) := by omega
            obtain ⟨b', o', e', _, ⟨y0, _, _⟩, ⟨x0, _, _⟩⟩ := (H.out.below HN.out).two (show c < L.length by omega) hkn
            simp only [Option.some.injEq, Addr.mk.injEq, and_true] at e'
            obtain ⟨rfl, rfl⟩ := e'
            rw [HK0.out] at x0
            obtain ⟨C0, hC0⟩ : ∃ C0, (at' L c).1 = C0 := ⟨_, rfl⟩
            rw [hC0] at y0
            have HN' : Hid (∀ n, Nx W (wr.drewN n)) := hide (fun n => bel_drewN HN.out n)
            by_cases he : C0 = K0
            · have FE := hide (HD.out c k hck hkn (by rw [hC0, he, HK0.out]))
              subst he
              clear hC0 HK0 H3
              go_wp2
              go_quiet (fail)
              go_wp2
              go_ret
              exact ⟨by rw [FE.out]; rfl, HN'.out _⟩
            · have H3' : Hid (∀ i, i < c + 1 → (at' L i).1 ≠ K0) := hide (fun i hi => by
                rcases Nat.lt_or_ge i c with g | g
                · exact H3.out i g
                · obtain rfl : i = c := by omega
                  rw [hC0]; exact he)
              have he' : (C0 == K0) = false := by simp [he]
              clear hC0 H3
              go_wp2
              go_quiet (fail)
              go_wp2
              go_round
              case rel => exact ⟨c + 1, by omega, by go_num, H3', hide (HN'.out _)⟩
              case measure => simp [intOf]; omega
          · obtain rfl : c = k := by omega
            have H2' : Hid (∀ i j, i < j → j < c + 1 → (at' L i).1 ≠ (at' L j).1) := hide (fun i j hij hj => by
              rcases Nat.lt_or_ge j c with g | g
              · exact H2.out i j hij g
              · obtain rfl : j = c := by omega
                rw [HK0.out]; exact H3.out i hij)
            go_wp2
            go_round
            case rel => exact ⟨c + 1, by omega, by go_num, by rw [hf.out]; go_num, H1', H2', HN⟩
            case measure => simp [intOf]; omega
      | false =>
        rw [if_neg (by decide), Nat.add_zero] at hf
        have hf := hide hf
        go_wp2
        go_loopw [7] (fun j wr => ∃ c : Nat, c ≤ k ∧ j = .int .i64 (c : Int) ∧ Hid (∀ i, i < c → (at' L i).1 ≠ K0) ∧ Hid (Nx W wr)) (fun j _ => k - (intOf j).toNat)
        case atStart => exact ⟨0, by omega, rfl, hide (fun i hi => by omega), HN⟩
        case round =>
          obtain ⟨c, hc, rfl, H3, HN⟩ := hrel
          by_cases hck : c < k
          · have hc1 : (c : Int) < (k : Int) := by omega
            have hc2 : (c : Int) < (L.length : Int) := by omega
            obtain ⟨b', o', e', _, ⟨y0, _, _⟩, ⟨x0, _, _⟩⟩ := (H.out.below HN.out).two (show c < L.length by omega) hkn
            simp only [Option.some.injEq, Addr.mk.injEq, and_true] at e'
            obtain ⟨rfl, rfl⟩ := e'
            rw [HK0.out] at x0
            obtain ⟨C0, hC0⟩ : ∃ C0, (at' L c).1 = C0 := ⟨_, rfl⟩
            rw [hC0] at y0
            have HN' : Hid (∀ n, Nx W (wr.drewN n)) := hide (fun n => bel_drewN HN.out n)
            by_cases he : C0 = K0
            · have FE := hide (HD.out c k hck hkn (by rw [hC0, he, HK0.out]))
              subst he
              clear hC0 HK0 H3
              go_wp2
              go_quiet (fail)
              go_wp2
              go_ret
              exact ⟨by rw [FE.out]; rfl, HN'.out _⟩
            · have H3' : Hid (∀ i, i < c + 1 → (at' L i).1 ≠ K0) := hide (fun i hi => by
                rcases Nat.lt_or_ge i c with g | g
                · exact H3.out i g
                · obtain rfl : i = c := by omega
                  rw [hC0]; exact he)
              have he' : (C0 == K0) = false := by simp [he]
              clear hC0 H3
              go_wp2
              go_quiet (fail)
              go_wp2
              go_round
              case rel => exact ⟨c + 1, by omega, by go_num, H3', hide (HN'.out _)⟩
              case measure => simp [intOf]; omega
          · obtain rfl : c = k := by omega
            have H2' : Hid (∀ i j, i < j → j < c + 1 → (at' L i).1 ≠ (at' L j).1) := hide (fun i j hij hj => by
              rcases Nat.lt_or_ge j c with g | g
              · exact H2.out i j hij g
              · obtain rfl : j = c := by omega
                rw [HK0.out]; exact H3.out i hij)
            go_wp2
            go_round
            case rel => exact ⟨c + 1, by omega, by go_num, (by rw [hf.out]; rfl), H1', H2', HN⟩
            case measure => simp [intOf]; omega
    · obtain rfl : k = L.length := by omega
      have FE := hide (HE.out H1.out H2.out)
      have hfb := HFb.out L.length
      generalize fixN (L.take L.length) = fx at *
      by_cases m1 : 1 ≤ m
      rotate_left
      · have FE2 := hide (FE.out.trans (decide_eq_false (by omega)))
        go_wp2
        go_ret
        exact ⟨by rw [FE2.out]; rfl, HN.out⟩
      by_cases m2 : m ≤ 64
      rotate_left
      · have FE2 := hide (FE.out.trans (decide_eq_false (by omega)))
        go_wp2
        go_ret
        exact ⟨by rw [FE2.out]; rfl, HN.out⟩
      by_cases m3 : (L.length : Int) ≤ 64
      rotate_left
      · have FE2 := hide (FE.out.trans (decide_eq_false (by omega)))
        go_wp2
        go_ret
        exact ⟨by rw [FE2.out]; rfl, HN.out⟩
      by_cases m4 : (fx : Int) ≤ m
      rotate_left
      · have FE2 := hide (FE.out.trans (decide_eq_false (by omega)))
        go_wp2
        go_ret
        exact ⟨by rw [FE2.out]; rfl, HN.out⟩
      have FE2 := hide (FE.out.trans (decide_eq_true (by omega)))
      go_wp2
      go_ret
      exact ⟨by rw [FE2.out]; rfl, HN.out⟩
end Go.Proofs.Ytacbiiiadalocaa.Ed
