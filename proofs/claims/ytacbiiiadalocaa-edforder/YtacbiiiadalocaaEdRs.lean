/- The reference's in, First. -/
import Derived.Test.YtacbiiiadalocaaEdRq
namespace Go.Proofs.Ytacbiiiadalocaa.Ed
open Go.RowKit Go.Proofs.Ytacbiiiadalocaa.Con
set_option linter.unusedVariables false
set_option linter.unusedSimpArgs false
attribute [local go_sem ↓] Go.wp_at_zero Go.wp_at_succ
theorem getD_mem {l : List Int} {k : Nat} (h : k < l.length) : l.getD k 0 ∈ l := by
  rw [List.getD_eq_getElem?_getD, List.getElem?_eq_getElem h]; exact List.getElem_mem h
theorem mem_getD {l : List Int} {x : Int} (h : x ∈ l) : ∃ k, k < l.length ∧ l.getD k 0 = x := by
  obtain ⟨k, hk, rfl⟩ := List.mem_iff_getElem.1 h
  exact ⟨k, hk, by rw [List.getD_eq_getElem?_getD, List.getElem?_eq_getElem hk]; rfl⟩
set_option maxHeartbeats 4000000 in
theorem rin_any {W : World} {v : Value} {l : List Int} (h : Is W v l) (x : Int) : Calls Try.prog 31 #[v, .int .i64 x] W fun e w' => e = .returned (.bool (decide (x ∈ l))) ∧ Nx W w' := by
  obtain ⟨p, cap, rfl, hn, hm⟩ := h.form
  have hmx : (l.length : Int) ≤ 9223372036854775807 := by unfold maxLen at hm; omega
  have H := hide h
  clear h
  have HY : Hid (∀ k, k < l.length → l.getD k 0 = x → decide (x ∈ l) = true) := hide (fun k hk e => decide_eq_true (by rw [← e]; exact getD_mem hk))
  have HX : Hid ((∀ k, k < l.length → l.getD k 0 ≠ x) → decide (x ∈ l) = false) := hide (fun h => decide_eq_false fun hx => by
    obtain ⟨k, hk, e⟩ := mem_getD hx
    exact h k hk e)
  go_enter Try.func31, Try.ntmps31
  go_wp2
  go_loopw [5] (fun i wr => ∃ k : Nat, k ≤ l.length ∧ i = .int .i64 (k : Int) ∧ Hid (∀ j, j < k → l.getD j 0 ≠ x) ∧ Hid (Nx W wr)) (fun i _ => l.length - (intOf i).toNat)
  case atStart => exact ⟨0, by omega, rfl, hide (fun j hj => by omega), hide (Nx.refl _)⟩
  case round =>
    obtain ⟨k, hk, rfl, HR, HN⟩ := hrel
    by_cases hkn : k < l.length
    rotate_left
    · obtain rfl : k = l.length := by omega
      have FE := hide (HX.out HR.out)
      go_wp2
      go_ret
      exact ⟨by rw [FE.out]; rfl, HN.out⟩
    have hk1 : (k : Int) < (l.length : Int) := by omega
    obtain ⟨b, o, rfl, hb, x0⟩ := (H.out.below HN.out).at hkn
    by_cases he : l.getD k 0 = x
    · have FE := hide (HY.out k hkn he)
      rw [he] at x0
      clear HR he
      go_wp2
      go_ret
      exact ⟨by rw [FE.out]; rfl, HN.out⟩
    · have HR2 : Hid (∀ j, j < k + 1 → l.getD j 0 ≠ x) := hide (fun j hj => by
        rcases Nat.lt_or_ge j k with g | g
        · exact HR.out j g
        · obtain rfl : j = k := by omega
          exact he)
      clear HR
      generalize l.getD k 0 = c at *
      have he' : (c == x) = false := by simp [he]
      go_wp2
      go_round
      case rel => exact ⟨k + 1, by omega, by go_num, HR2, HN⟩
      case measure => simp [intOf]; omega
theorem first_none {m : Int} {L : List Et} {F : Nat → Bool} (hF : ∀ j, F j = (goodE m L && runs m L (at' L j))) (hg : goodE m L = true) (h : ∀ j, j < L.length → F j = true) : firstO m L = none := by
  unfold firstO
  rw [if_pos hg]
  refine head_none fun e he => ?_
  obtain ⟨j, hj, rfl⟩ := mem_at he
  have := h j hj
  rw [hF, hg, Bool.true_and] at this
  rw [this]; rfl
theorem first_some {m : Int} {L : List Et} {F : Nat → Bool} (hF : ∀ j, F j = (goodE m L && runs m L (at' L j))) (hg : goodE m L = true) {i : Nat} (hi : i < L.length) (hFi : F i = false) (hm : ∀ j, j < L.length → F j = false → bef (at' L j) (at' L i) = false) : firstO m L = some (at' L i) := by
  have fr : ∀ j, j < L.length → F j = false → (at' L j).2.2 = false := fun j hj hFj => by
    rw [hF, hg, Bool.true_and] at hFj
    cases e : (at' L j).2.2 with
    | false => rfl
    | true => rw [fixed_runs hg (at_mem hj) e] at hFj; cases hFj
  have hri : runs m L (at' L i) = false := by have := hFi; rw [hF, hg, Bool.true_and] at this; exact this
  unfold firstO
  rw [if_pos hg]
  refine head_eq (good_iff.1 hg).2.2.2.1 (at_mem hi) (by rw [hri]; rfl) fun x hx hp => ?_
  obtain ⟨j, hj, rfl⟩ := mem_at hx
  have hFj : F j = false := by rw [hF, hg, Bool.true_and]; simpa using hp
  have := hm j hj hFj
  rwa [bef_free (fr j hj hFj) (fr i hi hFi)] at this
theorem first_bad {m : Int} {L : List Et} (hg : goodE m L = false) : firstO m L = none := if_neg (by rw [hg]; decide)
theorem row3 {w : World} {g e : Nat} {x y z : Value} {fr : Nat × Nat} (h : w.heap[g]? = some (.cells #[x, y, z] e fr)) : w.cell? ⟨g, 0, none⟩ = some x ∧ w.cell? ⟨g, 1, none⟩ = some y ∧ w.cell? ⟨g, 2, none⟩ = some z :=
  ⟨(cell_of_row w g 0 _ e _ h).trans rfl, (cell_of_row w g 1 _ e _ h).trans rfl, (cell_of_row w g 2 _ e _ h).trans rfl⟩
theorem row_free {w : World} {g e : Nat} {cs : Array Value} (h : w.heap[g]? = some (.cells cs e (0, 0))) (j : Nat) : w.frozen? ⟨g, j, none⟩ = false := by simp [World.frozen?, h]
theorem row_nx {w w' : World} {g : Nat} {o : Obj} (h : w.heap[g]? = some o) (hB : Nx w w') : w'.heap[g]? = some o := (hB.block g (Array.getElem?_eq_some_iff.1 h).1).trans h
set_option maxHeartbeats 8000000 in
theorem rfirst_any {W : World} {v : Value} {L : List Et} (h : Sl W v L) (hl : L.length ≤ 100) (m : Int) : Calls Try.prog 18 #[.int .i64 m, v] W fun e w' =>
    e = .returned (.tuple #[ev (val (firstO m L)), .bool (firstO m L).isSome]) ∧ Nx W w' := by
  obtain ⟨p, cap, rfl, hn, hm⟩ := h.form
  have H := hide h
  have N0 := hide (Nx.alloc W (.cells #[.int .i64 0, .int .i64 0, .bool false] 37))
  have R0 := hide (heap_alloc_new W (.cells #[.int .i64 0, .int .i64 0, .bool false] 37))
  have HG := hide (fun w (hN : Nx W w) => rgood_any (h.below hN) hl m)
  have HP := hide (fun w (hN : Nx W w) => rpicked_any (h.below hN) hl m)
  have HA := hide (fun w g F (hN : Nx W w) (hB : Bn w g L.length F) => rahead_any (h.below hN) hB L.length)
  clear h
  obtain ⟨g, hgg⟩ : ∃ g, W.heap.size = g := ⟨_, rfl⟩
  have HGE : Hid (W.heap.size ≤ g) := hide (by omega)
  go_enter Try.func18, Try.ntmps18
  go_wp2_with fail
  refine (HG.out _ N0.out).mono ?_
  rintro e w1 ⟨rfl, hb⟩
  rw [hgg] at R0
  (try rw [hgg])
  have R1 := hide (row_nx R0.out hb)
  have N1 := hide (Nx.trans N0.out hb)
  clear hb R0 N0 hgg
  cases hg : goodE m L with
  | false =>
    have E := hide (first_bad hg)
    obtain ⟨c0, c1, c2⟩ := row3 R1.out
    have z0 := row_free R1.out 0
    have z1 := row_free R1.out 1
    have z2 := row_free R1.out 2
    clear hg
    go_wp2
    (try simp only [Exit.inBlock, Exit.then])
    refine bodyPost_ret (v := .tuple #[.agg #[.int .i64 0, .int .i64 0, .bool false], .bool false]) ?_ rfl ⟨by rw [E.out]; first | done | rfl, ?_⟩
    · rw [results_cell_tmp rfl]; go_simp
    · repeat (first | (with_reducible exact N1.out) | refine Below.setCell ?_ HGE.out _)
  | true =>
    have HFN := hide (fun F hF h => first_none (m := m) (L := L) (F := F) hF hg h)
    have HFS := hide (fun F hF i hi h1 h2 => first_some (m := m) (L := L) (F := F) hF hg (i := i) hi h1 h2)
    clear hg
    go_wp2_with fail
    refine (HP.out _ N1.out).mono ?_
    rintro e w2 ⟨g2, rfl, hB, hb⟩
    obtain ⟨F, hF⟩ : ∃ F : Nat → Bool, (fun j => goodE m L && runs m L (at' L j)) = F := ⟨_, rfl⟩
    have HB := hide hB.out
    rw [hF] at HB
    have HFF : Hid (∀ j, F j = (goodE m L && runs m L (at' L j))) := hide (fun j => by rw [← hF])
    have R2 := hide (row_nx R1.out hb)
    have N2 := hide (Nx.trans N1.out hb)
    clear hb hB hF R1 N1
    go_wp2_with fail
    refine (HA.out _ _ _ N2.out HB.out).mono ?_
    rintro e w3 ⟨r, rfl, hAh, hb⟩
    have HAh := hide hAh.out
    have R3 := hide (row_nx R2.out hb)
    have N3 := hide (Nx.trans N2.out hb)
    clear hb hAh R2 N2 HB
    obtain ⟨c0, c1, c2⟩ := row3 R3.out
    have z0 := row_free R3.out 0
    have z1 := row_free R3.out 1
    have z2 := row_free R3.out 2
    rcases HAh.out with ⟨rfl, hall⟩ | ⟨i, rfl, hi, hFi, hmin⟩
    · have E := hide (HFN.out F HFF.out hall)
      clear HAh hall
      go_wp2
      (try simp only [Exit.inBlock, Exit.then])
      refine bodyPost_ret (v := .tuple #[.agg #[.int .i64 0, .int .i64 0, .bool false], .bool false]) ?_ rfl ⟨by rw [E.out]; first | done | rfl, ?_⟩
      · rw [results_cell_tmp rfl]; go_simp
      · repeat (first | (with_reducible exact N3.out) | refine Below.setCell ?_ HGE.out _)
    · have E := hide (HFS.out F HFF.out i hi hFi hmin)
      obtain ⟨b, o, rfl, hb, x0, x1, x2⟩ := (H.out.below N3.out).at hi
      have hi1 : (i : Int) < (L.length : Int) := by omega
      have hi0 : decide ((i : Int) < 0) = false := decide_eq_false (by omega)
      have EV : Hid (ev (val (firstO m L)) = .agg #[.int .i64 (at' L i).1, .int .i64 (at' L i).2.1, .bool (at' L i).2.2] ∧ (firstO m L).isSome = true) := hide (by rw [E.out]; exact ⟨rfl, rfl⟩)
      clear HAh hFi hmin E
      generalize (at' L i).1 = y0 at *
      generalize (at' L i).2.1 = y1 at *
      generalize (at' L i).2.2 = y2 at *
      go_wp2
      (try simp only [Exit.inBlock, Exit.then])
      refine bodyPost_ret (v := .tuple #[.agg #[.int .i64 y0, .int .i64 y1, .bool y2], .bool true]) ?_ rfl ⟨by rw [EV.out.1, EV.out.2]; first | done | rfl, ?_⟩
      · rw [results_cell_tmp rfl]; go_simp
      · repeat (first | (with_reducible exact N3.out) | refine Below.setCell ?_ HGE.out _)
end Go.Proofs.Ytacbiiiadalocaa.Ed
