/- The reference's picked. -/
import Derived.Test.YtacbiiiadalocaaEdRa
namespace Go.Proofs.Ytacbiiiadalocaa.Ed
open Go.RowKit Go.Proofs.Ytacbiiiadalocaa.Con
set_option linter.unusedVariables false
set_option linter.unusedSimpArgs false
attribute [local go_sem ↓] Go.wp_at_zero Go.wp_at_succ
theorem infoBool : (Try.prog.info? 4).map (fun i => (i.zero, i.size, i.bytes)) = some (some (.bool false), 1, 1) := by kernel_rfl
def below (L : List Et) (n : Nat) : Nat → Bool := fun j => decide (rank L (at' L j) < n)
theorem ah_rank {L : List Et} (hn : (ids L).Nodup) {n i : Nat} (hi : i < L.length) (hF : below L n i = false) (hm : ∀ j, j < L.length → below L n j = false → bef (at' L j) (at' L i) = false) : rank L (at' L i) = n := by
  have h1 : ¬ rank L (at' L i) < n := of_decide_eq_false hF
  have h2 := rank_lt (at_mem hi)
  have hc := count_rank hn n (by omega)
  have : rank L (at' L i) ≤ L.countP (fun e => decide (rank L e < n)) := count_le fun x hx hb => by
    obtain ⟨j, hj, rfl⟩ := mem_at hx
    cases e : decide (rank L (at' L j) < n) with
    | true => rfl
    | false => have := hm j hj e; rw [this] at hb; cases hb
  omega
theorem below_next {L : List Et} (hn : (ids L).Nodup) {n i : Nat} (hi : i < L.length) (hr : rank L (at' L i) = n) : ∀ j, j < L.length → (if j = i then true else below L n j) = below L (n + 1) j := by
  intro j hj
  by_cases e : j = i
  · subst e; rw [if_pos rfl]; exact (decide_eq_true (by omega)).symm
  · rw [if_neg e]
    have hne : rank L (at' L j) ≠ n := fun h => by
      have := rank_inj hn (at_mem hj) (at_mem hi) (h.trans hr.symm)
      exact nodup_ne hn hj hi e (by rw [this])
    unfold below
    by_cases h1 : rank L (at' L j) < n
    · rw [decide_eq_true h1, decide_eq_true (by omega)]
    · rw [decide_eq_false h1, decide_eq_false (by omega)]
set_option maxHeartbeats 8000000 in
theorem rpicked_any {W : World} {v : Value} {L : List Et} (h : Sl W v L) (hl : L.length ≤ 100) (m : Int) : Calls Try.prog 29 #[.int .i64 m, v] W fun e w' =>
    ∃ g, e = .returned (.slice (some ⟨g, 0, none⟩) L.length L.length) ∧ Hid (Bn w' g L.length (fun j => goodE m L && runs m L (at' L j))) ∧ Nx W w' := by
  obtain ⟨p, cap, rfl, hn, hm⟩ := h.form
  have H := hide h
  have HG := hide (fun w (hN : Nx W w) => rgood_any (h.below hN) hl m)
  have HA := hide (fun w g F (hN : Nx W w) (hB : Bn w g L.length F) => rahead_any (h.below hN) hB L.length)
  clear h
  obtain ⟨ib, hib, hz⟩ := Option.map_eq_some_iff.1 infoBool
  simp only [Prod.mk.injEq] at hz
  obtain ⟨hz0, hz1, hz2⟩ := hz
  obtain ⟨G, hG⟩ : ∃ G : Nat → Bool, (fun j => goodE m L && runs m L (at' L j)) = G := ⟨_, rfl⟩
  rw [hG]
  have HGG : Hid (∀ j, G j = (goodE m L && runs m L (at' L j))) := hide (fun j => by rw [← hG])
  clear hG
  have B0 := hide (Bn.made W L.length)
  have N0 := hide (Nx.alloc W (.cells (madeCells #[.bool false] L.length) 4))
  go_enter Try.func29, Try.ntmps29
  go_wp2_with (refine wpList_make_row _ rfl _ _ 47 rfl 4 ib (.bool false) Try.underlying47 hib hz0 hz1 rfl .i64 .i64 L.length rfl rfl (by rw [hz2]; omega) (by omega) ?_)
  clear hib hz0 hz1 hz2
  generalize W.alloc (.cells (madeCells #[.bool false] L.length) 4) = W2 at *
  obtain ⟨g, hgg⟩ : ∃ g, W.heap.size = g := ⟨_, rfl⟩
  have HGE : Hid (W.heap.size ≤ g) := hide (by omega)
  rw [hgg] at B0
  rw [hgg]
  clear hgg
  cases hg : goodE m L with
  | false =>
    rw [hg] at HG
    have HB : Hid (∀ w : World, Bn w g L.length (fun _ => false) → Bn w g L.length G) := hide (fun w h => h.congr (fun j hj => by rw [HGG.out, hg]; rfl))
    have HGW := hide (HG.out W2 N0.out)
    clear hg
    go_wp2
    go_loopw [6, 7] (fun t _ wr => t = .int .i64 0 ∧ wr = W2) (fun _ _ _ => 0)
    case atStart => exact ⟨rfl, rfl⟩
    case round =>
      obtain ⟨rfl, hw⟩ := hrel
      have hw2 := hw.symm; clear hw; subst hw2
      by_cases h0 : (0 : Int) < m
      · go_wp2_with fail
        refine HGW.out.mono ?_
        rintro e w3 ⟨rfl, hb⟩
        have HB3 := hide (HB.out _ (B0.out.nx hb))
        have N3 := hide (Nx.trans N0.out hb)
        clear hb
        go_wp2
        go_ret
        exact ⟨g, rfl, HB3, N3.out⟩
      · have h0' : decide ((0 : Int) < m) = false := decide_eq_false h0
        have HB3 := hide (HB.out _ B0.out)
        go_wp2
        go_ret
        exact ⟨g, rfl, HB3, N0.out⟩
  | true =>
    rw [hg] at HG
    obtain ⟨⟨m1, m2⟩, _, _, hnd, _⟩ := good_iff.1 hg
    have HND := hide hnd
    have HF0 : Hid (Bn W2 g L.length (below L 0)) := hide (B0.out.congr (fun j hj => (decide_eq_false (by omega)).symm))
    have HFm : Hid (∀ (w : World) (n : Nat), (n : Int) = m → Bn w g L.length (below L n) → Bn w g L.length G) := hide (fun w n hn h => h.congr (fun j hj => by rw [HGG.out, hg]; unfold below runs; rw [Bool.true_and]; exact decide_eq_decide.2 (by omega)))
    have HFa : Hid (∀ (w : World) (n : Nat), (n : Int) < m → (∀ j, j < L.length → below L n j = true) → Bn w g L.length (below L n) → Bn w g L.length G) := hide (fun w n hn ha h => h.congr (fun j hj => by
      rw [HGG.out, hg]
      have := ha j hj
      rw [this]
      have h2 : rank L (at' L j) < n := of_decide_eq_true this
      exact (decide_eq_true (by omega)).symm))
    clear hg hnd B0
    go_wp2
    go_loopw [6, 7] (fun t _ wr => ∃ n : Nat, t = .int .i64 (n : Int) ∧ (n : Int) ≤ m ∧ Hid (Bn wr g L.length (below L n)) ∧ Hid (Nx W wr)) (fun t _ _ => (m - intOf t).toNat)
    case atStart => exact ⟨0, rfl, by omega, HF0, N0⟩
    case round =>
      obtain ⟨n, rfl, hnm, HB, HN⟩ := hrel
      by_cases h0 : (n : Int) < m
      rotate_left
      · have h0' : decide ((n : Int) < m) = false := decide_eq_false h0
        have HB3 := hide (HFm.out _ n (by omega) HB.out)
        go_wp2
        go_ret
        exact ⟨g, rfl, HB3, HN.out⟩
      have h0' : decide ((n : Int) < m) = true := decide_eq_true h0
      have HGW := hide (HG.out wr HN.out)
      go_wp2_with fail
      refine HGW.out.mono ?_
      rintro e w3 ⟨rfl, hb⟩
      have HB3 := hide (HB.out.nx hb)
      have N3 := hide (Nx.trans HN.out hb)
      clear hb HB HN HGW
      have HAW := hide (HA.out w3 g _ N3.out HB3.out)
      go_wp2_with fail
      refine HAW.out.mono ?_
      rintro e w4 ⟨r, rfl, hAh, hb⟩
      have HB4 := hide (HB3.out.nx hb)
      have N4 := hide (Nx.trans N3.out hb)
      have HAh := hide hAh.out
      clear hb HB3 N3 HAW hAh
      rcases HAh.out with ⟨rfl, hall⟩ | ⟨i, rfl, hi, hFi, hmin⟩
      · have HB5 := hide (HFa.out _ n h0 hall HB4.out)
        clear HAh hall
        go_wp2
        go_ret
        exact ⟨g, rfl, HB5, N4.out⟩
      · have hrk := ah_rank HND.out hi hFi hmin
        have HB5 := hide ((HB4.out.set i hi true).congr (below_next HND.out hi hrk))
        have N5 := hide (N4.out.setCell (p := ⟨g, i, none⟩) HGE.out (.bool true))
        have hi1 : (i : Int) < (L.length : Int) := by omega
        have hi0 : decide ((i : Int) < 0) = false := decide_eq_false (by omega)
        have c0 := HB4.out.cell i hi
        have c1 := HB4.out.frozen i
        have m3 : (n : Int) ≤ 64 := by omega
        clear HAh hmin hFi hrk HB4 N4
        go_wp2
        go_round
        case rel => exact ⟨n + 1, by go_num, by omega, HB5, N5⟩
        case measure => simp [intOf]; omega
end Go.Proofs.Ytacbiiiadalocaa.Ed
