/- Good: what the landed code answers. -/
import Derived.Test.YtacbiiiadalocaaEdC1
namespace Go.Proofs.Ytacbiiiadalocaa.Ed
open Go.RowKit Go.Proofs.Ytacbiiiadalocaa.Con
set_option linter.unusedVariables false
set_option linter.unusedSimpArgs false
attribute [local go_sem ↓] Go.wp_at_zero Go.wp_at_succ
def Sn (W : World) (g N : Nat) (F : Nat → Bool) : Prop := W.heap[g]? = some (.cells (bf N F) 53 (0, 0))
theorem zeros_eq (N : Nat) (h : Try.zeroCells53 = Array.replicate N (.bool false)) : Try.zeroCells53 = bf N (fun _ => false) := by
  rw [h]
  exact bf_ext (by simp) fun j hj => by simp [hj]
theorem Sn.new (W : World) : ∃ N, N = 1024 ∧ Sn (W.alloc (.cells Try.zeroCells53 53)) W.heap.size N (fun _ => false) := by
  have h : ∃ N, N = 1024 ∧ Try.zeroCells53 = Array.replicate N (.bool false) := ⟨1024, rfl, by kernel_rfl⟩
  obtain ⟨N, hN, h⟩ := h
  refine ⟨N, hN, ?_⟩
  rw [zeros_eq N h]; exact heap_alloc_new W _
section
variable {W W' : World} {g N : Nat} {F G : Nat → Bool}
theorem Sn.lt (h : Sn W g N F) : g < W.heap.size := (Array.getElem?_eq_some_iff.1 h).1
theorem Sn.cell (h : Sn W g N F) (j : Nat) (hj : j < N) : W.cell? ⟨g, j, none⟩ = some (.bool (F j)) := by
  rw [cell_of_row W g j _ _ _ h, bf_get N F j hj]
theorem Sn.frozen (h : Sn W g N F) (j : Nat) : W.frozen? ⟨g, j, none⟩ = false := by
  unfold Sn at h
  simp [World.frozen?, h]
theorem Sn.congr (h : Sn W g N F) (hf : ∀ j, j < N → F j = G j) : Sn W g N G := by
  unfold Sn at h ⊢
  rw [h]; congr 2; exact bf_ext (bf_size N F) fun j hj => by rw [bf_get N F j hj, hf j hj]
theorem Sn.set (h : Sn W g N F) (k : Nat) (hk : k < N) (v : Bool) : Sn (W.setCell ⟨g, k, none⟩ (.bool v)) g N (fun j => if j = k then v else F j) := by
  have := heap_setCell_same W g k _ _ (.bool v) h
  unfold Sn
  rw [this]
  congr 2
  apply bf_ext
  · simp [bf_size]
  · intro j hj
    by_cases e : j = k
    · subst e
      simp [bf_size, hj]
    · rw [Array.getElem?_setIfInBounds_ne (by omega), bf_get N F j hj]; simp [e]
theorem Sn.nx (h : Sn W g N F) (hB : Nx W W') : Sn W' g N F := (hB.block g h.lt).trans h
end
theorem nx_set {V W : World} (h : Nx V W) {g k : Nat} (hg : V.heap.size ≤ g) (v : Value) : Nx V (W.setCell ⟨g, k, none⟩ v) :=
  Below.trans h ⟨rfl, rfl, rfl, by simp [World.setCell], fun j hj => heap_setCell_other _ ⟨g, k, none⟩ j _ (fun e => by have : g = j := e.symm ▸ rfl; omega)⟩
/-- Who has been met. -/
def seen (L : List Et) (k j : Nat) : Bool := (L.take k).any (fun e => e.1 == (j : Int))
theorem seen_0 (L : List Et) (j : Nat) : seen L 0 j = false := rfl
theorem seen_y {L : List Et} {k n : Nat} (h : seen L k n = true) : ∃ i, i < k ∧ i < L.length ∧ (at' L i).1 = (n : Int) := by
  unfold seen at h
  rw [List.any_eq_true] at h
  obtain ⟨e, he, h1⟩ := h
  obtain ⟨i, hi, rfl⟩ := mem_at he
  simp only [List.length_take] at hi
  rw [at_take (by omega)] at h1
  exact ⟨i, by omega, by omega, by simpa using h1⟩
theorem seen_n {L : List Et} {k n : Nat} (h : seen L k n = false) : ∀ i, i < k → i < L.length → (at' L i).1 ≠ (n : Int) := by
  intro i hi hl e
  unfold seen at h
  rw [List.any_eq_false] at h
  have := h (at' (L.take k) i) (at_mem (by simp; omega))
  rw [at_take hi, e] at this
  simp at this
theorem seen_snoc {L : List Et} {k n : Nat} (hk : k < L.length) (h : (at' L k).1 = (n : Int)) : ∀ j, (if j = n then true else seen L k j) = seen L (k + 1) j := by
  intro j
  unfold seen
  rw [take_snoc L k hk, List.any_append, List.any_cons, List.any_nil, Bool.or_false, h]
  by_cases e : j = n
  · subst e; rw [if_pos rfl]; simp
  · rw [if_neg e]
    have : ((n : Int) == (j : Int)) = false := by simp; omega
    rw [this, Bool.or_false]
set_option maxHeartbeats 8000000 in
set_option maxRecDepth 100000 in
theorem goodC : GoodC := by
  intro m L v W h hl
  obtain ⟨p, cap, rfl, hn, hm⟩ := h.form
  have H := hide h
  clear h
  have HM : Hid (¬ (1 ≤ m ∧ m ≤ 64 ∧ L.length ≤ 64) → goodE m L = false) := hide (fun hh => by
    cases e : goodE m L with
    | false => rfl
    | true => exact absurd ⟨(good_iff.1 e).1.1, (good_iff.1 e).1.2, (good_iff.1 e).2.1⟩ hh)
  have HI : Hid (∀ k, k < L.length → ¬ (0 ≤ (at' L k).1 ∧ (at' L k).1 ≤ 1023) → goodE m L = false) := hide (fun k hk h => good_bad_id hk h)
  have HD : Hid (∀ i k, i < k → k < L.length → (at' L i).1 = (at' L k).1 → goodE m L = false) := hide (fun i k hi hk h => good_dup hk hi h)
  have HF := hide (fun k hk => fix_snoc L k hk)
  have HFb : Hid (∀ k, fixN (L.take k) ≤ 100) := hide (fun k => Nat.le_trans List.countP_le_length (by simp; omega))
  by_cases h1 : m < 1
  · have FE := hide (HM.out (by omega))
    go_enter Try.func13, Try.ntmps13
    go_wp2
    go_ret
    exact ⟨ret_bool FE.out.symm, Nx.refl _⟩
  by_cases h2 : 64 < m
  · have FE := hide (HM.out (by omega))
    go_enter Try.func13, Try.ntmps13
    go_wp2
    go_ret
    exact ⟨ret_bool FE.out.symm, Nx.refl _⟩
  by_cases h3 : 64 < L.length
  · have FE := hide (HM.out (by omega))
    have h3' : (64 : Int) < (L.length : Int) := by omega
    go_enter Try.func13, Try.ntmps13
    go_wp2
    go_ret
    exact ⟨ret_bool FE.out.symm, Nx.refl _⟩
  have h3' : ¬ (64 : Int) < (L.length : Int) := by omega
  have HE : Hid ((∀ k, k < L.length → 0 ≤ (at' L k).1 ∧ (at' L k).1 ≤ 1023) → (∀ i k, i < k → k < L.length → (at' L i).1 ≠ (at' L k).1) → decide (((fixN L : Nat) : Int) ≤ m) = goodE m L) := hide (fun a b => by
    rw [good_end a b]
    exact decide_eq_decide.2 ⟨fun h => ⟨⟨by omega, by omega⟩, by omega, h⟩, fun h => h.2.2⟩)
  go_enter Try.func13, Try.ntmps13
  go_wp2_with fail
  obtain ⟨N, hN, hB0⟩ := Sn.new W
  have B0 := hide (hB0.congr (G := seen L 0) fun j _ => rfl)
  have HN0 := hide hN
  clear hN hB0
  have N0 := hide (Nx.alloc W (.cells Try.zeroCells53 53))
  generalize W.alloc (.cells Try.zeroCells53 53) = W2 at *
  obtain ⟨g, hgg⟩ : ∃ g, W.heap.size = g := ⟨_, rfl⟩
  have HGE : Hid (W.heap.size ≤ g) := hide (by omega)
  rw [hgg] at B0
  rw [hgg]
  clear hgg
  go_loopw [6, 8, 22] (fun f _ i wr => ∃ k : Nat, k ≤ L.length ∧ i = .int .i64 (k : Int) ∧ f = .int .i64 ((fixN (L.take k) : Nat) : Int) ∧ Hid (∀ j, j < k → 0 ≤ (at' L j).1 ∧ (at' L j).1 ≤ 1023) ∧ Hid (∀ i j, i < j → j < k → (at' L i).1 ≠ (at' L j).1) ∧ Hid (Sn wr g N (seen L k)) ∧ Hid (Nx W wr)) (fun _ _ i _ => L.length - (intOf i).toNat)
  case atStart => exact ⟨0, by omega, rfl, rfl, hide (fun j hj => by omega), hide (fun i j hij hj => by omega), B0, N0⟩
  case round =>
    obtain ⟨k, hk, rfl, rfl, H1, H2, HS, HN⟩ := hrel
    by_cases hkn : k < L.length
    rotate_left
    · obtain rfl : k = L.length := by omega
      have FE := hide (HE.out H1.out H2.out)
      go_wp2
      go_ret
      exact ⟨ret_bool FE.out, HN.out⟩
    have hk1 : (k : Int) < (L.length : Int) := by omega
    have hf := HF.out k hkn
    have hfb := HFb.out k
    obtain ⟨b, o, rfl, hb, x0, x1, x2⟩ := (H.out.below HN.out).at hkn
    obtain ⟨K0, hK0⟩ : ∃ K0, (at' L k).1 = K0 := ⟨_, rfl⟩
    obtain ⟨K1, hK1⟩ : ∃ K1, (at' L k).2.1 = K1 := ⟨_, rfl⟩
    obtain ⟨K2, hK2⟩ : ∃ K2, (at' L k).2.2 = K2 := ⟨_, rfl⟩
    rw [hK0] at x0
    rw [hK1] at x1
    rw [hK2] at x2 hf
    have HK0 := hide hK0
    clear hK0 hK1 hK2
    have HN1 := hide (HN.out.trans (Nx.alloc wr (.cells #[.int .i64 K0, .int .i64 K1, .bool K2] 24)))
    by_cases h0 : 0 ≤ K0
    rotate_left
    · have FE := hide (HI.out k hkn (by rw [HK0.out]; omega))
      go_wp2
      go_ret
      exact ⟨ret_bool FE.out.symm, HN1.out⟩
    by_cases h3 : K0 ≤ 1023
    rotate_left
    · have FE := hide (HI.out k hkn (by rw [HK0.out]; omega))
      go_wp2
      go_ret
      exact ⟨ret_bool FE.out.symm, HN1.out⟩
    obtain ⟨n, rfl⟩ : ∃ n : Nat, K0 = (n : Int) := ⟨K0.toNat, by omega⟩
    have hn1 : n < 1024 := by omega
    have hn := hide (show n < N by rw [HN0.out]; exact hn1)
    have hc := HS.out.cell n hn.out
    have hz := HS.out.frozen n
    have hgl := HS.out.lt
    cases hs : seen L k n with
    | true =>
      obtain ⟨i, i1, i2, i3⟩ := seen_y hs
      have FE := hide (HD.out i k i1 hkn (by rw [i3, HK0.out]))
      rw [hs] at hc
      clear hs i1 i2 i3
      go_wp2
      go_ret
      exact ⟨ret_bool FE.out.symm, HN1.out⟩
    | false =>
      have H2' : Hid (∀ i j, i < j → j < k + 1 → (at' L i).1 ≠ (at' L j).1) := hide (fun i j hij hj => by
        rcases Nat.lt_or_ge j k with g | g
        · exact H2.out i j hij g
        · obtain rfl : j = k := by omega
          rw [HK0.out]; exact seen_n hs i hij (by omega))
      have H1' : Hid (∀ j, j < k + 1 → 0 ≤ (at' L j).1 ∧ (at' L j).1 ≤ 1023) := hide (fun j hj => by
        rcases Nat.lt_or_ge j k with g | g
        · exact H1.out j g
        · obtain rfl : j = k := by omega
          rw [HK0.out]; exact ⟨h0, h3⟩)
      have HS' := hide (((HS.out.set n hn.out true).congr (fun j _ => seen_snoc hkn HK0.out j)).nx (Nx.alloc _ (.cells #[.int .i64 (n : Int), .int .i64 K1, .bool K2] 24)))
      have HN2 := hide ((nx_set (k := n) HN.out HGE.out (.bool true)).trans (Nx.alloc _ (.cells #[.int .i64 (n : Int), .int .i64 K1, .bool K2] 24)))
      rw [hs] at hc
      clear hs H1 H2
      cases K2 with
      | true =>
        rw [if_pos rfl] at hf
        have hf := hide hf
        go_wp2
        go_round
        case rel => exact ⟨k + 1, by omega, by go_num, by rw [hf.out]; go_num, H1', H2', HS', HN2⟩
        case measure => simp [intOf]; omega
      | false =>
        rw [if_neg (by decide)] at hf
        have hf := hide hf
        go_wp2
        go_round
        case rel => exact ⟨k + 1, by omega, by go_num, by rw [hf.out]; go_num, H1', H2', HS', HN2⟩
        case measure => simp [intOf]; omega
end Go.Proofs.Ytacbiiiadalocaa.Ed
