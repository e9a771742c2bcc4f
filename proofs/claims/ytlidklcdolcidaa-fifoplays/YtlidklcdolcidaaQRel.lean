/- Places and what is dropped, in lists; a row that stays past a mark; FifoOrder's walk. -/
import Derived.Test.YtlidklcdolcidaaQOps
namespace Go.Proofs.Ytlidklcdolcidaa.Con
open Go.RowKit
set_option linter.unusedVariables false
set_option linter.unusedSimpArgs false
attribute [local go_sem ↓] Go.wp_at_zero Go.wp_at_succ
/-- The first x's place, -1 of none. -/
def plc (xs : List Int) (x : Int) : Int := if x ∈ xs then ((xs.idxOf x : Nat) : Int) else -1
theorem idxFrom_eq (x : Int) : ∀ (xs : List Int) (i : Nat), Lib.idxFrom xs x i = if x ∈ xs then ((i + xs.idxOf x : Nat) : Int) else -1
  | [], i => by simp [Lib.idxFrom]
  | z :: zs, i => by
    rw [Lib.idxFrom, idxFrom_eq x zs (i + 1)]
    by_cases h : z = x
    · subst h; simp
    · have h' : ¬ x = z := fun e => h e.symm
      by_cases hm : x ∈ zs
      · have hb : (z == x) = false := by simp [h]
        simp [h, h', hm, List.idxOf_cons, hb]; omega
      · simp [h, h', hm]
theorem idxOf_eq (xs : List Int) (x : Int) : Lib.idxOf xs x = plc xs x := by
  unfold Lib.idxOf plc
  rw [idxFrom_eq, Nat.zero_add]
theorem plc_lt {xs : List Int} {x : Int} : plc xs x < 0 ↔ x ∉ xs := by
  unfold plc
  by_cases h : x ∈ xs
  · rw [if_pos h]; simp [h]
  · rw [if_neg h]; simp [h]
theorem plc_snoc (xs : List Int) (z x : Int) : plc (xs ++ [z]) x = if x ∈ xs then plc xs x else if z = x then (xs.length : Int) else -1 := by
  unfold plc
  by_cases h : x ∈ xs
  · rw [if_pos h, if_pos h, if_pos (List.mem_append_left _ h), List.idxOf_append, if_pos h]
  · rw [if_neg h]
    by_cases e : z = x
    · subst e
      rw [if_pos (by simp), if_pos rfl, List.idxOf_append, if_neg h]; simp
    · rw [if_neg e, if_neg (by simp [h]; exact fun q => e q.symm)]
theorem erase_snoc (xs : List Int) (z x : Int) : (xs ++ [z]).erase x = if x ∈ xs then xs.erase x ++ [z] else if z = x then xs else xs ++ [z] := by
  by_cases h : x ∈ xs
  · rw [if_pos h, List.erase_append_left _ h]
  · rw [if_neg h, List.erase_append_right _ h]
    by_cases e : z = x
    · subst e; simp
    · rw [if_neg e]; simp [e]
theorem take_snoc (zs : List Int) (k : Nat) (h : k < zs.length) : zs.take (k + 1) = zs.take k ++ [zs.getD k 0] := by
  rw [List.take_succ_eq_append_getElem h, List.getD_eq_getElem?_getD, List.getElem?_eq_getElem h]; rfl
theorem drop_cons (zs : List Int) (k : Nat) (h : k < zs.length) : zs.drop k = zs.getD k 0 :: zs.drop (k + 1) := by
  rw [List.drop_eq_getElem_cons h, List.getD_eq_getElem?_getD, List.getElem?_eq_getElem h]; rfl
section
variable {W : World} {B fb m : Nat} {v : Value} {xs : List Int}
theorem place_plc (h : Fi W B fb m v xs) (x : Int) :
    Calls Try.prog 15 #[.pointer (some ⟨fb, 0, none⟩), .int .i64 x] W fun e w' => e = .returned (.int .i64 (plc xs x)) ∧ w' = W := by
  have := place_any h x
  rwa [idxOf_eq] at this
theorem drop_any (h : Fi W B fb m v xs) (x : Int) :
    Calls Try.prog 12 #[.pointer (some ⟨fb, 0, none⟩), .int .i64 x] W fun e w' => e = .returned (.bool (decide (x ∈ xs))) ∧ OutPost W B fb m v (xs.erase x) w' := by
  by_cases hx : x ∈ xs
  · have hk : Lib.idxOf xs x = ((xs.idxOf x : Nat) : Int) := by rw [idxOf_eq]; unfold plc; rw [if_pos hx]
    refine (drop_some h x _ (List.idxOf_lt_length_of_mem hx) hk).mono ?_
    rintro e w' ⟨rfl, hO⟩
    rw [List.erase_eq_eraseIdx_of_idxOf rfl, decide_eq_true hx]
    exact ⟨rfl, hO⟩
  · refine (drop_none h x (by rw [idxOf_eq]; exact plc_lt.2 hx)).mono ?_
    rintro e w' ⟨rfl, rfl⟩
    rw [List.erase_of_not_mem hx, decide_eq_false hx]
    exact ⟨rfl, v, h, Turn.refl _ _ _⟩
end
/-- A fifo that holds xs, past the mark. -/
def Rl (W : World) (fb m : Nat) (xs : List Int) (wr : World) : Prop := ∃ v, Fi wr W.heap.size fb m v xs ∧ Below W.heap.size W wr
section
variable {W wr : World} {fb m : Nat} {xs : List Int}
theorem Rl.out (h : Below W.heap.size W wr) {v : Value} (hF : Fi wr W.heap.size fb m v xs) {ys : List Int} {w' : World} (hO : OutPost wr W.heap.size fb m v ys w') : Rl W fb m ys w' := by
  obtain ⟨v', h1, h2⟩ := hO
  exact ⟨v', h1, h.trans (h2.toBelow hF)⟩
theorem rl_put (h : Rl W fb m xs wr) (x : Int) (hf : xs.length < m) :
    Calls Try.prog 13 #[.pointer (some ⟨fb, 0, none⟩), .int .i64 x] wr fun e w' => e = .returned (.bool true) ∧ Hid (Rl W fb m (xs ++ [x]) w') := by
  obtain ⟨v, h1, h2⟩ := h
  refine (put_ok h1 x hf).mono ?_
  rintro e w' ⟨rfl, hO⟩
  exact ⟨rfl, hide (Rl.out h2 h1 hO)⟩
theorem rl_turn {x : Int} (h : Rl W fb m (x :: xs) wr) :
    Calls Try.prog 11 #[.pointer (some ⟨fb, 0, none⟩)] wr fun e w' => e = .returned (.bool true) ∧ Hid (Rl W fb m (xs ++ [x]) w') := by
  obtain ⟨v, h1, h2⟩ := h
  refine (turn_some h1).mono ?_
  rintro e w' ⟨rfl, hO⟩
  exact ⟨rfl, hide (Rl.out h2 h1 hO)⟩
theorem rl_get {x : Int} (h : Rl W fb m (x :: xs) wr) :
    Calls Try.prog 9 #[.pointer (some ⟨fb, 0, none⟩)] wr fun e w' => e = .returned (.tuple #[.int .i64 x, .bool true]) ∧ Hid (Rl W fb m xs w') := by
  obtain ⟨v, h1, h2⟩ := h
  refine (get_some h1).mono ?_
  rintro e w' ⟨rfl, hO⟩
  exact ⟨rfl, hide (Rl.out h2 h1 hO)⟩
theorem rl_len (h : Rl W fb m xs wr) : Calls Try.prog 14 #[.pointer (some ⟨fb, 0, none⟩)] wr fun e w' => e = .returned (.int .i64 (xs.length : Int)) ∧ w' = wr := by
  obtain ⟨v, h1, h2⟩ := h
  exact len_any h1
theorem rl_new {w0 w1 : World} {n : Int} {fb : Nat} (h0 : Below W.heap.size W w0) (hF : Fi w1 w0.heap.size fb (held n) (.slice none 0 0) []) (hB : Below w0.heap.size w0 w1) : Rl W fb (held n) [] w1 :=
  ⟨_, hF.mono h0.size, h0.trans (hB.mono h0.size)⟩
theorem Rl.bel (h : Rl W fb m xs wr) : Below W.heap.size W wr := by
  obtain ⟨v, h1, h2⟩ := h
  exact h2
end
set_option maxRecDepth 100000 in
set_option maxHeartbeats 1600000 in
theorem order_walk (p : Option Addr) (c : Nat) (zs : List Int) (W : World) (hl : zs.length ≤ 9223372036854775807)
    (h1 : 0 < zs.length → ∃ b o, p = some ⟨b, o, none⟩ ∧ b < W.heap.size ∧ ∀ j, j < zs.length → W.cell? ⟨b, o + j, none⟩ = some (.int .i64 (zs.getD j 0))) :
    Calls Try.prog 5 #[.slice p zs.length c] W fun e w' => e = .returned (.bool true) ∧ Below W.heap.size W w' := by
  have hA := hide (awake_any W)
  by_cases hn : 200 < zs.length
  · have hn' : (200 : Int) < (zs.length : Int) := by omega
    go_enter Try.func5, Try.ntmps5
    go_wp2_with (go_at_call 7; refine hA.out.mono ?_; rintro e w1 ⟨rfl, hB1⟩)
    go_ret
    exact ⟨rfl, hB1⟩
  · have H1 := hide h1
    clear h1
    have hn' : ¬ (200 : Int) < (zs.length : Int) := by omega
    obtain ⟨K, hnn⟩ : ∃ n, zs.length = n := ⟨_, rfl⟩
    have NN := hide hnn
    rw [hnn] at hl hn hn' ⊢
    clear hnn
    have HN := hide (fun W' => new_any 256 W')
    unfold NewPost at HN
    go_enter Try.func5, Try.ntmps5
    go_wp2_with (first
      | (go_at_call 7; refine hA.out.mono ?_; rintro e w0 ⟨rfl, hB0⟩; have HB0 := hide hB0; clear hB0)
      | (go_at_call 8; refine (HN.out _).mono ?_; rintro e w1 ⟨fb, rfl, hT, hB⟩; have J0 := hide (rl_new HB0.out hT hB); clear hT hB))
    rw [show held 256 = 256 by decide] at J0
    clear HB0 HN hA
    go_loopw [4] (fun s wr => ∃ k : Nat, k ≤ K ∧ s = .int .i64 k ∧ Hid (Rl W fb 256 (zs.take k) wr)) (fun s _ => K - (intOf s).toNat)
    case atStart => exact ⟨0, by omega, rfl, J0⟩
    case round =>
      clear J0
      obtain ⟨k, hk, rfl, HR⟩ := hrel
      by_cases hkn : k < K
      · obtain ⟨b, o, rfl, hbl, hcl⟩ := H1.out (by rw [NN.out]; omega)
        have a0 : wr.cell? ⟨b, o + k, none⟩ = some (.int .i64 (zs.getD k 0)) := by rw [HR.out.bel.cell (p := ⟨b, o + k, none⟩) hbl]; exact hcl k (by rw [NN.out]; exact hkn)
        have FT := hide (take_snoc zs k (by rw [NN.out]; exact hkn))
        have PU := hide (rl_put HR.out (zs.getD k 0) (by rw [List.length_take]; omega))
        rw [← FT.out] at PU
        generalize zs.getD k 0 = z at a0 PU
        have hk1 : (k : Int) < (K : Int) := by omega
        clear hcl FT
        go_wp2_with (go_at_call 13; refine PU.out.mono ?_; rintro e w2 ⟨rfl, R2⟩)
        go_roundw
        case rel => exact ⟨k + 1, by omega, by go_num, R2⟩
        case measure => simp [intOf]; omega
      · obtain rfl : k = K := by omega
        have J1 : Hid (Rl W fb 256 (zs.drop 0 ++ zs.take 0) wr) := hide (by have := HR.out; rwa [List.take_of_length_le (by rw [NN.out]; omega), ← List.append_nil zs] at this)
        clear HR
        go_wp2
        go_loopw [5] (fun s wr => ∃ j : Nat, j ≤ k ∧ s = .int .i64 j ∧ Hid (Rl W fb 256 (zs.drop j ++ zs.take j) wr)) (fun s _ => k - (intOf s).toNat)
        case atStart => exact ⟨0, by omega, rfl, J1⟩
        case round =>
          clear J1
          obtain ⟨j, hj, rfl, HR⟩ := hrel
          by_cases hjn : j < k
          · have FT := hide (take_snoc zs j (by rw [NN.out]; exact hjn))
            have PU : Hid (Calls Try.prog 11 #[.pointer (some ⟨fb, 0, none⟩)] _ fun e w' => e = .returned (.bool true) ∧ Hid (Rl W fb 256 (zs.drop (j + 1) ++ zs.take (j + 1)) w')) := hide (by
              have h := HR.out
              rw [drop_cons zs j (by rw [NN.out]; exact hjn), List.cons_append] at h
              have := rl_turn h
              rwa [List.append_assoc, ← FT.out] at this)
            have hk1 : (j : Int) < (k : Int) := by omega
            clear FT
            go_wp2_with (go_at_call 11; refine PU.out.mono ?_; rintro e w2 ⟨rfl, R2⟩)
            go_roundw
            case rel => exact ⟨j + 1, by omega, by go_num, R2⟩
            case measure => simp [intOf]; omega
          · obtain rfl : j = k := by omega
            have J2 : Hid (Rl W fb 256 (zs.drop 0) wr) := hide (by have := HR.out; rwa [List.take_of_length_le (by rw [NN.out]; omega), List.drop_of_length_le (by rw [NN.out]; omega)] at this)
            clear HR
            go_wp2
            go_loopw [6] (fun s wr => ∃ i : Nat, i ≤ j ∧ s = .int .i64 i ∧ Hid (Rl W fb 256 (zs.drop i) wr)) (fun s _ => j - (intOf s).toNat)
            case atStart => exact ⟨0, by omega, rfl, J2⟩
            case round =>
              clear J2
              obtain ⟨i, hi, rfl, HR⟩ := hrel
              by_cases hin : i < j
              · obtain ⟨b, o, rfl, hbl, hcl⟩ := H1.out (by rw [NN.out]; omega)
                have PU := hide (by have h := HR.out; rw [drop_cons zs i (by rw [NN.out]; exact hin)] at h; exact rl_get h)
                have hc0 := hcl i (by rw [NN.out]; exact hin)
                generalize zs.getD i 0 = z at hc0 PU
                have CL : Hid (∀ w', Rl W fb 256 (zs.drop (i + 1)) w' → w'.cell? ⟨b, o + i, none⟩ = some (.int .i64 z)) := hide (fun w' h => by rw [h.bel.cell (p := ⟨b, o + i, none⟩) hbl]; exact hc0)
                have hk1 : (i : Int) < (j : Int) := by omega
                clear hcl hc0
                go_wp2_with (go_at_call 9; refine PU.out.mono ?_; rintro e w2 ⟨rfl, R2⟩; have a0 := CL.out _ R2.out)
                go_roundw
                case rel => exact ⟨i + 1, by omega, by go_num, R2⟩
                case measure => simp [intOf]; omega
              · obtain rfl : i = j := by omega
                have LE := hide (rl_len HR.out)
                rw [List.length_drop, NN.out, Nat.sub_self] at LE
                go_wp2_with (go_at_call 14; refine LE.out.mono ?_; rintro e w2 ⟨rfl, hw⟩; have hw2 := hw.symm; clear hw; subst hw2)
                go_ret
                exact ⟨rfl, HR.out.bel⟩
end Go.Proofs.Ytlidklcdolcidaa.Con
