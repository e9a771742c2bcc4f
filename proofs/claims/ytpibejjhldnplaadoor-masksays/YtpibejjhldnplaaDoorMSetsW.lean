/- The walk of MaskSets. -/
import Derived.Test.YtpibejjhldnplaaDoorMAwake
import Derived.Test.YtpibejjhldnplaaDoorMPlay
namespace Go.Proofs.YtpibejjhldnplaaDoor.Con
open Go.RowKit Go.Proofs.YtpibejjhldnplaaDoor.Mk
set_option linter.unusedVariables false

/-- An array of sixty-four flags in memory: the bits of s. -/
def Flags (W : World) (b s : Nat) : Prop := ∀ j, j < 64 → W.cell? ⟨b, j, none⟩ = some (.bool (s.testBit j)) ∧ W.frozen? ⟨b, j, none⟩ = false
/-- Put in or take out. -/
def putN (s : Nat) (z : Int) (b : Bool) : Nat := if b then withN s z else withoutN s z
theorem putN_lt {s : Nat} (z : Int) (b : Bool) (h : s < 18446744073709551616) : putN s z b < 18446744073709551616 := by
  unfold putN; split
  · exact withN_lt z h
  · exact withoutN_lt z h
theorem putN_bit (s : Nat) (z : Int) (b : Bool) (h : s < 18446744073709551616) (j : Nat) (hj : j < 64) : (putN s z b).testBit j = if (j : Int) = z then b else s.testBit j := by
  unfold putN
  cases b
  · rw [if_neg (by decide), withoutN_bit s z j h]
    by_cases e : (j : Int) = z
    · rw [if_pos e, decide_eq_true e]; simp
    · rw [if_neg e, decide_eq_false e]; simp
  · rw [if_pos rfl, withN_bit]
    by_cases e : (j : Int) = z
    · rw [if_pos e, decide_eq_true ⟨e, hj⟩]; simp
    · rw [if_neg e, decide_eq_false (by omega)]; simp
theorem putN_out (s : Nat) (z : Int) (b : Bool) (h : s < 18446744073709551616) (hz : z < 0 ∨ 64 ≤ z) : putN s z b = s := by
  apply word_ext (putN_lt z b h) h
  intro j hj
  rw [putN_bit s z b h j hj, if_neg (by omega)]

theorem flags_new (w : World) : Flags (w.alloc (.cells (Array.replicate 64 (.bool false)) 33)) w.heap.size 0 := by
  intro j hj
  refine ⟨?_, World.frozen?_alloc_at _ _ _ _ (by simp)⟩
  rw [World.cell?_alloc_at _ _ _ _ rfl]
  simp [hj]
theorem Flags.set {W : World} {b s : Nat} (h : Flags W b s) (hs : s < 18446744073709551616) (t : Nat) (ht : t < 64) (v : Bool) : Flags (W.setCell ⟨b, t, none⟩ (.bool v)) b (putN s t v) := by
  intro j hj
  refine ⟨?_, by rw [World.frozen?_setCell]; exact (h j hj).2⟩
  rw [putN_bit s t v hs j hj]
  by_cases e : j = t
  · subst e
    rw [if_pos rfl]
    exact World.cell?_setCell_same' _ _ _ (by rw [(h j hj).1]; rfl)
  · rw [if_neg (by omega), World.cell?_setCell_other _ _ _ _ (by simp)]
    exact (h j hj).1
theorem Flags.drew {W : World} {b s : Nat} (h : Flags W b s) (n : Nat) : Flags (W.drewN n) b s := h
/-- Two words with the same flags. -/
theorem Flags.same {W : World} {b s t : Nat} (h : Flags W b s) (e : t = s) : Flags W b t := e ▸ h

theorem has_bit (s j : Nat) (w : World) (hs : s < 18446744073709551616) (hj : j < 64) :
    Calls Tryd.prog 14 #[.int .u64 s, .int .i64 j] w fun e w' => e = .returned (.bool (s.testBit j)) ∧ w' = w := by
  have h := has_any s j w hs
  rw [hasN_bit] at h
  have e : decide ((0 : Int) ≤ (j : Int) ∧ (j : Int) < 64 ∧ s.testBit ((j : Int).toNat) = true) = s.testBit j := by
    rw [show ((j : Int).toNat) = j from rfl]
    cases hb : s.testBit j
    · apply decide_eq_false; rintro ⟨_, _, h⟩; cases h
    · exact decide_eq_true ⟨by omega, by omega, rfl⟩
  rw [e] at h
  exact h

set_option maxRecDepth 100000 in
set_option maxHeartbeats 2000000 in
theorem sets_walk (p1 p2 : Option Addr) (c1 c2 : Nat) (zs : List Int) (n2 : Nat) (B : Nat → Bool) (w : World) (hT : Tab w) (hl1 : zs.length ≤ 9223372036854775807) (hl2 : n2 ≤ 9223372036854775807)
    (h1 : zs.length ≤ 100 → 0 < zs.length → ∃ b o, p1 = some ⟨b, o, none⟩ ∧ b < w.heap.size ∧ ∀ j, j < zs.length → w.cell? ⟨b, o + j, none⟩ = some (.int .i64 (zs.getD j 0)))
    (h2 : zs.length ≤ 100 → 0 < n2 → ∃ b o, p2 = some ⟨b, o, none⟩ ∧ b < w.heap.size ∧ ∀ j, j < n2 → w.cell? ⟨b, o + j, none⟩ = some (.bool (B j))) :
    Calls Tryd.prog 7 #[.slice p1 zs.length c1, .slice p2 n2 c2] w fun e w' => e = .returned (.bool true) ∧ Below w.heap.size w w' := by
  have hA := hide (awake_any w hT)
  clear hT
  by_cases hn : 100 < zs.length
  · clear h1 h2
    go_enter Tryd.func7, Tryd.ntmps7
    go_wp2_with fail
    refine (unhide hA).mono ?_
    rintro e w0 ⟨rfl, hb0⟩
    have hB := hide hb0
    clear hb0 hA
    go_wp2
    go_ret
    exact ⟨rfl, unhide hB⟩
  by_cases hne : n2 = zs.length
  case neg =>
    have hq : (((n2 : Nat) : Int) != ((zs.length : Nat) : Int)) = true := by simp; omega
    clear h1 h2
    go_enter Tryd.func7, Tryd.ntmps7
    go_wp2_with fail
    refine (unhide hA).mono ?_
    rintro e w0 ⟨rfl, hb0⟩
    have hB := hide hb0
    clear hb0 hA
    go_wp2
    go_ret
    exact ⟨rfl, unhide hB⟩
  subst hne
  have h1' := hide (h1 (by omega))
  have h2' := hide (h2 (by omega))
  clear h1 h2
  go_enter Tryd.func7, Tryd.ntmps7
  go_wp2_with fail
  refine (unhide hA).mono ?_
  rintro e w0 ⟨rfl, hb0⟩
  have hB := hide hb0
  have hsz := hb0.size
  clear hb0 hA
  go_wp2
  go_loopw [5, 7] (fun x i wr => ∃ k s : Nat, k ≤ zs.length ∧ i = .int .i64 k ∧ x = .int .u64 s ∧ s < 18446744073709551616 ∧ Flags wr w0.heap.size s ∧ w0.heap.size < wr.heap.size ∧ Below w0.heap.size w0 wr) (fun _ i _ => zs.length - (intOf i).toNat)
  case atStart => exact ⟨0, 0, Nat.zero_le _, rfl, rfl, by decide, flags_new w0, by simp, (Below.refl _ w0).alloc (Nat.le_refl _) _⟩
  case round =>
    obtain ⟨k, s, hk, rfl, rfl, hs, hF, hlt0, hBr⟩ := hrel
    by_cases hlt : k < zs.length
    · obtain ⟨b1, o1, rfl, hb1, hc1⟩ := unhide h1' (by omega)
      obtain ⟨b2, o2, rfl, hb2, hc2⟩ := unhide h2' (by omega)
      have e1 : wr.cell? ⟨b1, o1 + k, none⟩ = some (.int .i64 (zs.getD k 0)) := (hBr.cell (p := ⟨b1, o1 + k, none⟩) (by show b1 < _; omega)).trans (((unhide hB).cell (p := ⟨b1, o1 + k, none⟩) hb1).trans (hc1 k hlt))
      have e2 : wr.cell? ⟨b2, o2 + k, none⟩ = some (.bool (B k)) := (hBr.cell (p := ⟨b2, o2 + k, none⟩) (by show b2 < _; omega)).trans (((unhide hB).cell (p := ⟨b2, o2 + k, none⟩) hb2).trans (hc2 k hlt))
      have hF' := hide hF
      have hBr' := hide hBr
      clear hc1 hc2 h1' h2' hF hBr
      generalize hz : zs.getD k 0 = z at e1
      clear hz
      have hW := hide (with_any s z wr hs)
      have hWo := hide (without_any s z wr hs)
      by_cases hz0 : z < 0 ∨ 64 ≤ z
      · have hin : ∀ b, Flags wr w0.heap.size (putN s z b) := fun b => (unhide hF').same (putN_out s z b hs hz0)
        have hin' := hide hin
        have hp := hide (fun b => putN_lt z b hs)
        clear hin
        rcases hb : B k with _ | _
        all_goals rw [hb] at e2
        all_goals clear hb
        all_goals rcases hz0 with hz0 | hz0
        all_goals go_wp2_with (first
          | (go_at_call 15; refine (unhide hW).mono ?_; rintro e w' ⟨rfl, rfl⟩)
          | (go_at_call 16; refine (unhide hWo).mono ?_; rintro e w' ⟨rfl, rfl⟩))
        all_goals go_roundw
        case rel => exact ⟨k + 1, withoutN s z, by omega, by go_num, rfl, unhide hp false, unhide hin' false, hlt0, unhide hBr'⟩
        case measure => simp [intOf]; omega
        case rel => exact ⟨k + 1, withoutN s z, by omega, by go_num, rfl, unhide hp false, unhide hin' false, hlt0, unhide hBr'⟩
        case measure => simp [intOf]; omega
        case rel => exact ⟨k + 1, withN s z, by omega, by go_num, rfl, unhide hp true, unhide hin' true, hlt0, unhide hBr'⟩
        case measure => simp [intOf]; omega
        case rel => exact ⟨k + 1, withN s z, by omega, by go_num, rfl, unhide hp true, unhide hin' true, hlt0, unhide hBr'⟩
        case measure => simp [intOf]; omega
      · obtain ⟨t, rfl⟩ : ∃ t : Nat, z = t := ⟨z.toNat, by omega⟩
        have ht : t < 64 := by omega
        have hp := hide (fun b => putN_lt (t : Int) b hs)
        have hft := ((unhide hF') t ht).2
        have hct := ((unhide hF') t ht).1
        clear hz0
        rcases hb : B k with _ | _
        · rw [hb] at e2
          clear hb
          go_wp2_with (first
            | (go_at_call 15; refine (unhide hW).mono ?_; rintro e w' ⟨rfl, rfl⟩)
            | (go_at_call 16; refine (unhide hWo).mono ?_; rintro e w' ⟨rfl, rfl⟩))
          go_region
          go_wp2
          go_roundw
          case rel => exact ⟨k + 1, withoutN s t, by omega, by go_num, rfl, unhide hp false, (unhide hF').set hs t ht false, by simpa using hlt0, ((unhide hBr').setCell (p := ⟨w0.heap.size, t, none⟩) (Nat.le_refl _) _).drew⟩
          case measure => simp [intOf]; omega
        · rw [hb] at e2
          clear hb
          go_wp2_with (first
            | (go_at_call 15; refine (unhide hW).mono ?_; rintro e w' ⟨rfl, rfl⟩)
            | (go_at_call 16; refine (unhide hWo).mono ?_; rintro e w' ⟨rfl, rfl⟩))
          go_region
          go_wp2
          go_roundw
          case rel => exact ⟨k + 1, withN s t, by omega, by go_num, rfl, unhide hp true, (unhide hF').set hs t ht true, by simpa using hlt0, ((unhide hBr').setCell (p := ⟨w0.heap.size, t, none⟩) (Nat.le_refl _) _).drew⟩
          case measure => simp [intOf]; omega
    · have hF' := hide hF
      have hBr' := hide ((unhide hB).trans (hBr.mono hsz))
      have hLs := hide (fun W => len_any s W hs)
      clear hF hBr h1' h2'
      go_wp2
      go_loopw [8, 9] (fun c i wx => ∃ j : Nat, j ≤ 64 ∧ i = .int .i64 j ∧ c = .int .i64 (onesTo s j).length ∧ Hid (Flags wx w0.heap.size s ∧ Below w.heap.size w wx)) (fun _ i _ => 64 - (intOf i).toNat)
      case atStart => exact ⟨0, by omega, rfl, rfl, hide ⟨unhide hF', unhide hBr'⟩⟩
      case round =>
        obtain ⟨j, hj, rfl, rfl, hX⟩ := hrel
        have hle : (onesTo s j).length ≤ 64 := by
          have h1 := lenN_le s
          have h2 := ones_split s j hj
          unfold lenN at h1
          rw [h2, List.length_append] at h1
          omega
        by_cases hlt : j < 64
        · have hc := ((unhide hX).1 j hlt).1
          have hsu := hide (onesTo_succ s j)
          have hH := hide (fun W => has_bit s j W hs hlt)
          cases hb : s.testBit j
          · rw [hb] at hc hsu
            simp only [hb] at hH
            clear hb
            go_wp2
            go_quiet ((go_at_call 14; exact Calls.quiet_of_same (unhide hH _)))
            go_wp2
            go_roundw
            case rel => exact ⟨j + 1, by omega, by go_num, by rw [unhide hsu]; rfl, hide ⟨(unhide hX).1, below_drewN (unhide hX).2 _⟩⟩
            case measure => simp [intOf]; omega
          · rw [hb] at hc hsu
            simp only [hb] at hH
            clear hb
            go_wp2
            go_quiet ((go_at_call 14; exact Calls.quiet_of_same (unhide hH _)))
            go_wp2
            go_roundw
            case rel => exact ⟨j + 1, by omega, by go_num, by rw [unhide hsu]; simp, hide ⟨(unhide hX).1, below_drewN (unhide hX).2 _⟩⟩
            case measure => simp [intOf]; omega
        · obtain rfl : j = 64 := by omega
          have hL := hide (fun W => unhide hLs W)
          have hlen : lenN s = (onesTo s 64).length := by
            unfold lenN
            rw [ones_split s 64 (by omega), onesFrom_ge s 64 (by omega), List.append_nil]
          simp only [hlen] at hL
          clear hlen
          go_wp2_with (go_at_call 23; refine (unhide hL _).mono ?_; rintro e w' ⟨rfl, rfl⟩)
          go_ret
          exact ⟨ret_bool (by simp), (unhide hX).2⟩
end Go.Proofs.YtpibejjhldnplaaDoor.Con
