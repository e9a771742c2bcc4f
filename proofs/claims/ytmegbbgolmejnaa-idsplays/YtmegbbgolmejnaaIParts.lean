/- IdsParts' walk. -/
import Derived.Test.YtmegbbgolmejnaaIList
namespace Go.Proofs.Ytmegbbgolmejnaa.Con
open Go.RowKit
set_option linter.unusedVariables false
set_option linter.unusedSimpArgs false
attribute [local go_sem ↓] Go.wp_at_zero Go.wp_at_succ
theorem u32_wf {x : Int} (h : (Lit.int .u32 x).wf = true) : ∃ m : Nat, x = (m : Int) ∧ m < 4294967296 := by
  have h1 : IntKind.u32.min = 0 := by decide
  have h2 : IntKind.u32.max = 4294967295 := by decide
  simp only [Lit.wf, h1, h2, Bool.and_eq_true, decide_eq_true_eq] at h
  exact ⟨x.toNat, by omega, by omega⟩
theorem make_back (n : Nat) (hn : n < 4294967296) (w : World) : Calls Try.prog 13 #[.int .i64 ((n % 256 : Nat) : Int), .int .i64 ((n / 256 : Nat) : Int)] w fun e w' => e = .returned (.tuple #[.int .u32 (n : Int), .bool true]) ∧ w' = w := by
  refine (make_any _ _ w).mono ?_
  rintro e w' ⟨rfl, rfl⟩
  have hf : fine ((n % 256 : Nat) : Int) ((n / 256 : Nat) : Int) = true := by unfold fine; simp; omega
  have hn' : nm (n % 256) (n / 256) = n := by unfold nm; omega
  rw [hf, if_pos rfl, Int.toNat_natCast, Int.toNat_natCast, hn']
  exact ⟨rfl, rfl⟩
set_option maxHeartbeats 1600000 in
set_option maxRecDepth 100000 in
theorem parts_walk (n : Nat) (hn : n < 4294967296) (p g : Int) (W : World) :
    Calls Try.prog 5 #[.int .u32 (n : Int), .int .i64 p, .int .i64 g] W fun e w' => e = .returned (.bool true) ∧ Below W.heap.size W w' := by
  have hA := hide (awake_any W)
  have P := hide (fun w => place_any n hn w)
  have G := hide (fun w => gen_any n hn w)
  have B := hide (fun w => make_back n hn w)
  have M := hide (fun w => make_any p g w)
  unfold MakePost at M
  generalize n % 256 = n1 at P B
  generalize n / 256 = n2 at G B
  cases hf : fine p g with
  | true =>
    rw [hf] at M
    rw [if_pos rfl] at M
    unfold fine at hf
    simp at hf
    obtain ⟨⟨⟨h1, h2⟩, h3⟩, h4⟩ := hf
    have P2 := hide (fun w => place_any (nm p.toNat g.toNat) (nm_lt (by omega) (by omega)) w)
    have G2 := hide (fun w => gen_any (nm p.toNat g.toNat) (nm_lt (by omega) (by omega)) w)
    rw [nm_place (by omega), Int.toNat_of_nonneg h1] at P2
    rw [nm_gen (by omega), Int.toNat_of_nonneg h3] at G2
    generalize nm p.toNat g.toNat = N at *
    have h1' : 0 ≤ p := h1
    go_enter Try.func5, Try.ntmps5
    go_wp2_with (first
      | (go_at_call 7; refine hA.out.mono ?_; rintro e w1 ⟨rfl, hB1⟩)
      | (go_at_call 14; refine (P.out _).mono ?_; rintro e w' ⟨rfl, rfl⟩)
      | (go_at_call 20; refine (G.out _).mono ?_; rintro e w' ⟨rfl, rfl⟩))
    refine (B.out _).mono ?_
    rintro e w' ⟨rfl, rfl⟩
    go_wp2_with fail
    refine (M.out _).mono ?_
    rintro e w' ⟨rfl, rfl⟩
    go_wp2_with (first
      | (go_at_call 14; refine (P2.out _).mono ?_; rintro e w' ⟨rfl, rfl⟩)
      | (go_at_call 20; refine (G2.out _).mono ?_; rintro e w' ⟨rfl, rfl⟩))
    go_ret
    exact ⟨rfl, hB1⟩
  | false =>
    rw [hf] at M
    rw [if_neg (by simp)] at M
    have F := hide hf
    have good : ∀ w : World, True := fun _ => trivial
    unfold fine at hf
    simp at hf
    by_cases h1 : p < 0
    · clear hf
      have h1' : ¬ 0 ≤ p := by omega
      go_enter Try.func5, Try.ntmps5
      go_wp2_with (first
        | (go_at_call 7; refine hA.out.mono ?_; rintro e w1 ⟨rfl, hB1⟩)
        | (go_at_call 14; refine (P.out _).mono ?_; rintro e w' ⟨rfl, rfl⟩)
        | (go_at_call 20; refine (G.out _).mono ?_; rintro e w' ⟨rfl, rfl⟩))
      refine (B.out _).mono ?_
      rintro e w' ⟨rfl, rfl⟩
      go_wp2_with fail
      refine (M.out _).mono ?_
      rintro e w' ⟨rfl, rfl⟩
      go_wp2
      go_ret
      exact ⟨rfl, hB1⟩
    · have h1' : 0 ≤ p := by omega
      by_cases h2 : 256 ≤ p
      · clear hf
        have h2' : ¬ p < 256 := by omega
        go_enter Try.func5, Try.ntmps5
        go_wp2_with (first
          | (go_at_call 7; refine hA.out.mono ?_; rintro e w1 ⟨rfl, hB1⟩)
          | (go_at_call 14; refine (P.out _).mono ?_; rintro e w' ⟨rfl, rfl⟩)
          | (go_at_call 20; refine (G.out _).mono ?_; rintro e w' ⟨rfl, rfl⟩))
        refine (B.out _).mono ?_
        rintro e w' ⟨rfl, rfl⟩
        go_wp2_with fail
        refine (M.out _).mono ?_
        rintro e w' ⟨rfl, rfl⟩
        go_wp2
        go_ret
        exact ⟨rfl, hB1⟩
      · have h2' : p < 256 := by omega
        by_cases h3 : g < 0
        · clear hf
          have h3' : ¬ 0 ≤ g := by omega
          go_enter Try.func5, Try.ntmps5
          go_wp2_with (first
            | (go_at_call 7; refine hA.out.mono ?_; rintro e w1 ⟨rfl, hB1⟩)
            | (go_at_call 14; refine (P.out _).mono ?_; rintro e w' ⟨rfl, rfl⟩)
            | (go_at_call 20; refine (G.out _).mono ?_; rintro e w' ⟨rfl, rfl⟩))
          refine (B.out _).mono ?_
          rintro e w' ⟨rfl, rfl⟩
          go_wp2_with fail
          refine (M.out _).mono ?_
          rintro e w' ⟨rfl, rfl⟩
          go_wp2
          go_ret
          exact ⟨rfl, hB1⟩
        · have h4 : 16777216 ≤ g := hf (by omega) (by omega) (by omega)
          have h3' : 0 ≤ g := by omega
          have h4' : ¬ g < 16777216 := by omega
          clear hf
          go_enter Try.func5, Try.ntmps5
          go_wp2_with (first
            | (go_at_call 7; refine hA.out.mono ?_; rintro e w1 ⟨rfl, hB1⟩)
            | (go_at_call 14; refine (P.out _).mono ?_; rintro e w' ⟨rfl, rfl⟩)
            | (go_at_call 20; refine (G.out _).mono ?_; rintro e w' ⟨rfl, rfl⟩))
          refine (B.out _).mono ?_
          rintro e w' ⟨rfl, rfl⟩
          go_wp2_with fail
          refine (M.out _).mono ?_
          rintro e w' ⟨rfl, rfl⟩
          go_wp2
          go_ret
          exact ⟨rfl, hB1⟩
end Go.Proofs.Ytmegbbgolmejnaa.Con
