/- split: those that run, those that do not. -/
import Derived.Test.YtacbiiiadalocaaEdC4
namespace Go.Proofs.Ytacbiiiadalocaa.Ed
open Go.RowKit Go.Shelf Go.Lib Go.Proofs.Ytacbiiiadalocaa.Con
set_option linter.unusedVariables false
set_option linter.unusedSimpArgs false
attribute [local go_sem ↓] Go.wp_at_zero Go.wp_at_succ
def SortC : Prop := ∀ (w : World) (base : Nat) (v : Value) (L : List Et), Ow base w v L → base ≤ w.heap.size → L.length ≤ 1000 →
    Calls Try.prog 34 #[v, .func (.func 35) #[] #[]] w fun e w' => e = .returned (.tuple #[]) ∧ ∃ D : List Et, Srt D L ∧ Hid (Ow base w' v D) ∧ Below base w w'
def SplitC : Prop := ∀ (W : World) (v : Value) (L : List Et), Sl W v L → L.length ≤ 100 → ∀ m : Int,
    Calls Try.prog 25 #[.int .i64 m, v] W fun e w' => ∃ v1 v2 R S, e = .returned (.tuple #[v1, v2]) ∧ Hid (Sl w' v1 R) ∧ Hid (Sl w' v2 S) ∧ Hid (Sp m L R S) ∧ Nx W w'
theorem flatE_takeD (L : List Et) (k : Nat) : flatE (L.take k) = (flatE L).take (k * 3) := by
  induction L generalizing k with
  | nil => simp [flatE]
  | cons e L ih =>
    cases k with
    | zero => simp [flatE]
    | succ k =>
      rw [List.take_succ_cons, show (k + 1) * 3 = k * 3 + 1 + 1 + 1 by omega]
      simp only [flatE, List.take_succ_cons, ih]
theorem flatE_dropD (L : List Et) (k : Nat) : flatE (L.drop k) = (flatE L).drop (k * 3) := by
  induction L generalizing k with
  | nil => simp [flatE]
  | cons e L ih =>
    cases k with
    | zero => simp [flatE]
    | succ k =>
      rw [List.drop_succ_cons, show (k + 1) * 3 = k * 3 + 1 + 1 + 1 by omega]
      simp only [flatE, List.drop_succ_cons, ih]
theorem Sl.upto {W : World} {v : Value} {D : List Et} (h : Sl W v D) (k : Nat) (hk : k ≤ D.length) : ∃ p c, (∀ w : World, (Instr.slice 25 v none (some (.int .i64 (k : Int))) none).run Try.prog w = .ok (.slice p k c) w) ∧ Sl W (.slice p k c) (D.take k) := by
  obtain ⟨i0, hi, _, hz1, _⟩ := info_parts infoEt
  obtain ⟨p, c, h1, h2⟩ := RdC.upto h 25 24 i0 Try.underlying25 hi hz1 k hk
  refine ⟨p, c, h1, ?_⟩
  rw [← flatE_takeD] at h2
  have e : (D.take k).length = k := by rw [List.length_take]; omega
  show RdC W W.heap.size 3 (.slice p k c) (D.take k).length (flatE (D.take k))
  rw [e]; exact h2
theorem Sl.from {W : World} {v : Value} {D : List Et} (h : Sl W v D) (k : Nat) (hk : k ≤ D.length) : ∃ p c, (∀ w : World, (Instr.slice 25 v (some (.int .i64 (k : Int))) none none).run Try.prog w = .ok (.slice p (D.length - k) c) w) ∧ Sl W (.slice p (D.length - k) c) (D.drop k) := by
  obtain ⟨i0, hi, _, hz1, _⟩ := info_parts infoEt
  obtain ⟨p, c, h1, h2⟩ := RdC.from h 25 24 i0 Try.underlying25 hi hz1 k hk
  refine ⟨p, c, h1, ?_⟩
  rw [← flatE_dropD] at h2
  have e : (D.drop k).length = D.length - k := by rw [List.length_drop]
  show RdC W W.heap.size 3 (.slice p (D.length - k) c) (D.drop k).length (flatE (D.drop k))
  rw [e]; exact h2
set_option maxRecDepth 100000 in
set_option maxHeartbeats 4000000 in
theorem lsplit_of (HSO : Hid SortC) : SplitC := by
  intro W v L h hl m
  have HGC := hide (goodC m L v W h hl)
  have HCL := hide (fun w (hN : Nx W w) => clone_any (h.below hN) (by omega))
  obtain ⟨p, cap, rfl, hn, hm⟩ := h.form
  clear h
  cases hg : goodE m L with
  | false =>
    have HS := hide (show Sp m L [] [] from .inl ⟨hg, rfl, rfl⟩)
    rw [hg] at HGC
    clear hg HCL
    go_enter Try.func25, Try.ntmps25
    go_wp2_with (go_at_call 13; refine HGC.out.mono ?_; rintro e w2 ⟨rfl, n2⟩; have HN2 := hide n2; clear n2)
    go_ret2
    exact ⟨_, _, [], [], rfl, hide (Sl.nil _), hide (Sl.nil _), HS, HN2.out⟩
  | true =>
    obtain ⟨⟨m1, m2⟩, h64, _⟩ := good_iff.1 hg
    obtain ⟨k, hk, hkm, hkl⟩ : ∃ k : Nat, min m (L.length : Int) = (k : Int) ∧ (∀ D : List Et, D.length = L.length → D.take k = D.take m.toNat ∧ D.drop k = D.drop m.toNat) ∧ k ≤ L.length := by
      by_cases hlt : (L.length : Int) < m
      · refine ⟨L.length, by omega, fun D hD => ?_, Nat.le_refl _⟩
        rw [List.take_of_length_le (by omega), List.take_of_length_le (by omega), List.drop_of_length_le (by omega), List.drop_of_length_le (by omega)]
        exact ⟨rfl, rfl⟩
      · exact ⟨m.toNat, by omega, fun D hD => ⟨rfl, rfl⟩, by omega⟩
    have HKM := hide hkm
    clear hkm
    have HGD := hide hg
    rw [hg] at HGC
    clear hg
    go_enter Try.func25, Try.ntmps25
    go_wp2_with (first
      | (go_at_call 13; refine HGC.out.mono ?_; rintro e w2 ⟨rfl, n2⟩; have HN2 := hide n2; have HCW := hide (HCL.out w2 n2); clear n2)
      | (go_at_call 33; refine HCW.out.mono ?_; rintro e w3 ⟨v3, rfl, h3, n3⟩; have HN3 := hide (Nx.trans HN2.out n3); have HZ3 := hide n3.size; have HSW := hide (HSO.out _ _ _ _ h3.out n3.size (by omega)); obtain ⟨p3, c3, hv3⟩ := ownF h3.out; subst hv3; clear n3)
      | (go_at_call 34; refine HSW.out.mono ?_; rintro e w4 ⟨rfl, D, hD, h4, n4⟩; have HN4 := hide (Below.trans HN3.out (Below.mono n4 HN2.out.size)); have HD := hide hD; have H4 := hide (Sl.own h4.out); clear n4 h4 hD))
    have hDL : D.length = L.length := HD.out.len
    obtain ⟨e1, e2⟩ := HKM.out D hDL
    obtain ⟨pa, ca, ua, ha⟩ := H4.out.upto k (by omega)
    obtain ⟨pb, cb, ub, hb⟩ := H4.out.from k (by omega)
    have HA := hide ha
    have HB := hide hb
    have HE := hide (show Sp m L (D.take k) (D.drop k) from .inr ⟨HGD.out, D, HD.out, e1, e2⟩)
    clear ha hb e1 e2 hDL HD HKM HSW HCW HCL HGC
    go_quiet (fail)
    go_wp2
    go_ret2
    exact ⟨_, _, D.take k, D.drop k, rfl, hide (HA.out.below (bel_drewN (Nx.refl _) _)), hide (HB.out.below (bel_drewN (Nx.refl _) _)), HE, bel_drewN HN4.out _⟩
end Go.Proofs.Ytacbiiiadalocaa.Ed
