/- firstFrom, sink, mend. -/
import Derived.Test.YtmdendffbjhdbaaHRise
namespace Go.Proofs.Ytmdendffbjhdbaa.Con
open Go.RowKit Go.Proofs.Ytmdendffbjhdbaa.Hq
set_option linter.unusedVariables false
/-- The first of a and those below it that are numbered below k. -/
def Fst (g : Bool) (l : List It) (a f k : Nat) : Prop := f < l.length ∧ (f = a ∨ (0 < f ∧ (f - 1) / 2 = a ∧ lt g (at' l f) (at' l a) = true)) ∧ le g (at' l f) (at' l a) ∧ ∀ c, 2 * a + 1 ≤ c → c < k → c < l.length → le g (at' l f) (at' l c)
theorem fst_zero (g : Bool) (l : List It) (a : Nat) (ha : a < l.length) : Fst g l a a (2 * a + 1) := ⟨ha, .inl rfl, le_refl _ _, fun c h1 h2 _ => by omega⟩
theorem fst_take {g : Bool} {l : List It} {a f k : Nat} (h : Fst g l a f k) (hk : k < l.length) (h1 : k = 2 * a + 1 ∨ k = 2 * a + 2) (hlt : lt g (at' l k) (at' l f) = true) : Fst g l a k (k + 1) := by
  obtain ⟨h2, h3, h4, h5⟩ := h
  have hle := le_of_lt hlt
  refine ⟨hk, .inr ⟨by omega, by omega, ?_⟩, le_trans hle h4, ?_⟩
  · rw [lt_iff] at hlt ⊢
    rw [le_iff] at h4
    cases g <;> simp only [Bool.false_eq_true, if_false, if_true] at * <;> omega
  · intro c c1 c2 c3
    by_cases e : c = k
    · subst e; exact le_refl _ _
    · exact le_trans hle (h5 c c1 (by omega) c3)
theorem fst_pass {g : Bool} {l : List It} {a f k : Nat} (h : Fst g l a f k) (hlt : lt g (at' l k) (at' l f) = false) : Fst g l a f (k + 1) := by
  obtain ⟨h2, h3, h4, h5⟩ := h
  refine ⟨h2, h3, h4, ?_⟩
  intro c c1 c2 c3
  by_cases e : c = k
  · subst e; exact hlt
  · exact h5 c c1 (by omega) c3
theorem fst_end {g : Bool} {l : List It} {a f k : Nat} (h : Fst g l a f k) (hk : 2 * a + 3 ≤ k ∨ l.length ≤ k) : ∀ c, 0 < c → c < l.length → (c - 1) / 2 = a → le g (at' l f) (at' l c) :=
  fun c c0 c1 c2 => h.2.2.2 c (by omega) (by omega) c1
set_option maxHeartbeats 4000000 in
theorem first_any {W : World} {hb mb : Nat} {most : Int} {g : Bool} {v : Value} {l : List It} (h : Hp W hb mb most g v l) (a : Nat) (ha : a < l.length) (hl : l.length ≤ 1024) :
    Calls Try.prog 64 #[.pointer (some ⟨hb, 0, none⟩), .int .i64 a] W fun e w' => ∃ f k : Nat, e = .returned (.int .i64 f) ∧ Fst g l a f k ∧ (2 * a + 3 ≤ k ∨ l.length ≤ k) ∧ Below W.heap.size W w' := by
  have hT := hide (Below.refl W.heap.size W)
  have hz := hide (fst_zero g l a ha)
  obtain ⟨r, cap, rfl, hn, hm⟩ := h.form (by omega)
  have ha1 : (a : Int) ≤ 1024 := by omega
  obtain ⟨n, hnn⟩ : ∃ n, n = l.length := ⟨_, rfl⟩
  have NN := hide hnn
  rw [← hnn] at hl ha
  clear hnn
  have H := hide h
  clear h
  go_enter Try.func64, Try.ntmps64
  go_wp2
  go_loopw [5, 6] (fun s t wr => ∃ f k : Nat, s = .int .i64 f ∧ t = .int .i64 k ∧ 2 * a + 1 ≤ k ∧ k ≤ 2 * a + 3 ∧ f < n ∧ Hid (Fst g l a f k) ∧ Hid (Below W.heap.size W wr)) (fun _ t _ => 2 * a + 3 - (intOf t).toNat)
  case atStart => exact ⟨a, 2 * a + 1, rfl, by go_num, Nat.le_refl _, by omega, ha, hz, hT⟩
  case round =>
    obtain ⟨f, k, rfl, rfl, hk1, hk2, hfn, HF, HB⟩ := hrel
    have hH := H.out.below HB.out
    have c2 := hH.cells.2.2.1
    rw [← NN.out] at c2
    have HH := hide hH
    clear hH
    by_cases hk3 : k = 2 * a + 3
    · have hd : decide ((k : Int) ≤ 2 * (a : Int) + 2) = false := decide_eq_false (by omega)
      go_wp2
      go_ret
      exact ⟨f, k, rfl, HF.out, .inl (by omega), HB.out⟩
    · by_cases hkn : k < n
      · have hah := hide (ahead_any HH.out k f (by rw [← NN.out]; exact hkn) (by rw [← NN.out]; exact hfn))
        have k1 : (k : Int) ≤ 2 * (a : Int) + 2 := by omega
        have k2 : (k : Int) < (n : Int) := by omega
        by_cases hlt : lt g (at' l k) (at' l f) = true
        · have F2 := hide (fst_take HF.out (by rw [← NN.out]; exact hkn) (by omega) hlt)
          go_wp2_with (go_at_call 58; refine hah.out.mono ?_; rintro e w1 ⟨rfl, hB1⟩; rw [hlt]; have HB1 := hide hB1; clear hB1)
          go_roundw
          case rel => exact ⟨k, k + 1, rfl, by go_num, by omega, by omega, hkn, F2, hide (HB.out.trans (HB1.out.mono HB.out.size))⟩
          case measure => simp [intOf]; omega
        · have hf : lt g (at' l k) (at' l f) = false := by simpa using hlt
          have F2 := hide (fst_pass HF.out hf)
          go_wp2_with (go_at_call 58; refine hah.out.mono ?_; rintro e w1 ⟨rfl, hB1⟩; rw [hf]; have HB1 := hide hB1; clear hB1)
          go_roundw
          case rel => exact ⟨f, k + 1, rfl, by go_num, by omega, by omega, hfn, F2, hide (HB.out.trans (HB1.out.mono HB.out.size))⟩
          case measure => simp [intOf]; omega
      · have k1 : (k : Int) ≤ 2 * (a : Int) + 2 := by omega
        have k2 : ¬ (k : Int) < (n : Int) := by omega
        go_wp2
        go_ret
        first
          | exact ⟨f, k, rfl, HF.out, .inr (by rw [← NN.out]; omega), HB.out⟩
          | exact ⟨f, rfl, k, HF.out, .inr (by rw [← NN.out]; omega), HB.out⟩
          | exact ⟨f, rfl, ⟨k, HF.out, .inr (by rw [← NN.out]; omega)⟩, HB.out⟩
theorem fst_ne {g : Bool} {l : List It} {a f k : Nat} (h : Fst g l a f k) (e : f ≠ a) : a < f ∧ 0 < f ∧ (f - 1) / 2 = a ∧ lt g (at' l f) (at' l a) = true := by
  rcases h.2.1 with h | ⟨h1, h2, h3⟩
  · exact absurd h e
  · exact ⟨by omega, h1, h2, h3⟩
theorem fst_kids {g : Bool} {l : List It} {a k : Nat} (h : Fst g l a a k) (hk : 2 * a + 3 ≤ k ∨ l.length ≤ k) : Hq.Kids g l a := fst_end h hk
set_option maxHeartbeats 4000000 in
theorem sink_any {W : World} {hb mb : Nat} {most : Int} {g : Bool} {v : Value} {l : List It} (h : Hp W hb mb most g v l) (a : Nat) (ha : a < l.length) (hl : l.length ≤ 1024) (hx : Hx g l a) (hu : Up g l a) :
    Calls Try.prog 57 #[.pointer (some ⟨hb, 0, none⟩), .int .i64 a] W fun e w' => e = .returned (.tuple #[]) ∧ ∃ l' : List It, l'.length = l.length ∧ l'.Perm l ∧ Heap g l' ∧ Hp w' hb mb most g v l' ∧ Turn W w' hb mb v v := by
  have hT := hide (Turn.refl W hb mb v)
  have H := hide h
  have HX := hide hx
  have HU := hide hu
  clear h hx hu
  go_enter Try.func57, Try.ntmps57
  go_wp2
  go_loopw [1] (fun s wr => ∃ (b : Nat) (m : List It), s = .int .i64 b ∧ b < m.length ∧ m.length = l.length ∧ Hid (m.Perm l) ∧ Hid (Hx g m b) ∧ Hid (Up g m b) ∧ Hid (Hp wr hb mb most g v m) ∧ Hid (Turn W wr hb mb v v)) (fun s _ => l.length - (intOf s).toNat)
  case atStart => exact ⟨a, l, rfl, ha, rfl, hide (List.Perm.refl _), HX, HU, H, hT⟩
  case round =>
    obtain ⟨b, m, rfl, hbm, hml, HP, HXm, HUm, Hm, HT⟩ := hrel
    have hfi := hide (first_any Hm.out b hbm (by omega))
    have hsw := hide (fun f (hf : f < m.length) w' (h' : Hp w' hb mb most g v m) => swap_any h' b f hbm hf (by omega))
    go_wp2_with (go_at_call 64; refine hfi.out.mono ?_; rintro e w1 ⟨f, k, rfl, hF, hK, hB1⟩; have HF := hide hF; have HK := hide hK; have HB1 := hide hB1; clear hF hK hB1; by_cases hfb : f = b)
    · subst hfb
      refine bodyPost_ret (results_none rfl _ _ _) rfl ?_
      exact ⟨rfl, m, hml, HP.out, heap_of HXm.out (fst_kids HF.out HK.out) HUm.out, Hm.out.below HB1.out, HT.out.trans (Turn.below HB1.out hb mb v)⟩
    · obtain ⟨f1, f2, f3, f4⟩ := fst_ne HF.out hfb
      obtain ⟨s1, s2⟩ := sink_step HXm.out HUm.out f2 HF.out.1 f3 f4 (fst_end HF.out HK.out)
      have S1 := hide s1
      have S2 := hide s2
      clear s1 s2 f2 f3 f4
      go_wp2_with (go_at_call 44; refine (hsw.out f HF.out.1 _ (Hm.out.below HB1.out)).mono ?_; rintro e w2 ⟨rfl, hH2, hT2⟩; have HH2 := hide hH2; have HT2 := hide hT2; clear hH2 hT2)
      go_roundw
      case rel => exact ⟨f, swp m b f, rfl, by rw [swp_length]; exact HF.out.1, by rw [swp_length]; exact hml, hide ((swp_perm m b f hbm HF.out.1).trans HP.out), S1, S2, HH2, hide (HT.out.trans ((Turn.below HB1.out hb mb v).trans HT2.out))⟩
      case measure => have := HF.out.1; simp [intOf]; omega
theorem mend_any {W : World} {hb mb : Nat} {most : Int} {g : Bool} {v : Value} {l : List It} (h : Hp W hb mb most g v l) (a : Nat) (ha : a < l.length) (hl : l.length ≤ 1024) (hx : Hx g l a) :
    Calls Try.prog 42 #[.pointer (some ⟨hb, 0, none⟩), .int .i64 a] W fun e w' => e = .returned (.tuple #[]) ∧ ∃ l' : List It, l'.length = l.length ∧ l'.Perm l ∧ Heap g l' ∧ Hp w' hb mb most g v l' ∧ Turn W w' hb mb v v := by
  have hri := hide (rise_any h a ha hl hx)
  have hsi := hide (fun w' m b (h' : Hp w' hb mb most g v m) => sink_any h' b)
  clear h hx
  go_enter Try.func42, Try.ntmps42
  go_wp2_with (first
    | (go_at_call 43; refine hri.out.mono ?_; rintro e w1 ⟨b, m, rfl, h1, h2, h3, h4, h5, h6, h7, h8⟩; have H1 := hide h1; have H2 := hide h2; have H3 := hide h3; have H4 := hide h4; have H5 := hide h5; have H7 := hide h7; have H8 := hide h8; clear h1 h2 h3 h4 h5 h6 h7 h8)
    | (go_at_call 57; refine (hsi.out _ m b H7.out H1.out (by rw [H2.out]; exact hl) H4.out H5.out).mono ?_; rintro e w2 ⟨rfl, m', k1, k2, k3, k4, k5⟩))
  go_end0
  exact ⟨rfl, m', k1.trans H2.out, k2.trans H3.out, k3, k4, H8.out.trans k5⟩
end Go.Proofs.Ytmdendffbjhdbaa.Con
