/- The landed book in memory. -/
import Derived.Test.YtldccbinndbcdaaAdPl
import Derived.Test.YtldccbinndbcdaaAmRe
import Derived.Test.YtldccbinndbcdaaAmCon
import Derived.Test.YtldccbinndbcdaaWnL2
namespace Go.Proofs.Ytldccbinndbcdaa.Am
open Go.RowKit Go.Proofs.Ytldccbinndbcdaa.Con Go.Proofs.Ytldccbinndbcdaa.Wn Go.Proofs.Ytldccbinndbcdaa.Fp
set_option linter.unusedVariables false
set_option linter.unusedSimpArgs false
attribute [local go_sem ↓] Go.wp_at_zero Go.wp_at_succ
theorem infoAe : (Try.prog.info? 50).map (fun i => (i.zero, i.size, i.bytes)) = some (some (.agg #[.int .i64 0, .int .i64 0, .int .i64 0, .int .i64 0]), 4, 32) := by kernel_rfl
theorem infoLv : (Try.prog.info? 79).map (fun i => (i.zero, i.size, i.bytes)) = some (some (.agg #[.int .i64 0, .int .i64 0, .int .i64 0, .int .i64 0, .int .i64 0]), 5, 40) := by kernel_rfl
theorem infoWp : (Try.prog.info? 28).map (fun i => (i.zero, i.size, i.bytes)) = some (some (.agg #[.int .i64 0, .int .i64 0]), 2, 16) := by kernel_rfl
def encL (x : Lv) : List Value := [.int .i64 x.1.id, .int .i64 x.1.pr.1, .int .i64 x.1.pr.2, .int .i64 x.1.till, .int .i64 x.2]
abbrev lvV (x : Lv) : Value := .agg #[.int .i64 x.1.id, .int .i64 x.1.pr.1, .int .i64 x.1.pr.2, .int .i64 x.1.till, .int .i64 x.2]
def flatL : List Lv → List Value
  | [] => []
  | x :: l => .int .i64 x.1.id :: .int .i64 x.1.pr.1 :: .int .i64 x.1.pr.2 :: .int .i64 x.1.till :: .int .i64 x.2 :: flatL l
theorem flatL_len (l : List Lv) : (flatL l).length = l.length * 5 := by
  induction l with
  | nil => rfl
  | cons s l ih => simp only [flatL, List.length_cons, ih]; omega
theorem flatL_app (a b : List Lv) : flatL (a ++ b) = flatL a ++ flatL b := by
  induction a with
  | nil => rfl
  | cons s a ih => simp [flatL, ih]
theorem flatL_one : ∀ (l : List Lv), ∀ u ∈ flatL l, u.oneCell' = true := by
  intro l
  induction l with
  | nil => intro u hu; cases hu
  | cons s l ih =>
    intro u hu
    simp only [flatL, List.mem_cons] at hu
    rcases hu with rfl | rfl | rfl | rfl | rfl | hu
    · rfl
    · rfl
    · rfl
    · rfl
    · rfl
    · exact ih u hu
theorem flatL_get : ∀ (l : List Lv) (j : Nat) (s : Lv), l[j]? = some s → (flatL l)[j * 5]? = some (.int .i64 s.1.id) ∧ (flatL l)[j * 5 + 1]? = some (.int .i64 s.1.pr.1) ∧ (flatL l)[j * 5 + 2]? = some (.int .i64 s.1.pr.2) ∧ (flatL l)[j * 5 + 3]? = some (.int .i64 s.1.till) ∧ (flatL l)[j * 5 + 4]? = some (.int .i64 s.2) := by
  intro l
  induction l with
  | nil => intro j s h; simp at h
  | cons x l ih =>
    intro j s h
    cases j with
    | zero =>
      simp only [List.getElem?_cons_zero, Option.some.injEq] at h
      subst h
      exact ⟨rfl, rfl, rfl, rfl, rfl⟩
    | succ j =>
      rw [List.getElem?_cons_succ] at h
      have := ih j s h
      rw [show (j + 1) * 5 = j * 5 + 1 + 1 + 1 + 1 + 1 by omega]
      simpa [flatL] using this
theorem flatL_snoc1 (l : List Lv) (x : Lv) : flatL (l ++ [x]) = flatL l ++ [.int .i64 x.1.id, .int .i64 x.1.pr.1, .int .i64 x.1.pr.2, .int .i64 x.1.till, .int .i64 x.2] := by rw [flatL_app]; rfl
/-- A slice of leavers that is read, in blocks below B. -/
abbrev Ls (B : Nat) (W : World) (v : Value) (L : List Lv) : Prop := RdC W B 5 v L.length (flatL L)
theorem Ls.form {B : Nat} {W : World} {v : Value} {L : List Lv} (h : Ls B W v L) : ∃ p cap, v = .slice p L.length cap ∧ L.length ≤ cap ∧ cap ≤ maxLen := by
  obtain ⟨_, p, cap, rfl, h1, h2, _⟩ := h
  exact ⟨p, cap, rfl, h1, h2⟩
theorem Ls.at {B : Nat} {W : World} {p : Option Addr} {n cap : Nat} {L : List Lv} (h : Ls B W (.slice p n cap) L) {k : Nat} (hk : k < L.length) :
    ∃ b o, p = some ⟨b, o, none⟩ ∧ b < B ∧ W.cell? ⟨b, o + k * 5, none⟩ = some (.int .i64 (atL L k).1.id) ∧ W.cell? ⟨b, o + k * 5 + 1, none⟩ = some (.int .i64 (atL L k).1.pr.1) ∧ W.cell? ⟨b, o + k * 5 + 2, none⟩ = some (.int .i64 (atL L k).1.pr.2) ∧ W.cell? ⟨b, o + k * 5 + 3, none⟩ = some (.int .i64 (atL L k).1.till) ∧ W.cell? ⟨b, o + k * 5 + 4, none⟩ = some (.int .i64 (atL L k).2) := by
  obtain ⟨_, p', cap', e, _, _, h4⟩ := h
  simp only [Value.slice.injEq] at e
  obtain ⟨rfl, rfl, rfl⟩ := e
  obtain ⟨b, o, rfl, hb, hc⟩ := h4 (by omega)
  obtain ⟨g0, g1, g2, g3, g4⟩ := flatL_get L k _ (atL_eq hk)
  exact ⟨b, o, rfl, hb, hc (k * 5) _ g0, by have := hc (k * 5 + 1) _ g1; rwa [show o + (k * 5 + 1) = o + k * 5 + 1 by omega] at this, by have := hc (k * 5 + 2) _ g2; rwa [show o + (k * 5 + 2) = o + k * 5 + 2 by omega] at this, by have := hc (k * 5 + 3) _ g3; rwa [show o + (k * 5 + 3) = o + k * 5 + 3 by omega] at this, by have := hc (k * 5 + 4) _ g4; rwa [show o + (k * 5 + 4) = o + k * 5 + 4 by omega] at this⟩
theorem Ls.below {B : Nat} {W W' : World} {v : Value} {L : List Lv} (h : Ls B W v L) (hB : Below B W W') : Ls B W' v L := RdC.below h hB
theorem Ls.own {W : World} {base e : Nat} {v : Value} {L : List Lv} (h : W.ownsRow base e 5 v L.length (flatL L)) : Ls W.heap.size W v L := RdC.own h
/-- The book: its row, who is live, who has left (a heap). -/
structure BB (w : World) (b : Nat) (s : Bs) (vi vo : Value) (H : List Lv) : Prop where
  row : w.heap[b]? = some (.cells #[.int .i64 s.cpus, vi, vo] 57 (0, 0))
  ins : w.ownsRow 0 50 4 vi s.ins.length (flatE s.ins)
  outs : w.ownsRow 0 79 5 vo H.length (flatL H)
  ho : HO H s.outs
theorem BB.on {w w' : World} {b : Nat} {s : Bs} {vi vo : Value} {H : List Lv} (h : BB w b s vi vo H) (hB : Nx w w') : BB w' b s vi vo H :=
  ⟨(hB.block b (Array.getElem?_eq_some_iff.1 h.row).1).trans h.row, ownN h.ins hB, ownN h.outs hB, h.ho⟩
theorem BB.rdI {w : World} {b : Nat} {s : Bs} {vi vo : Value} {H : List Lv} (h : BB w b s vi vo H) : Es w vi s.ins := Es.own h.ins
theorem BB.rdO {w : World} {b : Nat} {s : Bs} {vi vo : Value} {H : List Lv} (h : BB w b s vi vo H) : Ls w.heap.size w vo H := Ls.own h.outs
def BI : BkI := fun w b s F => ∃ vi vo H, BB w b s vi vo H ∧ F = RF b vi vo
theorem keptB : Kept BI where
  lt := by
    rintro w b s F ⟨vi, vo, H, h, rfl⟩ k (rfl | hk | hk)
    · exact (Array.getElem?_eq_some_iff.1 h.row).1
    · exact own_lt h.ins k hk
    · exact own_lt h.outs k hk
  keep := by
    rintro w w' b s F ⟨vi, vo, H, h, rfl⟩ hz hk
    exact ⟨vi, vo, H, ⟨(hk b (.inl rfl)).trans h.row, own_kept h.ins (fun k e => hk k (.inr (.inl e))), own_kept h.outs (fun k e => hk k (.inr (.inr e))), h.ho⟩, rfl⟩
theorem bkeep {w w' : World} {b : Nat} {s : Bs} {vi vo : Value} {H : List Lv} (h : BB w b s vi vo H) (hB : Nx w w') : BB w' b s vi vo H ∧ Tn w w' (RF b vi vo) (RF b vi vo) := ⟨h.on hB, Tn.of_nx hB _⟩
set_option maxHeartbeats 2000000 in
theorem new_no {c : Int} (W : World) (hc : c < 1 ∨ 64 < c) : Calls Try.prog 8 #[.int .i64 c] W fun e w' => e = .returned (.tuple #[.pointer none, .int .i64 1]) ∧ Nx W w' := by
  by_cases h1 : c < 1
  · clear hc
    go_enter Try.func8, Try.ntmps8
    go_wp2
    go_ret2
    exact ⟨rfl, Nx.refl _⟩
  · have h2 : 64 < c := by omega
    clear hc
    go_enter Try.func8, Try.ntmps8
    go_wp2
    go_ret2
    exact ⟨rfl, Nx.refl _⟩
set_option maxHeartbeats 2000000 in
theorem new_ok {c : Int} (W : World) (h1 : ¬ c < 1) (h2 : ¬ 64 < c) : Calls Try.prog 8 #[.int .i64 c] W fun e w' => e = .returned (.tuple #[ptr W.heap.size, .int .i64 0]) ∧ w' = W.alloc (.cells #[.int .i64 c, .slice none 0 0, .slice none 0 0] 57) := by
  go_enter Try.func8, Try.ntmps8
  go_wp2
  go_ret2
  exact ⟨rfl, rfl⟩
theorem newB : NewC BI := by
  intro c W
  by_cases h1 : c < 1
  · exact (new_no W (.inl h1)).mono fun e w' h => ⟨fun hh => absurd hh.1 (by omega), fun _ => h.1, h.2⟩
  by_cases h2 : 64 < c
  · exact (new_no W (.inr h2)).mono fun e w' h => ⟨fun hh => absurd hh.2 (by omega), fun _ => h.1, h.2⟩
  refine (new_ok W h1 h2).mono fun e w' h => ?_
  obtain ⟨rfl, rfl⟩ := h
  refine ⟨fun _ => ⟨W.heap.size, RF W.heap.size (.slice none 0 0) (.slice none 0 0), rfl, hide ⟨⟨.slice none 0 0, .slice none 0 0, [], ⟨heap_alloc_new W _, World.ownsRow_nil _ _ _ _, World.ownsRow_nil _ _ _ _, HO.nil⟩, rfl⟩, ?_⟩⟩, fun h => absurd ⟨by omega, by omega⟩ h, Nx.alloc W _⟩
  rintro k (rfl | hk | hk)
  · exact Nat.le_refl _
  · simp [Value.ownBlock] at hk
  · simp [Value.ownBlock] at hk
set_option maxHeartbeats 2000000 in
theorem good_any (x : Pr) (now : Int) (w : World) : Calls Try.prog 22 #[prv x, .int .i64 now] w fun e w' => e = .returned (.bool (argB x now)) ∧ Nx w w' := by
  have HB0 := hide (Nx.alloc w (.cells #[.int .i64 x.1, .int .i64 x.2] 28))
  have HG := hide (fun W => goodC x W)
  cases hg : gp x with
  | false =>
    have FE := hide (arg_f1 (now := now) hg)
    rw [hg] at HG
    clear hg
    go_enter Try.func22, Try.ntmps22
    go_wp2_with (go_at_call 37; refine (HG.out _).mono ?_; rintro e w9 ⟨rfl, hw9⟩; have HN9 := hide (Nx.trans HB0.out hw9); clear hw9)
    go_ret
    exact ⟨by rw [FE.out]; rfl, HN9.out⟩
  | true =>
    rw [hg] at HG
    by_cases hw : now < 0
    · have FE := hide (arg_f2 (x := x) hw)
      have hw2 := hide (show decide ((0 : Int) ≤ now) = false from decide_eq_false (by omega))
      clear hg
      go_enter Try.func22, Try.ntmps22
      go_wp2_with (go_at_call 37; refine (HG.out _).mono ?_; rintro e w9 ⟨rfl, hw9⟩; have HN9 := hide (Nx.trans HB0.out hw9); clear hw9)
      go_ret
      exact ⟨by rw [FE.out]; exact congrArg (fun b => Ending.returned (.bool b)) hw2.out, HN9.out⟩
    · have FE := hide (arg_t hg (show 0 ≤ now by omega))
      have hw2 : (0 : Int) ≤ now := by omega
      clear hg
      go_enter Try.func22, Try.ntmps22
      go_wp2_with (go_at_call 37; refine (HG.out _).mono ?_; rintro e w9 ⟨rfl, hw9⟩; have HN9 := hide (Nx.trans HB0.out hw9); clear hw9)
      go_ret
      exact ⟨by rw [FE.out]; rfl, HN9.out⟩
end Go.Proofs.Ytldccbinndbcdaa.Am
