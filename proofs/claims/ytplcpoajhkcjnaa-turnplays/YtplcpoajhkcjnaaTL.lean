/- A lock of the call's own, told by the list of who has which ticket; the example that the laws ask first. -/
import Derived.Test.YtplcpoajhkcjnaaTOps
namespace Go.Proofs.Ytplcpoajhkcjnaa.Con
open Go.RowKit
set_option linter.unusedVariables false
set_option linter.unusedSimpArgs false
theorem bel_drewN {B : Nat} {a w : World} (h : Below B a w) (n : Nat) : Below B a (w.drewN n) := ⟨h.os, h.tape, h.output, h.size, h.block⟩
structure LP (W0 W : World) (b m n : Nat) (L : List Tk) : Prop where
  lk : LK W b m n (sv L n) L
  below : Below W0.heap.size W0 W
  fb : W0.heap.size ≤ b
  fm : W0.heap.size ≤ m
section
variable {W0 W W' : World} {b m n s : Nat} {L : List Tk}
theorem LP.stp {n' : Nat} {L' : List Tk} (h : LP W0 W b m n L) (hk : LK W' b m n' (sv L' n') L') (hS : Stp W W' b m) : LP W0 W' b m n' L' :=
  ⟨hk, h.below.trans (hS.toBelow h.below.size h.fb h.fm), h.fb, h.fm⟩
theorem LP.bel (h : LP W0 W b m n L) (hB : Below W.heap.size W W') : LP W0 W' b m n L := ⟨h.lk.below hB, h.below.trans (hB.mono h.below.size), h.fb, h.fm⟩
theorem LP.cells (h : LP W0 W b m n L) : W.cell? ⟨b, 0, none⟩ = some (.int .u32 (n : Int)) ∧ W.cell? ⟨b, 1, none⟩ = some (.int .u32 (sv L n : Int)) := ⟨h.lk.cells.1, h.lk.cells.2.1⟩
theorem LP.start {w w1 : World} (h0 : Below W0.heap.size W0 w) (hk : LK w1 b m 0 0 []) (hB : Below w.heap.size w w1) (h1 : w.heap.size ≤ b) (h2 : w.heap.size ≤ m) : LP W0 w1 b m 0 [] := by
  have s0 := h0.size
  exact ⟨hk, h0.trans (hB.mono s0), by omega, by omega⟩
theorem sv_snoc (L : List Tk) (x : Int) (n : Nat) : sv (L ++ [(x, n)]) (n + 1) = sv L n := by cases L <;> rfl
/-- What lies beside the lock. -/
theorem NRow.stp {e : TypeId} {q : IntKind} {B : Nat} {v : Value} {xs : List Int} (h : NRow e q B W v xs) (hl : LK W b m n s L) (he : e ≠ 34) (hS : Stp W W' b m) : NRow e q B W' v xs := by
  refine h.kept fun k hk => hS.block k (h.lt k hk) ?_ ?_
  · rintro rfl
    obtain ⟨cur, hc⟩ := h.blk hk
    rw [hl.str] at hc
    injection hc with hc
    injection hc with _ hc
    exact he hc.symm
  · rintro rfl
    obtain ⟨cur, hc⟩ := h.blk hk
    obtain ⟨es, c, hm⟩ := hl.map.isMap
    rw [hm] at hc
    cases hc
def Got (W0 W : World) (b m n : Nat) (L : List Tk) (w' : World) : Prop := LP W0 w' b m n L ∧ Stp W w' b m
theorem p_draw (h : LP W0 W b m n L) (x : Int) (h0 : 0 ≤ x) (h1 : x ≤ 255) (hd : tkOf L x = none) (hf : L.length < 64) (hn : n < 1000000) (n' : Nat) (L' : List Tk) (hn' : n + 1 = n') (hL : L ++ [(x, n)] = L') :
    Calls Try.prog 9 #[.pointer (some ⟨b, 0, none⟩), .int .i64 x] W fun e w' => e = .returned (.tuple #[.int .u32 (n : Int), .int .i64 0]) ∧ Hid (Got W0 W b m n' L' w') := by
  subst hn'
  subst hL
  refine (draw_ok h.lk x (who64 ⟨h0, h1⟩) hd h0 h1 hf hn).mono ?_
  rintro e w' ⟨rfl, hT⟩
  obtain ⟨hk, hS⟩ := hT
  exact ⟨rfl, hide ⟨h.stp (by rw [sv_snoc]; exact hk) hS, hS⟩⟩
theorem p_has (h : LP W0 W b m n L) (x : Int) (hx : in64 x) (r : Bool) (hr : hasB L (sv L n) x = r) :
    Calls Try.prog 12 #[.pointer (some ⟨b, 0, none⟩), .int .i64 x] W fun e w' => e = .returned (.bool r) ∧ w' = W := by
  subst hr
  exact has_any h.lk x hx
theorem p_ahead (h : LP W0 W b m n L) (x : Int) (hx : in64 x) (d : Nat) (hd : tkOf L x = some d) (r : Nat) (hr : ahd L d = r) :
    Calls Try.prog 13 #[.pointer (some ⟨b, 0, none⟩), .int .i64 x] W fun e w' => e = .returned (.int .i64 (r : Int)) ∧ Hid (Got W0 W b m n L w') := by
  subst hr
  refine (ahead_any h.lk x hx d hd).mono ?_
  rintro e w' ⟨rfl, hB⟩
  exact ⟨rfl, hide ⟨h.bel hB, Stp.below hB _ _⟩⟩
theorem out_head {x : Int} {d : Nat} (ho : Ord ((x, d) :: L)) : out ((x, d) :: L) x = L := by
  have h1 : out ((x, d) :: L) x = out L x := by unfold out; rw [List.filter_cons_of_neg (by simp)]
  rw [h1]
  exact out_none fun q hq e => ((List.pairwise_cons.1 ho).1 q hq).1 e.symm
theorem p_free {x : Int} {d : Nat} (h : LP W0 W b m n ((x, d) :: L)) (hx : in64 x) :
    Calls Try.prog 10 #[.pointer (some ⟨b, 0, none⟩), .int .i64 x] W fun e w' => e = .returned (.int .i64 0) ∧ Hid (Got W0 W b m n L w') := by
  refine (free_ok h.lk x hx (by simp [tkOf, sv])).mono ?_
  rintro e w' ⟨rfl, hT⟩
  rw [out_head h.lk.ord] at hT
  obtain ⟨hk, hS⟩ := hT
  exact ⟨rfl, hide ⟨h.stp hk hS, hS⟩⟩
/-- One that waits leaves: the first stays first. -/
theorem p_leave {y : Int} {c : Nat} (h : LP W0 W b m n ((y, c) :: L)) (x : Int) (d : Nat) (hd : tkOf ((y, c) :: L) x = some d) (hne : x ≠ y) (L' : List Tk) (hL : out L x = L') :
    Calls Try.prog 11 #[.pointer (some ⟨b, 0, none⟩), .int .i64 x] W fun e w' => e = .returned (.int .i64 0) ∧ Hid (Got W0 W b m n ((y, c) :: L') w') := by
  subst hL
  have hm : (x, d) ∈ L := by
    rcases List.mem_cons.1 (tkOf_mem hd) with e | e
    · injection e with e1 _; exact absurd e1 hne
    · exact e
  have hlt := ((List.pairwise_cons.1 h.lk.ord).1 _ hm).2
  refine (leave_ok h.lk x (who64 (h.lk.who _ (List.mem_cons_of_mem _ hm))) d hd (by simp [sv] at hlt ⊢; omega)).mono ?_
  rintro e w' ⟨rfl, hT⟩
  have e1 : out ((y, c) :: L) x = (y, c) :: out L x := by unfold out; rw [List.filter_cons_of_pos (by simpa using fun e => hne e.symm)]
  rw [e1] at hT
  obtain ⟨hk, hS⟩ := hT
  exact ⟨rfl, hide ⟨h.stp hk hS, hS⟩⟩
end
theorem i64 {x : Int} (h1 : -9223372036854775808 ≤ x) (h2 : x ≤ 9223372036854775807) : in64 x := (in64_iff x).2 ⟨h1, h2⟩
set_option maxHeartbeats 1600000 in
set_option maxRecDepth 100000 in
theorem awake_any (W : World) : Calls Try.prog 7 #[] W fun e w' => e = .returned (.bool true) ∧ Below W.heap.size W w' := by
  have HN := hide (new_any W)
  unfold NewPost at HN
  go_enter Try.func7, Try.ntmps7
  go_wp2_with (go_at_call 8; refine HN.out.mono ?_; rintro e W1 ⟨b, m, rfl, hk, hB1, hb, hm⟩; have P0 := hide (LP.start (Below.refl _ W) hk hB1 hb hm); clear hk hB1 hb hm)
  refine (p_draw P0.out 3 (by decide) (by decide) rfl (by decide) (by decide) 1 [(3, 0)] rfl rfl).mono ?_
  rintro e W2 ⟨rfl, G1⟩
  go_wp2_with fail
  refine (p_draw G1.out.1 5 (by decide) (by decide) rfl (by decide) (by decide) 2 [(3, 0), (5, 1)] rfl rfl).mono ?_
  rintro e W3 ⟨rfl, G2⟩
  go_wp2_with fail
  refine (p_has G2.out.1 3 (i64 (by decide) (by decide)) true rfl).mono ?_
  rintro e w' ⟨rfl, hw⟩
  have hw2 := hw.symm
  clear hw
  subst hw2
  go_wp2_with fail
  refine (p_has G2.out.1 5 (i64 (by decide) (by decide)) false rfl).mono ?_
  rintro e w' ⟨rfl, hw⟩
  have hw2 := hw.symm
  clear hw
  subst hw2
  go_wp2_with fail
  refine (p_ahead G2.out.1 5 (i64 (by decide) (by decide)) 1 rfl 1 rfl).mono ?_
  rintro e W4 ⟨rfl, G3⟩
  go_wp2_with fail
  refine (len_any G3.out.1.lk).mono ?_
  rintro e w' ⟨rfl, hw⟩
  have hw2 := hw.symm
  clear hw
  subst hw2
  go_wp2
  go_ret
  exact ⟨rfl, G3.out.1.below⟩
end Go.Proofs.Ytplcpoajhkcjnaa.Con
