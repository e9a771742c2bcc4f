/- Those that left: walk, above. -/
import Derived.Test.YtldccbinndbcdaaAdM
import Derived.RangeFuncKeeps
import Derived.RangeFuncBound
import Derived.RangeFuncLeaves
import Derived.RangeFuncNested
import Derived.Shelf.Abstract
import Derived.OwnWalkIn
import Derived.TacticsInMore
namespace Go.Proofs.Ytldccbinndbcdaa.Am
open Go.RowKit Go.Shelf Go.Proofs.Ytldccbinndbcdaa.Con Go.Proofs.Ytldccbinndbcdaa.Wn Go.Proofs.Ytldccbinndbcdaa.Fp
set_option linter.unusedVariables false
set_option linter.unusedSimpArgs false
attribute [local go_sem] Oper.semAt_some
theorem room_of_none {F : Fence} (hd : F.depth = none) (k : Nat) : F.room k := fun d h => by rw [hd] at h; cases h
theorem round_any {F : Fence} (hd : F.depth = none) {m m' : Nat} {P : Program} {l : Nat} {f : FuncId} {tmps : Array Value} {assign body : Code} {w : World} {R : Ending → World → Prop}
    (h : RoundIn F m P l f tmps assign body w R) : RoundIn F m' P l f tmps assign body w R := ⟨h.1, fun c cs _ => h.2 c cs (room_of_none hd _)⟩
theorem yield_any {F : Fence} (hd : F.depth = none) {m : Nat} (m' : Nat) {P : Program} {l : Nat} {args : Array Value} {W : World} {R : Ending → World → Prop} (h : YieldAt F m P l args W R) : YieldAt F m' P l args W R := by
  obtain ⟨fn, tmps, assign, body, hy, hR⟩ := h
  exact ⟨fn, tmps, assign, body, hy, round_any hd hR⟩
set_option maxRecDepth 100000 in
set_option maxHeartbeats 4000000 in
/-- walk, at a place of the heap: all those above now come, in its order; or some of them, where a round has said 'no more'. -/
theorem walk_in (F : Fence) (hd : F.depth = none) (h49 : F.fn 49) (hro : F.round = none) (l n₀ N : Nat) (now : Int) (H : List Lv) (hH : H.length ≤ 1000) (p : Option Addr) (cap : Nat) (J Jx : List Lv → World → Prop)
    (hY : ∀ m pre x W, J pre W → pre.length < N → YieldAt F m Try.prog l #[lvV x] W fun e W' =>
      (e = .returned (.bool true) ∧ J (pre ++ [x]) W' ∧ Below n₀ W W') ∨ (e = .returned (.bool false) ∧ Jx (pre ++ [x]) W')) :
    ∀ (f i n : Nat) (pre : List Lv) (W : World), H.length ≤ i + f → i ≤ 3000 → Ls n₀ W (.slice p H.length cap) H → J pre W → pre.length + (wk H now f i).length ≤ N →
      CallsIn F n Try.prog 49 #[.slice p H.length cap, .int .i64 i, .int .i64 now, .func (.yield l) #[] #[]] W fun e W' =>
        (e = .returned (.bool true) ∧ J (pre ++ wk H now f i) W' ∧ Below n₀ W W') ∨ (e = .returned (.bool false) ∧ ∃ q, q <+: wk H now f i ∧ Jx (pre ++ q) W') := by
  have out : ∀ (f i n : Nat) (pre : List Lv) (W : World), H.length ≤ i → J pre W → 
      CallsIn F n Try.prog 49 #[.slice p H.length cap, .int .i64 i, .int .i64 now, .func (.yield l) #[] #[]] W fun e W' =>
        (e = .returned (.bool true) ∧ J (pre ++ wk H now f i) W' ∧ Below n₀ W W') ∨ (e = .returned (.bool false) ∧ ∃ q, q <+: wk H now f i ∧ Jx (pre ++ q) W') := by
    intro f i n pre W hi hJ
    have e0 : wk H now f i = [] := by
      cases f with
      | zero => rfl
      | succ f => unfold wk; rw [if_neg (fun h => by omega)]
    rw [e0, List.append_nil]
    have hi1 : (H.length : Int) ≤ (i : Int) := by omega
    have HJ := hide hJ
    clear hJ e0 hY
    refine callsIn_of_wp Try.func49 rfl h49 ?_ hro
    simp only [Try.ntmps49, List.size_toArray, List.length_cons, List.length_nil, Nat.reduceAdd, Nat.reduceSub, Array.replicate_succ, Array.replicate_zero, List.push_toArray, List.append_toArray, List.nil_append, List.cons_append]
    gi_wp2
    go_ret
    exact .inl ⟨rfl, HJ.out, Below.refl _ _⟩
  intro f
  induction f with
  | zero =>
    intro i n pre W hf h3 hS hJ hN
    exact out 0 i n pre W (by omega) hJ
  | succ f ih =>
    intro i n pre W hf h3 hS hJ hN
    by_cases hi : i < H.length
    rotate_left
    · exact out (f + 1) i n pre W (by omega) hJ
    have hdd : ∀ k : Nat, (F.depth.isSome = true → 1 ≤ k) := fun k h => by rw [hd] at h; cases h
    have hi1 : (i : Int) < (H.length : Int) := by omega
    obtain ⟨b, o, rfl, hb, c0, c1, c2, c3, c4⟩ := hS.at hi
    by_cases ht : now < tl H i
    rotate_left
    · have e0 : wk H now (f + 1) i = [] := by unfold wk; rw [if_neg (fun h => ht h.2)]
      rw [e0, List.append_nil]
      have ht2 : (atL H i).1.till ≤ now := by unfold tl at ht; omega
      have HJ := hide hJ
      clear hJ e0 hY ih out hS c0 c1 c2 c4 ht
      generalize (atL H i).1.till = tt at *
      refine callsIn_of_wp Try.func49 rfl h49 ?_ hro
      simp only [Try.ntmps49, List.size_toArray, List.length_cons, List.length_nil, Nat.reduceAdd, Nat.reduceSub, Array.replicate_succ, Array.replicate_zero, List.push_toArray, List.append_toArray, List.nil_append, List.cons_append]
      gi_wp2
      go_ret
      exact .inl ⟨rfl, HJ.out, Below.refl _ _⟩
    have ew : wk H now (f + 1) i = atL H i :: (wk H now f (2 * i + 1) ++ wk H now f (2 * i + 2)) := by conv => lhs; unfold wk; rw [if_pos ⟨hi, ht⟩]
    rw [ew] at hN ⊢
    simp only [List.length_append, List.length_cons] at hN
    have hx := hY (n - 1) pre (atL H i) W hJ (by omega)
    have ht2 : ¬ (atL H i).1.till ≤ now := by unfold tl at ht; omega
    have ihl := fun (W1 : World) (hJ1 : J (pre ++ [atL H i]) W1) (hb1 : Below n₀ W W1) =>
      (ih (2 * i + 1) (n - 1) (pre ++ [atL H i]) W1 (by omega) (by omega) (hS.below hb1) hJ1 (by simp; omega))
    have ihr := fun (W2 : World) (hJ2 : J (pre ++ [atL H i] ++ wk H now f (2 * i + 1)) W2) (hb2 : Below n₀ W W2) =>
      (ih (2 * i + 2) (n - 1) (pre ++ [atL H i] ++ wk H now f (2 * i + 1)) W2 (by omega) (by omega) (hS.below hb2) hJ2 (by simp; omega))
    simp only [show ((2 * i + 1 : Nat) : Int) = 2 * (i : Int) + 1 by omega] at ihl
    simp only [show ((2 * i + 2 : Nat) : Int) = 2 * (i : Int) + 2 by omega] at ihr
    generalize wk H now f (2 * i + 1) = A at *
    generalize wk H now f (2 * i + 2) = B at *
    generalize hxx : atL H i = x at *
    obtain ⟨fn, tmps, assign, body, hy, hR⟩ := hx
    clear hY ih out hS ht ew
    refine callsIn_of_wp Try.func49 rfl h49 ?_ hro
    simp only [Try.ntmps49, List.size_toArray, List.length_cons, List.length_nil, Nat.reduceAdd, Nat.reduceSub, Array.replicate_succ, Array.replicate_zero, List.push_toArray, List.append_toArray, List.nil_append, List.cons_append]
    gi_wp2_with (first
      | ((try refine ⟨hdd _, ?_⟩); refine hR.mono ?_; clear hR; rintro e W1 (⟨rfl, hJ1, hb1⟩ | ⟨rfl, hx1⟩))
      | ((try refine ⟨hdd _, ?_⟩); gi_at_call 49; refine (ihl _ hJ1 hb1).mono ?_; clear ihl; rintro e W2 (⟨rfl, hJ2, hb2⟩ | ⟨rfl, q, hq, hx2⟩))
      | ((try refine ⟨hdd _, ?_⟩); gi_at_call 49; refine (ihr _ hJ2 (hb1.trans hb2)).mono ?_; clear ihr; rintro e W3 (⟨rfl, hJ3, hb3⟩ | ⟨rfl, q, hq, hx3⟩)))
    · go_ret
      exact .inl ⟨rfl, by simpa [List.append_assoc] using hJ3, (hb1.trans hb2).trans hb3⟩
    · go_ret
      obtain ⟨r, hr'⟩ := hq
      exact .inr ⟨rfl, x :: (A ++ q), ⟨r, by simp [← hr']⟩, by simpa [List.append_assoc] using hx3⟩
    · go_ret
      obtain ⟨r, hr'⟩ := hq
      exact .inr ⟨rfl, x :: q, ⟨r ++ B, by simp [← hr']⟩, by simpa [List.append_assoc] using hx2⟩
    · go_ret
      exact .inr ⟨rfl, [x], ⟨A ++ B, by simp⟩, hx1⟩
set_option maxHeartbeats 2000000 in
theorem above1_in (F : Fence) (hd : F.depth = none) (n : Nat) (h48 : F.fn 48) (h49 : F.fn 49) (hro : F.round = none) (l Bl Bn n₀ : Nat) (now : Int) (H : List Lv) (hH : H.length ≤ 1000) (vo : Value) (J Jx : List Lv → World → Prop)
    (hY : ∀ pre x W, J pre W → pre.length < (wk H now H.length 0).length → YieldAt F (n - 1) Try.prog l #[lvV x] W fun e W' =>
      (e = .returned (.bool true) ∧ J (pre ++ [x]) W' ∧ Below n₀ W W') ∨ (e = .returned (.bool false) ∧ Jx (pre ++ [x]) W'))
    (W : World) (hBl : W.cell? ⟨Bl, 0, none⟩ = some vo) (hBn : W.cell? ⟨Bn, 0, none⟩ = some (.int .i64 now)) (hS : Ls n₀ W vo H) (h0 : J [] W) :
    CallsIn F n Try.prog 48 #[.func (.yield l) #[] #[], .pointer (some ⟨Bl, 0, none⟩), .pointer (some ⟨Bn, 0, none⟩)] W fun e W' => (∃ v, e = .returned v) ∧
      ((∃ ys, ys = wk H now H.length 0 ∧ J ys W') ∨ (∃ pre, pre <+: wk H now H.length 0 ∧ Jx pre W')) := by
  have hdd : ∀ k : Nat, (F.depth.isSome = true → 1 ≤ k) := fun k h => by rw [hd] at h; cases h
  obtain ⟨p, cap, rfl, hn, hm⟩ := hS.form
  have hp := walk_in F hd h49 hro l n₀ (wk H now H.length 0).length now H hH p cap J Jx (fun m pre x W hj hl => yield_any hd m (hY pre x W hj hl)) H.length 0 (n - 1) [] W (by omega) (by omega) hS h0 (by simp)
  generalize wk H now H.length 0 = A at *
  clear hS hY
  refine callsIn_of_wp Try.func48 rfl h48 ?_ hro
  simp only [Try.ntmps48, List.size_toArray, List.length_cons, List.length_nil, Nat.reduceAdd, Nat.reduceSub, Array.replicate_succ, Array.replicate_zero, List.push_toArray, List.append_toArray, List.nil_append, List.cons_append]
  gi_wp2_with ((try refine ⟨hdd _, ?_⟩); gi_at_call 49; refine hp.mono ?_; clear hp; rintro e W1 (⟨rfl, hJ1, _⟩ | ⟨rfl, q, hq, hx⟩))
  · go_end0
    exact ⟨⟨_, rfl⟩, .inl ⟨_, rfl, by simpa using hJ1⟩⟩
  · go_end0
    exact ⟨⟨_, rfl⟩, .inr ⟨q, hq, by simpa using hx⟩⟩
set_option maxHeartbeats 1000000 in
theorem above_in (F : Fence) (n : Nat) (h40 : F.fn 40) (hro : F.round = none) (p : Option Addr) (k cap : Nat) (now : Int) (w : World) :
    CallsIn F n Try.prog 40 #[.slice p k cap, .int .i64 now] w fun e w' => e = .returned (.func (.func 48) #[] #[.pointer (some ⟨w.heap.size, 0, none⟩), .pointer (some ⟨w.heap.size + 1, 0, none⟩)]) ∧ w' = (w.alloc (.cells #[.slice p k cap] 55)).alloc (.cells #[.int .i64 now] 2) := by
  refine callsIn_of_wp Try.func40 rfl h40 ?_ hro
  simp only [Try.ntmps40, List.size_toArray, List.length_cons, List.length_nil, Nat.reduceAdd, Nat.reduceSub, Array.replicate_succ, Array.replicate_zero, List.push_toArray, List.append_toArray, List.nil_append, List.cons_append]
  gi_wp2
  go_ret
  exact ⟨by simp, rfl⟩
/-- above hands back an iterator over those above now: all, in the heap's order; or some of them. -/
theorem above_stops (F : Fence) (hd : F.depth = none) (n : Nat) (h48 : F.fn 48) (h49 : F.fn 49) (hro : F.round = none) (n₀ : Nat) (now : Int) (H : List Lv) (hH : H.length ≤ 1000) (vo : Value) (w : World) (hn₀ : n₀ ≤ w.heap.size) (hS : Ls n₀ w vo H) :
    SeqStopsK F n Try.prog 48 #[.pointer (some ⟨w.heap.size, 0, none⟩), .pointer (some ⟨w.heap.size + 1, 0, none⟩)] (fun x : Lv => #[lvV x]) (Below n₀) (fun ys => ys = wk H now H.length 0) (fun pre => pre <+: wk H now H.length 0) (wk H now H.length 0).length ((w.alloc (.cells #[vo] 55)).alloc (.cells #[.int .i64 now] 2)) := fun l J Jx W hW _ _ hY h0 => by
  have h1 : ((w.alloc (.cells #[vo] 55)).alloc (.cells #[.int .i64 now] 2)).heap.size = w.heap.size + 2 := by simp
  have g1 : ((w.alloc (.cells #[vo] 55)).alloc (.cells #[.int .i64 now] 2)).heap[w.heap.size]? = some (.cells #[vo] 55 (0, 0)) := (heap_alloc_old _ _ (by simp)).trans (heap_alloc_new w _)
  have g2 : ((w.alloc (.cells #[vo] 55)).alloc (.cells #[.int .i64 now] 2)).heap[w.heap.size + 1]? = some (.cells #[.int .i64 now] 2 (0, 0)) := heap_alloc_at _ _ _ (by simp)
  exact above1_in F hd n h48 h49 hro l w.heap.size (w.heap.size + 1) n₀ now H hH vo J Jx hY W
    ((cell_of_row W _ 0 _ _ _ ((hW.block _ (by omega)).trans g1)).trans rfl) ((cell_of_row W _ 0 _ _ _ ((hW.block _ (by omega)).trans g2)).trans rfl)
    ((hS.below (((Below.refl n₀ w).alloc hn₀ _).alloc (by simp; omega) _)).below (hW.mono (by omega))) h0
end Go.Proofs.Ytldccbinndbcdaa.Am
