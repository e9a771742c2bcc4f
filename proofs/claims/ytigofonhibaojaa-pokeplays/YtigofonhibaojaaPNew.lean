/- New; a layer that hides the memory; awake. -/
import Derived.Test.YtigofonhibaojaaPAll
namespace Go.Proofs.Ytigofonhibaojaa.Con
open Go.RowKit Go.Proofs.Ytigofonhibaojaa.Mk
set_option linter.unusedVariables false
set_option linter.unusedSimpArgs false
def s0 : Nat → Td := fun _ => ⟨0, 0, 0⟩
theorem made_at (a b c : Value) (n j : Nat) (h : j < n) : (madeCells #[a, b, c] (n * 3))[j * 3]? = some a ∧ (madeCells #[a, b, c] (n * 3))[j * 3 + 1]? = some b ∧ (madeCells #[a, b, c] (n * 3))[j * 3 + 2]? = some c := by
  have e0 : j * 3 % 3 = 0 := by omega
  have e1 : (j * 3 + 1) % 3 = 1 := by omega
  have e2 : (j * 3 + 2) % 3 = 2 := by omega
  refine ⟨?_, ?_, ?_⟩
  · rw [Array.getElem?_eq_getElem (by rw [size_madeCells]; omega)]; simp [madeCells, e0]
  · rw [Array.getElem?_eq_getElem (by rw [size_madeCells]; omega)]; simp [madeCells, e1]
  · rw [Array.getElem?_eq_getElem (by rw [size_madeCells]; omega)]; simp [madeCells, e2]
theorem infoTd : (Try.prog.info? 56).map (fun i => (i.zero, i.size, i.bytes)) = some (some (.agg #[.int .i64 0, .int .u64 0, .int .i64 0]), 3, 24) := by kernel_rfl
theorem underTd : Try.prog.underlying 49 = some (.slice 56) := by kernel_rfl
theorem mk_told (n : Nat) (hn : n ≤ 64) (w : World) : (Instr.makeSlice 49 (.int .i64 (n : Int)) (.int .i64 (n : Int))).run Try.prog w = .ok (.slice (some ⟨w.heap.size, 0, none⟩) n n) (w.alloc (.cells (madeCells #[.int .i64 0, .int .u64 0, .int .i64 0] (n * 3)) 56)) := by
  obtain ⟨i, hi, hz⟩ := Option.map_eq_some_iff.1 infoTd
  simp only [Prod.mk.injEq] at hz
  have := run_make (P := Try.prog) w 49 56 i _ underTd hi hz.1 .i64 .i64 n n (by omega) (by omega) (by rw [hz.2.2]; omega) (by omega)
  rw [this, hz.2.1]
  rfl
/-- A thing that the law has made: all of it lies behind W. -/
structure PL (W wr : World) (b g n m : Nat) (s : Nat → Td) : Prop where
  pk : PK wr b g n m s
  below : Below W.heap.size W wr
  fb : W.heap.size ≤ b
  fg : W.heap.size ≤ g
def NewPost (w : World) (n : Nat) (e : Ending) (w' : World) : Prop :=
  ∃ b g, e = .returned (.tuple #[.pointer (some ⟨b, 0, none⟩), .int .i64 0]) ∧ Hid (PL w w' b g n 0 s0)
theorem new_no (w : World) (x : Int) (hx : x < 1 ∨ 64 < x) : Calls Try.prog 7 #[.int .i64 x] w fun e w' => e = .returned (.tuple #[.pointer none, .int .i64 1]) ∧ w' = w := by
  by_cases h1 : x < 1
  · clear hx
    go_enter Try.func7, Try.ntmps7
    go_wp2
    go_ret2
    exact ⟨rfl, rfl⟩
  · have h2 : 64 < x := by omega
    clear hx
    go_enter Try.func7, Try.ntmps7
    go_wp2
    go_ret2
    exact ⟨rfl, rfl⟩
theorem new_any (W : World) (n : Nat) (h1 : 1 ≤ n) (h2 : n ≤ 64) : Calls Try.prog 7 #[.int .i64 (n : Int)] W fun e w' => NewPost W n e w' := by
  have hat : ∀ (O X : Obj), ((W.alloc O).alloc X).heap[W.heap.size + 1]? = some X := fun O X => by
    have e : W.heap.size + 1 = (W.alloc O).heap.size := by simp
    rw [e]
    exact heap_alloc_new _ _
  obtain ⟨O, mk, FIN⟩ : ∃ O : Obj, (∀ w : World, (Instr.makeSlice 49 (.int .i64 (n : Int)) (.int .i64 (n : Int))).run Try.prog w = .ok (.slice (some ⟨w.heap.size, 0, none⟩) n n) (w.alloc O)) ∧
      Hid (∀ w1 : World, w1 = (W.alloc O).alloc (.cells #[.slice (some ⟨W.heap.size, 0, none⟩) n n] 51) → NewPost W n (.returned (.tuple #[.pointer (some ⟨W.heap.size + 1, 0, none⟩), .int .i64 0])) w1) := by
    refine ⟨_, fun w => mk_told n h2 w, hide ?_⟩
    rintro w1 rfl
    refine ⟨W.heap.size + 1, W.heap.size, rfl, hide ⟨⟨hat _ _, ⟨_, (heap_alloc_old _ _ (by simp)).trans (heap_alloc_new _ _), size_madeCells _ _, fun j hj => made_at _ _ _ n j hj⟩, h1, h2, fun j hj => by simp [s0]⟩, ((Below.refl _ _).alloc (Nat.le_refl _) _).alloc (by simp) _, by omega, Nat.le_refl _⟩⟩
  have k1 : ¬ (n : Int) < 1 := by omega
  have k2 : ¬ (n : Int) > 64 := by omega
  go_enter Try.func7, Try.ntmps7
  go_wp2
  go_ret2
  exact FIN.out _ rfl
section
variable {W wr w' : World} {b g n m m' : Nat} {s s' : Nat → Td}
theorem PL.got (h : PL W wr b g n m s) (hs : Snd wr b g n m' s' w') : PL W w' b g n m' s' :=
  ⟨hs.1, h.below.trans (hs.2.toBelow h.below.size h.fg), h.fb, h.fg⟩
theorem PL.bel (h : PL W wr b g n m s) (hs : Below wr.heap.size wr w') : PL W w' b g n m s :=
  ⟨h.pk.below hs, h.below.trans (hs.mono h.below.size), h.fb, h.fg⟩
theorem PL.trans {W2 : World} (hB : Below W.heap.size W W2) (h : PL W2 wr b g n m s) : PL W wr b g n m s :=
  ⟨h.pk, hB.trans (h.below.mono hB.size), Nat.le_trans hB.size h.fb, Nat.le_trans hB.size h.fg⟩
end
set_option maxRecDepth 100000 in
theorem awake_any (W : World) : Calls Try.prog 6 #[] W fun e w' => e = .returned (.bool true) ∧ Hid (Below W.heap.size W w') := by
  have N := hide (new_any W 2 (by decide) (by decide))
  unfold NewPost at N
  go_enter Try.func6, Try.ntmps6
  go_wp2_with fail
  refine N.out.mono ?_
  rintro e w1 ⟨b, g, rfl, P⟩
  clear N
  go_wp2_with fail
  have C := hide (send_any P.out.pk 0 1 1 (by decide) (by decide) (by decide) (by decide) (by decide))
  refine C.out.mono ?_
  rintro e w2 ⟨rfl, G⟩
  have P2 := hide (P.out.got G.out)
  clear C G P
  go_wp2_with fail
  have C := hide (send_any P2.out.pk 0 1 2 (by decide) (by decide) (by decide) (by decide) (by decide))
  refine C.out.mono ?_
  rintro e w3 ⟨rfl, G⟩
  have P3 := hide (P2.out.got G.out)
  clear C G P2
  go_wp2_with fail
  have C := hide (read_any P3.out.pk 1 (by decide) (by decide))
  refine C.out.mono ?_
  rintro e w4 ⟨rfl, G⟩
  have P4 := hide (P3.out.got G.out)
  clear C G P3
  go_wp2
  go_ret
  exact ⟨rfl, hide P4.out.below⟩
end Go.Proofs.Ytigofonhibaojaa.Con
