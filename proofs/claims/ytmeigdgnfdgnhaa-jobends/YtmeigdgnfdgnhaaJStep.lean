/- Step and Left of job. -/
import Derived.Test.YtmeigdgnfdgnhaaJGood
namespace Go.Proofs.Ytmeigdgnfdgnhaa.Con
open Go.RowKit Go.Proofs.Ytmeigdgnfdgnhaa.Pm
set_option linter.unusedVariables false
set_option linter.unusedSimpArgs false
/-- What Step tells. -/
def stepV (j : Jb) : Value := .tuple #[stv ((jstep j).getD (0, 0)), .bool (jstep j).isSome]
theorem stepV_none {j : Jb} (h : jstep j = none) : stepV j = .tuple #[.agg #[.int .i64 0, .int .i64 0], .bool false] := by unfold stepV; rw [h]; rfl
theorem stepV_some {j : Jb} {s : St} (h : jstep j = some s) : stepV j = .tuple #[.agg #[.int .i64 s.1, .int .i64 s.2], .bool true] := by unfold stepV; rw [h]; rfl
theorem box_bel {W w' : World} {o : Obj} (hb : Below (W.alloc o).heap.size (W.alloc o) w') : Below W.heap.size W w' := ((Below.refl _ W).alloc (Nat.le_refl _) o).trans (Below.mono hb (by simp))
theorem row_free {w : World} {g e : Nat} {cs : Array Value} (h : w.heap[g]? = some (.cells cs e (0, 0))) (j : Nat) : w.frozen? ⟨g, j, none⟩ = false := by simp [World.frozen?, h]
/-- A block whose cells are written anew. -/
structure Put (g : Nat) (w w' : World) (o : Obj) : Prop where
  row : w'.heap[g]? = some o
  rest : ∀ k, k ≠ g → w'.heap[k]? = w.heap[k]?
  size : w'.heap.size = w.heap.size
  os : w'.os = w.os
  tape : w'.tape = w.tape
  output : w'.output = w.output
theorem put2 {w : World} {g e : Nat} {x y : Value} (h : w.heap[g]? = some (.cells #[x, y] e (0, 0))) (x' y' : Value) :
    Put g w ((w.setCell ⟨g, 0, none⟩ x').setCell ⟨g, 1, none⟩ y') (.cells #[x', y'] e (0, 0)) := by
  refine ⟨?_, fun k hk => ?_, ?_, rfl, rfl, rfl⟩
  · rw [heap_setCell_same _ g 1 _ _ _ (heap_setCell_same _ g 0 _ _ _ h)]; rfl
  · rw [heap_setCell_other _ _ k _ hk, heap_setCell_other _ _ k _ hk]
  · simp [World.setCell]
theorem put4 {w : World} {g e : Nat} {x y z t : Value} (h : w.heap[g]? = some (.cells #[x, y, z, t] e (0, 0))) (x' y' z' t' : Value) :
    Put g w ((((w.setCell ⟨g, 0, none⟩ x').setCell ⟨g, 1, none⟩ y').setCell ⟨g, 2, none⟩ z').setCell ⟨g, 3, none⟩ t') (.cells #[x', y', z', t'] e (0, 0)) := by
  refine ⟨?_, fun k hk => ?_, ?_, rfl, rfl, rfl⟩
  · rw [heap_setCell_same _ g 3 _ _ _ (heap_setCell_same _ g 2 _ _ _ (heap_setCell_same _ g 1 _ _ _ (heap_setCell_same _ g 0 _ _ _ h)))]; rfl
  · rw [heap_setCell_other _ _ k _ hk, heap_setCell_other _ _ k _ hk, heap_setCell_other _ _ k _ hk, heap_setCell_other _ _ k _ hk]
  · simp [World.setCell]
theorem Put.below {g B : Nat} {w0 w w' : World} {o : Obj} (h : Put g w w' o) (hB : Below B w0 w) (hg : B ≤ g) : Below B w0 w' :=
  hB.trans ⟨h.os, h.tape, h.output, Nat.le_of_eq h.size.symm, fun k hk => h.rest k (by omega)⟩
theorem Put.own {g B e size n : Nat} {w w' : World} {o : Obj} {v : Value} {xs : List Value} (h : Put g w w' o) (ho : w.ownsRow B e size v n xs) (hg : g < B) : w'.ownsRow B e size v n xs :=
  own_kept ho fun k hk => h.rest k (by have := own_past ho k hk; omega)
set_option maxHeartbeats 2000000 in
theorem jstep_any {W : World} {v : Value} {num a d : Int} {L : List St} (h : Sl W v L) :
    Calls Try.prog 10 #[jv num v a d] W fun e w' => e = .returned (stepV ⟨num, L, a, d⟩) ∧ Below W.heap.size W w' := by
  obtain ⟨p, cap, rfl, hn, hm⟩ := h.form
  have b1 : Below W.heap.size W (W.alloc (.cells #[.int .i64 num, .slice p L.length cap, .int .i64 a, .int .i64 d] 28)) := (Below.refl _ W).alloc (Nat.le_refl _) _
  have b2 : Below W.heap.size W ((W.alloc (.cells #[.int .i64 num, .slice p L.length cap, .int .i64 a, .int .i64 d] 28)).alloc (.cells #[.int .i64 0, .int .i64 0] 24)) := b1.alloc (by simp) _
  have HB0 := hide b2
  have HG := hide (jgood_any (num := num) (a := a) (d := d) (h.below b2))
  have HS := hide (h.below b2)
  clear h b1 b2
  go_enter Try.func10, Try.ntmps10
  go_wp2_with (go_at_call 11; refine HG.out.mono ?_; rintro e w1 ⟨rfl, hb⟩; refine Hid.out ?_)
  refine hide ?_
  have r0 := (hb.block W.heap.size (by simp; omega)).trans ((heap_alloc_old _ _ (by simp)).trans (heap_alloc_new W _))
  have r1 := (hb.block (W.heap.size + 1) (by simp)).trans (heap_alloc_at _ _ _ (by simp))
  obtain ⟨x0, x1, x2, x3⟩ := row_cells r0
  have HB := hide (HB0.out.trans (Below.mono hb (by simp; omega)))
  have HS1 := hide (HS.out.below hb)
  clear hb HB0 HG HS r0
  have c0 : w1.cell? ⟨W.heap.size + 1, 0, none⟩ = some (.int .i64 0) := (cell_of_row w1 _ 0 _ _ _ r1).trans rfl
  have c1 : w1.cell? ⟨W.heap.size + 1, 1, none⟩ = some (.int .i64 0) := (cell_of_row w1 _ 1 _ _ _ r1).trans rfl
  have z0 := row_free r1 0
  have z1 := row_free r1 1
  have fin : Hid (∀ x y, Below W.heap.size W ((w1.setCell ⟨W.heap.size + 1, 0, none⟩ x).setCell ⟨W.heap.size + 1, 1, none⟩ y) ∧ True) := hide (fun x y => ⟨(put2 r1 x y).below HB.out (by omega), trivial⟩)
  clear r1 HB
  cases hg : jgood ⟨num, L, a, d⟩ with
  | false =>
    have FE := hide (stepV_none (jstep_bad hg))
    clear hg
    go_wp2
    (try simp only [Exit.inBlock, Exit.then])
    refine bodyPost_ret (v := .tuple #[.agg #[.int .i64 0, .int .i64 0], .bool false]) ?_ rfl ⟨?_, (fin.out _ _).1⟩
    · rw [results_cell_tmp rfl]; go_simp
    · rw [FE.out]
  | true =>
    by_cases he : a = L.length
    · have FE := hide (stepV_none (j := ⟨num, L, a, d⟩) (jstep_end he))
      subst he
      clear hg
      go_wp2
      (try simp only [Exit.inBlock, Exit.then])
      refine bodyPost_ret (v := .tuple #[.agg #[.int .i64 0, .int .i64 0], .bool false]) ?_ rfl ⟨?_, (fin.out _ _).1⟩
      · rw [results_cell_tmp rfl]; go_simp
      · rw [FE.out]
    · have hs := jstep_some hg he
      have hb := jstep_bound hs
      obtain ⟨k, rfl⟩ : ∃ k : Nat, a = k := ⟨a.toNat, by have := hb.2.2.2.1; simp only at this; omega⟩
      have hk : k < L.length := by have := hb.2.2.2.2.1; simp only at this; omega
      have FE := hide (stepV_some hs)
      rw [show ((⟨num, L, (k : Int), d⟩ : Jb).a.toNat) = k by simp] at FE
      clear hs hb hg
      have hk1 : (k : Int) < (L.length : Int) := by omega
      have q1 : ((k : Int) == (L.length : Int)) = false := by simp; omega
      obtain ⟨b, o, rfl, hb, y0, y1⟩ := HS1.out.at hk
      generalize (at' L k).1 = z at *
      generalize (at' L k).2 = z' at *
      go_wp2
      (try simp only [Exit.inBlock, Exit.then])
      refine bodyPost_ret (v := .tuple #[.agg #[.int .i64 z, .int .i64 z'], .bool true]) ?_ rfl ⟨?_, (fin.out _ _).1⟩
      · rw [results_cell_tmp rfl]; go_simp
      · rw [FE.out]
end Go.Proofs.Ytmeigdgnfdgnhaa.Con
