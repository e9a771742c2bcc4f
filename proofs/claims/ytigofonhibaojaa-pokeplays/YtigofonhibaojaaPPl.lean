/- Pokes and the law's three arrays, side by side. -/
import Derived.Test.YtigofonhibaojaaPAllW
namespace Go.Proofs.Ytigofonhibaojaa.Con
open Go.RowKit Go.Proofs.Ytigofonhibaojaa.Mk
set_option linter.unusedVariables false
set_option linter.unusedSimpArgs false
theorem apart {W : World} {a b : Nat} {ca cb : Array Value} {Ta Tb : TypeId} {fa fb : Nat × Nat} (h1 : W.heap[a]? = some (.cells ca Ta fa)) (h2 : W.heap[b]? = some (.cells cb Tb fb)) (h : Ta ≠ Tb) : a ≠ b := by
  rintro rfl
  rw [h1] at h2
  injection h2 with h2
  injection h2 with _ h2
  exact h h2
/-- An array of sixty-four numbers. -/
def Ar (W : World) (g : Nat) (T : TypeId) (q : IntKind) (F : Nat → Int) : Prop := ∃ cs : Array Value, W.heap[g]? = some (.cells cs T (0, 0)) ∧ cs.size = 64 ∧ ∀ j, j < 64 → cs[j]? = some (.int q (F j))
def upd (F : Nat → Int) (k : Nat) (v : Int) : Nat → Int := fun j => if j = k then v else F j
section
variable {W W' : World} {g : Nat} {T : TypeId} {q : IntKind} {F : Nat → Int}
theorem Ar.lt (h : Ar W g T q F) : g < W.heap.size := by
  obtain ⟨cs, hc, _⟩ := h
  exact (Array.getElem?_eq_some_iff.1 hc).1
theorem Ar.kept (h : Ar W g T q F) (hk : W'.heap[g]? = W.heap[g]?) : Ar W' g T q F := by
  obtain ⟨cs, hc, r⟩ := h
  exact ⟨cs, hk.trans hc, r⟩
theorem Ar.cell (h : Ar W g T q F) (j : Nat) (hj : j < 64) : W.cell? ⟨g, j, none⟩ = some (.int q (F j)) := by
  obtain ⟨cs, hc, hs, r⟩ := h
  rw [cell_of_row W g _ _ _ _ hc, r j hj]
theorem Ar.frozen (h : Ar W g T q F) (j : Nat) : W.frozen? ⟨g, j, none⟩ = false := by
  obtain ⟨cs, hc, _⟩ := h
  simp [World.frozen?, hc]
theorem Ar.set (h : Ar W g T q F) (k : Nat) (hk : k < 64) (v : Int) : Ar (W.setCell ⟨g, k, none⟩ (.int q v)) g T q (upd F k v) := by
  obtain ⟨cs, hc, hs, r⟩ := h
  refine ⟨_, heap_setCell_same W g k cs _ (.int q v) hc, by simp [hs], fun j hj => ?_⟩
  unfold upd
  by_cases e : j = k
  · subst e
    rw [if_pos rfl, Array.getElem?_setIfInBounds_self_of_lt (by omega)]
  · rw [if_neg e, Array.getElem?_setIfInBounds_ne (by omega), r j hj]
theorem Ar.congr {F' : Nat → Int} (h : Ar W g T q F) (hf : ∀ j, j < 64 → F' j = F j) : Ar W g T q F' := by
  obtain ⟨cs, hc, hs, r⟩ := h
  exact ⟨cs, hc, hs, fun j hj => by rw [hf j hj]; exact r j hj⟩
theorem Ar.made (W : World) (T : TypeId) (q : IntKind) : Ar (W.alloc (.cells (Array.replicate 64 (.int q 0)) T)) W.heap.size T q (fun _ => 0) :=
  ⟨_, heap_alloc_new _ _, by simp, fun j hj => by simp [hj]⟩
theorem Ar.ne {b : Nat} {cb : Array Value} {Tb : TypeId} {fb : Nat × Nat} (h : Ar W g T q F) (h2 : W.heap[b]? = some (.cells cb Tb fb)) (hT : T ≠ Tb) : g ≠ b := by
  obtain ⟨cs, hc, _⟩ := h
  exact apart hc h2 hT
end
/-- A call: what, by whom, to whom, with what words. -/
structure Ac where
  op : Int
  fr : Int
  to : Int
  wh : Int
/-- All that the law has made. -/
structure PS (W wr : World) (b g n m : Nat) (s : Nat → Td) (g1 g2 g3 : Nat) (F1 F2 F3 : Nat → Int) : Prop where
  pl : PL W wr b g n m s
  a1 : Ar wr g1 40 .i64 F1
  a2 : Ar wr g2 41 .u64 F2
  a3 : Ar wr g3 42 .i64 F3
  f1 : W.heap.size ≤ g1
  f2 : W.heap.size ≤ g2
  f3 : W.heap.size ≤ g3
/-- .. and the call at hand. -/
structure PX (W wr : World) (b g n m : Nat) (s : Nat → Td) (g1 g2 g3 : Nat) (F1 F2 F3 : Nat → Int) (d : Nat) (A : Ac) : Prop where
  ps : PS W wr b g n m s g1 g2 g3 F1 F2 F3
  ac : wr.heap[d]? = some (.cells #[.int .i64 A.op, .int .i64 A.fr, .int .i64 A.to, .int .i64 A.wh] 44 (0, 0))
  fd : W.heap.size ≤ d
section
variable {W wr w' : World} {b g n m m' : Nat} {s s' : Nat → Td} {g1 g2 g3 : Nat} {F1 F2 F3 : Nat → Int} {d : Nat} {A : Ac}
theorem PS.snd (h : PS W wr b g n m s g1 g2 g3 F1 F2 F3) (hs : Snd wr b g n m' s' w') : PS W w' b g n m' s' g1 g2 g3 F1 F2 F3 := by
  obtain ⟨cs, hc, _⟩ := h.pl.pk.row
  exact ⟨h.pl.got hs, h.a1.kept (hs.2.block _ h.a1.lt (h.a1.ne hc (by decide))), h.a2.kept (hs.2.block _ h.a2.lt (h.a2.ne hc (by decide))), h.a3.kept (hs.2.block _ h.a3.lt (h.a3.ne hc (by decide))), h.f1, h.f2, h.f3⟩
theorem PS.bel (h : PS W wr b g n m s g1 g2 g3 F1 F2 F3) (hB : Below wr.heap.size wr w') : PS W w' b g n m s g1 g2 g3 F1 F2 F3 :=
  ⟨h.pl.bel hB, h.a1.kept (hB.block _ h.a1.lt), h.a2.kept (hB.block _ h.a2.lt), h.a3.kept (hB.block _ h.a3.lt), h.f1, h.f2, h.f3⟩
theorem PL.stp {g' : Nat} (h : PL W wr b g n m s) (hs : Stp wr w' g') (h0 : W.heap.size ≤ g') (h1 : b ≠ g') (h2 : g ≠ g') : PL W w' b g n m s :=
  ⟨h.pk.kept (hs.block _ h.pk.blt h1) (hs.block _ h.pk.glt h2), h.below.trans (hs.toBelow h.below.size h0), h.fb, h.fg⟩
theorem PS.set1 (h : PS W wr b g n m s g1 g2 g3 F1 F2 F3) (k : Nat) (hk : k < 64) (v : Int) : PS W (wr.setCell ⟨g1, k, none⟩ (.int .i64 v)) b g n m s g1 g2 g3 (upd F1 k v) F2 F3 := by
  obtain ⟨cs, hc, _⟩ := h.pl.pk.row
  obtain ⟨c1, hc1, _⟩ := h.a1
  have S := Stp.set wr g1 k (.int .i64 v)
  exact ⟨h.pl.stp S h.f1 (apart h.pl.pk.str hc1 (by decide)) (apart hc hc1 (by decide)), h.a1.set k hk v, h.a2.kept (S.block _ h.a2.lt (h.a2.ne hc1 (by decide))), h.a3.kept (S.block _ h.a3.lt (h.a3.ne hc1 (by decide))), h.f1, h.f2, h.f3⟩
theorem PS.set2 (h : PS W wr b g n m s g1 g2 g3 F1 F2 F3) (k : Nat) (hk : k < 64) (v : Int) : PS W (wr.setCell ⟨g2, k, none⟩ (.int .u64 v)) b g n m s g1 g2 g3 F1 (upd F2 k v) F3 := by
  obtain ⟨cs, hc, _⟩ := h.pl.pk.row
  obtain ⟨c1, hc1, _⟩ := h.a2
  have S := Stp.set wr g2 k (.int .u64 v)
  exact ⟨h.pl.stp S h.f2 (apart h.pl.pk.str hc1 (by decide)) (apart hc hc1 (by decide)), h.a1.kept (S.block _ h.a1.lt (h.a1.ne hc1 (by decide))), h.a2.set k hk v, h.a3.kept (S.block _ h.a3.lt (h.a3.ne hc1 (by decide))), h.f1, h.f2, h.f3⟩
theorem PS.set3 (h : PS W wr b g n m s g1 g2 g3 F1 F2 F3) (k : Nat) (hk : k < 64) (v : Int) : PS W (wr.setCell ⟨g3, k, none⟩ (.int .i64 v)) b g n m s g1 g2 g3 F1 F2 (upd F3 k v) := by
  obtain ⟨cs, hc, _⟩ := h.pl.pk.row
  obtain ⟨c1, hc1, _⟩ := h.a3
  have S := Stp.set wr g3 k (.int .i64 v)
  exact ⟨h.pl.stp S h.f3 (apart h.pl.pk.str hc1 (by decide)) (apart hc hc1 (by decide)), h.a1.kept (S.block _ h.a1.lt (h.a1.ne hc1 (by decide))), h.a2.kept (S.block _ h.a2.lt (h.a2.ne hc1 (by decide))), h.a3.set k hk v, h.f1, h.f2, h.f3⟩
theorem PS.drew (h : PS W wr b g n m s g1 g2 g3 F1 F2 F3) : PS W wr.drew b g n m s g1 g2 g3 F1 F2 F3 := h.bel (bel_drew (Below.refl _ _))
theorem PS.mono (h : PS W wr b g n m s g1 g2 g3 F1 F2 F3) (hm : m ≤ m') : PS W wr b g n m' s g1 g2 g3 F1 F2 F3 := ⟨⟨h.pl.pk.mono hm, h.pl.below, h.pl.fb, h.pl.fg⟩, h.a1, h.a2, h.a3, h.f1, h.f2, h.f3⟩
theorem PS.fit {G1 G2 G3 : Nat → Int} (h : PS W wr b g n m s g1 g2 g3 F1 F2 F3) (h1 : ∀ j, j < 64 → G1 j = F1 j) (h2 : ∀ j, j < 64 → G2 j = F2 j) (h3 : ∀ j, j < 64 → G3 j = F3 j) : PS W wr b g n m s g1 g2 g3 G1 G2 G3 :=
  ⟨h.pl, h.a1.congr h1, h.a2.congr h2, h.a3.congr h3, h.f1, h.f2, h.f3⟩
theorem PX.snd (h : PX W wr b g n m s g1 g2 g3 F1 F2 F3 d A) (hs : Snd wr b g n m' s' w') : PX W w' b g n m' s' g1 g2 g3 F1 F2 F3 d A := by
  obtain ⟨cs, hc, _⟩ := h.ps.pl.pk.row
  exact ⟨h.ps.snd hs, (hs.2.block _ (Array.getElem?_eq_some_iff.1 h.ac).1 (apart h.ac hc (by decide))).trans h.ac, h.fd⟩
theorem PX.bel (h : PX W wr b g n m s g1 g2 g3 F1 F2 F3 d A) (hB : Below wr.heap.size wr w') : PX W w' b g n m s g1 g2 g3 F1 F2 F3 d A :=
  ⟨h.ps.bel hB, (hB.block _ (Array.getElem?_eq_some_iff.1 h.ac).1).trans h.ac, h.fd⟩
theorem PX.set1 (h : PX W wr b g n m s g1 g2 g3 F1 F2 F3 d A) (k : Nat) (hk : k < 64) (v : Int) : PX W (wr.setCell ⟨g1, k, none⟩ (.int .i64 v)) b g n m s g1 g2 g3 (upd F1 k v) F2 F3 d A := by
  obtain ⟨c1, hc1, _⟩ := h.ps.a1
  exact ⟨h.ps.set1 k hk v, ((Stp.set wr g1 k (.int .i64 v)).block _ (Array.getElem?_eq_some_iff.1 h.ac).1 (apart h.ac hc1 (by decide))).trans h.ac, h.fd⟩
theorem PX.set2 (h : PX W wr b g n m s g1 g2 g3 F1 F2 F3 d A) (k : Nat) (hk : k < 64) (v : Int) : PX W (wr.setCell ⟨g2, k, none⟩ (.int .u64 v)) b g n m s g1 g2 g3 F1 (upd F2 k v) F3 d A := by
  obtain ⟨c1, hc1, _⟩ := h.ps.a2
  exact ⟨h.ps.set2 k hk v, ((Stp.set wr g2 k (.int .u64 v)).block _ (Array.getElem?_eq_some_iff.1 h.ac).1 (apart h.ac hc1 (by decide))).trans h.ac, h.fd⟩
theorem PX.set3 (h : PX W wr b g n m s g1 g2 g3 F1 F2 F3 d A) (k : Nat) (hk : k < 64) (v : Int) : PX W (wr.setCell ⟨g3, k, none⟩ (.int .i64 v)) b g n m s g1 g2 g3 F1 F2 (upd F3 k v) d A := by
  obtain ⟨c1, hc1, _⟩ := h.ps.a3
  exact ⟨h.ps.set3 k hk v, ((Stp.set wr g3 k (.int .i64 v)).block _ (Array.getElem?_eq_some_iff.1 h.ac).1 (apart h.ac hc1 (by decide))).trans h.ac, h.fd⟩
theorem PX.drew (h : PX W wr b g n m s g1 g2 g3 F1 F2 F3 d A) : PX W wr.drew b g n m s g1 g2 g3 F1 F2 F3 d A := h.bel (bel_drew (Below.refl _ _))
theorem PX.cells (h : PX W wr b g n m s g1 g2 g3 F1 F2 F3 d A) : wr.cell? ⟨d, 0, none⟩ = some (.int .i64 A.op) ∧ wr.cell? ⟨d, 1, none⟩ = some (.int .i64 A.fr) ∧ wr.cell? ⟨d, 2, none⟩ = some (.int .i64 A.to) ∧ wr.cell? ⟨d, 3, none⟩ = some (.int .i64 A.wh) := by
  refine ⟨?_, ?_, ?_, ?_⟩
  · rw [cell_of_row wr d _ _ _ _ h.ac]; rfl
  · rw [cell_of_row wr d _ _ _ _ h.ac]; rfl
  · rw [cell_of_row wr d _ _ _ _ h.ac]; rfl
  · rw [cell_of_row wr d _ _ _ _ h.ac]; rfl
/-- What a walk wants to know of one place. -/
theorem PX.at (h : PX W wr b g n m s g1 g2 g3 F1 F2 F3 d A) (t : Nat) (ht : t < 64) : wr.cell? ⟨g1, t, none⟩ = some (.int .i64 (F1 t)) ∧ wr.cell? ⟨g2, t, none⟩ = some (.int .u64 (F2 t)) ∧ wr.cell? ⟨g3, t, none⟩ = some (.int .i64 (F3 t)) ∧ wr.frozen? ⟨g1, t, none⟩ = false ∧ wr.frozen? ⟨g2, t, none⟩ = false ∧ wr.frozen? ⟨g3, t, none⟩ = false :=
  ⟨h.ps.a1.cell t ht, h.ps.a2.cell t ht, h.ps.a3.cell t ht, h.ps.a1.frozen t, h.ps.a2.frozen t, h.ps.a3.frozen t⟩
theorem PX.mono (h : PX W wr b g n m s g1 g2 g3 F1 F2 F3 d A) (hm : m ≤ m') : PX W wr b g n m' s g1 g2 g3 F1 F2 F3 d A := ⟨h.ps.mono hm, h.ac, h.fd⟩
theorem PX.fit {G1 G2 G3 : Nat → Int} (h : PX W wr b g n m s g1 g2 g3 F1 F2 F3 d A) (h1 : ∀ j, j < 64 → G1 j = F1 j) (h2 : ∀ j, j < 64 → G2 j = F2 j) (h3 : ∀ j, j < 64 → G3 j = F3 j) : PX W wr b g n m s g1 g2 g3 G1 G2 G3 d A := ⟨h.ps.fit h1 h2 h3, h.ac, h.fd⟩
theorem PS.lay (h : PS W wr b g n m s g1 g2 g3 F1 F2 F3) (A : Ac) : PX W (wr.alloc (.cells #[.int .i64 A.op, .int .i64 A.fr, .int .i64 A.to, .int .i64 A.wh] 44)) b g n m s g1 g2 g3 F1 F2 F3 wr.heap.size A :=
  ⟨h.bel ((Below.refl _ _).alloc (Nat.le_refl _) _), heap_alloc_new _ _, h.pl.below.size⟩
/-- Nobody was told anything: the three arrays are laid. -/
theorem PS.start {O1 O2 O3 : Obj} (h : PL W wr b g n 0 s0) (e1 : O1 = .cells (Array.replicate 64 (.int .i64 0)) 40) (e2 : O2 = .cells (Array.replicate 64 (.int .u64 0)) 41) (e3 : O3 = .cells (Array.replicate 64 (.int .i64 0)) 42) : PS W (((wr.alloc O1).alloc O2).alloc O3) b g n 0 s0 wr.heap.size (wr.heap.size + 1) (wr.heap.size + 1 + 1) (fun j => ((s0 j).w : Int)) (fun j => ((s0 j).f : Int)) (fun j => ((s0 j).r : Int)) := by
  have hz := h.below.size
  have A1 := Ar.made wr 40 .i64
  rw [← e1] at A1
  have A2 := Ar.made (wr.alloc O1) 41 .u64
  rw [← e2] at A2
  have A3 := Ar.made ((wr.alloc O1).alloc O2) 42 .i64
  rw [← e3] at A3
  clear e1 e2 e3
  have e1 : (wr.alloc O1).heap.size = wr.heap.size + 1 := by simp
  have e2 : ((wr.alloc O1).alloc O2).heap.size = wr.heap.size + 1 + 1 := by simp
  rw [e1] at A2
  rw [e2] at A3
  have B1 : Below wr.heap.size wr (wr.alloc O1) := (Below.refl _ _).alloc (Nat.le_refl _) _
  have B2 : Below wr.heap.size wr ((wr.alloc O1).alloc O2) := B1.alloc (by omega) _
  have B3 : Below wr.heap.size wr (((wr.alloc O1).alloc O2).alloc O3) := B2.alloc (by omega) _
  have k1 : (((wr.alloc O1).alloc O2).alloc O3).heap[wr.heap.size]? = (wr.alloc O1).heap[wr.heap.size]? := (heap_alloc_old _ _ (by omega)).trans (heap_alloc_old _ _ (by omega))
  have k2 : (((wr.alloc O1).alloc O2).alloc O3).heap[wr.heap.size + 1]? = ((wr.alloc O1).alloc O2).heap[wr.heap.size + 1]? := heap_alloc_old _ _ (by omega)
  exact ⟨h.bel B3, A1.kept k1, A2.kept k2, A3, hz, by omega, by omega⟩
end
end Go.Proofs.Ytigofonhibaojaa.Con
