/- Those that left: put (one more rises). -/
import Derived.Test.YtldccbinndbcdaaAdE
import Derived.Test.YtldccbinndbcdaaOrdU
namespace Go.Proofs.Ytldccbinndbcdaa.Am
open Go.RowKit Go.Proofs.Ytldccbinndbcdaa.Con Go.Proofs.Ytldccbinndbcdaa.Wn Go.Proofs.Ytldccbinndbcdaa.Fp
set_option linter.unusedVariables false
set_option linter.unusedSimpArgs false
attribute [local go_sem ↓] Go.wp_at_zero Go.wp_at_succ
/-- The row of those that left is turned (in its place, or a new one), and put into the book. -/
theorem bput_outs {w wd wq w2 : World} {b : Nat} {s : Bs} {vi vo v' : Value} {H L : List Lv} {F : Nat → Prop} (h : BB wd b s vi vo H) (hT : Tn w wd F (RF b vi vo)) (hq : Below wd.heap.size wd wq) (hg : wq.grownBy w2 vo.ownBlock) (ho : w2.ownsRow 0 79 5 v' L.length (flatL L)) (hv : v'.ownBlock = vo.ownBlock ∨ v'.ownBlock = some wq.heap.size) :
    ((w2.setCell ⟨b, 2, none⟩ v').heap[b]? = some (.cells #[.int .i64 s.cpus, vi, v'] 57 (0, 0)) ∧ (w2.setCell ⟨b, 2, none⟩ v').ownsRow 0 50 4 vi s.ins.length (flatE s.ins) ∧ (w2.setCell ⟨b, 2, none⟩ v').ownsRow 0 79 5 v' L.length (flatL L)) ∧ Tn w (w2.setCell ⟨b, 2, none⟩ v') F (RF b vi v') := by
  have hb : b < wd.heap.size := (Array.getElem?_eq_some_iff.1 h.row).1
  have sz : (w2.setCell ⟨b, 2, none⟩ v').heap.size = w2.heap.size := by simp [World.setCell]
  have oth : ∀ k, k ≠ b → (w2.setCell ⟨b, 2, none⟩ v').heap[k]? = w2.heap[k]? := fun k hk => heap_setCell_other _ ⟨b, 2, none⟩ k _ hk
  have hvob : vo.ownBlock ≠ some b := own_book h.outs h.row (by decide)
  have st : ∀ k, k < wd.heap.size → vo.ownBlock ≠ some k → w2.heap[k]? = wd.heap[k]? := fun k hk hne => (hg.block k (Nat.lt_of_lt_of_le hk hq.size) (fun e => hne e.symm)).trans (hq.block k hk)
  have vlt : ∀ k, vi.ownBlock = some k → k < wd.heap.size := own_lt h.ins
  have hap : ∀ k, vi.ownBlock = some k → vo.ownBlock ≠ some k := fun k hk hk' => own_apart h.ins h.outs (by decide) hk hk'
  have hv'b : v'.ownBlock ≠ some b := fun hk' => by
    rcases hv with e | e
    · exact hvob (e.symm.trans hk')
    · rw [e] at hk'
      have a2 := hq.size
      simp only [Option.some.injEq] at hk'
      omega
  have row2 : w2.heap[b]? = some (.cells #[.int .i64 s.cpus, vi, vo] 57 (0, 0)) := (st b hb hvob).trans h.row
  refine ⟨⟨?_, ?_, ?_⟩, ⟨?_, ?_, ?_, ?_, ?_, ?_⟩⟩
  · rw [heap_setCell_same _ b 2 _ _ _ row2]; rfl
  · exact own_kept h.ins (fun k hk => (oth k (fun e => own_book h.ins h.row (by decide) (e ▸ hk))).trans (st k (vlt k hk) (hap k hk)))
  · exact own_kept ho (fun k hk => oth k (fun e => hv'b (e ▸ hk)))
  · rw [sz]; exact Nat.le_trans hT.size (Nat.le_trans hq.size hg.size)
  · simp only [World.setCell]; exact hg.os.trans (hq.os.trans hT.os)
  · simp only [World.setCell]; exact hg.tape.trans (hq.tape.trans hT.tape)
  · simp only [World.setCell]; exact hg.output.trans (hq.output.trans hT.output)
  · intro k hk hF
    have hkd : k < wd.heap.size := Nat.lt_of_lt_of_le hk hT.size
    have hR : ¬ RF b vi vo k := fun hr => by
      rcases hT.new k hr with h1 | h1
      · exact hF h1
      · omega
    rw [oth k (fun e => hR (.inl e)), st k hkd (fun e => hR (.inr (.inr e)))]
    exact hT.keep k hk hF
  · rintro k (rfl | hk | hk)
    · exact hT.new _ (.inl rfl)
    · exact hT.new _ (.inr (.inl hk))
    · rcases hv with e | e
      · exact hT.new _ (.inr (.inr (e.symm.trans hk)))
      · rw [e] at hk
        simp only [Option.some.injEq] at hk
        exact .inr (by have := hT.size; have := hq.size; omega)
theorem flatL_set {L : List Lv} {i : Nat} {x : Lv} (hi : i < L.length) : flatL (L.set i x) = (((((flatL L).set (i * 5) (.int .i64 x.1.id)).set (i * 5 + 1) (.int .i64 x.1.pr.1)).set (i * 5 + 2) (.int .i64 x.1.pr.2)).set (i * 5 + 3) (.int .i64 x.1.till)).set (i * 5 + 4) (.int .i64 x.2) := by
  induction L generalizing i with
  | nil => simp at hi
  | cons e L ih =>
    cases i with
    | zero => simp [flatL]
    | succ i =>
      have := ih (i := i) (by simpa using hi)
      rw [show (i + 1) * 5 = i * 5 + 5 by omega, show i * 5 + 5 + 1 = i * 5 + 1 + 5 by omega, show i * 5 + 5 + 2 = i * 5 + 2 + 5 by omega, show i * 5 + 5 + 3 = i * 5 + 3 + 5 by omega, show i * 5 + 5 + 4 = i * 5 + 4 + 5 by omega]
      simp only [flatL, List.set_cons_succ, this]
/-- A leaver stored. -/
def st5 (w : World) (g i : Nat) (x : Lv) : World := ((((w.setCell ⟨g, i * 5, none⟩ (.int .i64 x.1.id)).setCell ⟨g, i * 5 + 1, none⟩ (.int .i64 x.1.pr.1)).setCell ⟨g, i * 5 + 2, none⟩ (.int .i64 x.1.pr.2)).setCell ⟨g, i * 5 + 3, none⟩ (.int .i64 x.1.till)).setCell ⟨g, i * 5 + 4, none⟩ (.int .i64 x.2)
theorem own_st5 {w : World} {B e g n c i : Nat} {L : List Lv} {x : Lv} (h : w.ownsRow B e 5 (.slice (some ⟨g, 0, none⟩) n c) n (flatL L)) (hL : L.length = n) (hi : i < n) :
    (st5 w g i x).ownsRow B e 5 (.slice (some ⟨g, 0, none⟩) n c) n (flatL (L.set i x)) := by
  obtain ⟨h1, ⟨e0, _⟩ | ⟨g', cap, cur, e0, hB, hg, hn, hc, hs, ht⟩⟩ := h
  · cases e0
  · simp only [Value.slice.injEq, Option.some.injEq, Addr.mk.injEq, and_true, true_and] at e0
    obtain ⟨rfl, rfl⟩ := e0
    refine ⟨by rw [flatL_set (by omega)]; simpa using h1, .inr ⟨g, c, _, rfl, hB, heap_setCell_same _ g _ _ _ _ (heap_setCell_same _ g _ _ _ _ (heap_setCell_same _ g _ _ _ _ (heap_setCell_same _ g _ _ _ _ (heap_setCell_same _ g _ _ _ _ hg)))), hn, hc, ?_, ?_⟩⟩
    · simpa using hs
    · rw [flatL_set (by omega), ← ht]
      simp [List.take_set]
theorem tn_st5 (w : World) (g i : Nat) (x : Lv) : Tn w (st5 w g i x) (fun k => k = g) (fun k => k = g) := by
  refine ⟨by simp [st5, World.setCell], by simp [st5, World.setCell], by simp [st5, World.setCell], by simp [st5, World.setCell], fun k _ hk => ?_, fun k hk => .inl hk⟩
  unfold st5
  rw [heap_setCell_other _ ⟨g, i * 5 + 4, none⟩ k _ hk, heap_setCell_other _ ⟨g, i * 5 + 3, none⟩ k _ hk, heap_setCell_other _ ⟨g, i * 5 + 2, none⟩ k _ hk, heap_setCell_other _ ⟨g, i * 5 + 1, none⟩ k _ hk, heap_setCell_other _ ⟨g, i * 5, none⟩ k _ hk]
theorem tn_drew (w : World) (F : Nat → Prop) : Tn w w.drew F F := Tn.of_nx (bel_drew (Nx.refl w)) F
/-- The cells of one leaver, and whether they may be written. -/
theorem lv_cells {w : World} {B e g n c i : Nat} {L : List Lv} (h : w.ownsRow B e 5 (.slice (some ⟨g, 0, none⟩) n c) n (flatL L)) (hL : L.length = n) (hi : i < n) :
    (w.cell? ⟨g, i * 5, none⟩ = some (.int .i64 (atL L i).1.id) ∧ w.cell? ⟨g, i * 5 + 1, none⟩ = some (.int .i64 (atL L i).1.pr.1) ∧ w.cell? ⟨g, i * 5 + 2, none⟩ = some (.int .i64 (atL L i).1.pr.2) ∧ w.cell? ⟨g, i * 5 + 3, none⟩ = some (.int .i64 (atL L i).1.till) ∧ w.cell? ⟨g, i * 5 + 4, none⟩ = some (.int .i64 (atL L i).2)) ∧ (∀ j, w.frozen? ⟨g, j, none⟩ = false) := by
  subst hL
  obtain ⟨b, o, e1, _, z0, z1, z2, z3, z4⟩ := (Ls.own h).at hi
  simp only [Option.some.injEq, Addr.mk.injEq, and_true] at e1
  obtain ⟨rfl, rfl⟩ := e1
  rw [Nat.zero_add] at z0 z1 z2 z3 z4
  obtain ⟨cur, hcur⟩ := own_blk h (k := g) rfl
  exact ⟨⟨z0, z1, z2, z3, z4⟩, fun j => by simp [World.frozen?, hcur]⟩
end Go.Proofs.Ytldccbinndbcdaa.Am
