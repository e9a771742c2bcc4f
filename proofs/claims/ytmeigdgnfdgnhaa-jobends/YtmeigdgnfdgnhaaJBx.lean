/- Jobs in boxes, through calls and stores. -/
import Derived.Test.YtmeigdgnfdgnhaaJSame
import Derived.Test.YtmeigdgnfdgnhaaJNext
import Derived.Test.YtmeigdgnfdgnhaaJNew
namespace Go.Proofs.Ytmeigdgnfdgnhaa.Con
open Go.RowKit Go.Proofs.Ytmeigdgnfdgnhaa.Pm
set_option linter.unusedVariables false
set_option linter.unusedSimpArgs false
/-- On from a world: what lies there stays. -/
abbrev Nx (w w' : World) : Prop := Below w.heap.size w w'
theorem Nx.trans {a b c : World} (h : Nx a b) (k : Nx b c) : Nx a c := Below.trans h (Below.mono k h.size)
theorem Nx.alloc (w : World) (o : Obj) : Nx w (w.alloc o) := bel_alloc1 o
theorem own_blk {B e size n : Nat} {w : World} {v : Value} {xs : List Value} (h : w.ownsRow B e size v n xs) {k : Nat} (hk : v.ownBlock = some k) : ∃ cur, w.heap[k]? = some (.cells cur e (0, 0)) := by
  obtain ⟨_, ⟨rfl, _⟩ | ⟨g, cap, cur, rfl, _, hg, _⟩⟩ := h
  · simp [Value.ownBlock] at hk
  · simp [Value.ownBlock] at hk; subst hk; exact ⟨cur, hg⟩
/-- A row that is ours keeps off a block of another kind. -/
theorem own_off {B e e' size n d : Nat} {w : World} {v : Value} {xs : List Value} (h : w.ownsRow B e size v n xs) {cs : Array Value} {fr : Nat × Nat} (hd : w.heap[d]? = some (.cells cs e' fr)) (he : e ≠ e') : v.ownBlock ≠ some d := fun hk => by
  obtain ⟨cur, hc⟩ := own_blk h hk
  rw [hd] at hc
  simp only [Option.some.injEq, Obj.cells.injEq] at hc
  exact he hc.2.1.symm
/-- Steps in a row of their own. -/
abbrev Rz (w : World) (v : Value) (L : List St) : Prop := Rs 0 w v L
theorem Rz.below {w w' : World} {v : Value} {L : List St} (h : Rz w v L) (hB : Nx w w') : Rz w' v L := own_bel h hB
theorem Rz.put {w w' : World} {v : Value} {L : List St} {g : Nat} {cs : Array Value} {o : Obj} (h : Rz w v L) (P : Put g w w' o) (hg : w.heap[g]? = some (.cells cs 28 (0, 0))) : Rz w' v L :=
  own_kept h fun k hk => P.rest k (fun e => own_off h hg (by decide) (by rw [hk, e]))
theorem Rz.fresh {w : World} {q n : Nat} {cs : Array Value} {L : List St} (h : w.heap[q]? = some (.cells cs 24 (0, 0))) (hn : n = L.length) (hc : cs.toList = flat L) (hl : L.length ≤ 1000) : Rz w (.slice (some ⟨q, 0, none⟩) n n) L := by
  subst hn
  have hsz : cs.size = L.length * 2 := by rw [← flat_len, ← hc]; simp
  refine ⟨flat_len L, .inr ⟨q, _, cs, rfl, Nat.zero_le _, h, Nat.le_refl _, by unfold maxLen; omega, by omega, ?_⟩⟩
  rw [hc, List.take_of_length_le (by rw [flat_len]; omega)]
/-- A job in a box. -/
def JB (w : World) (g : Nat) (j : Jb) : Prop := ∃ p cap, w.heap[g]? = some (.cells #[.int .i64 j.num, .slice p j.L.length cap, .int .i64 j.a, .int .i64 j.d] 28 (0, 0)) ∧ Rz w (.slice p j.L.length cap) j.L
/-- A step in a box. -/
def SB (w : World) (g : Nat) (s : St) : Prop := w.heap[g]? = some (.cells #[.int .i64 s.1, .int .i64 s.2] 24 (0, 0))
theorem JB.below {w w' : World} {g : Nat} {j : Jb} (h : JB w g j) (hB : Nx w w') : JB w' g j := by
  obtain ⟨p, cap, h1, h2⟩ := h
  exact ⟨p, cap, row_kept hB h1, h2.below hB⟩
theorem SB.below {w w' : World} {g : Nat} {s : St} (h : SB w g s) (hB : Nx w w') : SB w' g s := row_kept hB h
theorem JB.new {w : World} {j : Jb} {p : Option Addr} {cap : Nat} (h : Rz w (.slice p j.L.length cap) j.L) : JB (w.alloc (.cells #[.int .i64 j.num, .slice p j.L.length cap, .int .i64 j.a, .int .i64 j.d] 28)) w.heap.size j :=
  ⟨p, cap, heap_alloc_new w _, h.below (Nx.alloc w _)⟩
theorem SB.new (w : World) (s : St) : SB (w.alloc (.cells #[.int .i64 s.1, .int .i64 s.2] 24)) w.heap.size s := heap_alloc_new w _
theorem JB.lt {w : World} {g : Nat} {j : Jb} (h : JB w g j) : g < w.heap.size := by
  obtain ⟨p, cap, h1, _⟩ := h
  exact (Array.getElem?_eq_some_iff.1 h1).1
/-- A job is written over another. -/
theorem JB.put {w w' : World} {g : Nat} {j j' : Jb} {p : Option Addr} {cap : Nat} (h : JB w g j) (hr : Rz w (.slice p j'.L.length cap) j'.L) (P : Put g w w' (.cells #[.int .i64 j'.num, .slice p j'.L.length cap, .int .i64 j'.a, .int .i64 j'.d] 28)) : JB w' g j' := by
  obtain ⟨q, c, h1, _⟩ := h
  exact ⟨p, cap, P.row, hr.put P h1⟩
theorem JB.other {w w' : World} {g g' : Nat} {j j' : Jb} {o : Obj} (h : JB w g j) (h' : JB w g' j') (hne : g ≠ g') (P : Put g' w w' o) : JB w' g j := by
  obtain ⟨p, cap, h1, h2⟩ := h
  obtain ⟨q, c, h3, _⟩ := h'
  exact ⟨p, cap, (P.rest g hne).trans h1, h2.put P h3⟩
theorem SB.other {w w' : World} {g g' : Nat} {s : St} {j' : Jb} {o : Obj} (h : SB w g s) (h' : JB w g' j') (P : Put g' w w' o) : SB w' g s := by
  obtain ⟨q, c, h3, _⟩ := h'
  refine (P.rest g (fun e => ?_)).trans h
  subst e
  unfold SB at h
  rw [h3] at h
  simp only [Option.some.injEq, Obj.cells.injEq] at h
  exact absurd h.2.1 (by decide)
/-- What a call on a job tells, by its parts. -/
theorem Rv.parts {W w : World} {x : Value} {num a d : Int} {L : List St} (h : Rv W w x ⟨num, L, a, d⟩) : ∃ p cap, x = .agg #[.int .i64 num, .slice p L.length cap, .int .i64 a, .int .i64 d] ∧ Hid (Rz w (.slice p L.length cap) L ∧ Nx W w) := by
  obtain ⟨p, cap, rfl, hs⟩ := h.inv
  exact ⟨p, cap, rfl, hide ⟨Rs.less hs.out.1 (Nat.zero_le _), hs.out.2⟩⟩
theorem JB.row {w : World} {g : Nat} {num a d : Int} {L : List St} (h : JB w g ⟨num, L, a, d⟩) : ∃ p cap, w.heap[g]? = some (.cells #[.int .i64 num, .slice p L.length cap, .int .i64 a, .int .i64 d] 28 (0, 0)) ∧ Sl w (.slice p L.length cap) L := by
  obtain ⟨p, cap, h1, h2⟩ := h
  exact ⟨p, cap, h1, h2.sl⟩
end Go.Proofs.Ytmeigdgnfdgnhaa.Con
