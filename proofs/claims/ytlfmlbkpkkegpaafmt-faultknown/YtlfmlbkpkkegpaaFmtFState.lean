/- The errors that the law FaultKnown makes, as they lie in memory, and what each call answers of them. -/
import Derived.Test.YtlfmlbkpkkegpaaFmtFAwake
import Derived.Test.YtlfmlbkpkkegpaaFmtFErrf
import Derived.Test.YtlfmlbkpkkegpaaFmtFDeep
import Derived.Test.YtlfmlbkpkkegpaaFmtFOps
import Derived.Test.YtlfmlbkpkkegpaaFmtFWho
import Derived.Test.YtlfmlbkpkkegpaaFmtFTexts
namespace Go.Proofs.YtlfmlbkpkkegpaaFmt.Con
open Go.RowKit Go.Extern.Stop Go.Stop Go.Extern Go.Shelf
set_option linter.unusedVariables false

def runS : ByteArray := ⟨#[114, 117, 110]⟩
def moreS : ByteArray := ⟨#[109, 111, 114, 101]⟩

/-- All of them. bx: run 7 round what fmt wraps (bw) round bo: open -1 round bl: lock 3, error 5; bz: run 7 round the other one (q). -/
structure St (w : World) (bl bo bw bx q bz : Nat) : Prop where
  two : TwoAt w bo bl
  w1 : w.cell? ⟨bw, 1, none⟩ = some (.iface 32 (.pointer (some ⟨bo, 0, none⟩)))
  lw : bw < w.heap.size
  x0 : w.cell? ⟨bx, 0, none⟩ = some (.string runS)
  x1 : w.cell? ⟨bx, 1, none⟩ = some (.int .i64 7)
  x2 : w.cell? ⟨bx, 2, none⟩ = some (.iface 52 (.pointer (some ⟨bw, 0, none⟩)))
  lx : bx < w.heap.size
  z0 : w.cell? ⟨bz, 0, none⟩ = some (.string runS)
  z1 : w.cell? ⟨bz, 1, none⟩ = some (.int .i64 7)
  z2 : w.cell? ⟨bz, 2, none⟩ = some (.iface 53 (.pointer (some ⟨q, 0, none⟩)))
  lz : bz < w.heap.size
  laid : Laid w
  tab : Tab w
theorem St.below {w w' : World} {bl bo bw bx q bz : Nat} (h : St w bl bo bw bx q bz) (hb : Below w.heap.size w w') : St w' bl bo bw bx q bz :=
  ⟨h.two.below hb, (hb.cell (p := ⟨bw, 1, none⟩) h.lw).trans h.w1, Nat.lt_of_lt_of_le h.lw hb.size,
   (hb.cell (p := ⟨bx, 0, none⟩) h.lx).trans h.x0, (hb.cell (p := ⟨bx, 1, none⟩) h.lx).trans h.x1, (hb.cell (p := ⟨bx, 2, none⟩) h.lx).trans h.x2, Nat.lt_of_lt_of_le h.lx hb.size,
   (hb.cell (p := ⟨bz, 0, none⟩) h.lz).trans h.z0, (hb.cell (p := ⟨bz, 1, none⟩) h.lz).trans h.z1, (hb.cell (p := ⟨bz, 2, none⟩) h.lz).trans h.z2, Nat.lt_of_lt_of_le h.lz hb.size,
   h.laid.below h.laid.pos hb, h.tab.below hb⟩

theorem St.chain {w : World} {bl bo bw bx q bz : Nat} (h : St w bl bo bw bx q bz) : Chain w (.iface 26 (.int .i64 5)) [some (runS, 7), none, some (openS, -1), some (lock, 3)] (.iface 32 (.pointer (some ⟨bx, 0, none⟩))) :=
  ⟨bx, _, rfl, h.lx, h.x0, h.x1, h.x2, bw, _, rfl, h.lw, h.w1, bo, _, rfl, h.two.lo, h.two.g0, h.two.g1, h.two.g2, bl, _, rfl, h.two.lb, h.two.h0, h.two.h1, h.two.h2, rfl⟩
theorem St.chainZ {w : World} {bl bo bw bx q bz : Nat} (h : St w bl bo bw bx q bz) : Chain w (.iface 53 (.pointer (some ⟨q, 0, none⟩))) [some (runS, 7)] (.iface 32 (.pointer (some ⟨bz, 0, none⟩))) :=
  ⟨bz, _, rfl, h.lz, h.z0, h.z1, h.z2, rfl⟩
theorem St.xs {w : World} {bl bo bw bx q bz : Nat} (h : St w bl bo bw bx q bz) : ∃ xs : List (El w.heap.size w), xs.map nm = [(runS, 7), (openS, -1), (lock, 3)] ∧ ChainX w.heap.size w w (.iface 26 (.int .i64 5)) xs (.iface 32 (.pointer (some ⟨bx, 0, none⟩))) :=
  ⟨[⟨(bx, runS, 7), h.lx, h.x0, h.x1⟩, ⟨(bo, openS, -1), h.two.lo, h.two.g0, h.two.g1⟩, ⟨(bl, lock, 3), h.two.lb, h.two.h0, h.two.h1⟩], rfl,
   _, .inl rfl, h.x2, _, .inr ⟨bw, h.lw, rfl, h.w1⟩, h.two.g2, _, .inl rfl, h.two.h2, rfl⟩

theorem inE : Inner (.iface 26 (.int .i64 5)) := .inl ⟨5, rfl⟩
theorem inO (q : Addr) : Inner (.iface 53 (.pointer (some q))) := .inr (.inl ⟨q, rfl⟩)

section
variable {w : World} {bl bo bw bx q bz : Nat}
theorem St.deep (h : St w bl bo bw bx q bz) : Calls Tryf.prog 15 #[.iface 32 (.pointer (some ⟨bx, 0, none⟩))] w fun e w' => e = .returned (.int .i64 3) ∧ Below w.heap.size w w' := by
  obtain ⟨xs, e, hx⟩ := h.xs
  have hl : xs.length = 3 := by have := congrArg List.length e; simpa using this
  refine (deep_x _ inE _ _ w xs hx h.laid (by omega)).mono ?_
  rintro e w' ⟨rfl, hb⟩
  exact ⟨by rw [hl]; rfl, hb⟩
theorem St.who (h : St w bl bo bw bx q bz) (op : ByteArray) : Calls Tryf.prog 10 #[.iface 32 (.pointer (some ⟨bx, 0, none⟩)), .string op] w fun e w' => e = whoE (whoL op [(runS, 7), (openS, -1), (lock, 3)]) ∧ Below w.heap.size w w' := by
  obtain ⟨xs, e, hx⟩ := h.xs
  refine (who_x _ inE _ _ op w xs hx h.laid).mono ?_
  rintro e' w' ⟨rfl, hb⟩
  exact ⟨by rw [e], hb⟩
theorem St.ops (h : St w bl bo bw bx q bz) : Calls Tryf.prog 13 #[.iface 32 (.pointer (some ⟨bx, 0, none⟩))] w fun e w' => ∃ g cap, e = .returned (.slice (some ⟨g, 0, none⟩) 3 cap) ∧ g < w'.heap.size ∧ (w'.cell? ⟨g, 0, none⟩ = some (.string runS) ∧ w'.cell? ⟨g, 1, none⟩ = some (.string openS) ∧ w'.cell? ⟨g, 2, none⟩ = some (.string lock)) ∧ Below w.heap.size w w' := by
  obtain ⟨xs, e, hx⟩ := h.xs
  have hl : xs.length = 3 := by have := congrArg List.length e; simpa using this
  have ho : opsV xs = [.string runS, .string openS, .string lock] := by
    have := congrArg (List.map fun x => Value.string x.1) e
    rw [List.map_map] at this
    exact this
  refine (ops_x _ inE _ _ w xs hx h.laid (by omega)).mono ?_
  rintro e' w' ⟨v, rfl, hown, hb⟩
  rw [hl, ho] at hown
  have hown0 := hown
  rcases hown.2 with ⟨_, hz⟩ | ⟨g, cap, cur, rfl, hbg, hgb, hnc, hcm, hcs, htk⟩
  · omega
  · refine ⟨g, cap, rfl, (Array.getElem?_eq_some_iff.1 hgb).1, ⟨?_, ?_, ?_⟩, hb⟩
    · simpa [Addr.add] using hown0.cells (g := g) rfl 0 _ rfl
    · simpa [Addr.add] using hown0.cells (g := g) rfl 1 _ rfl
    · simpa [Addr.add] using hown0.cells (g := g) rfl 2 _ rfl
theorem St.opsOther (h : St w bl bo bw bx q bz) : Calls Tryf.prog 13 #[.iface 53 (.pointer (some ⟨q, 0, none⟩))] w fun e w' => ∃ ao cap, e = .returned (.slice ao 0 cap) ∧ Below w.heap.size w w' := by
  refine (ops_x _ (inO ⟨q, 0, none⟩) _ _ w ([] : List (El w.heap.size w)) rfl h.laid (by simp)).mono ?_
  rintro e' w' ⟨v, rfl, hown, hb⟩
  rcases hown.2 with ⟨rfl, hz⟩ | ⟨g, cap, cur, rfl, hbg, hgb, hnc, hcm, hcs, htk⟩
  · exact ⟨none, 0, rfl, hb⟩
  · exact ⟨_, cap, rfl, hb⟩
end

/-- With the variable p of the law (at pb), and the Fault with nothing in it (at be). -/
structure Fin (w : World) (bl bo bw bx q bz pb be : Nat) : Prop where
  s : St w bl bo bw bx q bz
  p0 : w.cell? ⟨pb, 0, none⟩ = some (.pointer (some ⟨bo, 0, none⟩))
  lp : pb < w.heap.size
  e0 : w.cell? ⟨be, 0, none⟩ = some (.string nameA)
  e1 : w.cell? ⟨be, 1, none⟩ = some (.int .i64 1)
  e2 : w.cell? ⟨be, 2, none⟩ = some .nilIface
  le : be < w.heap.size
theorem Fin.below {w w' : World} {bl bo bw bx q bz pb be : Nat} (h : Fin w bl bo bw bx q bz pb be) (hb : Below w.heap.size w w') : Fin w' bl bo bw bx q bz pb be :=
  ⟨h.s.below hb, (hb.cell (p := ⟨pb, 0, none⟩) h.lp).trans h.p0, Nat.lt_of_lt_of_le h.lp hb.size,
   (hb.cell (p := ⟨be, 0, none⟩) h.le).trans h.e0, (hb.cell (p := ⟨be, 1, none⟩) h.le).trans h.e1, (hb.cell (p := ⟨be, 2, none⟩) h.le).trans h.e2, Nat.lt_of_lt_of_le h.le hb.size⟩

theorem new_ok (op : ByteArray) (id : Int) (w : World) :
    Calls Tryf.prog 6 #[.string op, .int .i64 id, .int .i64 0] w fun e w' => e = .returned .nilIface ∧ w' = w := by
  go_enter Tryf.func6, Tryf.ntmps6
  go_wp2
  go_ret
  exact ⟨rfl, rfl⟩
theorem wrap_nil (op : ByteArray) (id : Int) (w : World) :
    Calls Tryf.prog 7 #[.string op, .int .i64 id, .nilIface] w fun e w' => e = .returned .nilIface ∧ w' = w := by
  go_enter Tryf.func7, Tryf.ntmps7
  go_wp2
  go_ret
  exact ⟨rfl, rfl⟩
theorem errors_new (s : ByteArray) (w : World) :
    Calls Tryf.prog 9 #[.string s] w fun e w' => e = .returned (.iface 53 (.pointer (some ⟨w.heap.size, 0, none⟩))) ∧ w' = w.alloc (.cells #[.string s] 55) := by
  go_enter Tryf.func9, Tryf.ntmps9
  go_wp2
  go_ret
  exact ⟨rfl, rfl⟩
/-- texts, of what Ops has answered and of the three. -/
theorem texts3 (g cap gb : Nat) (w : World) (hg : g < w.heap.size) (hb : gb < w.heap.size)
    (a0 : w.cell? ⟨g, 0, none⟩ = some (.string runS)) (a1 : w.cell? ⟨g, 1, none⟩ = some (.string openS)) (a2 : w.cell? ⟨g, 2, none⟩ = some (.string lock))
    (b0 : w.cell? ⟨gb, 0, none⟩ = some (.string runS)) (b1 : w.cell? ⟨gb, 1, none⟩ = some (.string openS)) (b2 : w.cell? ⟨gb, 2, none⟩ = some (.string lock)) :
    Calls Tryf.prog 12 #[.slice (some ⟨g, 0, none⟩) 3 cap, .slice (some ⟨gb, 0, none⟩) 3 3] w fun e w' => e = .returned (.bool true) ∧ Below w.heap.size w w' := by
  refine texts_same g 0 cap gb 0 3 3 (fun j => if j = 0 then runS else if j = 1 then openS else lock) w (by omega) hg hb (fun j hj => ?_) (fun j hj => ?_)
  · obtain rfl | rfl | rfl : j = 0 ∨ j = 1 ∨ j = 2 := by omega
    · exact a0
    · exact a1
    · exact a2
  · obtain rfl | rfl | rfl : j = 0 ∨ j = 1 ∨ j = 2 := by omega
    · exact b0
    · exact b1
    · exact b2
end Go.Proofs.YtlfmlbkpkkegpaaFmt.Con
