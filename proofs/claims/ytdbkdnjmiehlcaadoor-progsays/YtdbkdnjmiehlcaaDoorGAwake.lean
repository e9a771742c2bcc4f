/- awake: the document's example. -/
import Derived.Test.YtdbkdnjmiehlcaaDoorGSame
namespace Go.Proofs.YtdbkdnjmiehlcaaDoor.Con
open Go.RowKit Go.Proofs.YtdbkdnjmiehlcaaDoor.Pm
set_option linter.unusedVariables false
set_option linter.unusedSimpArgs false
def p0 : List St := [(0, 3), (1, 2)]
def t0 : List UInt8 := [51, 43, 50, 64, 49]
theorem parse0 : parse t0 = some p0 := by decide +kernel
theorem good0 : good p0 = true := ((parse_iff _ _).1 parse0).1
theorem text0 : text p0 = t0 := by rw [text_good good0]; exact ((parse_iff _ _).1 parse0).2
theorem total0 : total p0 = 5 := by rw [total_good good0]; decide
theorem Sl.fresh {w : World} {q n : Nat} {cs : Array Value} {e : TypeId} {fr : Nat × Nat} {L : List St} (h : w.heap[q]? = some (.cells cs e fr)) (hn : n = L.length) (hc : cs.toList = flat L) (hl : L.length ≤ 1000) : Sl w (.slice (some ⟨q, 0, none⟩) n n) L := by
  subst hn
  refine ⟨flat_len L, _, _, rfl, Nat.le_refl _, by unfold maxLen; omega, fun _ => ⟨q, 0, rfl, (Array.getElem?_eq_some_iff.1 h).1, fun j u hu => ?_⟩⟩
  rw [Nat.zero_add, cell_of_row w q j cs e _ h, ← hu, ← hc]; simp
theorem parse_at {t : List UInt8} {q : List St} (hp : parse t = some q) (hl : t.length < 1000000) (w : World) :
    Calls Tryd.prog 9 #[sv t] w fun e w' => ∃ v, e = .returned (.tuple #[v, .bool true]) ∧ Hid (Sl w' v q ∧ Below w.heap.size w w') := by
  refine (parse_any t hl w).mono ?_
  rintro e w1 ⟨v1, q1, ok, rfl, hs1, hq1, _, hb1⟩
  rw [hp] at hq1
  cases ok with
  | false => simp at hq1
  | true =>
    simp only [if_true, Option.some.injEq] at hq1
    subst hq1
    exact ⟨v1, rfl, hide ⟨hs1, hb1⟩⟩
theorem parse_no {t : List UInt8} (hp : parse t = none) (hl : t.length < 1000000) (w : World) :
    Calls Tryd.prog 9 #[sv t] w fun e w' => ∃ v, e = .returned (.tuple #[v, .bool false]) ∧ Hid (Sl w' v [] ∧ Below w.heap.size w w') := by
  refine (parse_any t hl w).mono ?_
  rintro e w1 ⟨v1, q1, ok, rfl, hs1, hq1, hn, hb1⟩
  rw [hp] at hq1
  cases ok with
  | true => simp at hq1
  | false =>
    rw [hn rfl] at hs1
    exact ⟨v1, rfl, hide ⟨hs1, hb1⟩⟩
theorem own_at {W : World} {v : Value} {L : List St} (h : Sl W v L) (hl : L.length ≤ 1000) :
    Calls Tryd.prog 15 #[v] W fun e w' => ∃ v', e = .returned v' ∧ Hid (Sl w' v' L ∧ Below W.heap.size W w') := by
  refine (own_any h hl).mono ?_
  rintro e w1 ⟨v', rfl, hr, hb⟩
  exact ⟨v', rfl, hide ⟨Sl.own hr, hb⟩⟩
/-- On from a world: what lies there stays. -/
abbrev Nx (w w' : World) : Prop := Below w.heap.size w w'
theorem Nx.trans {a b c : World} (h : Nx a b) (k : Nx b c) : Nx a c := Below.trans h (Below.mono k h.size)
set_option maxHeartbeats 4000000 in
theorem awake_any (w : World) (hT : Tab w) : Calls Tryd.prog 8 #[] w fun e w' => e = .returned (.bool true) ∧ Below w.heap.size w w' := by
  have b0 : Nx w (w.alloc (.cells #[.int .i64 0, .int .i64 3, .int .i64 1, .int .i64 2] 29)) := (Below.refl _ w).alloc (Nat.le_refl _) _
  have S0 : Sl (w.alloc (.cells #[.int .i64 0, .int .i64 3, .int .i64 1, .int .i64 2] 29)) (.slice (some ⟨w.heap.size, 0, none⟩) 2 2) p0 := Sl.fresh (heap_alloc_new w _) rfl rfl (by decide)
  have T0 := hide (hT.on b0)
  have B0 := hide b0
  have H0 := hide S0
  clear b0 S0 hT
  have hl0 : p0.length ≤ 1000 := by decide
  have E2 := hide text0
  have E3 := hide good0
  have E4 := hide total0
  have EP := hide parse0
  have lt0 : t0.length < 1000000 := by decide
  have hsv : Hid (sv t0 = .string ⟨#[51, 43, 50, 64, 49]⟩) := hide rfl
  go_enter Tryd.func8, Tryd.ntmps8
  go_wp2_with fail
  generalize w.alloc (.cells #[.int .i64 0, .int .i64 3, .int .i64 1, .int .i64 2] 29) = w0 at *
  generalize hd : (Value.slice (some ⟨w.heap.size, 0, none⟩) 2 2) = v0 at *
  clear hd
  rw [← hsv.out]
  generalize t0 = t at *
  generalize p0 = P at *
  refine (parse_at EP.out lt0 w0).mono ?_
  rintro e w1 ⟨v1, rfl, HS⟩
  have S1 := hide HS.out.1
  have H1 := hide (H0.out.below HS.out.2)
  have B1 := hide (Nx.trans B0.out HS.out.2)
  have T1 := hide (T0.out.on HS.out.2)
  clear HS T0 B0 H0 EP
  go_wp2_with fail
  refine (text_any H1.out T1.out).mono ?_
  rintro e w2 ⟨rfl, hb⟩
  rw [E2.out]
  have S2 := hide (S1.out.below hb)
  have H2 := hide (H1.out.below hb)
  have B2 := hide (Nx.trans B1.out hb)
  clear hb S1 H1 B1 E2
  rw [hsv.out]
  go_wp2_with fail
  refine (own_at H2.out hl0).mono ?_
  rintro e w3 ⟨v3, rfl, HS⟩
  have S3 := hide (S2.out.below HS.out.2)
  have H3 := hide (H2.out.below HS.out.2)
  have B3 := hide (Nx.trans B2.out HS.out.2)
  have O3 := hide HS.out.1
  clear HS S2 H2 B2
  go_wp2_with fail
  refine (same_any S3.out O3.out hl0).mono ?_
  rintro e w4 ⟨rfl, hb⟩
  rw [show decide (P = P) = true by simp]
  have H4 := hide (H3.out.below hb)
  have B4 := hide (Nx.trans B3.out hb)
  clear hb S3 H3 B3 O3
  go_wp2_with fail
  refine (good_any H4.out).mono ?_
  rintro e w5 ⟨rfl, hb⟩
  rw [E3.out]
  have H5 := hide (H4.out.below hb)
  have B5 := hide (Nx.trans B4.out hb)
  clear hb H4 B4
  go_wp2_with fail
  refine (total_any H5.out).mono ?_
  rintro e w6 ⟨rfl, hb⟩
  rw [E4.out]
  have B6 := hide (Nx.trans B5.out hb)
  clear hb H5 B5
  go_wp2
  go_ret
  exact ⟨rfl, B6.out⟩
end Go.Proofs.YtdbkdnjmiehlcaaDoor.Con
