/- Parse: a text, read. -/
import Derived.Test.YtdbkdnjmiehlcaaDoorGRtx
namespace Go.Proofs.YtdbkdnjmiehlcaaDoor.Con
open Go.RowKit Go.Proofs.YtdbkdnjmiehlcaaDoor.Pm
set_option linter.unusedVariables false
set_option linter.unusedSimpArgs false
theorem cut_bel (l : List UInt8) (c : UInt8) (w : World) (hs : l.length < 1000000) :
    Calls Tryd.prog 23 #[sv l, sv [c]] w fun e w' => e = .returned (.tuple #[sv (Lib.cut l [c]).1, sv (Lib.cut l [c]).2.1, .bool (Lib.cut l [c]).2.2]) ∧ Below w.heap.size w w' := by
  refine (cut_any l c w hs).mono ?_
  rintro e w' ⟨he, n, rfl⟩
  exact ⟨he, below_drewN (Below.refl _ _) n⟩
/-- A row of steps, ours. -/
abbrev Sr (W wr : World) (v : Value) (L : List St) : Prop := wr.ownsRow W.heap.size 29 2 v L.length (flat L)
theorem own_form {B e size n : Nat} {w : World} {v : Value} {xs : List Value} (h : w.ownsRow B e size v n xs) : ∃ p c, v = .slice p n c := by
  obtain ⟨_, ⟨rfl, h0⟩ | ⟨g, cap, cur, rfl, _⟩⟩ := h
  · exact ⟨none, 0, by rw [h0]⟩
  · exact ⟨_, cap, rfl⟩
theorem own_bel {B e size n : Nat} {w w' : World} {v : Value} {xs : List Value} (h : w.ownsRow B e size v n xs) (hB : Below w.heap.size w w') : w'.ownsRow B e size v n xs :=
  own_kept h fun k hk => hB.block k (own_lt h k hk)
def ParsePost (W : World) (R : Option (List St)) (e : Ending) (w' : World) : Prop :=
  ∃ v q b, e = .returned (.tuple #[v, .bool b]) ∧ Sl w' v q ∧ R = (if b = true then some q else none) ∧ (b = false → q = []) ∧ Below W.heap.size W w'
theorem parse_none {W w' : World} {R : Option (List St)} (hR : R = none) (hB : Below W.heap.size W w') : ParsePost W R (.returned (.tuple #[.slice none 0 0, .bool false])) w' :=
  ⟨_, [], false, rfl, Sl.nil w', by rw [hR]; rfl, fun _ => rfl, hB⟩
theorem parse_some {W w' : World} {R : Option (List St)} {v : Value} {q : List St} (hR : R = some q) (hv : Sr W w' v q) (hB : Below W.heap.size W w') : ParsePost W R (.returned (.tuple #[v, .bool true])) w' :=
  ⟨v, q, true, rfl, Sl.own hv, by rw [hR]; rfl, (fun h => by cases h), hB⟩
def lenOf : Value → Nat
  | .slice _ n _ => n
  | _ => 0
set_option maxHeartbeats 4000000 in
theorem parse_any (l : List UInt8) (hl : l.length < 1000000) (W : World) :
    Calls Tryd.prog 9 #[sv l] W fun e w' => ParsePost W (parse l) e w' := by
  have PN := hide (fun w' (hR : parse l = none) hB => parse_none (W := W) (w' := w') hR hB)
  have PS := hide (fun w' v q (hR : parse l = some q) hv hB => parse_some (W := W) (w' := w') (v := v) (q := q) hR hv hB)
  have hR0 : Hid (parse l = pgo 8 [] l) := hide rfl
  generalize parse l = R at *
  go_enter Tryd.func9, Tryd.ntmps9
  go_wp2
  go_loopw [4, 5, 6] (fun p r m wr => ∃ (acc : List St) (t : List UInt8) (b : Bool), acc.length ≤ 8 ∧ t.length < 1000000 ∧ r = sv t ∧ m = .bool b ∧ Hid (Sr W wr p acc) ∧ Hid (R = if b = true then pgo (8 - acc.length) acc t else some acc) ∧ Hid (Below W.heap.size W wr)) (fun p _ _ _ => 9 - lenOf p)
  case atStart => exact ⟨[], l, true, by simp, hl, rfl, rfl, hide (World.ownsRow_nil _ _ _ _), hR0, hide (Below.refl _ _)⟩
  case round =>
    obtain ⟨acc, t, b, ha, ht, rfl, rfl, HR, HQ, HB⟩ := hrel
    obtain ⟨p0, c0, rfl⟩ := own_form HR.out
    cases b with
    | false =>
      have FR := hide (PS.out wr _ acc (by simpa using HQ.out) HR.out HB.out)
      go_wp2
      go_ret2
      exact FR.out
    | true =>
      have HQ : Hid (R = pgo (8 - acc.length) acc t) := hide (by simpa using HQ.out)
      by_cases h8 : acc.length = 8
      · have FR := hide (PN.out wr (by rw [HQ.out, h8]; rfl) HB.out)
        have h8' : (acc.length : Int) = 8 := by omega
        have h8b : ((acc.length : Int) == 8) = true := by simp [h8']
        clear h8
        go_wp2
        go_ret2
        exact FR.out
      · have h8' : ((acc.length : Int) == 8) = false := by rw [beq_eq_false_iff_ne]; omega
        obtain ⟨l1, l2⟩ := cut_len t 43
        have E : pgo (8 - acc.length) acc t = if (pstep (Lib.cut t [43]).1).2 = true then (if (Lib.cut t [43]).2.2 = true then pgo (7 - acc.length) (acc ++ [(pstep (Lib.cut t [43]).1).1]) (Lib.cut t [43]).2.1 else some (acc ++ [(pstep (Lib.cut t [43]).1).1])) else none := by
          rw [show 8 - acc.length = (7 - acc.length) + 1 by omega]; rfl
        have HQ := hide (HQ.out.trans E)
        have hc := hide (cut_bel t 43 wr ht)
        have h8n : acc.length < 8 := by omega
        clear E h8
        generalize (Lib.cut t [43]).1 = x at *
        generalize (Lib.cut t [43]).2.1 = y at *
        generalize (Lib.cut t [43]).2.2 = m at *
        have hx := hide (fun w => pstep_any x (by omega) w)
        obtain ⟨⟨hp1, hp2⟩, hp3, hp4⟩ := pstep_bound x
        generalize (pstep x).2 = ok at *
        generalize (pstep x).1 = s at *
        obtain ⟨z, z'⟩ := s
        simp only at hp1 hp2 hp3 hp4
        go_wp2_with (go_at_call 23; refine hc.out.mono ?_; rintro e w1 ⟨rfl, hb1⟩; refine Hid.out ?_)
        refine hide ?_
        have HR1 := hide (own_bel HR.out hb1)
        have HB1 := hide (HB.out.trans (hb1.mono HB.out.size))
        clear hb1 HR HB hc
        go_wp2_with (go_at_call 24; refine (hx.out _).mono ?_; rintro e w2 ⟨rfl, hb2⟩; refine Hid.out ?_)
        refine hide ?_
        have HR2 := hide (own_bel HR1.out hb2)
        have HB2 := hide (HB1.out.trans (hb2.mono HB1.out.size))
        clear hb2 HR1 HB1 hx
        cases ok with
        | false =>
          have FR := hide (fun w' hB => PN.out w' (by rw [HQ.out]; rfl) hB)
          have HB3 := hide (fun o => bel_alloc2 HB2.out o)
          go_wp2
          go_ret2
          exact FR.out _ (HB3.out _)
        | true =>
          have HR3 : Hid (Sr W (w2.alloc (.cells #[.int .i64 z, .int .i64 z'] 29)) (.slice p0 acc.length c0) acc) := hide (HR2.out.alloc _)
          have HB3 := hide (bel_alloc2 HB2.out (.cells #[.int .i64 z, .int .i64 z'] 29))
          have HQ2 : Hid (R = if m = true then pgo (7 - acc.length) (acc ++ [(z, z')]) y else some (acc ++ [(z, z')])) := hide (by rw [HQ.out]; simp)
          clear HR2 HB2 HQ
          go_wp2_with (at_builtin; refine wpList_app (w := w2.alloc (.cells #[.int .i64 z, .int .i64 z'] 29)) rfl _ _ 25 rfl #[.int .i64 z, .int .i64 z'] rfl rfl (by simp) Tryd.underlying25 infoSt rfl (by decide) (by decide) HR3.out HB3.out.size (by omega) rfl (by intro u hu; simp at hu; rcases hu with rfl | rfl <;> rfl) ?_; intro p5 c5 w5 HA5; refine Hid.out ?_)
          refine hide ?_
          have HB5 := hide (below_grown HB3.out HB3.out.size HA5.out.2 (own_past HR3.out))
          have HR5 : Hid (Sr W w5 (.slice p5 (acc.length + 1) c5) (acc ++ [(z, z')])) := hide (by
            have := HA5.out.1
            unfold Sr
            rw [flat_app, List.length_append]
            exact this)
          clear HA5 HR3 HB3
          go_wp2
          go_roundw
          case rel => exact ⟨acc ++ [(z, z')], y, m, by simp; omega, by omega, rfl, rfl, HR5, hide (by rw [HQ2.out, show 8 - (acc ++ [(z, z')]).length = 7 - acc.length by rw [List.length_append, List.length_singleton]; omega]), HB5⟩
          case measure => simp [lenOf]; omega
end Go.Proofs.YtdbkdnjmiehlcaaDoor.Con
