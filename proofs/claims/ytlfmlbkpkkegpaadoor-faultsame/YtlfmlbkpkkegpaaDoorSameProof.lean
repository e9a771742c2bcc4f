/- The law FaultSame: of two numbers the errors are each other's just if the numbers are the same; it returns true at every input, and its arguments read as they did. What errors.errorType holds is as its initialiser lays it: the card ties that to the program's text. -/
import Derived.Test.YtlfmlbkpkkegpaaDoorCards
import Derived.Test.YtlfmlbkpkkegpaaDoorTie
import Derived.Test.YtlfmlbkpkkegpaaDoorRow
namespace Go.Proofs.YtlfmlbkpkkegpaaDoor.faultSame
open Go.ChangeShapes Go.WideShapes Go.ChangeAt Go.RowKit Go.ChangeMaps Con
set_option linter.unusedVariables false

set_option maxRecDepth 100000 in
set_option maxHeartbeats 2000000 in
theorem walk (a b : Int) (op : ByteArray) (id : Int) (w : World) (hg : Laid w) (hs : op.size ≤ maxLen) :
    Calls Tryd.prog 4 #[.int .i64 a, .int .i64 b, .string op, .int .i64 id] w fun e w' => e = .returned (.bool true) ∧ Below w.heap.size w w' := by
  unfold maxLen at hs
  have HG := hide hg
  clear hg
  by_cases hin : 1 ≤ a ∧ a ≤ 13 ∧ 1 ≤ b ∧ b ≤ 13 ∧ op.size ≤ 50
  · obtain ⟨h1, h2, h3, h4, h5⟩ := hin
    have hz : (a == 0) = false := beq_eq_false_iff_ne.2 (by omega)
    go_enter Tryd.func4, Tryd.ntmps4
    go_wp2_with fail
    refine (awake_any _ (unhide HG)).mono ?_
    rintro e w1 ⟨rfl, b1⟩
    have G1 := hide ((unhide HG).below (unhide HG).pos b1)
    have B1 := hide b1
    clear b1 HG
    go_wp2_with fail
    refine (new_any op id a _ hz).mono ?_
    rintro e w2 ⟨rfl, rfl⟩
    go_wp2_with fail
    refine (wrap_any _ 1 _ _ _).mono ?_
    rintro e w3 ⟨rfl, rfl⟩
    have c3 := (((Chain.bare w1 a).cons op id)).cons ⟨#[120]⟩ 1
    rw [World.size_alloc] at c3
    have C3 := hide c3
    clear c3
    have b3 : Below w1.heap.size w1 ((w1.alloc (.cells #[.string op, .int .i64 id, .iface 26 (.int .i64 a)] 33)).alloc (.cells #[.string ⟨#[120]⟩, .int .i64 1, .iface 28 (.pointer (some ⟨w1.heap.size, 0, none⟩))] 33)) := ((Below.refl _ w1).alloc (Nat.le_refl _) _).alloc (by simp) _
    have G3 := hide ((unhide G1).below (unhide G1).pos b3)
    have B3 := hide ((unhide B1).trans (b3.mono (unhide B1).size))
    clear b3 B1 G1
    go_wp2_with fail
    refine (is_chain [(⟨#[120]⟩, 1), (op, id)] a b _ _ (unhide C3)).mono ?_
    rintro e w4 ⟨rfl, rfl⟩
    cases hab : (a == b)
    all_goals
      go_wp2_with fail
      refine (code_chain [(⟨#[120]⟩, 1), (op, id)] a _ _ (unhide C3) (unhide G3)).mono ?_
      rintro e w5 ⟨rfl, b5⟩
      go_wp2
      go_ret
      exact ⟨rfl, (unhide B3).trans (b5.mono (unhide B3).size)⟩
  · have hin' := hide hin
    clear hin
    go_enter Tryd.func4, Tryd.ntmps4
    go_wp2_with fail
    refine (awake_any _ (unhide HG)).mono ?_
    rintro e w1 ⟨rfl, b1⟩
    have B1 := hide b1
    clear b1 HG
    go_wp2_with fail
    all_goals first
      | (go_ret; exact ⟨rfl, unhide B1⟩)
      | (exfalso; have := unhide hin'; omega)

set_option maxRecDepth 100000 in
theorem contract (H : Type) (enc : TypeId × Value → H) (W : World) (base : Nat) (args : Array Value) (ds gs : List (DataW H)) (before : List MemPlace)
    (hval : ∀ (j : Nat) t v, Tryd.f4.params[j]? = some t → args[j]? = some v → Value.okWide Tryd.prog W .any base t v)
    (hW : DataW.Whole enc Tryd.prog Tryd.f4.params.toList Rows.faultSameSpec.vars false W args.toList ds gs before) (hL : laidMetH Tryd.prog [("errors.errorType", Rows.laid_errors_errorType)] W) :
    Calls Tryd.prog 4 args W fun e W' => ∃ v, e = .returned v ∧ Rows.faultSameSpec.post enc Tryd.prog Tryd.f4 false true false false W args v W' := by
  have hW' := hW
  obtain ⟨p, q, hA0, hV, rfl, hfz, hnd⟩ := hW
  have hA : DataW.TrodAll enc Tryd.prog W 0 (fun _ => true) true Tryd.f4.params.toList args.toList ds p := hA0
  rw [Tryd.params4] at hA hval
  obtain ⟨v0, vs0, d0, ds0, p0, q0, hargs, rfl, rfl, h0, r0⟩ := trodAll_cons hA
  obtain ⟨v1, vs1, d1, ds1, p1, q1, rfl, rfl, rfl, h1, r1⟩ := trodAll_cons r0
  obtain ⟨v2, vs2, d2, ds2, p2, q2, rfl, rfl, rfl, h2, r2⟩ := trodAll_cons r1
  obtain ⟨v3, vs3, d3, ds3, p3, q3, rfl, rfl, rfl, h3, r3⟩ := trodAll_cons r2
  obtain ⟨rfl, rfl, rfl⟩ := trodAll_nil r3
  obtain rfl : args = #[v0, v1, v2, v3] := by cases args; simp_all
  obtain ⟨rfl, rfl⟩ := trodVars_none hV
  obtain ⟨a0, rfl, rfl, rfl, w0⟩ := open_int Tryd.underlying3 (hval 0 3 v0 rfl rfl) h0
  obtain ⟨a1, rfl, rfl, rfl, w1⟩ := open_int Tryd.underlying3 (hval 1 3 v1 rfl rfl) h1
  obtain ⟨a2, rfl, rfl, rfl, w2⟩ := open_string Tryd.underlying9 (hval 2 9 v2 rfl rfl) h2
  obtain ⟨a3, rfl, rfl, rfl, w3⟩ := open_int Tryd.underlying3 (hval 3 3 v3 rfl rfl) h3
  clear hA0
  simp only [List.append_nil] at hW'
  refine (walk a0 a1 a2 a3 W (laid_of hL) w2).mono fun e W' ⟨he, hb⟩ => ?_
  subst he
  refine ⟨_, rfl, _, _, _, [], [], [], hW', ?_, ?_, ?_, hb.frame _, fun h => by cases h⟩
  · exact trodAll_cons_mk (shut_bool Tryd.underlying4 true) trodAll_mk0
  · exact (trodAll_cons_mk (shut_int Tryd.underlying3 w0) (trodAll_cons_mk (shut_int Tryd.underlying3 w1) (trodAll_cons_mk (shut_string Tryd.underlying9 w2) (trodAll_cons_mk (shut_int Tryd.underlying3 w3) trodAll_mk0))))
  · rfl

theorem reads (os : Os) {H : Type} (enc : TypeId × Value → H) : ∃ places, DataW.whole enc Tryd.prog ((laidW Tryd.prog os).forCall (fun _ _ => 0) ⟨#[], #[.int .i64 0, .int .i64 0, .string ⟨#[]⟩, .int .i64 0], []⟩).memory Tryd.f4.params.toList Rows.faultSameSpec.vars false #[Value.int .i64 0, Value.int .i64 0, Value.string ⟨#[]⟩, Value.int .i64 0].toList 8 = some ([.lit (.int .i64 0), .lit (.int .i64 0), .lit (.string []), .lit (.int .i64 0)], [], places) :=
  ⟨[], by kernel_rfl⟩

set_option maxRecDepth 100000 in
theorem lifted (os : Os) (started : os.Started) (H : Type) (enc : TypeId × Value → H) (F : Stop.Interp) :
    ReturnsInHanded {} Tryd.checked os 4 .any ((OpenSpec.ofChange Rows.faultSameSpec).preRow enc Tryd.prog Tryd.f4 Rows.faultSameRow.domain false Rows.faultSameRow.laid) (((OpenSpec.ofChange Rows.faultSameSpec).at F).post enc Tryd.prog Tryd.f4 false true false false) := by
  obtain ⟨places, hx⟩ := reads os enc
  refine returnsInHanded_of_row (C := Tryd.checked) (s := OpenSpec.ofChange Rows.faultSameSpec) own started (by kernel_rfl) Tryd.func4
    (witness_row_at (enc := enc) (C := Tryd.checked) false (laidW Tryd.prog os) #[.int .i64 0, .int .i64 0, .string ⟨#[]⟩, .int .i64 0] rfl (by kernel_rfl) (by kernel_rfl) (by kernel_rfl)
      (OpenSpec.preRow_of_cond 8 hx (by kernel_rfl) (fun k hk => by cases hk) (by kernel_rfl) (laidW_met os _))) ?_
  intro W base args ds gs before hval hW _ _ _ hL _ _
  exact contract H enc W base args ds gs before hval hW hL

theorem said : Rows.FaultSameSaid :=
  OpenClaim.holds_of_cond 4 Tryd.f4 rfl rfl rfl rfl rfl rfl rfl ⟨rfl, rfl, rfl, rfl, rfl⟩ rfl rfl rfl rfl rfl (by kernel_rfl) Tryd.func4 (by kernel_rfl)
    (of_decide_eq_true (by kernel_rfl)) (by unfold Func.isWrapper; first | (rw [if_pos (by decide +kernel)]; kernel_rfl) | (rw [if_neg (by decide +kernel)]; exact ⟨rfl, rfl⟩))
    (fun os started H enc _ F => by rw [OpenClaim.pre_eq_preRow]; exact lifted os started H enc F)

theorem plain (f : FuncId) (fn : Func) (hf : Tryd.pinned.checked.prog.funcNamed "beadle/beadlelaw2.FaultSame" = some f) (hfn : Tryd.pinned.checked.prog.funcs[f]? = some fn) :
    true = Tryd.pinned.checked.prog.looks [] ∧ ∀ (j : Nat) t, fn.params[j]? = some t → Tryd.pinned.checked.prog.wantsStandIn t = false := by
  obtain rfl : f = 4 := Option.some.inj ((show Tryd.prog.funcNamed "beadle/beadlelaw2.FaultSame" = some 4 by kernel_rfl).symm.trans hf) |>.symm
  obtain rfl : fn = Tryd.f4 := (Option.some.inj (Tryd.func4.symm.trans hfn)).symm
  refine ⟨by kernel_rfl, fun j t ht => ?_⟩
  rw [Tryd.params4] at ht
  have hm : t = 3 ∨ t = 9 := by
    rcases j with _ | _ | _ | _ | j
    · exact Or.inl (by simpa using ht.symm)
    · exact Or.inl (by simpa using ht.symm)
    · exact Or.inr (by simpa using ht.symm)
    · exact Or.inl (by simpa using ht.symm)
    · simp at ht
  rcases hm with rfl | rfl
  · exact (show Tryd.prog.wantsStandIn 3 = false by kernel_rfl)
  · exact (show Tryd.prog.wantsStandIn 9 = false by kernel_rfl)

theorem card : Rows.FaultSameCardSaid :=
  Claim7.holds_tied_plain_at .later [] _ _ _ _ said (fun _ h => by cases h) (by kernel_rfl) (fun _ h => by cases h) faultSame_row_tie rfl ⟨rfl, rfl⟩ (by kernel_rfl) rfl plain (by kernel_rfl)
end Go.Proofs.YtlfmlbkpkkegpaaDoor.faultSame

namespace Go.Proofs.YtlfmlbkpkkegpaaDoor
theorem faultSame_holds : Rows.FaultSameCardSaid := faultSame.card
end Go.Proofs.YtlfmlbkpkkegpaaDoor
