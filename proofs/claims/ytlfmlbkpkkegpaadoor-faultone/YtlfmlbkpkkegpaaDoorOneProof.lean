/- The law FaultOne: one step out of a wrapped error is what was wrapped; it returns true at every input, and its arguments read as they did. What errors.errorType holds is as its initialiser lays it: the card ties that to the program's text. -/
import Derived.Test.YtlfmlbkpkkegpaaDoorCards
import Derived.Test.YtlfmlbkpkkegpaaDoorTie
import Derived.Test.YtlfmlbkpkkegpaaDoorRow
import Derived.Test.YtlfmlbkpkkegpaaDoorDeep
namespace Go.Proofs.YtlfmlbkpkkegpaaDoor.faultOne
open Go.ChangeShapes Go.WideShapes Go.ChangeAt Go.RowKit Go.ChangeMaps Con Go.Stop
set_option linter.unusedVariables false

theorem compF : (Tryd.prog.info? 28).map (·.comparable) = some true := by kernel_rfl
theorem sizeF : (Tryd.prog.info? 33).map (·.size) = some 3 := by kernel_rfl

set_option maxRecDepth 100000 in
set_option maxHeartbeats 1000000 in
theorem unwrap_fault (b : Nat) (v : Value) (w : World) (h : w.cell? ⟨b, 2, none⟩ = some v) :
    Calls Tryd.prog 10 #[.iface 28 (.pointer (some ⟨b, 0, none⟩))] w fun e w' => e = .returned v ∧ w' = w := by
  have uF := hasUnwrapF
  have mU := methodUnwrapF
  go_enter Tryd.func10, Tryd.ntmps10
  go_wp2_with (go_at_call 63; refine (funwrap_any b v _ h).mono ?_; rintro e w' ⟨rfl, rfl⟩)
  go_ret
  exact ⟨rfl, rfl⟩

set_option maxRecDepth 100000 in
set_option maxHeartbeats 4000000 in
theorem walk (op : ByteArray) (id code : Int) (w : World) (hg : Laid w) (hs : op.size ≤ maxLen) :
    Calls Tryd.prog 3 #[.string op, .int .i64 id, .int .i64 code] w fun e w' => e = .returned (.bool true) ∧ Below w.heap.size w w' := by
  unfold maxLen at hs
  have HG := hide hg
  clear hg
  by_cases hin : 1 ≤ code ∧ code ≤ 13 ∧ op.size ≤ 40
  · obtain ⟨h1, h2, h3⟩ := hin
    have hz : (code == 0) = false := beq_eq_false_iff_ne.2 (by omega)
    go_enter Tryd.func3, Tryd.ntmps3
    go_wp2_with fail
    refine (awake_any _ (unhide HG)).mono ?_
    rintro e w1 ⟨rfl, b1⟩
    have G1 := hide ((unhide HG).below (unhide HG).pos b1)
    have B1 := hide b1
    clear b1 HG
    go_wp2_with fail
    refine (new_any op id code _ hz).mono ?_
    rintro e w2 ⟨rfl, rfl⟩
    go_wp2_with fail
    refine (wrap_any op id _ _ _).mono ?_
    rintro e w3 ⟨rfl, rfl⟩
    have c3 := (((Chain.bare w1 code).cons op id)).cons op id
    rw [World.size_alloc] at c3
    have b3 : Below w1.heap.size w1 ((w1.alloc (.cells #[.string op, .int .i64 id, .iface 26 (.int .i64 code)] 33)).alloc (.cells #[.string op, .int .i64 id, .iface 28 (.pointer (some ⟨w1.heap.size, 0, none⟩))] 33)) := ((Below.refl _ w1).alloc (Nat.le_refl _) _).alloc (by simp) _
    have k0 : ((w1.alloc (.cells #[.string op, .int .i64 id, .iface 26 (.int .i64 code)] 33)).alloc (.cells #[.string op, .int .i64 id, .iface 28 (.pointer (some ⟨w1.heap.size, 0, none⟩))] 33)).cell? ⟨w1.heap.size, 2, none⟩ = some (.iface 26 (.int .i64 code)) := by
      rw [World.cell?_alloc_lt _ _ ⟨w1.heap.size, 2, none⟩ (by simp)]; simp
    have k1 : ∀ j v, (#[Value.string op, .int .i64 id, .iface 28 (.pointer (some ⟨w1.heap.size, 0, none⟩))] : Array Value)[j]? = some v → ((w1.alloc (.cells #[.string op, .int .i64 id, .iface 26 (.int .i64 code)] 33)).alloc (.cells #[.string op, .int .i64 id, .iface 28 (.pointer (some ⟨w1.heap.size, 0, none⟩))] 33)).cell? ⟨w1.heap.size + 1, j, none⟩ = some v := by
      intro j v h
      rw [World.cell?_alloc_at _ _ _ _ (by simp)]; exact h
    have hsz : ((w1.alloc (.cells #[.string op, .int .i64 id, .iface 26 (.int .i64 code)] 33)).alloc (.cells #[.string op, .int .i64 id, .iface 28 (.pointer (some ⟨w1.heap.size, 0, none⟩))] 33)).heap.size = w1.heap.size + 1 + 1 := by simp
    generalize ((w1.alloc (.cells #[.string op, .int .i64 id, .iface 26 (.int .i64 code)] 33)).alloc (.cells #[.string op, .int .i64 id, .iface 28 (.pointer (some ⟨w1.heap.size, 0, none⟩))] 33)) = w3 at *
    have C3 := hide c3
    have G3 := hide ((unhide G1).below (unhide G1).pos b3)
    have B3 := hide ((unhide B1).trans (b3.mono (unhide B1).size))
    have K0 := hide k0
    have K10 := hide (k1 0 _ rfl)
    have K11 := hide (k1 1 _ rfl)
    have K12 := hide (k1 2 _ rfl)
    have HS := hide hsz
    clear c3 b3 k0 k1 G1 B1 hsz
    go_wp2_with fail
    have b4 : Below w3.heap.size w3 (w3.alloc (.cells #[.pointer none] 28)) := (Below.refl _ w3).alloc (Nat.le_refl _) _
    refine (as_fault' ⟨w1.heap.size + 1, 0, none⟩ w3.heap.size (.pointer none) _ ((unhide G3).below (unhide G3).pos b4) (by simp) (by simp)).mono ?_
    rintro e w5 ⟨rfl, hp, hpf, b5⟩
    have b45 : Below w3.heap.size w3 w5 := b4.trans b5
    have C5 := hide ((unhide C3).below b45)
    have G5 := hide ((unhide G3).below (unhide G3).pos b45)
    have B5 := hide ((unhide B3).trans (b45.mono (unhide B3).size))
    have lt0 : w1.heap.size < w3.heap.size := by rw [unhide HS]; omega
    have lt1 : w1.heap.size + 1 < w3.heap.size := by rw [unhide HS]; omega
    have q0 : w5.cell? ⟨w1.heap.size, 2, none⟩ = some (.iface 26 (.int .i64 code)) := (b45.cell (p := ⟨w1.heap.size, 2, none⟩) lt0).trans (unhide K0)
    have q10 : w5.cell? ⟨w1.heap.size + 1, 0, none⟩ = some (.string op) := (b45.cell (p := ⟨w1.heap.size + 1, 0, none⟩) lt1).trans (unhide K10)
    have q11 : w5.cell? ⟨w1.heap.size + 1, 1, none⟩ = some (.int .i64 id) := (b45.cell (p := ⟨w1.heap.size + 1, 1, none⟩) lt1).trans (unhide K11)
    have q12 : w5.cell? ⟨w1.heap.size + 1, 2, none⟩ = some (.iface 28 (.pointer (some ⟨w1.heap.size, 0, none⟩))) := (b45.cell (p := ⟨w1.heap.size + 1, 2, none⟩) lt1).trans (unhide K12)
    obtain ⟨i, hi, hcmp⟩ := Option.map_eq_some_iff.1 compF
    obtain ⟨j, hj, hjs⟩ := Option.map_eq_some_iff.1 sizeF
    obtain ⟨i2, hi2, hcmp2⟩ := Option.map_eq_some_iff.1 compE
    have heq := run_eql_iface_ptr_same (P := Tryd.prog) w5 ⟨w1.heap.size, 0, none⟩ Tryd.underlying24 Tryd.underlying28 hi hcmp hj
    have hee := run_eql_iface_int (P := Tryd.prog) w5 code code Tryd.underlying24 Tryd.underlying26 hi2 hcmp2
    rw [show (code == code) = true from beq_self_eq_true code] at hee
    have Q0 := hide q0
    have Q12 := hide q12
    clear b4 b5 b45 C3 G3 B3 K0 K10 K11 K12 HS lt0 lt1 q0 q12 hi hcmp hj hjs hi2 hcmp2 hpf
    go_wp2_with fail
    refine (unwrap_fault (w1.heap.size + 1) _ _ (unhide Q12)).mono ?_
    rintro e w6 ⟨rfl, rfl⟩
    go_wp2_with fail
    refine (unwrap_fault w1.heap.size _ _ (unhide Q0)).mono ?_
    rintro e w6 ⟨rfl, rfl⟩
    go_wp2_with fail
    refine (deep_chain _ code _ _ (unhide C5) (unhide G5) (by simp)).mono ?_
    rintro e w7 ⟨rfl, b7⟩
    go_wp2
    go_ret
    exact ⟨rfl, (unhide B5).trans (b7.mono (unhide B5).size)⟩
  · have hin' := hide hin
    clear hin
    go_enter Tryd.func3, Tryd.ntmps3
    go_wp2_with fail
    refine (awake_any _ (unhide HG)).mono ?_
    rintro e w1 ⟨rfl, b1⟩
    have B1 := hide b1
    clear b1 HG
    go_wp2_with fail
    all_goals first
      | (go_ret; exact ⟨rfl, unhide B1⟩)
      | (exfalso; have := unhide hin'; omega)

set_option maxRecDepth 100000 in
theorem contract (H : Type) (enc : TypeId × Value → H) (W : World) (base : Nat) (args : Array Value) (ds gs : List (DataW H)) (before : List MemPlace)
    (hval : ∀ (j : Nat) t v, Tryd.f3.params[j]? = some t → args[j]? = some v → Value.okWide Tryd.prog W .any base t v)
    (hW : DataW.Whole enc Tryd.prog Tryd.f3.params.toList Rows.faultOneSpec.vars false W args.toList ds gs before) (hL : laidMetH Tryd.prog [("errors.errorType", Rows.laid_errors_errorType)] W) :
    Calls Tryd.prog 3 args W fun e W' => ∃ v, e = .returned v ∧ Rows.faultOneSpec.post enc Tryd.prog Tryd.f3 false true false false W args v W' := by
  have hW' := hW
  obtain ⟨p, q, hA0, hV, rfl, hfz, hnd⟩ := hW
  have hA : DataW.TrodAll enc Tryd.prog W 0 (fun _ => true) true Tryd.f3.params.toList args.toList ds p := hA0
  rw [Tryd.params3] at hA hval
  obtain ⟨v0, vs0, d0, ds0, p0, q0, hargs, rfl, rfl, h0, r0⟩ := trodAll_cons hA
  obtain ⟨v1, vs1, d1, ds1, p1, q1, rfl, rfl, rfl, h1, r1⟩ := trodAll_cons r0
  obtain ⟨v2, vs2, d2, ds2, p2, q2, rfl, rfl, rfl, h2, r2⟩ := trodAll_cons r1
  obtain ⟨rfl, rfl, rfl⟩ := trodAll_nil r2
  obtain rfl : args = #[v0, v1, v2] := by cases args; simp_all
  obtain ⟨rfl, rfl⟩ := trodVars_none hV
  obtain ⟨a0, rfl, rfl, rfl, w0⟩ := open_string Tryd.underlying9 (hval 0 9 v0 rfl rfl) h0
  obtain ⟨a1, rfl, rfl, rfl, w1⟩ := open_int Tryd.underlying3 (hval 1 3 v1 rfl rfl) h1
  obtain ⟨a2, rfl, rfl, rfl, w2⟩ := open_int Tryd.underlying3 (hval 2 3 v2 rfl rfl) h2
  clear hA0
  simp only [List.append_nil] at hW'
  refine (walk a0 a1 a2 W (laid_of hL) w0).mono fun e W' ⟨he, hb⟩ => ?_
  subst he
  refine ⟨_, rfl, _, _, _, [], [], [], hW', ?_, ?_, ?_, hb.frame _, fun h => by cases h⟩
  · exact trodAll_cons_mk (shut_bool Tryd.underlying4 true) trodAll_mk0
  · exact (trodAll_cons_mk (shut_string Tryd.underlying9 w0) (trodAll_cons_mk (shut_int Tryd.underlying3 w1) (trodAll_cons_mk (shut_int Tryd.underlying3 w2) trodAll_mk0)))
  · rfl

theorem reads (os : Os) {H : Type} (enc : TypeId × Value → H) : ∃ places, DataW.whole enc Tryd.prog ((laidW Tryd.prog os).forCall (fun _ _ => 0) ⟨#[], #[.string ⟨#[]⟩, .int .i64 0, .int .i64 0], []⟩).memory Tryd.f3.params.toList Rows.faultOneSpec.vars false #[Value.string ⟨#[]⟩, Value.int .i64 0, Value.int .i64 0].toList 8 = some ([.lit (.string []), .lit (.int .i64 0), .lit (.int .i64 0)], [], places) :=
  ⟨[], by kernel_rfl⟩

set_option maxRecDepth 100000 in
theorem lifted (os : Os) (started : os.Started) (H : Type) (enc : TypeId × Value → H) (F : Stop.Interp) :
    ReturnsInHanded {} Tryd.checked os 3 .any ((OpenSpec.ofChange Rows.faultOneSpec).preRow enc Tryd.prog Tryd.f3 Rows.faultOneRow.domain false Rows.faultOneRow.laid) (((OpenSpec.ofChange Rows.faultOneSpec).at F).post enc Tryd.prog Tryd.f3 false true false false) := by
  obtain ⟨places, hx⟩ := reads os enc
  refine returnsInHanded_of_row (C := Tryd.checked) (s := OpenSpec.ofChange Rows.faultOneSpec) own started (by kernel_rfl) Tryd.func3
    (witness_row_at (enc := enc) (C := Tryd.checked) false (laidW Tryd.prog os) #[.string ⟨#[]⟩, .int .i64 0, .int .i64 0] rfl (by kernel_rfl) (by kernel_rfl) (by kernel_rfl)
      (OpenSpec.preRow_of_cond 8 hx (by kernel_rfl) (fun k hk => by cases hk) (by kernel_rfl) (laidW_met os _))) ?_
  intro W base args ds gs before hval hW _ _ _ hL _ _
  exact contract H enc W base args ds gs before hval hW hL

theorem said : Rows.FaultOneSaid :=
  OpenClaim.holds_of_cond 3 Tryd.f3 rfl rfl rfl rfl rfl rfl rfl ⟨rfl, rfl, rfl, rfl, rfl⟩ rfl rfl rfl rfl rfl (by kernel_rfl) Tryd.func3 (by kernel_rfl)
    (of_decide_eq_true (by kernel_rfl)) (by unfold Func.isWrapper; first | (rw [if_pos (by decide +kernel)]; kernel_rfl) | (rw [if_neg (by decide +kernel)]; exact ⟨rfl, rfl⟩))
    (fun os started H enc _ F => by rw [OpenClaim.pre_eq_preRow]; exact lifted os started H enc F)

theorem plain (f : FuncId) (fn : Func) (hf : Tryd.pinned.checked.prog.funcNamed "beadle/beadlelaw2.FaultOne" = some f) (hfn : Tryd.pinned.checked.prog.funcs[f]? = some fn) :
    true = Tryd.pinned.checked.prog.looks [] ∧ ∀ (j : Nat) t, fn.params[j]? = some t → Tryd.pinned.checked.prog.wantsStandIn t = false := by
  obtain rfl : f = 3 := Option.some.inj ((show Tryd.prog.funcNamed "beadle/beadlelaw2.FaultOne" = some 3 by kernel_rfl).symm.trans hf) |>.symm
  obtain rfl : fn = Tryd.f3 := (Option.some.inj (Tryd.func3.symm.trans hfn)).symm
  refine ⟨by kernel_rfl, fun j t ht => ?_⟩
  rw [Tryd.params3] at ht
  have hm : t = 3 ∨ t = 9 := by
    rcases j with _ | _ | _ | j
    · exact Or.inr (by simpa using ht.symm)
    · exact Or.inl (by simpa using ht.symm)
    · exact Or.inl (by simpa using ht.symm)
    · simp at ht
  rcases hm with rfl | rfl
  · exact (show Tryd.prog.wantsStandIn 3 = false by kernel_rfl)
  · exact (show Tryd.prog.wantsStandIn 9 = false by kernel_rfl)

theorem card : Rows.FaultOneCardSaid :=
  Claim7.holds_tied_plain_at .later [] _ _ _ _ said (fun _ h => by cases h) (by kernel_rfl) (fun _ h => by cases h) faultOne_row_tie rfl ⟨rfl, rfl⟩ (by kernel_rfl) rfl plain (by kernel_rfl)
end Go.Proofs.YtlfmlbkpkkegpaaDoor.faultOne

namespace Go.Proofs.YtlfmlbkpkkegpaaDoor
theorem faultOne_holds : Rows.FaultOneCardSaid := faultOne.card
end Go.Proofs.YtlfmlbkpkkegpaaDoor
