/- What (*Fault).Error answers of the lock that the document tells of. -/
import Derived.Test.YtlfmlbkpkkegpaaFmtFBld
import Derived.Deep.RegionWith
import Derived.Lib.LaidTab
import Derived.StillTailTactics
import Derived.Deep.QuietTactic
import Derived.BigQuiet
namespace Go.Proofs.YtlfmlbkpkkegpaaFmt.Con
open Go.RowKit Go.Extern.Stop Go.Stop Go.Extern Go.Shelf
set_option linter.unusedVariables false

theorem itoa3 (w : World) : Calls Tryf.prog 30 #[.int .i64 3] w fun e w' => e = .returned (.string ⟨#[51]⟩) ∧ w' = w := by
  have h := Tryf.strconv_Itoa_small 3 (by decide) w
  rw [show Lib.decDigits 3 = [51] from by decide +kernel] at h
  exact h
theorem itoa5 (w : World) : Calls Tryf.prog 30 #[.int .i64 5] w fun e w' => e = .returned (.string ⟨#[53]⟩) ∧ w' = w := by
  have h := Tryf.strconv_Itoa_small 5 (by decide) w
  rw [show Lib.decDigits 5 = [53] from by decide +kernel] at h
  exact h

theorem methodErrorE (v : Value) (w : World) : (Go.method 248 26 v "Error").run Tryf.prog w = .ok (72, v) w := by kernel_rfl
theorem methodErrorF (v : Value) (w : World) : (Go.method 248 32 v "Error").run Tryf.prog w = .ok (17, v) w := by kernel_rfl

def err5 : ByteArray := ⟨#[101, 114, 114, 111, 114, 32, 53]⟩
theorem errno5 (w : World) : Calls Tryf.prog 72 #[.int .i64 5] w fun e w' => e = .returned (.string err5) ∧ w' = w := by
  go_enter Tryf.func72, Tryf.ntmps72
  go_wp2_with (go_at_call 30; refine (itoa5 _).mono ?_; rintro e w' ⟨rfl, rfl⟩)
  go_ret
  exact ⟨rfl, rfl⟩

theorem words_catch (p : Addr) (w : World) :
    CallsD Tryf.prog 41 #[.pointer (some p)] .returning w fun e u' w' => e = .returned (.tuple #[]) ∧ u' = .returning ∧ w' = w := by
  refine callsD_of_wpS Tryf.func41 rfl fun c₀ cs hu => ?_
  apply wpS_seq
  apply wpS_region
  simp [wpOpsS, go_sem, recoverD, hu, Tryf.ntmps41, Exit.thenS]
  refine wpS_cond (t := false) (by simp [Act.eval, Array.replicate]) ?_
  simp only [Bool.false_eq_true, if_false]
  refine wpS_of_wp (wp_skip ?_)
  cases c₀
  simp_all [bodyPostS, results, Tryf.results41]

set_option maxRecDepth 100000 in
set_option maxHeartbeats 1000000 in
theorem words5 (w : World) :
    Calls Tryf.prog 32 #[.iface 26 (.int .i64 5)] w fun e w' => e = .returned (.string err5) ∧ Below w.heap.size w w' := by
  have hmf : ∀ (fn : Fn) (first cap : Array Value) (w : World), (Instr.makeFunc fn first cap).run Tryf.prog w = .ok (.func fn first cap) w := fun _ _ _ _ => rfl
  have hBB := hide (fun v => show Below w.heap.size w (w.alloc (.cells #[v] 9)) from (Below.refl _ w).alloc (Nat.le_refl _) _)
  have mE := methodErrorE
  go_enter_defers Tryf.func32, Tryf.ntmps32
  go_wp2_with (go_at_call 72; refine (errno5 _).mono ?_; rintro e w' ⟨rfl, rfl⟩)
  refine leaves_cons (f := 41) (args := #[.pointer (some ⟨w.heap.size, 0, none⟩)]) (by simp) (by simp [go_sem]) ?_
  refine (words_catch ⟨w.heap.size, 0, none⟩ _).mono ?_
  rintro e u' w'' ⟨rfl, rfl, rfl⟩
  simp [Leaves, settle, results, Tryf.results32, go_sem]
  exact unhide hBB _

set_option maxRecDepth 100000 in
set_option maxHeartbeats 1000000 in
theorem words_nil (w : World) :
    Calls Tryf.prog 32 #[.nilIface] w fun e w' => e = .returned (.string ⟨#[111, 107]⟩) ∧ Below w.heap.size w w' := by
  have hBB := hide (fun v => show Below w.heap.size w (w.alloc (.cells #[v] 9)) from (Below.refl _ w).alloc (Nat.le_refl _) _)
  go_enter_defers Tryf.func32, Tryf.ntmps32
  go_wp2
  simp [bodyPostD, Leaves, results, Tryf.results32, go_sem]
  exact unhide hBB _

theorem region_tail {P : Program} {id : Nat} {Q : Exit → Act → World → Prop} {a : Act} {w : World} {l : List Oper} (n : Nat) (hm : P.follows .mixedOrders = true) (hB : Region.lexTailB .any l.toArray n = true)
    (h : wpStill P l.toArray w.drew (fun a' => wpList P l.toArray Q (l.drop n) a' w.drew) (l.take n) a) : (Code.region id l.toArray true).wp P Q a w := wp_region_still_tail n hm hB h
theorem isB_below {T e : TypeId} {B b : Nat} {bs : List Value} {w w' : World} (h : Lib.IsBuilderF T e B b bs w) (hb : Below w.heap.size w w') : Lib.IsBuilderF T e B b bs w' := by
  have hg : w.grownBy w' none := ⟨hb.os, hb.tape, hb.output, hb.size, fun k hk _ => hb.block k hk⟩
  have one : ∀ p, Lib.BuilderAtF T e B b p bs w → Lib.BuilderAtF T e B b p bs w' := by
    intro p h
    have hlt := h.lt
    obtain ⟨hB, v, hbk, hown, hne⟩ := h
    refine ⟨hB, v, (hb.block b hlt).trans hbk, hown.kept hg ?_, hne⟩
    cases hv : v.ownBlock
    · exact .inl rfl
    · exact .inr (by simp)
  rcases h with h | h
  · exact .inl (one _ h)
  · exact .inr (one _ h)
theorem run_neq_iface_types {P : Program} {ti : TypeId} {ms : Array (String × TypeId)} (tx ty : TypeId) (vx vy : Value) (hi : P.underlying ti = some (.interface ms)) (hne : tx ≠ ty) (w : World) :
    (binOp .neq ti (.iface tx vx) (.iface ty vy)).run P w = .ok (.bool true) w := by
  have h : ∀ d : Nat, (Op.equalIn (d + 1) ti (.iface tx vx) (.iface ty vy)).run P w = .ok false w := fun d => by simp [Op.equalIn, run_underlying hi, hne]
  simp only [binOp]
  simp [Op.equal, Op.maxDepth, h 9999]
theorem isB_drew {T e : TypeId} {B b : Nat} {bs : List Value} {w : World} (h : Lib.IsBuilderF T e B b bs w) : Lib.IsBuilderF T e B b bs w.drew := h
def lock : ByteArray := ⟨#[108, 111, 99, 107]⟩
def said : List UInt8 := [108, 111, 99, 107, 32, 51, 58, 32, 101, 114, 114, 111, 114, 32, 53]
theorem headA : lock ++ (⟨#[32]⟩ : ByteArray) ++ ⟨#[51]⟩ ++ ⟨#[58, 32]⟩ = ⟨#[108, 111, 99, 107, 32, 51, 58, 32]⟩ := by decide +kernel
theorem szA : ([] : List Value).length + (lock ++ (⟨#[32]⟩ : ByteArray) ++ ⟨#[51]⟩ ++ ⟨#[58, 32]⟩).size ≤ 140737488355328 := by
  rw [headA]; exact of_decide_eq_true rfl
theorem szB : (([] : List Value) ++ Lib.strCells (lock ++ (⟨#[32]⟩ : ByteArray) ++ ⟨#[51]⟩ ++ ⟨#[58, 32]⟩)).length + err5.size ≤ 140737488355328 := by
  rw [headA, List.nil_append, Lib.strCells_length]; exact of_decide_eq_true rfl
theorem cellsA : ([] : List Value) ++ Lib.strCells (lock ++ (⟨#[32]⟩ : ByteArray) ++ ⟨#[51]⟩ ++ ⟨#[58, 32]⟩) ++ Lib.strCells err5 = Lib.byteCells said := by
  rw [headA, List.nil_append, Lib.strCells_eq, Lib.strCells_eq, ← Lib.byteCells_append]; rfl

set_option maxRecDepth 100000 in
set_option maxHeartbeats 4000000 in
theorem error_lock (b : Nat) (w : World) (hg : Laid w) (h0 : w.cell? ⟨b, 0, none⟩ = some (.string lock)) (h1 : w.cell? ⟨b, 1, none⟩ = some (.int .i64 3)) (h2 : w.cell? ⟨b, 2, none⟩ = some (.iface 26 (.int .i64 5))) :
    Calls Tryf.prog 17 #[.pointer (some ⟨b, 0, none⟩)] w fun e w' => e = .returned (.string ⟨said.toArray⟩) ∧ Below w.heap.size w w' := by
  have hb : b < w.heap.size := by
    rcases Nat.lt_or_ge b w.heap.size with h | h
    · exact h
    · simp [World.cell?, Array.getElem?_eq_none h] at h0
  have b0 : Below w.heap.size w (w.alloc (.cells #[.pointer none, .slice none 0 0] 77)) := (Below.refl _ w).alloc (Nat.le_refl _) _
  have i0 : Lib.IsBuilderF 77 5 w.heap.size w.heap.size [] (w.alloc (.cells #[.pointer none, .slice none 0 0] 77)) := Lib.IsBuilderF.of (Lib.fresh_isBuilder 77 5 w)
  have k0 := (b0.cell (p := ⟨b, 0, none⟩) hb).trans h0
  have k1 := (b0.cell (p := ⟨b, 1, none⟩) hb).trans h1
  have k2 := (b0.cell (p := ⟨b, 2, none⟩) hb).trans h2
  have B0 := hide b0
  have I0 := hide i0
  have HG := hide hg
  have H0 := hide h0; have H1 := hide h1; have H2 := hide h2
  clear b0 i0 hg h0 h1 h2
  have z0 : lock.size = 4 := by decide +kernel
  go_enter Tryf.func17, Tryf.ntmps17
  go_wp2
  refine wp_loop_rounds 1 ?_
  rw [rounds_succ]
  go_wp2
  refine region_tail 12 (by kernel_rfl) (by kernel_rfl) ?_
  simp only [List.take_succ_cons, List.take_zero, List.drop_succ_cons, List.drop_zero]
  repeat still_step
  still_call (itoa3 _)
  repeat still_step
  refine wpStill_nil ?_
  go_wp2_with fail
  refine (write_f w.heap.size w.heap.size [] _ _ (by exact isB_drew (unhide I0)) ?lim (by simp)).mono ?_
  case lim => exact szA
  rintro e w1 ⟨rfl, i1, b1⟩
  have B1 : Below w.heap.size w w1 := (unhide B0).trans (Below.trans (Below.drew (Below.refl _ _)) b1)
  clear k0 k1 k2 b1
  have c2 : w1.cell? ⟨b, 2, none⟩ = some (.iface 26 (.int .i64 5)) := (B1.cell (p := ⟨b, 2, none⟩) hb).trans (unhide H2)
  have I1 := hide i1
  clear i1
  go_wp2_with (go_at_call 31; refine (outer_no 5 _ ((unhide HG).below (unhide HG).pos B1)).mono ?_)
  rintro e w2 ⟨rfl, b2⟩
  have d2 : w2.cell? ⟨b, 2, none⟩ = some (.iface 26 (.int .i64 5)) := (b2.cell (p := ⟨b, 2, none⟩) (Nat.lt_of_lt_of_le hb B1.size)).trans c2
  have I2 := hide (isB_below (unhide I1) b2)
  have B2 : Below w.heap.size w w2 := B1.trans (b2.mono B1.size)
  have hne := run_neq_iface_types (P := Tryf.prog) 32 26 (.pointer none) (.int .i64 5) Tryf.underlying24 (by decide) w2
  clear c2 I1 b2 B1
  go_wp2_with (go_at_call 32; refine (words5 _).mono ?_)
  rintro e w3 ⟨rfl, b3⟩
  have I3 := hide (isB_below (unhide I2) b3)
  have B3 : Below w.heap.size w w3 := B2.trans (b3.mono B2.size)
  clear I2 b3 B2 hne d2
  go_wp2_with fail
  refine (write_f w.heap.size w.heap.size _ err5 _ (unhide I3) ?lim2 B3.size).mono ?_
  case lim2 => exact szB
  rintro e w4 ⟨rfl, i4, b4⟩
  have i4' : Lib.IsBuilderF 77 5 w.heap.size w.heap.size (Lib.byteCells said) w4 := by rw [← cellsA]; exact i4
  have I4 := hide i4'
  have B4 : Below w.heap.size w w4 := B3.trans b4
  clear i4 i4' b4 I3 B3
  go_wp2_with (go_at_call 33; refine (Tryf.Builder_String_any_f w.heap.size w.heap.size said _ (unhide I4) B4.size).mono ?_)
  rintro e w5 ⟨rfl, _, b5⟩
  go_wp2
  go_ret
  exact ⟨rfl, B4.trans b5⟩
end Go.Proofs.YtlfmlbkpkkegpaaFmt.Con
