/- What New, Wrap, Unwrap, errors.As and errors.Is do over a chain of Faults with a number innermost. -/
import Derived.Test.YtlfmlbkpkkegpaaFmtRows
import Derived.WalkKit
import Derived.LaidEql
import Derived.Stop.Asserts
import Derived.RowKitTokens
namespace Go.Proofs.YtlfmlbkpkkegpaaFmt.Con
open Go.RowKit Go.Extern.Stop Go.Stop Go.Extern
set_option linter.unusedVariables false
theorem hide {p : Prop} (h : p) : Hid p := h
theorem unhide {p : Prop} (h : Hid p) : p := h.out

/-- An error in memory: Faults with these Ops and IDs, and what fmt wraps, the outermost first, and B innermost. -/
def Chain (w : World) (B : Value) : List (Option (ByteArray × Int)) → Value → Prop
  | [], v => v = B
  | some x :: l, v => ∃ b v', v = .iface 32 (.pointer (some ⟨b, 0, none⟩)) ∧ b < w.heap.size ∧ w.cell? ⟨b, 0, none⟩ = some (.string x.1) ∧ w.cell? ⟨b, 1, none⟩ = some (.int .i64 x.2) ∧ w.cell? ⟨b, 2, none⟩ = some v' ∧ Chain w B l v'
  | none :: l, v => ∃ b v', v = .iface 52 (.pointer (some ⟨b, 0, none⟩)) ∧ b < w.heap.size ∧ w.cell? ⟨b, 1, none⟩ = some v' ∧ Chain w B l v'

theorem Chain.below {w w' : World} {B : Value} (hb : Below w.heap.size w w') : ∀ {l : List (Option (ByteArray × Int))} {v : Value}, Chain w B l v → Chain w' B l v
  | [], _, h => h
  | some x :: l, v, h => by
    obtain ⟨b, v', h1, h2, h3, h4, h5, h6⟩ := h
    exact ⟨b, v', h1, Nat.lt_of_lt_of_le h2 hb.size, (hb.cell (p := ⟨b, 0, none⟩) h2).trans h3, (hb.cell (p := ⟨b, 1, none⟩) h2).trans h4, (hb.cell (p := ⟨b, 2, none⟩) h2).trans h5, h6.below hb⟩
  | none :: l, v, h => by
    obtain ⟨b, v', h1, h2, h5, h6⟩ := h
    exact ⟨b, v', h1, Nat.lt_of_lt_of_le h2 hb.size, (hb.cell (p := ⟨b, 1, none⟩) h2).trans h5, h6.below hb⟩

/-- Not nil. -/
def IsIf (v : Value) : Prop := ∃ t u, v = .iface t u
theorem Chain.iface {w : World} {B : Value} {l : List (Option (ByteArray × Int))} {v : Value} (hB : IsIf B) (h : Chain w B l v) : ∃ t u, v = .iface t u := by
  cases l with
  | nil => obtain rfl : v = B := h; exact hB
  | cons x l => cases x with
    | none => obtain ⟨b, v', rfl, _⟩ := h; exact ⟨_, _, rfl⟩
    | some x => obtain ⟨b, v', rfl, _⟩ := h; exact ⟨_, _, rfl⟩

/-- How many wraps, counted up to the fuel: a loop's measure. -/
def cnt (w : World) : Nat → Value → Nat
  | 0, _ => 0
  | n + 1, .iface t (.pointer (some a)) => if t = 32 then (match w.cell? ⟨a.block, a.off + 2, none⟩ with
    | some v => cnt w n v + 1
    | none => 0) else if t = 52 then (match w.cell? ⟨a.block, a.off + 1, none⟩ with
    | some v => cnt w n v + 1
    | none => 0) else 0
  | _ + 1, _ => 0
/-- A base that is neither. -/
def Bare (B : Value) : Prop := ∀ w n, cnt w n B = 0
theorem bare_errno (c : Int) : Bare (.iface 26 (.int .i64 c)) := fun w n => by cases n <;> rfl
theorem bare_other (p : Addr) : Bare (.iface 53 (.pointer (some p))) := fun w n => by cases n <;> rfl
theorem bare_nil : Bare .nilIface := fun w n => by cases n <;> rfl
theorem cnt_chain {w : World} {B : Value} (hB : Bare B) : ∀ {l : List (Option (ByteArray × Int))} {v : Value} {n : Nat}, Chain w B l v → l.length ≤ n → cnt w n v = l.length
  | [], v, n, h, _ => by
    obtain rfl : v = _ := h
    exact hB w n
  | some x :: l, v, n, h, hn => by
    obtain ⟨b, v', rfl, h2, h3, h4, h5, h6⟩ := h
    cases n with
    | zero => simp at hn
    | succ n =>
      have e : cnt w n v' = l.length := cnt_chain hB h6 (by simpa using hn)
      simp only [cnt, Nat.zero_add, h5, e, List.length_cons, if_true]
  | none :: l, v, n, h, hn => by
    obtain ⟨b, v', rfl, h2, h5, h6⟩ := h
    cases n with
    | zero => simp at hn
    | succ n =>
      have e : cnt w n v' = l.length := cnt_chain hB h6 (by simpa using hn)
      simp only [cnt, Nat.zero_add, h5, e, List.length_cons]
      rfl

/-- New, of a number that is not OK. -/
theorem new_any (op : ByteArray) (id c : Int) (w : World) (hc : (c == 0) = false) :
    Calls Tryf.prog 6 #[.string op, .int .i64 id, .int .i64 c] w fun e w' => e = .returned (.iface 32 (.pointer (some ⟨w.heap.size, 0, none⟩))) ∧ w' = w.alloc (.cells #[.string op, .int .i64 id, .iface 26 (.int .i64 c)] 36) := by
  go_enter Tryf.func6, Tryf.ntmps6
  go_wp2
  go_ret
  exact ⟨rfl, rfl⟩

/-- Wrap, of an error that is not nil. -/
theorem wrap_any (op : ByteArray) (id : Int) (t : TypeId) (v : Value) (w : World) :
    Calls Tryf.prog 7 #[.string op, .int .i64 id, .iface t v] w fun e w' => e = .returned (.iface 32 (.pointer (some ⟨w.heap.size, 0, none⟩))) ∧ w' = w.alloc (.cells #[.string op, .int .i64 id, .iface t v] 36) := by
  go_enter Tryf.func7, Tryf.ntmps7
  go_wp2
  go_ret
  exact ⟨rfl, rfl⟩

/-- (*Fault).Unwrap. -/
theorem funwrap_any (b : Nat) (v : Value) (w : World) (h : w.cell? ⟨b, 2, none⟩ = some v) :
    Calls Tryf.prog 18 #[.pointer (some ⟨b, 0, none⟩)] w fun e w' => e = .returned v ∧ w' = w := by
  go_enter Tryf.func18, Tryf.ntmps18
  go_wp2
  go_ret
  exact ⟨rfl, rfl⟩

/-! ### closed facts on the assertions of errors.is and errors.as -/
theorem noIsF (v : Value) (xT : TypeId) (w : World) : (Instr.typeAssert (.iface 32 v) xT 96 true).run Tryf.prog w = .ok (.tuple #[.nilIface, .bool false]) w := run_typeAssert_lacksB Tryf.underlying96 (by kernel_rfl) (by kernel_rfl) v xT w
theorem noIsE (v : Value) (xT : TypeId) (w : World) : (Instr.typeAssert (.iface 26 v) xT 96 true).run Tryf.prog w = .ok (.tuple #[.nilIface, .bool false]) w := run_typeAssert_lacksB Tryf.underlying96 (by kernel_rfl) (by kernel_rfl) v xT w
theorem noAsF (v : Value) (xT : TypeId) (w : World) : (Instr.typeAssert (.iface 32 v) xT 89 true).run Tryf.prog w = .ok (.tuple #[.nilIface, .bool false]) w := run_typeAssert_lacksB Tryf.underlying89 (by kernel_rfl) (by kernel_rfl) v xT w
theorem noAsE (v : Value) (xT : TypeId) (w : World) : (Instr.typeAssert (.iface 26 v) xT 89 true).run Tryf.prog w = .ok (.tuple #[.nilIface, .bool false]) w := run_typeAssert_lacksB Tryf.underlying89 (by kernel_rfl) (by kernel_rfl) v xT w
theorem noUnwrapE (v : Value) (xT : TypeId) (w : World) : (Instr.typeAssert (.iface 26 v) xT 92 true).run Tryf.prog w = .ok (.tuple #[.nilIface, .bool false]) w := run_typeAssert_lacksB Tryf.underlying92 (by kernel_rfl) (by kernel_rfl) v xT w
theorem noUnwrapsE (v : Value) (xT : TypeId) (w : World) : (Instr.typeAssert (.iface 26 v) xT 93 true).run Tryf.prog w = .ok (.tuple #[.nilIface, .bool false]) w := run_typeAssert_lacksB Tryf.underlying93 (by kernel_rfl) (by kernel_rfl) v xT w
theorem hasUnwrapF (v : Value) (xT : TypeId) (w : World) : (Instr.typeAssert (.iface 32 v) xT 92 true).run Tryf.prog w = .ok (.tuple #[.iface 32 v, .bool true]) w := run_typeAssert_hasB Tryf.underlying92 (by kernel_rfl) v xT w
theorem methodUnwrapF (v : Value) (w : World) : (Go.method 248 32 v "Unwrap").run Tryf.prog w = .ok (18, v) w := by kernel_rfl

theorem noIsW (v : Value) (xT : TypeId) (w : World) : (Instr.typeAssert (.iface 52 v) xT 96 true).run Tryf.prog w = .ok (.tuple #[.nilIface, .bool false]) w := run_typeAssert_lacksB Tryf.underlying96 (by kernel_rfl) (by kernel_rfl) v xT w
theorem noAsW (v : Value) (xT : TypeId) (w : World) : (Instr.typeAssert (.iface 52 v) xT 89 true).run Tryf.prog w = .ok (.tuple #[.nilIface, .bool false]) w := run_typeAssert_lacksB Tryf.underlying89 (by kernel_rfl) (by kernel_rfl) v xT w
theorem hasUnwrapW (v : Value) (xT : TypeId) (w : World) : (Instr.typeAssert (.iface 52 v) xT 92 true).run Tryf.prog w = .ok (.tuple #[.iface 52 v, .bool true]) w := run_typeAssert_hasB Tryf.underlying92 (by kernel_rfl) v xT w
theorem methodUnwrapW (v : Value) (w : World) : (Go.method 248 52 v "Unwrap").run Tryf.prog w = .ok (74, v) w := by kernel_rfl
theorem noAsO (v : Value) (xT : TypeId) (w : World) : (Instr.typeAssert (.iface 53 v) xT 89 true).run Tryf.prog w = .ok (.tuple #[.nilIface, .bool false]) w := run_typeAssert_lacksB Tryf.underlying89 (by kernel_rfl) (by kernel_rfl) v xT w
theorem noUnwrapO (v : Value) (xT : TypeId) (w : World) : (Instr.typeAssert (.iface 53 v) xT 92 true).run Tryf.prog w = .ok (.tuple #[.nilIface, .bool false]) w := run_typeAssert_lacksB Tryf.underlying92 (by kernel_rfl) (by kernel_rfl) v xT w
theorem noUnwrapsO (v : Value) (xT : TypeId) (w : World) : (Instr.typeAssert (.iface 53 v) xT 93 true).run Tryf.prog w = .ok (.tuple #[.nilIface, .bool false]) w := run_typeAssert_lacksB Tryf.underlying93 (by kernel_rfl) (by kernel_rfl) v xT w

/-! ### errors.Is -/
theorem isTypeOf (v : Value) (w : World) : (Extern.ReflectliteType.typeOf #[.iface 26 v]).run Tryf.prog w = .ok (.iface 85 (.agg #[.pointer (some ⟨4, 26, none⟩)])) w := by kernel_rfl
def cmpEntry : Array Value → Sem Value := Extern.ReflectliteType.method fun t => do Rtype.noPackHeld "Comparable" t; pure (.bool (← typeInfo t).comparable)
theorem isComparable (w : World) : (cmpEntry #[.agg #[.pointer (some ⟨4, 26, none⟩)]]).run Tryf.prog w = .ok (.bool true) w := by kernel_rfl
theorem isMethodComparable (v : Value) (w : World) : (Go.method 248 85 v "Comparable").run Tryf.prog w = .ok (82, v) w := by kernel_rfl
theorem compE : (Tryf.prog.info? 26).map (·.comparable) = some true := by kernel_rfl

theorem run_equalIn_iface_int {P : Program} (w : World) (d : Nat) {ti tn : TypeId} {ms : Array (String × TypeId)} {i : TypeInfo} {k : IntKind} (a b : Int)
    (hi : P.underlying ti = some (.interface ms)) (hn : P.underlying tn = some (.int k)) (hinfo : P.info? tn = some i) (hcomp : i.comparable = true) :
    (Op.equalIn (d + 2) ti (.iface tn (.int k a)) (.iface tn (.int k b))).run P w = .ok (a == b) w := by
  simp [Op.equalIn, run_underlying hi, run_underlying hn, typeInfo, hinfo, hcomp]
theorem run_eql_iface_int {P : Program} (w : World) {ti tn : TypeId} {ms : Array (String × TypeId)} {i : TypeInfo} {k : IntKind} (a b : Int)
    (hi : P.underlying ti = some (.interface ms)) (hn : P.underlying tn = some (.int k)) (hinfo : P.info? tn = some i) (hcomp : i.comparable = true) :
    (binOp .eql ti (.iface tn (.int k a)) (.iface tn (.int k b))).run P w = .ok (.bool (a == b)) w := by
  simp only [binOp]
  simp [Op.equal, Op.maxDepth, run_equalIn_iface_int w 9998 a b hi hn hinfo hcomp]

set_option maxRecDepth 100000 in
set_option maxHeartbeats 4000000 in
theorem is_chain (l0 : List (Option (ByteArray × Int))) (c d : Int) (v0 : Value) (w : World) (h0 : Chain w (.iface 26 (.int .i64 c)) l0 v0) :
    Calls Tryf.prog 16 #[v0, .iface 26 (.int .i64 d)] w fun e w' => e = .returned (.bool (c == d)) ∧ w' = w := by
  obtain ⟨i, hi, hcmp⟩ := Option.map_eq_some_iff.1 compE
  have hT := @run_callFunc_extern Tryf.prog 27 _ Extern.ReflectliteType.typeOf Tryf.func27 (by kernel_rfl) (by kernel_rfl) (by kernel_rfl) (by kernel_rfl)
  have hC := @run_callFunc_extern Tryf.prog 82 _ cmpEntry Tryf.func82 (by kernel_rfl) (by kernel_rfl) (by kernel_rfl) (by kernel_rfl)
  have tT := isTypeOf
  have cT := isComparable
  have mR := isMethodComparable
  have nF := noIsF
  have nE := noIsE
  have nW := noIsW
  have uE := noUnwrapE
  have vE := noUnwrapsE
  have uF := hasUnwrapF
  have uW := hasUnwrapW
  have mU := methodUnwrapF
  have mW := methodUnwrapW
  have hee := fun a b : Int => run_eql_iface_int (P := Tryf.prog) w a b Tryf.underlying24 Tryf.underlying26 hi hcmp
  have hfe := fun a : Value => run_eql_iface_types (P := Tryf.prog) 32 26 a (.int .i64 d) Tryf.underlying24 (by decide) w
  have hwe := fun a : Value => run_eql_iface_types (P := Tryf.prog) 52 26 a (.int .i64 d) Tryf.underlying24 (by decide) w
  have hIf : IsIf (.iface 26 (.int .i64 c)) := ⟨_, _, rfl⟩
  obtain ⟨t0, u0, rfl⟩ := h0.iface hIf
  clear hi hcmp
  go_enter Tryf.func16, Tryf.ntmps16
  go_wp2
  go_loop [0] (fun v => ∃ l, Chain w (.iface 26 (.int .i64 c)) l v ∧ l.length ≤ l0.length) (fun v => cnt w l0.length v)
  case atStart => exact ⟨l0, h0, Nat.le_refl _⟩
  case round =>
    obtain ⟨l, hch, hle⟩ := hrel
    cases l with
    | nil =>
      obtain rfl : _ = _ := hch
      have he := hee c d
      clear hee hfe hwe
      cases hcd : (c == d)
      all_goals
        rw [hcd] at he
        go_wp2
        go_ret
        exact ⟨rfl, rfl⟩
    | cons x l =>
      have hm := hide (cnt_chain (bare_errno c) hch hle)
      cases x with
      | some x =>
        obtain ⟨b, v', rfl, h2, h3, h4, h5, h6⟩ := hch
        have hn := hide (cnt_chain (bare_errno c) h6 (n := l0.length) (by simp at hle; omega))
        obtain ⟨t1, u1, rfl⟩ := h6.iface hIf
        have H6 := hide h6
        clear h6 hee h3 h4
        go_wp2
        go_round
        case rel => exact ⟨l, unhide H6, by simp at hle; omega⟩
        case measure =>
          show cnt w l0.length (.iface t1 u1) < cnt w l0.length (.iface 32 (.pointer (some ⟨b, 0, none⟩)))
          rw [unhide hm, unhide hn]; simp
      | none =>
        obtain ⟨b, v', rfl, h2, h5, h6⟩ := hch
        have hn := hide (cnt_chain (bare_errno c) h6 (n := l0.length) (by simp at hle; omega))
        obtain ⟨t1, u1, rfl⟩ := h6.iface hIf
        have H6 := hide h6
        clear h6 hee
        go_wp2
        go_round
        case rel => exact ⟨l, unhide H6, by simp at hle; omega⟩
        case measure =>
          show cnt w l0.length (.iface t1 u1) < cnt w l0.length (.iface 52 (.pointer (some ⟨b, 0, none⟩)))
          rw [unhide hm, unhide hn]; simp

theorem isTypeOfO (v : Value) (w : World) : (Extern.ReflectliteType.typeOf #[.iface 53 v]).run Tryf.prog w = .ok (.iface 85 (.agg #[.pointer (some ⟨4, 53, none⟩)])) w := by kernel_rfl
theorem isComparableO (w : World) : (cmpEntry #[.agg #[.pointer (some ⟨4, 53, none⟩)]]).run Tryf.prog w = .ok (.bool true) w := by kernel_rfl
theorem compO : (Tryf.prog.info? 53).map (·.comparable) = some true := by kernel_rfl
theorem sizeO : (Tryf.prog.info? 55).map (·.size) = some 1 := by kernel_rfl
set_option maxRecDepth 100000 in
set_option maxHeartbeats 4000000 in
/-- errors.Is of a Fault that holds an error of errors.New's make, and that error. -/
theorem is_other (b : Nat) (p : Addr) (w : World) (h : w.cell? ⟨b, 2, none⟩ = some (.iface 53 (.pointer (some p)))) :
    Calls Tryf.prog 16 #[.iface 32 (.pointer (some ⟨b, 0, none⟩)), .iface 53 (.pointer (some p))] w fun e w' => e = .returned (.bool true) ∧ w' = w := by
  obtain ⟨i, hi, hcmp⟩ := Option.map_eq_some_iff.1 compO
  obtain ⟨j, hj, hjs⟩ := Option.map_eq_some_iff.1 sizeO
  have hT := @run_callFunc_extern Tryf.prog 27 _ Extern.ReflectliteType.typeOf Tryf.func27 (by kernel_rfl) (by kernel_rfl) (by kernel_rfl) (by kernel_rfl)
  have hC := @run_callFunc_extern Tryf.prog 82 _ cmpEntry Tryf.func82 (by kernel_rfl) (by kernel_rfl) (by kernel_rfl) (by kernel_rfl)
  have tT := isTypeOfO
  have cT := isComparableO
  have mR := isMethodComparable
  have nF := noIsF
  have uF := hasUnwrapF
  have mU := methodUnwrapF
  have heq := run_eql_iface_ptr_same (P := Tryf.prog) w p Tryf.underlying24 Tryf.underlying53 hi hcmp hj
  have hty := run_eql_iface_types (P := Tryf.prog) 32 53 (.pointer (some ⟨b, 0, none⟩)) (.pointer (some p)) Tryf.underlying24 (by decide) w
  go_enter Tryf.func16, Tryf.ntmps16
  go_wp2
  refine wp_loop_rounds 2 ?_
  rw [rounds_succ]
  go_wp2
  rw [rounds_succ]
  go_wp2
  go_ret
  exact ⟨rfl, rfl⟩
end Go.Proofs.YtlfmlbkpkkegpaaFmt.Con
