/- What New, Wrap, Unwrap, errors.As and errors.Is do over a chain of Faults with a number innermost. -/
import Derived.Test.YtlfmlbkpkkegpaaDoorRows
import Derived.WalkKit
import Derived.LaidEql
import Derived.Stop.Asserts
import Derived.RowKitTokens
namespace Go.Proofs.YtlfmlbkpkkegpaaDoor.Con
open Go.RowKit Go.Extern.Stop Go.Stop Go.Extern
set_option linter.unusedVariables false
theorem hide {p : Prop} (h : p) : Hid p := h
theorem unhide {p : Prop} (h : Hid p) : p := h.out

/-- An error in memory: Faults with these Ops and IDs, the outermost first, and the number c in the innermost one. -/
def Chain (w : World) (c : Int) : List (ByteArray × Int) → Value → Prop
  | [], v => v = .iface 26 (.int .i64 c)
  | x :: l, v => ∃ b v', v = .iface 28 (.pointer (some ⟨b, 0, none⟩)) ∧ b < w.heap.size ∧ w.cell? ⟨b, 0, none⟩ = some (.string x.1) ∧ w.cell? ⟨b, 1, none⟩ = some (.int .i64 x.2) ∧ w.cell? ⟨b, 2, none⟩ = some v' ∧ Chain w c l v'

theorem Chain.below {w w' : World} {c : Int} (hb : Below w.heap.size w w') : ∀ {l : List (ByteArray × Int)} {v : Value}, Chain w c l v → Chain w' c l v
  | [], _, h => h
  | x :: l, v, h => by
    obtain ⟨b, v', h1, h2, h3, h4, h5, h6⟩ := h
    exact ⟨b, v', h1, Nat.lt_of_lt_of_le h2 hb.size, (hb.cell (p := ⟨b, 0, none⟩) h2).trans h3, (hb.cell (p := ⟨b, 1, none⟩) h2).trans h4, (hb.cell (p := ⟨b, 2, none⟩) h2).trans h5, h6.below hb⟩

/-- How many Faults, counted up to the fuel: a loop's measure. -/
def cnt (w : World) : Nat → Value → Nat
  | 0, _ => 0
  | n + 1, .iface t (.pointer (some a)) => match w.cell? ⟨a.block, a.off + 2, none⟩ with
    | some v => cnt w n v + 1
    | none => 0
  | _ + 1, _ => 0
theorem cnt_chain {w : World} {c : Int} : ∀ {l : List (ByteArray × Int)} {v : Value} {n : Nat}, Chain w c l v → l.length ≤ n → cnt w n v = l.length
  | [], v, n, h, _ => by
    obtain rfl : v = _ := h
    cases n <;> rfl
  | x :: l, v, n, h, hn => by
    obtain ⟨b, v', rfl, h2, h3, h4, h5, h6⟩ := h
    cases n with
    | zero => simp at hn
    | succ n =>
      have e : cnt w n v' = l.length := cnt_chain h6 (by simpa using hn)
      simp only [cnt, Nat.zero_add, h5, e, List.length_cons]

/-- New, of a number that is not OK. -/
theorem new_any (op : ByteArray) (id c : Int) (w : World) (hc : (c == 0) = false) :
    Calls Tryd.prog 7 #[.string op, .int .i64 id, .int .i64 c] w fun e w' => e = .returned (.iface 28 (.pointer (some ⟨w.heap.size, 0, none⟩))) ∧ w' = w.alloc (.cells #[.string op, .int .i64 id, .iface 26 (.int .i64 c)] 33) := by
  go_enter Tryd.func7, Tryd.ntmps7
  go_wp2
  go_ret
  exact ⟨rfl, rfl⟩

/-- Wrap, of an error that is not nil. -/
theorem wrap_any (op : ByteArray) (id : Int) (t : TypeId) (v : Value) (w : World) :
    Calls Tryd.prog 8 #[.string op, .int .i64 id, .iface t v] w fun e w' => e = .returned (.iface 28 (.pointer (some ⟨w.heap.size, 0, none⟩))) ∧ w' = w.alloc (.cells #[.string op, .int .i64 id, .iface t v] 33) := by
  go_enter Tryd.func8, Tryd.ntmps8
  go_wp2
  go_ret
  exact ⟨rfl, rfl⟩

/-- (*Fault).Unwrap. -/
theorem funwrap_any (b : Nat) (v : Value) (w : World) (h : w.cell? ⟨b, 2, none⟩ = some v) :
    Calls Tryd.prog 63 #[.pointer (some ⟨b, 0, none⟩)] w fun e w' => e = .returned v ∧ w' = w := by
  go_enter Tryd.func63, Tryd.ntmps63
  go_wp2
  go_ret
  exact ⟨rfl, rfl⟩

/-! ### closed facts on the assertions of errors.is and errors.as -/
theorem noIsF (v : Value) (xT : TypeId) (w : World) : (Instr.typeAssert (.iface 28 v) xT 80 true).run Tryd.prog w = .ok (.tuple #[.nilIface, .bool false]) w := run_typeAssert_lacksB Tryd.underlying80 (by kernel_rfl) (by kernel_rfl) v xT w
theorem noIsE (v : Value) (xT : TypeId) (w : World) : (Instr.typeAssert (.iface 26 v) xT 80 true).run Tryd.prog w = .ok (.tuple #[.nilIface, .bool false]) w := run_typeAssert_lacksB Tryd.underlying80 (by kernel_rfl) (by kernel_rfl) v xT w
theorem noAsF (v : Value) (xT : TypeId) (w : World) : (Instr.typeAssert (.iface 28 v) xT 72 true).run Tryd.prog w = .ok (.tuple #[.nilIface, .bool false]) w := run_typeAssert_lacksB Tryd.underlying72 (by kernel_rfl) (by kernel_rfl) v xT w
theorem noAsE (v : Value) (xT : TypeId) (w : World) : (Instr.typeAssert (.iface 26 v) xT 72 true).run Tryd.prog w = .ok (.tuple #[.nilIface, .bool false]) w := run_typeAssert_lacksB Tryd.underlying72 (by kernel_rfl) (by kernel_rfl) v xT w
theorem noUnwrapE (v : Value) (xT : TypeId) (w : World) : (Instr.typeAssert (.iface 26 v) xT 58 true).run Tryd.prog w = .ok (.tuple #[.nilIface, .bool false]) w := run_typeAssert_lacksB Tryd.underlying58 (by kernel_rfl) (by kernel_rfl) v xT w
theorem noUnwrapsE (v : Value) (xT : TypeId) (w : World) : (Instr.typeAssert (.iface 26 v) xT 75 true).run Tryd.prog w = .ok (.tuple #[.nilIface, .bool false]) w := run_typeAssert_lacksB Tryd.underlying75 (by kernel_rfl) (by kernel_rfl) v xT w
theorem hasUnwrapF (v : Value) (xT : TypeId) (w : World) : (Instr.typeAssert (.iface 28 v) xT 58 true).run Tryd.prog w = .ok (.tuple #[.iface 28 v, .bool true]) w := run_typeAssert_hasB Tryd.underlying58 (by kernel_rfl) v xT w
theorem methodUnwrapF (v : Value) (w : World) : (Go.method 238 28 v "Unwrap").run Tryd.prog w = .ok (63, v) w := by kernel_rfl

/-! ### errors.Is -/
theorem isTypeOf (v : Value) (w : World) : (Extern.ReflectliteType.typeOf #[.iface 26 v]).run Tryd.prog w = .ok (.iface 68 (.agg #[.pointer (some ⟨4, 26, none⟩)])) w := by kernel_rfl
def cmpEntry : Array Value → Sem Value := Extern.ReflectliteType.method fun t => do Rtype.noPackHeld "Comparable" t; pure (.bool (← typeInfo t).comparable)
theorem isComparable (w : World) : (cmpEntry #[.agg #[.pointer (some ⟨4, 26, none⟩)]]).run Tryd.prog w = .ok (.bool true) w := by kernel_rfl
theorem isMethodComparable (v : Value) (w : World) : (Go.method 238 68 v "Comparable").run Tryd.prog w = .ok (75, v) w := by kernel_rfl
theorem compE : (Tryd.prog.info? 26).map (·.comparable) = some true := by kernel_rfl

theorem run_equalIn_iface_int {P : Program} (w : World) (d : Nat) {ti tn : TypeId} {ms : Array (String × TypeId)} {i : TypeInfo} {k : IntKind} (a b : Int)
    (hi : P.underlying ti = some (.interface ms)) (hn : P.underlying tn = some (.int k)) (hinfo : P.info? tn = some i) (hcomp : i.comparable = true) :
    (Op.equalIn (d + 2) ti (.iface tn (.int k a)) (.iface tn (.int k b))).run P w = .ok (a == b) w := by
  simp [Op.equalIn, run_underlying hi, run_underlying hn, typeInfo, hinfo, hcomp]
theorem run_eql_iface_int {P : Program} (w : World) {ti tn : TypeId} {ms : Array (String × TypeId)} {i : TypeInfo} {k : IntKind} (a b : Int)
    (hi : P.underlying ti = some (.interface ms)) (hn : P.underlying tn = some (.int k)) (hinfo : P.info? tn = some i) (hcomp : i.comparable = true) :
    (binOp .eql ti (.iface tn (.int k a)) (.iface tn (.int k b))).run P w = .ok (.bool (a == b)) w := by
  simp only [binOp]
  simp [Op.equal, Op.maxDepth, run_equalIn_iface_int w 9998 a b hi hn hinfo hcomp]

set_option maxRecDepth 100000 in
set_option maxHeartbeats 4000000 in
theorem is_chain (l0 : List (ByteArray × Int)) (c d : Int) (v0 : Value) (w : World) (h0 : Chain w c l0 v0) :
    Calls Tryd.prog 12 #[v0, .iface 26 (.int .i64 d)] w fun e w' => e = .returned (.bool (c == d)) ∧ w' = w := by
  obtain ⟨i, hi, hcmp⟩ := Option.map_eq_some_iff.1 compE
  have hT := @run_callFunc_extern Tryd.prog 22 _ Extern.ReflectliteType.typeOf Tryd.func22 (by kernel_rfl) (by kernel_rfl) (by kernel_rfl) (by kernel_rfl)
  have hC := @run_callFunc_extern Tryd.prog 75 _ cmpEntry Tryd.func75 (by kernel_rfl) (by kernel_rfl) (by kernel_rfl) (by kernel_rfl)
  have tT := isTypeOf
  have cT := isComparable
  have mR := isMethodComparable
  have nF := noIsF
  have nE := noIsE
  have uE := noUnwrapE
  have vE := noUnwrapsE
  have uF := hasUnwrapF
  have mU := methodUnwrapF
  have hee := fun a b : Int => run_eql_iface_int (P := Tryd.prog) w a b Tryd.underlying24 Tryd.underlying26 hi hcmp
  have hfe := fun a : Value => run_eql_iface_types (P := Tryd.prog) 28 26 a (.int .i64 d) Tryd.underlying24 (by decide) w
  have hv0 : ∃ t u, v0 = .iface t u := by
    cases l0 with
    | nil => exact ⟨_, _, h0⟩
    | cons x l => obtain ⟨b, v', rfl, _⟩ := h0; exact ⟨_, _, rfl⟩
  obtain ⟨t0, u0, rfl⟩ := hv0
  clear hi hcmp
  go_enter Tryd.func12, Tryd.ntmps12
  go_wp2
  go_loop [0] (fun v => ∃ l, Chain w c l v ∧ l.length ≤ l0.length) (fun v => cnt w l0.length v)
  case atStart => exact ⟨l0, h0, Nat.le_refl _⟩
  case round =>
    obtain ⟨l, hch, hle⟩ := hrel
    cases l with
    | nil =>
      obtain rfl : _ = _ := hch
      have he := hee c d
      clear hee hfe
      cases hcd : (c == d)
      all_goals
        rw [hcd] at he
        go_wp2
        go_ret
        exact ⟨rfl, rfl⟩
    | cons x l =>
      have hm := hide (cnt_chain hch hle)
      obtain ⟨b, v', rfl, h2, h3, h4, h5, h6⟩ := hch
      have hn := hide (cnt_chain h6 (n := l0.length) (by simp at hle; omega))
      have hv' : ∃ t u, v' = .iface t u := by
        cases l with
        | nil => exact ⟨_, _, h6⟩
        | cons x l => obtain ⟨b, v', rfl, _⟩ := h6; exact ⟨_, _, rfl⟩
      obtain ⟨t1, u1, rfl⟩ := hv'
      have H6 := hide h6
      clear h6 hee h3 h4
      go_wp2
      go_round
      case rel => exact ⟨l, unhide H6, by simp at hle; omega⟩
      case measure =>
        show cnt w l0.length (.iface t1 u1) < cnt w l0.length (.iface 28 (.pointer (some ⟨b, 0, none⟩)))
        rw [unhide hm, unhide hn]; simp
end Go.Proofs.YtlfmlbkpkkegpaaDoor.Con
