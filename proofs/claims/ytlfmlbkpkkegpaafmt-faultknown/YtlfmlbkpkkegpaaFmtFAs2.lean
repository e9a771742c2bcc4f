/- errors.As over a chain, at a target of type *api.Errno and at one of type **Fault. -/
import Derived.Test.YtlfmlbkpkkegpaaFmtFAs
namespace Go.Proofs.YtlfmlbkpkkegpaaFmt.Con
open Go.RowKit Go.Extern.Stop Go.Stop Go.Extern
set_option linter.unusedVariables false

def kindEntry : Array Value → Sem Value := ReflectliteType.abiMethod fun t => do pure (.int .u8 (← Rtype.kind t))
def typeEntry : Array Value → Sem Value := ReflectliteValue.methodAny (ReflectliteValue.valueError "reflectlite.Value.Type" 0) (fun t _ _ _ => ReflectliteType.toType t)
def isNilEntry : Array Value → Sem Value := ReflectliteValue.method (ReflectliteValue.valueError "reflectlite.Value.IsNil" 0) ReflectliteValue.isNil
def elemEntry : Array Value → Sem Value := ReflectliteValue.method (ReflectliteValue.valueError "reflectlite.Value.Elem" 0) ReflectliteValue.elem
def valueEntry : Array Value → Sem Value := fun args => ReflectliteValue.unpack (args.getD 0 (.tuple #[]))
def setEntry : Array Value → Sem Value := ReflectliteValue.set
def tElemEntry : Array Value → Sem Value := ReflectliteType.method ReflectliteType.elem
def implEntry : Array Value → Sem Value := ReflectliteType.relation "Implements" ReflectliteType.implements_
def assignEntry : Array Value → Sem Value := ReflectliteType.relation "AssignableTo" ReflectliteType.assignableTo
theorem methodKind (h : Value) (w : World) : (Go.method 248 85 (.agg #[h]) "Kind").run Tryf.prog w = .ok (69, h) w := by kernel_rfl
theorem methodElem (h : Value) (w : World) : (Go.method 248 85 (.agg #[h]) "Elem").run Tryf.prog w = .ok (83, .agg #[h]) w := by kernel_rfl
theorem methodImplements (h : Value) (w : World) : (Go.method 248 85 (.agg #[h]) "Implements").run Tryf.prog w = .ok (84, .agg #[h]) w := by kernel_rfl
theorem methodAssignableTo (h : Value) (w : World) : (Go.method 248 85 (.agg #[h]) "AssignableTo").run Tryf.prog w = .ok (81, .agg #[h]) w := by kernel_rfl
theorem typeOfE (v : Value) (w : World) : (Extern.ReflectliteType.typeOf #[.iface 26 v]).run Tryf.prog w = .ok (.iface 85 (.agg #[.pointer (some ⟨4, 26, none⟩)])) w := by kernel_rfl
theorem typeOfW (v : Value) (w : World) : (Extern.ReflectliteType.typeOf #[.iface 52 v]).run Tryf.prog w = .ok (.iface 85 (.agg #[.pointer (some ⟨4, 52, none⟩)])) w := by kernel_rfl
theorem typeOfO (v : Value) (w : World) : (Extern.ReflectliteType.typeOf #[.iface 53 v]).run Tryf.prog w = .ok (.iface 85 (.agg #[.pointer (some ⟨4, 53, none⟩)])) w := by kernel_rfl
theorem typeOfF (v : Value) (w : World) : (Extern.ReflectliteType.typeOf #[.iface 32 v]).run Tryf.prog w = .ok (.iface 85 (.agg #[.pointer (some ⟨4, 32, none⟩)])) w := by kernel_rfl

/-! ### target type 71, its element type 26 -/
theorem valueOfPN (t : Addr) (w : World) : (valueEntry #[.iface 71 (.pointer (some t))]).run Tryf.prog w
    = .ok (.agg #[.pointer (some ⟨4, 71, none⟩), .pointer (some ⟨w.heap.size, 0, none⟩), .int .u64 150]) (w.alloc (.cells #[.pointer (some t)] 71)) := by kernel_rfl
theorem typePN (a : Addr) (w : World) : (typeEntry #[.agg #[.pointer (some ⟨4, 71, none⟩), .pointer (some a), .int .u64 150]]).run Tryf.prog w
    = .ok (.iface 85 (.agg #[.pointer (some ⟨4, 71, none⟩)])) w := by kernel_rfl
theorem kindPN (w : World) : (kindEntry #[.pointer (some ⟨4, 71, none⟩)]).run Tryf.prog w = .ok (.int .u8 22) w := by kernel_rfl
theorem kindEN (w : World) : (kindEntry #[.pointer (some ⟨4, 26, none⟩)]).run Tryf.prog w = .ok (.int .u8 2) w := by kernel_rfl
theorem partsPN (a : Addr) (w : World) : (ReflectliteValue.parts (.agg #[.pointer (some ⟨4, 71, none⟩), .pointer (some a), .int .u64 150])).run Tryf.prog w = .ok (some (71, a, 150)) w := by kernel_rfl
theorem isNilPN (a p : Addr) (W : World) (ha : W.cell? a = some (.pointer (some p))) :
    (isNilEntry #[.agg #[.pointer (some ⟨4, 71, none⟩), .pointer (some a), .int .u64 150]]).run Tryf.prog W = .ok (.bool false) W := by
  unfold isNilEntry
  rw [show ∀ (z : Sem Value) (f : TypeId → Addr → Nat → Nat → Sem Value) (v : Value), ReflectliteValue.method z f #[v] = (ReflectliteValue.parts v >>= fun p => _) from fun _ _ _ => rfl]
  simp only [Sem.run_bind, partsPN, Result.andThen]
  simp [ReflectliteValue.isNil, loadVar, isAgg, underlying, Tryf.underlying71, ha, Result.andThen]
theorem elemTN (w : World) : (tElemEntry #[.agg #[.pointer (some ⟨4, 71, none⟩)]]).run Tryf.prog w = .ok (.iface 85 (.agg #[.pointer (some ⟨4, 26, none⟩)])) w := by kernel_rfl
theorem implN (w : World) : (implEntry #[.agg #[.pointer (some ⟨4, 26, none⟩)], .iface 85 (.agg #[.pointer (some ⟨4, 24, none⟩)])]).run Tryf.prog w = .ok (.bool true) w := by kernel_rfl
theorem assignEN (w : World) : (assignEntry #[.agg #[.pointer (some ⟨4, 26, none⟩)], .iface 85 (.agg #[.pointer (some ⟨4, 26, none⟩)])]).run Tryf.prog w = .ok (.bool true) w := by kernel_rfl
theorem assignFN (w : World) : (assignEntry #[.agg #[.pointer (some ⟨4, 32, none⟩)], .iface 85 (.agg #[.pointer (some ⟨4, 26, none⟩)])]).run Tryf.prog w = .ok (.bool false) w := by kernel_rfl
theorem assignWN (w : World) : (assignEntry #[.agg #[.pointer (some ⟨4, 52, none⟩)], .iface 85 (.agg #[.pointer (some ⟨4, 26, none⟩)])]).run Tryf.prog w = .ok (.bool false) w := by kernel_rfl
theorem assignON (w : World) : (assignEntry #[.agg #[.pointer (some ⟨4, 53, none⟩)], .iface 85 (.agg #[.pointer (some ⟨4, 26, none⟩)])]).run Tryf.prog w = .ok (.bool false) w := by kernel_rfl
theorem valueOfEN (x : Int) (w : World) : (valueEntry #[.iface 26 (.int .i64 x)]).run Tryf.prog w
    = .ok (.agg #[.pointer (some ⟨4, 26, none⟩), .pointer (some ⟨w.heap.size, 0, none⟩), .int .u64 130]) (w.alloc (.cells #[.int .i64 x] 26)) := by kernel_rfl
theorem elemOfN (w : World) : (Rtype.elem? 71).run Tryf.prog w = .ok (some 26) w := by kernel_rfl
theorem mkN (p : Addr) (w : World) : (ReflectliteValue.mk 26 p ReflectliteValue.flagAddr).run Tryf.prog w = .ok (.agg #[.pointer (some ⟨4, 26, none⟩), .pointer (some p), .int .u64 386]) w := by kernel_rfl
theorem elemVN (a p : Addr) (W : World) (ha : W.cell? a = some (.pointer (some p))) :
    (elemEntry #[.agg #[.pointer (some ⟨4, 71, none⟩), .pointer (some a), .int .u64 150]]).run Tryf.prog W
      = .ok (.agg #[.pointer (some ⟨4, 26, none⟩), .pointer (some p), .int .u64 386]) W := by
  unfold elemEntry
  rw [show ∀ (z : Sem Value) (f : TypeId → Addr → Nat → Nat → Sem Value) (v : Value), ReflectliteValue.method z f #[v] = (ReflectliteValue.parts v >>= fun p => _) from fun _ _ _ => rfl]
  simp only [Sem.run_bind, partsPN, Result.andThen]
  simp [ReflectliteValue.elem, loadVar, isAgg, underlying, Tryf.underlying71, ha, Result.andThen, elemOfN, mkN]
theorem partsEaN (a : Addr) (w : World) : (ReflectliteValue.parts (.agg #[.pointer (some ⟨4, 26, none⟩), .pointer (some a), .int .u64 386])).run Tryf.prog w = .ok (some (26, a, 386)) w := by kernel_rfl
theorem partsEN (a : Addr) (w : World) : (ReflectliteValue.parts (.agg #[.pointer (some ⟨4, 26, none⟩), .pointer (some a), .int .u64 130])).run Tryf.prog w = .ok (some (26, a, 130)) w := by kernel_rfl
theorem directN (w : World) : (Rtype.directlyAssignable 26 26).run Tryf.prog w = .ok true w := by kernel_rfl
theorem setN (ta b : Addr) (x : Int) (old : Value) (W : World) (hb : W.cell? b = some (.int .i64 x)) (ht : W.cell? ta = some old) (hf : W.frozen? ta = false) :
    (setEntry #[.agg #[.pointer (some ⟨4, 26, none⟩), .pointer (some ta), .int .u64 386], .agg #[.pointer (some ⟨4, 26, none⟩), .pointer (some b), .int .u64 130]]).run Tryf.prog W
      = .ok (.tuple #[]) (W.setCell ta (.int .i64 x)) := by
  unfold setEntry
  rw [show ∀ v x : Value, ReflectliteValue.set #[v, x] = (ReflectliteValue.parts v >>= fun p => ReflectliteValue.parts x >>= fun q => _) from fun _ _ => rfl]
  simp only [Sem.run_bind, partsEaN, partsEN, Result.andThen]
  simp [ReflectliteValue.flagAddr, loadVar, isAgg, underlying, Tryf.underlying26, hb, Result.andThen, directN, storeVar, Value.cells, storeCells, Addr.add]
  rw [run_store Tryf.prog W ta _ _ (by rfl)]
  simp [ht, hf]

/-! ### target type 34, its element type 32 -/
theorem valueOfPF (t : Addr) (w : World) : (valueEntry #[.iface 34 (.pointer (some t))]).run Tryf.prog w
    = .ok (.agg #[.pointer (some ⟨4, 34, none⟩), .pointer (some ⟨w.heap.size, 0, none⟩), .int .u64 150]) (w.alloc (.cells #[.pointer (some t)] 34)) := by kernel_rfl
theorem typePF (a : Addr) (w : World) : (typeEntry #[.agg #[.pointer (some ⟨4, 34, none⟩), .pointer (some a), .int .u64 150]]).run Tryf.prog w
    = .ok (.iface 85 (.agg #[.pointer (some ⟨4, 34, none⟩)])) w := by kernel_rfl
theorem kindPF (w : World) : (kindEntry #[.pointer (some ⟨4, 34, none⟩)]).run Tryf.prog w = .ok (.int .u8 22) w := by kernel_rfl
theorem kindEF (w : World) : (kindEntry #[.pointer (some ⟨4, 32, none⟩)]).run Tryf.prog w = .ok (.int .u8 22) w := by kernel_rfl
theorem partsPF (a : Addr) (w : World) : (ReflectliteValue.parts (.agg #[.pointer (some ⟨4, 34, none⟩), .pointer (some a), .int .u64 150])).run Tryf.prog w = .ok (some (34, a, 150)) w := by kernel_rfl
theorem isNilPF (a p : Addr) (W : World) (ha : W.cell? a = some (.pointer (some p))) :
    (isNilEntry #[.agg #[.pointer (some ⟨4, 34, none⟩), .pointer (some a), .int .u64 150]]).run Tryf.prog W = .ok (.bool false) W := by
  unfold isNilEntry
  rw [show ∀ (z : Sem Value) (f : TypeId → Addr → Nat → Nat → Sem Value) (v : Value), ReflectliteValue.method z f #[v] = (ReflectliteValue.parts v >>= fun p => _) from fun _ _ _ => rfl]
  simp only [Sem.run_bind, partsPF, Result.andThen]
  simp [ReflectliteValue.isNil, loadVar, isAgg, underlying, Tryf.underlying34, ha, Result.andThen]
theorem elemTF (w : World) : (tElemEntry #[.agg #[.pointer (some ⟨4, 34, none⟩)]]).run Tryf.prog w = .ok (.iface 85 (.agg #[.pointer (some ⟨4, 32, none⟩)])) w := by kernel_rfl
theorem implF (w : World) : (implEntry #[.agg #[.pointer (some ⟨4, 32, none⟩)], .iface 85 (.agg #[.pointer (some ⟨4, 24, none⟩)])]).run Tryf.prog w = .ok (.bool true) w := by kernel_rfl
theorem assignEF (w : World) : (assignEntry #[.agg #[.pointer (some ⟨4, 26, none⟩)], .iface 85 (.agg #[.pointer (some ⟨4, 32, none⟩)])]).run Tryf.prog w = .ok (.bool false) w := by kernel_rfl
theorem assignFF (w : World) : (assignEntry #[.agg #[.pointer (some ⟨4, 32, none⟩)], .iface 85 (.agg #[.pointer (some ⟨4, 32, none⟩)])]).run Tryf.prog w = .ok (.bool true) w := by kernel_rfl
theorem assignWF (w : World) : (assignEntry #[.agg #[.pointer (some ⟨4, 52, none⟩)], .iface 85 (.agg #[.pointer (some ⟨4, 32, none⟩)])]).run Tryf.prog w = .ok (.bool false) w := by kernel_rfl
theorem assignOF (w : World) : (assignEntry #[.agg #[.pointer (some ⟨4, 53, none⟩)], .iface 85 (.agg #[.pointer (some ⟨4, 32, none⟩)])]).run Tryf.prog w = .ok (.bool false) w := by kernel_rfl
theorem valueOfEF (x : Addr) (w : World) : (valueEntry #[.iface 32 (.pointer (some x))]).run Tryf.prog w
    = .ok (.agg #[.pointer (some ⟨4, 32, none⟩), .pointer (some ⟨w.heap.size, 0, none⟩), .int .u64 150]) (w.alloc (.cells #[.pointer (some x)] 32)) := by kernel_rfl
theorem elemOfF (w : World) : (Rtype.elem? 34).run Tryf.prog w = .ok (some 32) w := by kernel_rfl
theorem mkF (p : Addr) (w : World) : (ReflectliteValue.mk 32 p ReflectliteValue.flagAddr).run Tryf.prog w = .ok (.agg #[.pointer (some ⟨4, 32, none⟩), .pointer (some p), .int .u64 406]) w := by kernel_rfl
theorem elemVF (a p : Addr) (W : World) (ha : W.cell? a = some (.pointer (some p))) :
    (elemEntry #[.agg #[.pointer (some ⟨4, 34, none⟩), .pointer (some a), .int .u64 150]]).run Tryf.prog W
      = .ok (.agg #[.pointer (some ⟨4, 32, none⟩), .pointer (some p), .int .u64 406]) W := by
  unfold elemEntry
  rw [show ∀ (z : Sem Value) (f : TypeId → Addr → Nat → Nat → Sem Value) (v : Value), ReflectliteValue.method z f #[v] = (ReflectliteValue.parts v >>= fun p => _) from fun _ _ _ => rfl]
  simp only [Sem.run_bind, partsPF, Result.andThen]
  simp [ReflectliteValue.elem, loadVar, isAgg, underlying, Tryf.underlying34, ha, Result.andThen, elemOfF, mkF]
theorem partsEaF (a : Addr) (w : World) : (ReflectliteValue.parts (.agg #[.pointer (some ⟨4, 32, none⟩), .pointer (some a), .int .u64 406])).run Tryf.prog w = .ok (some (32, a, 406)) w := by kernel_rfl
theorem partsEF (a : Addr) (w : World) : (ReflectliteValue.parts (.agg #[.pointer (some ⟨4, 32, none⟩), .pointer (some a), .int .u64 150])).run Tryf.prog w = .ok (some (32, a, 150)) w := by kernel_rfl
theorem directF (w : World) : (Rtype.directlyAssignable 32 32).run Tryf.prog w = .ok true w := by kernel_rfl
theorem setF (ta b : Addr) (x : Addr) (old : Value) (W : World) (hb : W.cell? b = some (.pointer (some x))) (ht : W.cell? ta = some old) (hf : W.frozen? ta = false) :
    (setEntry #[.agg #[.pointer (some ⟨4, 32, none⟩), .pointer (some ta), .int .u64 406], .agg #[.pointer (some ⟨4, 32, none⟩), .pointer (some b), .int .u64 150]]).run Tryf.prog W
      = .ok (.tuple #[]) (W.setCell ta (.pointer (some x))) := by
  unfold setEntry
  rw [show ∀ v x : Value, ReflectliteValue.set #[v, x] = (ReflectliteValue.parts v >>= fun p => ReflectliteValue.parts x >>= fun q => _) from fun _ _ => rfl]
  simp only [Sem.run_bind, partsEaF, partsEF, Result.andThen]
  simp [ReflectliteValue.flagAddr, loadVar, isAgg, underlying, Tryf.underlying32, hb, Result.andThen, directF, storeVar, Value.cells, storeCells, Addr.add]
  rw [run_store Tryf.prog W ta _ _ (by rfl)]
  simp [ht, hf]

set_option maxRecDepth 100000 in
set_option maxHeartbeats 4000000 in
/-- errors.As at a chain, the target a *api.Errno: the number in it. -/
theorem as_errno (l0 : List (Option (ByteArray × Int))) (c : Int) (v0 : Value) (n : Nat) (old : Value) (w : World) (h0 : Chain w (.iface 26 (.int .i64 c)) l0 v0)
    (hg : w.cell? ⟨0, 0, none⟩ = some (.iface 85 (.agg #[.pointer (some ⟨4, 24, none⟩)]))) (ht0 : w.cell? ⟨n, 0, none⟩ = some old) (hf0 : w.frozen? ⟨n, 0, none⟩ = false) :
    Calls Tryf.prog 11 #[v0, .iface 71 (.pointer (some ⟨n, 0, none⟩))] w fun e w' => e = .returned (.bool true) ∧ w' = ((((w.alloc (.cells #[.pointer (some ⟨n, 0, none⟩)] 71)).alloc (.cells #[.pointer (some ⟨4, 71, none⟩), .pointer (some ⟨w.heap.size, 0, none⟩), .int .u64 150] 62)).alloc (.cells #[.pointer (some ⟨4, 71, none⟩), .pointer (some ⟨w.heap.size, 0, none⟩), .int .u64 150] 62)).alloc (.cells #[.int .i64 c] 26)).setCell ⟨n, 0, none⟩ (.int .i64 c) := by
  have h6 := @run_callFunc_extern Tryf.prog 22 _ valueEntry Tryf.func22 (by kernel_rfl) (by kernel_rfl) (by kernel_rfl) (by kernel_rfl)
  have h7 := @run_callFunc_extern Tryf.prog 23 _ typeEntry Tryf.func23 (by kernel_rfl) (by kernel_rfl) (by kernel_rfl) (by kernel_rfl)
  have h8 := @run_callFunc_extern Tryf.prog 24 _ isNilEntry Tryf.func24 (by kernel_rfl) (by kernel_rfl) (by kernel_rfl) (by kernel_rfl)
  have h27 := @run_callFunc_extern Tryf.prog 69 _ kindEntry Tryf.func69 (by kernel_rfl) (by kernel_rfl) (by kernel_rfl) (by kernel_rfl)
  have h37 := @run_callFunc_extern Tryf.prog 83 _ tElemEntry Tryf.func83 (by kernel_rfl) (by kernel_rfl) (by kernel_rfl) (by kernel_rfl)
  have h38 := @run_callFunc_extern Tryf.prog 84 _ implEntry Tryf.func84 (by kernel_rfl) (by kernel_rfl) (by kernel_rfl) (by kernel_rfl)
  have h10 := @run_callFunc_extern Tryf.prog 27 _ ReflectliteType.typeOf Tryf.func27 (by kernel_rfl) (by kernel_rfl) (by kernel_rfl) (by kernel_rfl)
  have h35 := @run_callFunc_extern Tryf.prog 81 _ assignEntry Tryf.func81 (by kernel_rfl) (by kernel_rfl) (by kernel_rfl) (by kernel_rfl)
  have h11 := @run_callFunc_extern Tryf.prog 36 _ elemEntry Tryf.func36 (by kernel_rfl) (by kernel_rfl) (by kernel_rfl) (by kernel_rfl)
  have h12 := @run_callFunc_extern Tryf.prog 37 _ setEntry Tryf.func37 (by kernel_rfl) (by kernel_rfl) (by kernel_rfl) (by kernel_rfl)
  have tE := typeOfE
  have tF := typeOfF
  have mK := methodKind
  have mE := methodElem
  have mI := methodImplements
  have mA := methodAssignableTo
  have aE := assignEN
  have aF := assignFN
  have aW := assignWN
  have aO := assignON
  have tW := typeOfW
  have tO := typeOfO
  have nAW := noAsW
  have nAO := noAsO
  have uW := hasUnwrapW
  have mW := methodUnwrapW
  have uO := noUnwrapO
  have vO := noUnwrapsO
  have v25 := valueOfEN
  have f6 := valueOfPN
  have f7 := typePN
  have k27 := kindPN
  have k25 := kindEN
  have e27 := elemTN
  have i25 := implN
  have nAF := noAsF
  have nAE := noAsE
  have uE := noUnwrapE
  have vE := noUnwrapsE
  have uF := hasUnwrapF
  have mU := methodUnwrapF
  have hn0 : n < w.heap.size := by
    rcases Nat.lt_or_ge n w.heap.size with h | h
    · exact h
    · simp [World.cell?, Array.getElem?_eq_none h] at ht0
  have hlt : 0 < w.heap.size := by omega
  have hgA : (w.alloc (.cells #[.pointer (some ⟨n, 0, none⟩)] 71)).cell? ⟨0, 0, none⟩ = some (.iface 85 (.agg #[.pointer (some ⟨4, 24, none⟩)])) := by
    rw [World.cell?_alloc_lt _ _ ⟨0, 0, none⟩ hlt]; exact hg
  have n8 := isNilPN ⟨w.heap.size, 0, none⟩ ⟨n, 0, none⟩ ((w.alloc (.cells #[.pointer (some ⟨n, 0, none⟩)] 71)).alloc (.cells #[.pointer (some ⟨4, 71, none⟩), .pointer (some ⟨w.heap.size, 0, none⟩), .int .u64 150] 62)) (by simp)
  have hg2 : ((w.alloc (.cells #[.pointer (some ⟨n, 0, none⟩)] 71)).alloc (.cells #[.pointer (some ⟨4, 71, none⟩), .pointer (some ⟨w.heap.size, 0, none⟩), .int .u64 150] 62)).cell? ⟨0, 0, none⟩ = some (.iface 85 (.agg #[.pointer (some ⟨4, 24, none⟩)])) := by
    rw [World.cell?_alloc_lt _ _ ⟨0, 0, none⟩ (by simp)]; exact hgA
  clear hg hgA
  have el := elemVN ⟨w.heap.size, 0, none⟩ ⟨n, 0, none⟩ (((w.alloc (.cells #[.pointer (some ⟨n, 0, none⟩)] 71)).alloc (.cells #[.pointer (some ⟨4, 71, none⟩), .pointer (some ⟨w.heap.size, 0, none⟩), .int .u64 150] 62)).alloc (.cells #[.pointer (some ⟨4, 71, none⟩), .pointer (some ⟨w.heap.size, 0, none⟩), .int .u64 150] 62)) (by rw [World.cell?_alloc_lt _ _ ⟨w.heap.size, 0, none⟩ (by simp; omega)]; simp)
  have hB3 : Below w.heap.size w (((w.alloc (.cells #[.pointer (some ⟨n, 0, none⟩)] 71)).alloc (.cells #[.pointer (some ⟨4, 71, none⟩), .pointer (some ⟨w.heap.size, 0, none⟩), .int .u64 150] 62)).alloc (.cells #[.pointer (some ⟨4, 71, none⟩), .pointer (some ⟨w.heap.size, 0, none⟩), .int .u64 150] 62)) := (((Below.refl _ w).alloc (Nat.le_refl _) _).alloc (by simp) _).alloc (by simp; omega) _
  have st := setN ⟨n, 0, none⟩ ⟨w.heap.size + 1 + 1 + 1, 0, none⟩ c old ((((w.alloc (.cells #[.pointer (some ⟨n, 0, none⟩)] 71)).alloc (.cells #[.pointer (some ⟨4, 71, none⟩), .pointer (some ⟨w.heap.size, 0, none⟩), .int .u64 150] 62)).alloc (.cells #[.pointer (some ⟨4, 71, none⟩), .pointer (some ⟨w.heap.size, 0, none⟩), .int .u64 150] 62)).alloc (.cells #[.int .i64 c] 26))
    (by rw [World.cell?_alloc_at _ _ _ _ (by simp)]; rfl)
    (by rw [World.cell?_alloc_lt _ _ ⟨n, 0, none⟩ (by simp; omega)]; exact (hB3.cell (p := ⟨n, 0, none⟩) hn0).trans ht0)
    (by rw [World.frozen?_alloc_old _ _ ⟨n, 0, none⟩ (by simp; omega)]; exact (hB3.frozen (p := ⟨n, 0, none⟩) hn0).trans hf0)
  have hIf : IsIf (.iface 26 (.int .i64 c)) := ⟨_, _, rfl⟩
  obtain ⟨t0, u0, rfl⟩ := h0.iface hIf
  have HB := hide hB3
  have H0 := hide (h0.below hB3)
  clear hB3 h0 ht0 hf0
  go_enter Tryf.func11, Tryf.ntmps11
  go_wp2
  go_loop [0] (fun v => ∃ l, Chain (((w.alloc (.cells #[.pointer (some ⟨n, 0, none⟩)] 71)).alloc (.cells #[.pointer (some ⟨4, 71, none⟩), .pointer (some ⟨w.heap.size, 0, none⟩), .int .u64 150] 62)).alloc (.cells #[.pointer (some ⟨4, 71, none⟩), .pointer (some ⟨w.heap.size, 0, none⟩), .int .u64 150] 62)) (.iface 26 (.int .i64 c)) l v ∧ l.length ≤ l0.length) (fun v => cnt (((w.alloc (.cells #[.pointer (some ⟨n, 0, none⟩)] 71)).alloc (.cells #[.pointer (some ⟨4, 71, none⟩), .pointer (some ⟨w.heap.size, 0, none⟩), .int .u64 150] 62)).alloc (.cells #[.pointer (some ⟨4, 71, none⟩), .pointer (some ⟨w.heap.size, 0, none⟩), .int .u64 150] 62)) l0.length v)
  case atStart => exact ⟨l0, unhide H0, Nat.le_refl _⟩
  case round =>
    obtain ⟨l, hch, hle⟩ := hrel
    cases l with
    | nil =>
      obtain rfl : _ = _ := hch
      go_wp2
      go_ret
      exact ⟨rfl, rfl⟩
    | cons x l =>
      have hm := hide (cnt_chain (bare_errno c) hch hle)
      cases x with
      | some x =>
        obtain ⟨b, v', rfl, h2, h3, h4, h5, h6⟩ := hch
        have hn := hide (cnt_chain (bare_errno c) h6 (n := l0.length) (by simp at hle; omega))
        obtain ⟨t1, u1, rfl⟩ := h6.iface hIf
        have H6 := hide h6
        clear h6 h3 h4
        go_wp2
        go_round
        case rel => exact ⟨l, unhide H6, by simp at hle; omega⟩
        case measure =>
          show cnt _ l0.length (.iface t1 u1) < cnt _ l0.length (.iface 32 (.pointer (some ⟨b, 0, none⟩)))
          rw [unhide hm, unhide hn]; simp
      | none =>
        obtain ⟨b, v', rfl, h2, h5, h6⟩ := hch
        have hn := hide (cnt_chain (bare_errno c) h6 (n := l0.length) (by simp at hle; omega))
        obtain ⟨t1, u1, rfl⟩ := h6.iface hIf
        have H6 := hide h6
        clear h6
        go_wp2
        go_round
        case rel => exact ⟨l, unhide H6, by simp at hle; omega⟩
        case measure =>
          show cnt _ l0.length (.iface t1 u1) < cnt _ l0.length (.iface 52 (.pointer (some ⟨b, 0, none⟩)))
          rw [unhide hm, unhide hn]; simp

set_option maxRecDepth 100000 in
set_option maxHeartbeats 4000000 in
/-- errors.As at a chain without a number, the target a *api.Errno: false. -/
theorem as_errno_no (l0 : List (Option (ByteArray × Int))) (q : Addr) (v0 : Value) (n : Nat) (old : Value) (w : World) (h0 : Chain w (.iface 53 (.pointer (some q))) l0 v0)
    (hg : w.cell? ⟨0, 0, none⟩ = some (.iface 85 (.agg #[.pointer (some ⟨4, 24, none⟩)]))) (ht0 : w.cell? ⟨n, 0, none⟩ = some old) (hf0 : w.frozen? ⟨n, 0, none⟩ = false) :
    Calls Tryf.prog 11 #[v0, .iface 71 (.pointer (some ⟨n, 0, none⟩))] w fun e w' => e = .returned (.bool false) ∧ w' = (((w.alloc (.cells #[.pointer (some ⟨n, 0, none⟩)] 71)).alloc (.cells #[.pointer (some ⟨4, 71, none⟩), .pointer (some ⟨w.heap.size, 0, none⟩), .int .u64 150] 62)).alloc (.cells #[.pointer (some ⟨4, 71, none⟩), .pointer (some ⟨w.heap.size, 0, none⟩), .int .u64 150] 62)) := by
  have h6 := @run_callFunc_extern Tryf.prog 22 _ valueEntry Tryf.func22 (by kernel_rfl) (by kernel_rfl) (by kernel_rfl) (by kernel_rfl)
  have h7 := @run_callFunc_extern Tryf.prog 23 _ typeEntry Tryf.func23 (by kernel_rfl) (by kernel_rfl) (by kernel_rfl) (by kernel_rfl)
  have h8 := @run_callFunc_extern Tryf.prog 24 _ isNilEntry Tryf.func24 (by kernel_rfl) (by kernel_rfl) (by kernel_rfl) (by kernel_rfl)
  have h27 := @run_callFunc_extern Tryf.prog 69 _ kindEntry Tryf.func69 (by kernel_rfl) (by kernel_rfl) (by kernel_rfl) (by kernel_rfl)
  have h37 := @run_callFunc_extern Tryf.prog 83 _ tElemEntry Tryf.func83 (by kernel_rfl) (by kernel_rfl) (by kernel_rfl) (by kernel_rfl)
  have h38 := @run_callFunc_extern Tryf.prog 84 _ implEntry Tryf.func84 (by kernel_rfl) (by kernel_rfl) (by kernel_rfl) (by kernel_rfl)
  have h10 := @run_callFunc_extern Tryf.prog 27 _ ReflectliteType.typeOf Tryf.func27 (by kernel_rfl) (by kernel_rfl) (by kernel_rfl) (by kernel_rfl)
  have h35 := @run_callFunc_extern Tryf.prog 81 _ assignEntry Tryf.func81 (by kernel_rfl) (by kernel_rfl) (by kernel_rfl) (by kernel_rfl)
  have h11 := @run_callFunc_extern Tryf.prog 36 _ elemEntry Tryf.func36 (by kernel_rfl) (by kernel_rfl) (by kernel_rfl) (by kernel_rfl)
  have h12 := @run_callFunc_extern Tryf.prog 37 _ setEntry Tryf.func37 (by kernel_rfl) (by kernel_rfl) (by kernel_rfl) (by kernel_rfl)
  have tE := typeOfE
  have tF := typeOfF
  have mK := methodKind
  have mE := methodElem
  have mI := methodImplements
  have mA := methodAssignableTo
  have aE := assignEN
  have aF := assignFN
  have aW := assignWN
  have aO := assignON
  have tW := typeOfW
  have tO := typeOfO
  have nAW := noAsW
  have nAO := noAsO
  have uW := hasUnwrapW
  have mW := methodUnwrapW
  have uO := noUnwrapO
  have vO := noUnwrapsO
  have v25 := valueOfEN
  have f6 := valueOfPN
  have f7 := typePN
  have k27 := kindPN
  have k25 := kindEN
  have e27 := elemTN
  have i25 := implN
  have nAF := noAsF
  have nAE := noAsE
  have uE := noUnwrapE
  have vE := noUnwrapsE
  have uF := hasUnwrapF
  have mU := methodUnwrapF
  have hn0 : n < w.heap.size := by
    rcases Nat.lt_or_ge n w.heap.size with h | h
    · exact h
    · simp [World.cell?, Array.getElem?_eq_none h] at ht0
  have hlt : 0 < w.heap.size := by omega
  have hgA : (w.alloc (.cells #[.pointer (some ⟨n, 0, none⟩)] 71)).cell? ⟨0, 0, none⟩ = some (.iface 85 (.agg #[.pointer (some ⟨4, 24, none⟩)])) := by
    rw [World.cell?_alloc_lt _ _ ⟨0, 0, none⟩ hlt]; exact hg
  have n8 := isNilPN ⟨w.heap.size, 0, none⟩ ⟨n, 0, none⟩ ((w.alloc (.cells #[.pointer (some ⟨n, 0, none⟩)] 71)).alloc (.cells #[.pointer (some ⟨4, 71, none⟩), .pointer (some ⟨w.heap.size, 0, none⟩), .int .u64 150] 62)) (by simp)
  have hg2 : ((w.alloc (.cells #[.pointer (some ⟨n, 0, none⟩)] 71)).alloc (.cells #[.pointer (some ⟨4, 71, none⟩), .pointer (some ⟨w.heap.size, 0, none⟩), .int .u64 150] 62)).cell? ⟨0, 0, none⟩ = some (.iface 85 (.agg #[.pointer (some ⟨4, 24, none⟩)])) := by
    rw [World.cell?_alloc_lt _ _ ⟨0, 0, none⟩ (by simp)]; exact hgA
  clear hg hgA
  have el := elemVN ⟨w.heap.size, 0, none⟩ ⟨n, 0, none⟩ (((w.alloc (.cells #[.pointer (some ⟨n, 0, none⟩)] 71)).alloc (.cells #[.pointer (some ⟨4, 71, none⟩), .pointer (some ⟨w.heap.size, 0, none⟩), .int .u64 150] 62)).alloc (.cells #[.pointer (some ⟨4, 71, none⟩), .pointer (some ⟨w.heap.size, 0, none⟩), .int .u64 150] 62)) (by rw [World.cell?_alloc_lt _ _ ⟨w.heap.size, 0, none⟩ (by simp; omega)]; simp)
  have hB3 : Below w.heap.size w (((w.alloc (.cells #[.pointer (some ⟨n, 0, none⟩)] 71)).alloc (.cells #[.pointer (some ⟨4, 71, none⟩), .pointer (some ⟨w.heap.size, 0, none⟩), .int .u64 150] 62)).alloc (.cells #[.pointer (some ⟨4, 71, none⟩), .pointer (some ⟨w.heap.size, 0, none⟩), .int .u64 150] 62)) := (((Below.refl _ w).alloc (Nat.le_refl _) _).alloc (by simp) _).alloc (by simp; omega) _
  have hIf : IsIf (.iface 53 (.pointer (some q))) := ⟨_, _, rfl⟩
  obtain ⟨t0, u0, rfl⟩ := h0.iface hIf
  have HB := hide hB3
  have H0 := hide (h0.below hB3)
  clear hB3 h0 ht0 hf0
  go_enter Tryf.func11, Tryf.ntmps11
  go_wp2
  go_loop [0] (fun v => ∃ l, Chain (((w.alloc (.cells #[.pointer (some ⟨n, 0, none⟩)] 71)).alloc (.cells #[.pointer (some ⟨4, 71, none⟩), .pointer (some ⟨w.heap.size, 0, none⟩), .int .u64 150] 62)).alloc (.cells #[.pointer (some ⟨4, 71, none⟩), .pointer (some ⟨w.heap.size, 0, none⟩), .int .u64 150] 62)) (.iface 53 (.pointer (some q))) l v ∧ l.length ≤ l0.length) (fun v => cnt (((w.alloc (.cells #[.pointer (some ⟨n, 0, none⟩)] 71)).alloc (.cells #[.pointer (some ⟨4, 71, none⟩), .pointer (some ⟨w.heap.size, 0, none⟩), .int .u64 150] 62)).alloc (.cells #[.pointer (some ⟨4, 71, none⟩), .pointer (some ⟨w.heap.size, 0, none⟩), .int .u64 150] 62)) l0.length v)
  case atStart => exact ⟨l0, unhide H0, Nat.le_refl _⟩
  case round =>
    obtain ⟨l, hch, hle⟩ := hrel
    cases l with
    | nil =>
      obtain rfl : _ = _ := hch
      go_wp2
      go_ret
      exact ⟨rfl, rfl⟩
    | cons x l =>
      have hm := hide (cnt_chain (bare_other q) hch hle)
      cases x with
      | some x =>
        obtain ⟨b, v', rfl, h2, h3, h4, h5, h6⟩ := hch
        have hn := hide (cnt_chain (bare_other q) h6 (n := l0.length) (by simp at hle; omega))
        obtain ⟨t1, u1, rfl⟩ := h6.iface hIf
        have H6 := hide h6
        clear h6 h3 h4
        go_wp2
        go_round
        case rel => exact ⟨l, unhide H6, by simp at hle; omega⟩
        case measure =>
          show cnt _ l0.length (.iface t1 u1) < cnt _ l0.length (.iface 32 (.pointer (some ⟨b, 0, none⟩)))
          rw [unhide hm, unhide hn]; simp
      | none =>
        obtain ⟨b, v', rfl, h2, h5, h6⟩ := hch
        have hn := hide (cnt_chain (bare_other q) h6 (n := l0.length) (by simp at hle; omega))
        obtain ⟨t1, u1, rfl⟩ := h6.iface hIf
        have H6 := hide h6
        clear h6
        go_wp2
        go_round
        case rel => exact ⟨l, unhide H6, by simp at hle; omega⟩
        case measure =>
          show cnt _ l0.length (.iface t1 u1) < cnt _ l0.length (.iface 52 (.pointer (some ⟨b, 0, none⟩)))
          rw [unhide hm, unhide hn]; simp

set_option maxRecDepth 100000 in
set_option maxHeartbeats 4000000 in
/-- errors.As at a Fault, the target a **Fault: that very one. -/
theorem as_fault (p : Addr) (n : Nat) (old : Value) (w : World)
    (hg : w.cell? ⟨0, 0, none⟩ = some (.iface 85 (.agg #[.pointer (some ⟨4, 24, none⟩)]))) (ht0 : w.cell? ⟨n, 0, none⟩ = some old) (hf0 : w.frozen? ⟨n, 0, none⟩ = false) :
    Calls Tryf.prog 11 #[.iface 32 (.pointer (some p)), .iface 34 (.pointer (some ⟨n, 0, none⟩))] w fun e w' => e = .returned (.bool true) ∧ w' = ((((w.alloc (.cells #[.pointer (some ⟨n, 0, none⟩)] 34)).alloc (.cells #[.pointer (some ⟨4, 34, none⟩), .pointer (some ⟨w.heap.size, 0, none⟩), .int .u64 150] 62)).alloc (.cells #[.pointer (some ⟨4, 34, none⟩), .pointer (some ⟨w.heap.size, 0, none⟩), .int .u64 150] 62)).alloc (.cells #[.pointer (some p)] 32)).setCell ⟨n, 0, none⟩ (.pointer (some p)) := by
  have h6 := @run_callFunc_extern Tryf.prog 22 _ valueEntry Tryf.func22 (by kernel_rfl) (by kernel_rfl) (by kernel_rfl) (by kernel_rfl)
  have h7 := @run_callFunc_extern Tryf.prog 23 _ typeEntry Tryf.func23 (by kernel_rfl) (by kernel_rfl) (by kernel_rfl) (by kernel_rfl)
  have h8 := @run_callFunc_extern Tryf.prog 24 _ isNilEntry Tryf.func24 (by kernel_rfl) (by kernel_rfl) (by kernel_rfl) (by kernel_rfl)
  have h27 := @run_callFunc_extern Tryf.prog 69 _ kindEntry Tryf.func69 (by kernel_rfl) (by kernel_rfl) (by kernel_rfl) (by kernel_rfl)
  have h37 := @run_callFunc_extern Tryf.prog 83 _ tElemEntry Tryf.func83 (by kernel_rfl) (by kernel_rfl) (by kernel_rfl) (by kernel_rfl)
  have h38 := @run_callFunc_extern Tryf.prog 84 _ implEntry Tryf.func84 (by kernel_rfl) (by kernel_rfl) (by kernel_rfl) (by kernel_rfl)
  have h10 := @run_callFunc_extern Tryf.prog 27 _ ReflectliteType.typeOf Tryf.func27 (by kernel_rfl) (by kernel_rfl) (by kernel_rfl) (by kernel_rfl)
  have h35 := @run_callFunc_extern Tryf.prog 81 _ assignEntry Tryf.func81 (by kernel_rfl) (by kernel_rfl) (by kernel_rfl) (by kernel_rfl)
  have h11 := @run_callFunc_extern Tryf.prog 36 _ elemEntry Tryf.func36 (by kernel_rfl) (by kernel_rfl) (by kernel_rfl) (by kernel_rfl)
  have h12 := @run_callFunc_extern Tryf.prog 37 _ setEntry Tryf.func37 (by kernel_rfl) (by kernel_rfl) (by kernel_rfl) (by kernel_rfl)
  have tE := typeOfE
  have tF := typeOfF
  have mK := methodKind
  have mE := methodElem
  have mI := methodImplements
  have mA := methodAssignableTo
  have aE := assignEF
  have aF := assignFF
  have aW := assignWF
  have aO := assignOF
  have tW := typeOfW
  have tO := typeOfO
  have nAW := noAsW
  have nAO := noAsO
  have uW := hasUnwrapW
  have mW := methodUnwrapW
  have uO := noUnwrapO
  have vO := noUnwrapsO
  have v25 := valueOfEF
  have f6 := valueOfPF
  have f7 := typePF
  have k27 := kindPF
  have k25 := kindEF
  have e27 := elemTF
  have i25 := implF
  have nAF := noAsF
  have nAE := noAsE
  have uE := noUnwrapE
  have vE := noUnwrapsE
  have uF := hasUnwrapF
  have mU := methodUnwrapF
  have hn0 : n < w.heap.size := by
    rcases Nat.lt_or_ge n w.heap.size with h | h
    · exact h
    · simp [World.cell?, Array.getElem?_eq_none h] at ht0
  have hlt : 0 < w.heap.size := by omega
  have hgA : (w.alloc (.cells #[.pointer (some ⟨n, 0, none⟩)] 34)).cell? ⟨0, 0, none⟩ = some (.iface 85 (.agg #[.pointer (some ⟨4, 24, none⟩)])) := by
    rw [World.cell?_alloc_lt _ _ ⟨0, 0, none⟩ hlt]; exact hg
  have n8 := isNilPF ⟨w.heap.size, 0, none⟩ ⟨n, 0, none⟩ ((w.alloc (.cells #[.pointer (some ⟨n, 0, none⟩)] 34)).alloc (.cells #[.pointer (some ⟨4, 34, none⟩), .pointer (some ⟨w.heap.size, 0, none⟩), .int .u64 150] 62)) (by simp)
  have hg2 : ((w.alloc (.cells #[.pointer (some ⟨n, 0, none⟩)] 34)).alloc (.cells #[.pointer (some ⟨4, 34, none⟩), .pointer (some ⟨w.heap.size, 0, none⟩), .int .u64 150] 62)).cell? ⟨0, 0, none⟩ = some (.iface 85 (.agg #[.pointer (some ⟨4, 24, none⟩)])) := by
    rw [World.cell?_alloc_lt _ _ ⟨0, 0, none⟩ (by simp)]; exact hgA
  clear hg hgA
  have el := elemVF ⟨w.heap.size, 0, none⟩ ⟨n, 0, none⟩ (((w.alloc (.cells #[.pointer (some ⟨n, 0, none⟩)] 34)).alloc (.cells #[.pointer (some ⟨4, 34, none⟩), .pointer (some ⟨w.heap.size, 0, none⟩), .int .u64 150] 62)).alloc (.cells #[.pointer (some ⟨4, 34, none⟩), .pointer (some ⟨w.heap.size, 0, none⟩), .int .u64 150] 62)) (by rw [World.cell?_alloc_lt _ _ ⟨w.heap.size, 0, none⟩ (by simp; omega)]; simp)
  have hB3 : Below w.heap.size w (((w.alloc (.cells #[.pointer (some ⟨n, 0, none⟩)] 34)).alloc (.cells #[.pointer (some ⟨4, 34, none⟩), .pointer (some ⟨w.heap.size, 0, none⟩), .int .u64 150] 62)).alloc (.cells #[.pointer (some ⟨4, 34, none⟩), .pointer (some ⟨w.heap.size, 0, none⟩), .int .u64 150] 62)) := (((Below.refl _ w).alloc (Nat.le_refl _) _).alloc (by simp) _).alloc (by simp; omega) _
  have st := setF ⟨n, 0, none⟩ ⟨w.heap.size + 1 + 1 + 1, 0, none⟩ p old ((((w.alloc (.cells #[.pointer (some ⟨n, 0, none⟩)] 34)).alloc (.cells #[.pointer (some ⟨4, 34, none⟩), .pointer (some ⟨w.heap.size, 0, none⟩), .int .u64 150] 62)).alloc (.cells #[.pointer (some ⟨4, 34, none⟩), .pointer (some ⟨w.heap.size, 0, none⟩), .int .u64 150] 62)).alloc (.cells #[.pointer (some p)] 32))
    (by rw [World.cell?_alloc_at _ _ _ _ (by simp)]; rfl)
    (by rw [World.cell?_alloc_lt _ _ ⟨n, 0, none⟩ (by simp; omega)]; exact (hB3.cell (p := ⟨n, 0, none⟩) hn0).trans ht0)
    (by rw [World.frozen?_alloc_old _ _ ⟨n, 0, none⟩ (by simp; omega)]; exact (hB3.frozen (p := ⟨n, 0, none⟩) hn0).trans hf0)
  clear hB3 ht0 hf0
  go_enter Tryf.func11, Tryf.ntmps11
  go_wp2
  refine wp_loop_rounds 1 ?_
  rw [rounds_succ]
  go_wp2
  go_ret
  exact ⟨rfl, rfl⟩

set_option maxRecDepth 100000 in
set_option maxHeartbeats 4000000 in
/-- errors.As at a bare number, the target a **Fault: false. -/
theorem as_fault_no (c : Int) (n : Nat) (old : Value) (w : World)
    (hg : w.cell? ⟨0, 0, none⟩ = some (.iface 85 (.agg #[.pointer (some ⟨4, 24, none⟩)]))) (ht0 : w.cell? ⟨n, 0, none⟩ = some old) :
    Calls Tryf.prog 11 #[.iface 26 (.int .i64 c), .iface 34 (.pointer (some ⟨n, 0, none⟩))] w fun e w' => e = .returned (.bool false) ∧ w' = (((w.alloc (.cells #[.pointer (some ⟨n, 0, none⟩)] 34)).alloc (.cells #[.pointer (some ⟨4, 34, none⟩), .pointer (some ⟨w.heap.size, 0, none⟩), .int .u64 150] 62)).alloc (.cells #[.pointer (some ⟨4, 34, none⟩), .pointer (some ⟨w.heap.size, 0, none⟩), .int .u64 150] 62)) := by
  have h6 := @run_callFunc_extern Tryf.prog 22 _ valueEntry Tryf.func22 (by kernel_rfl) (by kernel_rfl) (by kernel_rfl) (by kernel_rfl)
  have h7 := @run_callFunc_extern Tryf.prog 23 _ typeEntry Tryf.func23 (by kernel_rfl) (by kernel_rfl) (by kernel_rfl) (by kernel_rfl)
  have h8 := @run_callFunc_extern Tryf.prog 24 _ isNilEntry Tryf.func24 (by kernel_rfl) (by kernel_rfl) (by kernel_rfl) (by kernel_rfl)
  have h27 := @run_callFunc_extern Tryf.prog 69 _ kindEntry Tryf.func69 (by kernel_rfl) (by kernel_rfl) (by kernel_rfl) (by kernel_rfl)
  have h37 := @run_callFunc_extern Tryf.prog 83 _ tElemEntry Tryf.func83 (by kernel_rfl) (by kernel_rfl) (by kernel_rfl) (by kernel_rfl)
  have h38 := @run_callFunc_extern Tryf.prog 84 _ implEntry Tryf.func84 (by kernel_rfl) (by kernel_rfl) (by kernel_rfl) (by kernel_rfl)
  have h10 := @run_callFunc_extern Tryf.prog 27 _ ReflectliteType.typeOf Tryf.func27 (by kernel_rfl) (by kernel_rfl) (by kernel_rfl) (by kernel_rfl)
  have h35 := @run_callFunc_extern Tryf.prog 81 _ assignEntry Tryf.func81 (by kernel_rfl) (by kernel_rfl) (by kernel_rfl) (by kernel_rfl)
  have h11 := @run_callFunc_extern Tryf.prog 36 _ elemEntry Tryf.func36 (by kernel_rfl) (by kernel_rfl) (by kernel_rfl) (by kernel_rfl)
  have h12 := @run_callFunc_extern Tryf.prog 37 _ setEntry Tryf.func37 (by kernel_rfl) (by kernel_rfl) (by kernel_rfl) (by kernel_rfl)
  have tE := typeOfE
  have tF := typeOfF
  have mK := methodKind
  have mE := methodElem
  have mI := methodImplements
  have mA := methodAssignableTo
  have aE := assignEF
  have aF := assignFF
  have aW := assignWF
  have aO := assignOF
  have tW := typeOfW
  have tO := typeOfO
  have nAW := noAsW
  have nAO := noAsO
  have uW := hasUnwrapW
  have mW := methodUnwrapW
  have uO := noUnwrapO
  have vO := noUnwrapsO
  have v25 := valueOfEF
  have f6 := valueOfPF
  have f7 := typePF
  have k27 := kindPF
  have k25 := kindEF
  have e27 := elemTF
  have i25 := implF
  have nAF := noAsF
  have nAE := noAsE
  have uE := noUnwrapE
  have vE := noUnwrapsE
  have uF := hasUnwrapF
  have mU := methodUnwrapF
  have hn0 : n < w.heap.size := by
    rcases Nat.lt_or_ge n w.heap.size with h | h
    · exact h
    · simp [World.cell?, Array.getElem?_eq_none h] at ht0
  have hlt : 0 < w.heap.size := by omega
  have hgA : (w.alloc (.cells #[.pointer (some ⟨n, 0, none⟩)] 34)).cell? ⟨0, 0, none⟩ = some (.iface 85 (.agg #[.pointer (some ⟨4, 24, none⟩)])) := by
    rw [World.cell?_alloc_lt _ _ ⟨0, 0, none⟩ hlt]; exact hg
  have n8 := isNilPF ⟨w.heap.size, 0, none⟩ ⟨n, 0, none⟩ ((w.alloc (.cells #[.pointer (some ⟨n, 0, none⟩)] 34)).alloc (.cells #[.pointer (some ⟨4, 34, none⟩), .pointer (some ⟨w.heap.size, 0, none⟩), .int .u64 150] 62)) (by simp)
  have hg2 : ((w.alloc (.cells #[.pointer (some ⟨n, 0, none⟩)] 34)).alloc (.cells #[.pointer (some ⟨4, 34, none⟩), .pointer (some ⟨w.heap.size, 0, none⟩), .int .u64 150] 62)).cell? ⟨0, 0, none⟩ = some (.iface 85 (.agg #[.pointer (some ⟨4, 24, none⟩)])) := by
    rw [World.cell?_alloc_lt _ _ ⟨0, 0, none⟩ (by simp)]; exact hgA
  clear hg hgA
  have el := elemVF ⟨w.heap.size, 0, none⟩ ⟨n, 0, none⟩ (((w.alloc (.cells #[.pointer (some ⟨n, 0, none⟩)] 34)).alloc (.cells #[.pointer (some ⟨4, 34, none⟩), .pointer (some ⟨w.heap.size, 0, none⟩), .int .u64 150] 62)).alloc (.cells #[.pointer (some ⟨4, 34, none⟩), .pointer (some ⟨w.heap.size, 0, none⟩), .int .u64 150] 62)) (by rw [World.cell?_alloc_lt _ _ ⟨w.heap.size, 0, none⟩ (by simp; omega)]; simp)
  have hB3 : Below w.heap.size w (((w.alloc (.cells #[.pointer (some ⟨n, 0, none⟩)] 34)).alloc (.cells #[.pointer (some ⟨4, 34, none⟩), .pointer (some ⟨w.heap.size, 0, none⟩), .int .u64 150] 62)).alloc (.cells #[.pointer (some ⟨4, 34, none⟩), .pointer (some ⟨w.heap.size, 0, none⟩), .int .u64 150] 62)) := (((Below.refl _ w).alloc (Nat.le_refl _) _).alloc (by simp) _).alloc (by simp; omega) _
  clear hB3 ht0
  go_enter Tryf.func11, Tryf.ntmps11
  go_wp2
  refine wp_loop_rounds 1 ?_
  rw [rounds_succ]
  go_wp2
  go_ret
  exact ⟨rfl, rfl⟩

set_option maxRecDepth 100000 in
set_option maxHeartbeats 4000000 in
/-- errors.As at what fmt has wrapped round a Fault, the target a **Fault: that Fault. -/
theorem as_fault1 (bw : Nat) (p : Addr) (n : Nat) (old : Value) (w : World) (hbw : bw < w.heap.size) (hcw : w.cell? ⟨bw, 1, none⟩ = some (.iface 32 (.pointer (some p))))
    (hg : w.cell? ⟨0, 0, none⟩ = some (.iface 85 (.agg #[.pointer (some ⟨4, 24, none⟩)]))) (ht0 : w.cell? ⟨n, 0, none⟩ = some old) (hf0 : w.frozen? ⟨n, 0, none⟩ = false) :
    Calls Tryf.prog 11 #[.iface 52 (.pointer (some ⟨bw, 0, none⟩)), .iface 34 (.pointer (some ⟨n, 0, none⟩))] w fun e w' => e = .returned (.bool true) ∧ w' = ((((w.alloc (.cells #[.pointer (some ⟨n, 0, none⟩)] 34)).alloc (.cells #[.pointer (some ⟨4, 34, none⟩), .pointer (some ⟨w.heap.size, 0, none⟩), .int .u64 150] 62)).alloc (.cells #[.pointer (some ⟨4, 34, none⟩), .pointer (some ⟨w.heap.size, 0, none⟩), .int .u64 150] 62)).alloc (.cells #[.pointer (some p)] 32)).setCell ⟨n, 0, none⟩ (.pointer (some p)) := by
  have h6 := @run_callFunc_extern Tryf.prog 22 _ valueEntry Tryf.func22 (by kernel_rfl) (by kernel_rfl) (by kernel_rfl) (by kernel_rfl)
  have h7 := @run_callFunc_extern Tryf.prog 23 _ typeEntry Tryf.func23 (by kernel_rfl) (by kernel_rfl) (by kernel_rfl) (by kernel_rfl)
  have h8 := @run_callFunc_extern Tryf.prog 24 _ isNilEntry Tryf.func24 (by kernel_rfl) (by kernel_rfl) (by kernel_rfl) (by kernel_rfl)
  have h27 := @run_callFunc_extern Tryf.prog 69 _ kindEntry Tryf.func69 (by kernel_rfl) (by kernel_rfl) (by kernel_rfl) (by kernel_rfl)
  have h37 := @run_callFunc_extern Tryf.prog 83 _ tElemEntry Tryf.func83 (by kernel_rfl) (by kernel_rfl) (by kernel_rfl) (by kernel_rfl)
  have h38 := @run_callFunc_extern Tryf.prog 84 _ implEntry Tryf.func84 (by kernel_rfl) (by kernel_rfl) (by kernel_rfl) (by kernel_rfl)
  have h10 := @run_callFunc_extern Tryf.prog 27 _ ReflectliteType.typeOf Tryf.func27 (by kernel_rfl) (by kernel_rfl) (by kernel_rfl) (by kernel_rfl)
  have h35 := @run_callFunc_extern Tryf.prog 81 _ assignEntry Tryf.func81 (by kernel_rfl) (by kernel_rfl) (by kernel_rfl) (by kernel_rfl)
  have h11 := @run_callFunc_extern Tryf.prog 36 _ elemEntry Tryf.func36 (by kernel_rfl) (by kernel_rfl) (by kernel_rfl) (by kernel_rfl)
  have h12 := @run_callFunc_extern Tryf.prog 37 _ setEntry Tryf.func37 (by kernel_rfl) (by kernel_rfl) (by kernel_rfl) (by kernel_rfl)
  have tE := typeOfE
  have tF := typeOfF
  have mK := methodKind
  have mE := methodElem
  have mI := methodImplements
  have mA := methodAssignableTo
  have aE := assignEF
  have aF := assignFF
  have aW := assignWF
  have aO := assignOF
  have tW := typeOfW
  have tO := typeOfO
  have nAW := noAsW
  have nAO := noAsO
  have uW := hasUnwrapW
  have mW := methodUnwrapW
  have uO := noUnwrapO
  have vO := noUnwrapsO
  have v25 := valueOfEF
  have f6 := valueOfPF
  have f7 := typePF
  have k27 := kindPF
  have k25 := kindEF
  have e27 := elemTF
  have i25 := implF
  have nAF := noAsF
  have nAE := noAsE
  have uE := noUnwrapE
  have vE := noUnwrapsE
  have uF := hasUnwrapF
  have mU := methodUnwrapF
  have hn0 : n < w.heap.size := by
    rcases Nat.lt_or_ge n w.heap.size with h | h
    · exact h
    · simp [World.cell?, Array.getElem?_eq_none h] at ht0
  have hlt : 0 < w.heap.size := by omega
  have hgA : (w.alloc (.cells #[.pointer (some ⟨n, 0, none⟩)] 34)).cell? ⟨0, 0, none⟩ = some (.iface 85 (.agg #[.pointer (some ⟨4, 24, none⟩)])) := by
    rw [World.cell?_alloc_lt _ _ ⟨0, 0, none⟩ hlt]; exact hg
  have n8 := isNilPF ⟨w.heap.size, 0, none⟩ ⟨n, 0, none⟩ ((w.alloc (.cells #[.pointer (some ⟨n, 0, none⟩)] 34)).alloc (.cells #[.pointer (some ⟨4, 34, none⟩), .pointer (some ⟨w.heap.size, 0, none⟩), .int .u64 150] 62)) (by simp)
  have hg2 : ((w.alloc (.cells #[.pointer (some ⟨n, 0, none⟩)] 34)).alloc (.cells #[.pointer (some ⟨4, 34, none⟩), .pointer (some ⟨w.heap.size, 0, none⟩), .int .u64 150] 62)).cell? ⟨0, 0, none⟩ = some (.iface 85 (.agg #[.pointer (some ⟨4, 24, none⟩)])) := by
    rw [World.cell?_alloc_lt _ _ ⟨0, 0, none⟩ (by simp)]; exact hgA
  clear hg hgA
  have el := elemVF ⟨w.heap.size, 0, none⟩ ⟨n, 0, none⟩ (((w.alloc (.cells #[.pointer (some ⟨n, 0, none⟩)] 34)).alloc (.cells #[.pointer (some ⟨4, 34, none⟩), .pointer (some ⟨w.heap.size, 0, none⟩), .int .u64 150] 62)).alloc (.cells #[.pointer (some ⟨4, 34, none⟩), .pointer (some ⟨w.heap.size, 0, none⟩), .int .u64 150] 62)) (by rw [World.cell?_alloc_lt _ _ ⟨w.heap.size, 0, none⟩ (by simp; omega)]; simp)
  have hB3 : Below w.heap.size w (((w.alloc (.cells #[.pointer (some ⟨n, 0, none⟩)] 34)).alloc (.cells #[.pointer (some ⟨4, 34, none⟩), .pointer (some ⟨w.heap.size, 0, none⟩), .int .u64 150] 62)).alloc (.cells #[.pointer (some ⟨4, 34, none⟩), .pointer (some ⟨w.heap.size, 0, none⟩), .int .u64 150] 62)) := (((Below.refl _ w).alloc (Nat.le_refl _) _).alloc (by simp) _).alloc (by simp; omega) _
  have st := setF ⟨n, 0, none⟩ ⟨w.heap.size + 1 + 1 + 1, 0, none⟩ p old ((((w.alloc (.cells #[.pointer (some ⟨n, 0, none⟩)] 34)).alloc (.cells #[.pointer (some ⟨4, 34, none⟩), .pointer (some ⟨w.heap.size, 0, none⟩), .int .u64 150] 62)).alloc (.cells #[.pointer (some ⟨4, 34, none⟩), .pointer (some ⟨w.heap.size, 0, none⟩), .int .u64 150] 62)).alloc (.cells #[.pointer (some p)] 32))
    (by rw [World.cell?_alloc_at _ _ _ _ (by simp)]; rfl)
    (by rw [World.cell?_alloc_lt _ _ ⟨n, 0, none⟩ (by simp; omega)]; exact (hB3.cell (p := ⟨n, 0, none⟩) hn0).trans ht0)
    (by rw [World.frozen?_alloc_old _ _ ⟨n, 0, none⟩ (by simp; omega)]; exact (hB3.frozen (p := ⟨n, 0, none⟩) hn0).trans hf0)
  have hcw3 := (hB3.cell (p := ⟨bw, 1, none⟩) hbw).trans hcw
  clear hB3 ht0 hf0 hcw
  go_enter Tryf.func11, Tryf.ntmps11
  go_wp2
  refine wp_loop_rounds 2 ?_
  rw [rounds_succ]
  go_wp2
  rw [rounds_succ]
  go_wp2
  go_ret
  exact ⟨rfl, rfl⟩

set_option maxRecDepth 100000 in
set_option maxHeartbeats 4000000 in
/-- errors.As at an error of errors.New's make, the target a **Fault: false. -/
theorem as_fault_noO (q : Addr) (n : Nat) (old : Value) (w : World)
    (hg : w.cell? ⟨0, 0, none⟩ = some (.iface 85 (.agg #[.pointer (some ⟨4, 24, none⟩)]))) (ht0 : w.cell? ⟨n, 0, none⟩ = some old) :
    Calls Tryf.prog 11 #[.iface 53 (.pointer (some q)), .iface 34 (.pointer (some ⟨n, 0, none⟩))] w fun e w' => e = .returned (.bool false) ∧ w' = (((w.alloc (.cells #[.pointer (some ⟨n, 0, none⟩)] 34)).alloc (.cells #[.pointer (some ⟨4, 34, none⟩), .pointer (some ⟨w.heap.size, 0, none⟩), .int .u64 150] 62)).alloc (.cells #[.pointer (some ⟨4, 34, none⟩), .pointer (some ⟨w.heap.size, 0, none⟩), .int .u64 150] 62)) := by
  have h6 := @run_callFunc_extern Tryf.prog 22 _ valueEntry Tryf.func22 (by kernel_rfl) (by kernel_rfl) (by kernel_rfl) (by kernel_rfl)
  have h7 := @run_callFunc_extern Tryf.prog 23 _ typeEntry Tryf.func23 (by kernel_rfl) (by kernel_rfl) (by kernel_rfl) (by kernel_rfl)
  have h8 := @run_callFunc_extern Tryf.prog 24 _ isNilEntry Tryf.func24 (by kernel_rfl) (by kernel_rfl) (by kernel_rfl) (by kernel_rfl)
  have h27 := @run_callFunc_extern Tryf.prog 69 _ kindEntry Tryf.func69 (by kernel_rfl) (by kernel_rfl) (by kernel_rfl) (by kernel_rfl)
  have h37 := @run_callFunc_extern Tryf.prog 83 _ tElemEntry Tryf.func83 (by kernel_rfl) (by kernel_rfl) (by kernel_rfl) (by kernel_rfl)
  have h38 := @run_callFunc_extern Tryf.prog 84 _ implEntry Tryf.func84 (by kernel_rfl) (by kernel_rfl) (by kernel_rfl) (by kernel_rfl)
  have h10 := @run_callFunc_extern Tryf.prog 27 _ ReflectliteType.typeOf Tryf.func27 (by kernel_rfl) (by kernel_rfl) (by kernel_rfl) (by kernel_rfl)
  have h35 := @run_callFunc_extern Tryf.prog 81 _ assignEntry Tryf.func81 (by kernel_rfl) (by kernel_rfl) (by kernel_rfl) (by kernel_rfl)
  have h11 := @run_callFunc_extern Tryf.prog 36 _ elemEntry Tryf.func36 (by kernel_rfl) (by kernel_rfl) (by kernel_rfl) (by kernel_rfl)
  have h12 := @run_callFunc_extern Tryf.prog 37 _ setEntry Tryf.func37 (by kernel_rfl) (by kernel_rfl) (by kernel_rfl) (by kernel_rfl)
  have tE := typeOfE
  have tF := typeOfF
  have mK := methodKind
  have mE := methodElem
  have mI := methodImplements
  have mA := methodAssignableTo
  have aE := assignEF
  have aF := assignFF
  have aW := assignWF
  have aO := assignOF
  have tW := typeOfW
  have tO := typeOfO
  have nAW := noAsW
  have nAO := noAsO
  have uW := hasUnwrapW
  have mW := methodUnwrapW
  have uO := noUnwrapO
  have vO := noUnwrapsO
  have v25 := valueOfEF
  have f6 := valueOfPF
  have f7 := typePF
  have k27 := kindPF
  have k25 := kindEF
  have e27 := elemTF
  have i25 := implF
  have nAF := noAsF
  have nAE := noAsE
  have uE := noUnwrapE
  have vE := noUnwrapsE
  have uF := hasUnwrapF
  have mU := methodUnwrapF
  have hn0 : n < w.heap.size := by
    rcases Nat.lt_or_ge n w.heap.size with h | h
    · exact h
    · simp [World.cell?, Array.getElem?_eq_none h] at ht0
  have hlt : 0 < w.heap.size := by omega
  have hgA : (w.alloc (.cells #[.pointer (some ⟨n, 0, none⟩)] 34)).cell? ⟨0, 0, none⟩ = some (.iface 85 (.agg #[.pointer (some ⟨4, 24, none⟩)])) := by
    rw [World.cell?_alloc_lt _ _ ⟨0, 0, none⟩ hlt]; exact hg
  have n8 := isNilPF ⟨w.heap.size, 0, none⟩ ⟨n, 0, none⟩ ((w.alloc (.cells #[.pointer (some ⟨n, 0, none⟩)] 34)).alloc (.cells #[.pointer (some ⟨4, 34, none⟩), .pointer (some ⟨w.heap.size, 0, none⟩), .int .u64 150] 62)) (by simp)
  have hg2 : ((w.alloc (.cells #[.pointer (some ⟨n, 0, none⟩)] 34)).alloc (.cells #[.pointer (some ⟨4, 34, none⟩), .pointer (some ⟨w.heap.size, 0, none⟩), .int .u64 150] 62)).cell? ⟨0, 0, none⟩ = some (.iface 85 (.agg #[.pointer (some ⟨4, 24, none⟩)])) := by
    rw [World.cell?_alloc_lt _ _ ⟨0, 0, none⟩ (by simp)]; exact hgA
  clear hg hgA
  have el := elemVF ⟨w.heap.size, 0, none⟩ ⟨n, 0, none⟩ (((w.alloc (.cells #[.pointer (some ⟨n, 0, none⟩)] 34)).alloc (.cells #[.pointer (some ⟨4, 34, none⟩), .pointer (some ⟨w.heap.size, 0, none⟩), .int .u64 150] 62)).alloc (.cells #[.pointer (some ⟨4, 34, none⟩), .pointer (some ⟨w.heap.size, 0, none⟩), .int .u64 150] 62)) (by rw [World.cell?_alloc_lt _ _ ⟨w.heap.size, 0, none⟩ (by simp; omega)]; simp)
  have hB3 : Below w.heap.size w (((w.alloc (.cells #[.pointer (some ⟨n, 0, none⟩)] 34)).alloc (.cells #[.pointer (some ⟨4, 34, none⟩), .pointer (some ⟨w.heap.size, 0, none⟩), .int .u64 150] 62)).alloc (.cells #[.pointer (some ⟨4, 34, none⟩), .pointer (some ⟨w.heap.size, 0, none⟩), .int .u64 150] 62)) := (((Below.refl _ w).alloc (Nat.le_refl _) _).alloc (by simp) _).alloc (by simp; omega) _
  clear hB3 ht0
  go_enter Tryf.func11, Tryf.ntmps11
  go_wp2
  refine wp_loop_rounds 1 ?_
  rw [rounds_succ]
  go_wp2
  go_ret
  exact ⟨rfl, rfl⟩

/-- errors.As at nil. -/
theorem as_nil (t : Value) (w : World) :
    Calls Tryf.prog 11 #[.nilIface, t] w fun e w' => e = .returned (.bool false) ∧ w' = w := by
  go_enter Tryf.func11, Tryf.ntmps11
  go_wp2
  go_ret
  exact ⟨rfl, rfl⟩
end Go.Proofs.YtlfmlbkpkkegpaaFmt.Con
