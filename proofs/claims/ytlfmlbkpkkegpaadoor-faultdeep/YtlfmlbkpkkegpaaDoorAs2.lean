/- errors.As over a chain, at a target of type *api.Errno and at one of type **Fault. -/
import Derived.Test.YtlfmlbkpkkegpaaDoorAs
namespace Go.Proofs.YtlfmlbkpkkegpaaDoor.Con
open Go.RowKit Go.Extern.Stop Go.Stop Go.Extern
set_option linter.unusedVariables false

def kindEntry : Array Value → Sem Value := ReflectliteType.abiMethod fun t => do pure (.int .u8 (← Rtype.kind t))
def typeEntry : Array Value → Sem Value := ReflectliteValue.methodAny (ReflectliteValue.valueError "reflectlite.Value.Type" 0) (fun t _ _ _ => ReflectliteType.toType t)
def isNilEntry : Array Value → Sem Value := ReflectliteValue.method (ReflectliteValue.valueError "reflectlite.Value.IsNil" 0) ReflectliteValue.isNil
def elemEntry : Array Value → Sem Value := ReflectliteValue.method (ReflectliteValue.valueError "reflectlite.Value.Elem" 0) ReflectliteValue.elem
def valueEntry : Array Value → Sem Value := fun args => ReflectliteValue.unpack (args.getD 0 (.tuple #[]))
def setEntry : Array Value → Sem Value := ReflectliteValue.set
def tElemEntry : Array Value → Sem Value := ReflectliteType.method ReflectliteType.elem
def implEntry : Array Value → Sem Value := ReflectliteType.relation "Implements" ReflectliteType.implements_
def assignEntry : Array Value → Sem Value := ReflectliteType.relation "AssignableTo" ReflectliteType.assignableTo
theorem methodKind (h : Value) (w : World) : (Go.method 238 68 (.agg #[h]) "Kind").run Tryd.prog w = .ok (44, h) w := by kernel_rfl
theorem methodElem (h : Value) (w : World) : (Go.method 238 68 (.agg #[h]) "Elem").run Tryd.prog w = .ok (76, .agg #[h]) w := by kernel_rfl
theorem methodImplements (h : Value) (w : World) : (Go.method 238 68 (.agg #[h]) "Implements").run Tryd.prog w = .ok (77, .agg #[h]) w := by kernel_rfl
theorem methodAssignableTo (h : Value) (w : World) : (Go.method 238 68 (.agg #[h]) "AssignableTo").run Tryd.prog w = .ok (74, .agg #[h]) w := by kernel_rfl
theorem typeOfE (v : Value) (w : World) : (Extern.ReflectliteType.typeOf #[.iface 26 v]).run Tryd.prog w = .ok (.iface 68 (.agg #[.pointer (some ⟨4, 26, none⟩)])) w := by kernel_rfl
theorem typeOfF (v : Value) (w : World) : (Extern.ReflectliteType.typeOf #[.iface 28 v]).run Tryd.prog w = .ok (.iface 68 (.agg #[.pointer (some ⟨4, 28, none⟩)])) w := by kernel_rfl

/-! ### target type 66, its element type 26 -/
theorem valueOfPN (t : Addr) (w : World) : (valueEntry #[.iface 66 (.pointer (some t))]).run Tryd.prog w
    = .ok (.agg #[.pointer (some ⟨4, 66, none⟩), .pointer (some ⟨w.heap.size, 0, none⟩), .int .u64 150]) (w.alloc (.cells #[.pointer (some t)] 66)) := by kernel_rfl
theorem typePN (a : Addr) (w : World) : (typeEntry #[.agg #[.pointer (some ⟨4, 66, none⟩), .pointer (some a), .int .u64 150]]).run Tryd.prog w
    = .ok (.iface 68 (.agg #[.pointer (some ⟨4, 66, none⟩)])) w := by kernel_rfl
theorem kindPN (w : World) : (kindEntry #[.pointer (some ⟨4, 66, none⟩)]).run Tryd.prog w = .ok (.int .u8 22) w := by kernel_rfl
theorem kindEN (w : World) : (kindEntry #[.pointer (some ⟨4, 26, none⟩)]).run Tryd.prog w = .ok (.int .u8 2) w := by kernel_rfl
theorem partsPN (a : Addr) (w : World) : (ReflectliteValue.parts (.agg #[.pointer (some ⟨4, 66, none⟩), .pointer (some a), .int .u64 150])).run Tryd.prog w = .ok (some (66, a, 150)) w := by kernel_rfl
theorem isNilPN (a p : Addr) (W : World) (ha : W.cell? a = some (.pointer (some p))) :
    (isNilEntry #[.agg #[.pointer (some ⟨4, 66, none⟩), .pointer (some a), .int .u64 150]]).run Tryd.prog W = .ok (.bool false) W := by
  unfold isNilEntry
  rw [show ∀ (z : Sem Value) (f : TypeId → Addr → Nat → Nat → Sem Value) (v : Value), ReflectliteValue.method z f #[v] = (ReflectliteValue.parts v >>= fun p => _) from fun _ _ _ => rfl]
  simp only [Sem.run_bind, partsPN, Result.andThen]
  simp [ReflectliteValue.isNil, loadVar, isAgg, underlying, Tryd.underlying66, ha, Result.andThen]
theorem elemTN (w : World) : (tElemEntry #[.agg #[.pointer (some ⟨4, 66, none⟩)]]).run Tryd.prog w = .ok (.iface 68 (.agg #[.pointer (some ⟨4, 26, none⟩)])) w := by kernel_rfl
theorem implN (w : World) : (implEntry #[.agg #[.pointer (some ⟨4, 26, none⟩)], .iface 68 (.agg #[.pointer (some ⟨4, 24, none⟩)])]).run Tryd.prog w = .ok (.bool true) w := by kernel_rfl
theorem assignEN (w : World) : (assignEntry #[.agg #[.pointer (some ⟨4, 26, none⟩)], .iface 68 (.agg #[.pointer (some ⟨4, 26, none⟩)])]).run Tryd.prog w = .ok (.bool true) w := by kernel_rfl
theorem assignFN (w : World) : (assignEntry #[.agg #[.pointer (some ⟨4, 28, none⟩)], .iface 68 (.agg #[.pointer (some ⟨4, 26, none⟩)])]).run Tryd.prog w = .ok (.bool false) w := by kernel_rfl
theorem valueOfEN (x : Int) (w : World) : (valueEntry #[.iface 26 (.int .i64 x)]).run Tryd.prog w
    = .ok (.agg #[.pointer (some ⟨4, 26, none⟩), .pointer (some ⟨w.heap.size, 0, none⟩), .int .u64 130]) (w.alloc (.cells #[.int .i64 x] 26)) := by kernel_rfl
theorem elemOfN (w : World) : (Rtype.elem? 66).run Tryd.prog w = .ok (some 26) w := by kernel_rfl
theorem mkN (p : Addr) (w : World) : (ReflectliteValue.mk 26 p ReflectliteValue.flagAddr).run Tryd.prog w = .ok (.agg #[.pointer (some ⟨4, 26, none⟩), .pointer (some p), .int .u64 386]) w := by kernel_rfl
theorem elemVN (a p : Addr) (W : World) (ha : W.cell? a = some (.pointer (some p))) :
    (elemEntry #[.agg #[.pointer (some ⟨4, 66, none⟩), .pointer (some a), .int .u64 150]]).run Tryd.prog W
      = .ok (.agg #[.pointer (some ⟨4, 26, none⟩), .pointer (some p), .int .u64 386]) W := by
  unfold elemEntry
  rw [show ∀ (z : Sem Value) (f : TypeId → Addr → Nat → Nat → Sem Value) (v : Value), ReflectliteValue.method z f #[v] = (ReflectliteValue.parts v >>= fun p => _) from fun _ _ _ => rfl]
  simp only [Sem.run_bind, partsPN, Result.andThen]
  simp [ReflectliteValue.elem, loadVar, isAgg, underlying, Tryd.underlying66, ha, Result.andThen, elemOfN, mkN]
theorem partsEaN (a : Addr) (w : World) : (ReflectliteValue.parts (.agg #[.pointer (some ⟨4, 26, none⟩), .pointer (some a), .int .u64 386])).run Tryd.prog w = .ok (some (26, a, 386)) w := by kernel_rfl
theorem partsEN (a : Addr) (w : World) : (ReflectliteValue.parts (.agg #[.pointer (some ⟨4, 26, none⟩), .pointer (some a), .int .u64 130])).run Tryd.prog w = .ok (some (26, a, 130)) w := by kernel_rfl
theorem directN (w : World) : (Rtype.directlyAssignable 26 26).run Tryd.prog w = .ok true w := by kernel_rfl
theorem setN (ta b : Addr) (x : Int) (old : Value) (W : World) (hb : W.cell? b = some (.int .i64 x)) (ht : W.cell? ta = some old) (hf : W.frozen? ta = false) :
    (setEntry #[.agg #[.pointer (some ⟨4, 26, none⟩), .pointer (some ta), .int .u64 386], .agg #[.pointer (some ⟨4, 26, none⟩), .pointer (some b), .int .u64 130]]).run Tryd.prog W
      = .ok (.tuple #[]) (W.setCell ta (.int .i64 x)) := by
  unfold setEntry
  rw [show ∀ v x : Value, ReflectliteValue.set #[v, x] = (ReflectliteValue.parts v >>= fun p => ReflectliteValue.parts x >>= fun q => _) from fun _ _ => rfl]
  simp only [Sem.run_bind, partsEaN, partsEN, Result.andThen]
  simp [ReflectliteValue.flagAddr, loadVar, isAgg, underlying, Tryd.underlying26, hb, Result.andThen, directN, storeVar, Value.cells, storeCells, Addr.add]
  rw [run_store Tryd.prog W ta _ _ (by rfl)]
  simp [ht, hf]

/-! ### target type 30, its element type 28 -/
theorem valueOfPF (t : Addr) (w : World) : (valueEntry #[.iface 30 (.pointer (some t))]).run Tryd.prog w
    = .ok (.agg #[.pointer (some ⟨4, 30, none⟩), .pointer (some ⟨w.heap.size, 0, none⟩), .int .u64 150]) (w.alloc (.cells #[.pointer (some t)] 30)) := by kernel_rfl
theorem typePF (a : Addr) (w : World) : (typeEntry #[.agg #[.pointer (some ⟨4, 30, none⟩), .pointer (some a), .int .u64 150]]).run Tryd.prog w
    = .ok (.iface 68 (.agg #[.pointer (some ⟨4, 30, none⟩)])) w := by kernel_rfl
theorem kindPF (w : World) : (kindEntry #[.pointer (some ⟨4, 30, none⟩)]).run Tryd.prog w = .ok (.int .u8 22) w := by kernel_rfl
theorem kindEF (w : World) : (kindEntry #[.pointer (some ⟨4, 28, none⟩)]).run Tryd.prog w = .ok (.int .u8 22) w := by kernel_rfl
theorem partsPF (a : Addr) (w : World) : (ReflectliteValue.parts (.agg #[.pointer (some ⟨4, 30, none⟩), .pointer (some a), .int .u64 150])).run Tryd.prog w = .ok (some (30, a, 150)) w := by kernel_rfl
theorem isNilPF (a p : Addr) (W : World) (ha : W.cell? a = some (.pointer (some p))) :
    (isNilEntry #[.agg #[.pointer (some ⟨4, 30, none⟩), .pointer (some a), .int .u64 150]]).run Tryd.prog W = .ok (.bool false) W := by
  unfold isNilEntry
  rw [show ∀ (z : Sem Value) (f : TypeId → Addr → Nat → Nat → Sem Value) (v : Value), ReflectliteValue.method z f #[v] = (ReflectliteValue.parts v >>= fun p => _) from fun _ _ _ => rfl]
  simp only [Sem.run_bind, partsPF, Result.andThen]
  simp [ReflectliteValue.isNil, loadVar, isAgg, underlying, Tryd.underlying30, ha, Result.andThen]
theorem elemTF (w : World) : (tElemEntry #[.agg #[.pointer (some ⟨4, 30, none⟩)]]).run Tryd.prog w = .ok (.iface 68 (.agg #[.pointer (some ⟨4, 28, none⟩)])) w := by kernel_rfl
theorem implF (w : World) : (implEntry #[.agg #[.pointer (some ⟨4, 28, none⟩)], .iface 68 (.agg #[.pointer (some ⟨4, 24, none⟩)])]).run Tryd.prog w = .ok (.bool true) w := by kernel_rfl
theorem assignEF (w : World) : (assignEntry #[.agg #[.pointer (some ⟨4, 26, none⟩)], .iface 68 (.agg #[.pointer (some ⟨4, 28, none⟩)])]).run Tryd.prog w = .ok (.bool false) w := by kernel_rfl
theorem assignFF (w : World) : (assignEntry #[.agg #[.pointer (some ⟨4, 28, none⟩)], .iface 68 (.agg #[.pointer (some ⟨4, 28, none⟩)])]).run Tryd.prog w = .ok (.bool true) w := by kernel_rfl
theorem valueOfEF (x : Addr) (w : World) : (valueEntry #[.iface 28 (.pointer (some x))]).run Tryd.prog w
    = .ok (.agg #[.pointer (some ⟨4, 28, none⟩), .pointer (some ⟨w.heap.size, 0, none⟩), .int .u64 150]) (w.alloc (.cells #[.pointer (some x)] 28)) := by kernel_rfl
theorem elemOfF (w : World) : (Rtype.elem? 30).run Tryd.prog w = .ok (some 28) w := by kernel_rfl
theorem mkF (p : Addr) (w : World) : (ReflectliteValue.mk 28 p ReflectliteValue.flagAddr).run Tryd.prog w = .ok (.agg #[.pointer (some ⟨4, 28, none⟩), .pointer (some p), .int .u64 406]) w := by kernel_rfl
theorem elemVF (a p : Addr) (W : World) (ha : W.cell? a = some (.pointer (some p))) :
    (elemEntry #[.agg #[.pointer (some ⟨4, 30, none⟩), .pointer (some a), .int .u64 150]]).run Tryd.prog W
      = .ok (.agg #[.pointer (some ⟨4, 28, none⟩), .pointer (some p), .int .u64 406]) W := by
  unfold elemEntry
  rw [show ∀ (z : Sem Value) (f : TypeId → Addr → Nat → Nat → Sem Value) (v : Value), ReflectliteValue.method z f #[v] = (ReflectliteValue.parts v >>= fun p => _) from fun _ _ _ => rfl]
  simp only [Sem.run_bind, partsPF, Result.andThen]
  simp [ReflectliteValue.elem, loadVar, isAgg, underlying, Tryd.underlying30, ha, Result.andThen, elemOfF, mkF]
theorem partsEaF (a : Addr) (w : World) : (ReflectliteValue.parts (.agg #[.pointer (some ⟨4, 28, none⟩), .pointer (some a), .int .u64 406])).run Tryd.prog w = .ok (some (28, a, 406)) w := by kernel_rfl
theorem partsEF (a : Addr) (w : World) : (ReflectliteValue.parts (.agg #[.pointer (some ⟨4, 28, none⟩), .pointer (some a), .int .u64 150])).run Tryd.prog w = .ok (some (28, a, 150)) w := by kernel_rfl
theorem directF (w : World) : (Rtype.directlyAssignable 28 28).run Tryd.prog w = .ok true w := by kernel_rfl
theorem setF (ta b : Addr) (x : Addr) (old : Value) (W : World) (hb : W.cell? b = some (.pointer (some x))) (ht : W.cell? ta = some old) (hf : W.frozen? ta = false) :
    (setEntry #[.agg #[.pointer (some ⟨4, 28, none⟩), .pointer (some ta), .int .u64 406], .agg #[.pointer (some ⟨4, 28, none⟩), .pointer (some b), .int .u64 150]]).run Tryd.prog W
      = .ok (.tuple #[]) (W.setCell ta (.pointer (some x))) := by
  unfold setEntry
  rw [show ∀ v x : Value, ReflectliteValue.set #[v, x] = (ReflectliteValue.parts v >>= fun p => ReflectliteValue.parts x >>= fun q => _) from fun _ _ => rfl]
  simp only [Sem.run_bind, partsEaF, partsEF, Result.andThen]
  simp [ReflectliteValue.flagAddr, loadVar, isAgg, underlying, Tryd.underlying28, hb, Result.andThen, directF, storeVar, Value.cells, storeCells, Addr.add]
  rw [run_store Tryd.prog W ta _ _ (by rfl)]
  simp [ht, hf]

set_option maxRecDepth 100000 in
set_option maxHeartbeats 4000000 in
/-- errors.As at a chain, the target a *api.Errno: the number in it. -/
theorem as_errno (l0 : List (ByteArray × Int)) (c : Int) (v0 : Value) (n : Nat) (old : Value) (w : World) (h0 : Chain w c l0 v0)
    (hg : w.cell? ⟨0, 0, none⟩ = some (.iface 68 (.agg #[.pointer (some ⟨4, 24, none⟩)]))) (ht0 : w.cell? ⟨n, 0, none⟩ = some old) (hf0 : w.frozen? ⟨n, 0, none⟩ = false) :
    Calls Tryd.prog 9 #[v0, .iface 66 (.pointer (some ⟨n, 0, none⟩))] w fun e w' => e = .returned (.bool true) ∧ w' = ((((w.alloc (.cells #[.pointer (some ⟨n, 0, none⟩)] 66)).alloc (.cells #[.pointer (some ⟨4, 66, none⟩), .pointer (some ⟨w.heap.size, 0, none⟩), .int .u64 150] 49)).alloc (.cells #[.pointer (some ⟨4, 66, none⟩), .pointer (some ⟨w.heap.size, 0, none⟩), .int .u64 150] 49)).alloc (.cells #[.int .i64 c] 26)).setCell ⟨n, 0, none⟩ (.int .i64 c) := by
  have h6 := @run_callFunc_extern Tryd.prog 17 _ valueEntry Tryd.func17 (by kernel_rfl) (by kernel_rfl) (by kernel_rfl) (by kernel_rfl)
  have h7 := @run_callFunc_extern Tryd.prog 18 _ typeEntry Tryd.func18 (by kernel_rfl) (by kernel_rfl) (by kernel_rfl) (by kernel_rfl)
  have h8 := @run_callFunc_extern Tryd.prog 19 _ isNilEntry Tryd.func19 (by kernel_rfl) (by kernel_rfl) (by kernel_rfl) (by kernel_rfl)
  have h27 := @run_callFunc_extern Tryd.prog 44 _ kindEntry Tryd.func44 (by kernel_rfl) (by kernel_rfl) (by kernel_rfl) (by kernel_rfl)
  have h37 := @run_callFunc_extern Tryd.prog 76 _ tElemEntry Tryd.func76 (by kernel_rfl) (by kernel_rfl) (by kernel_rfl) (by kernel_rfl)
  have h38 := @run_callFunc_extern Tryd.prog 77 _ implEntry Tryd.func77 (by kernel_rfl) (by kernel_rfl) (by kernel_rfl) (by kernel_rfl)
  have h10 := @run_callFunc_extern Tryd.prog 22 _ ReflectliteType.typeOf Tryd.func22 (by kernel_rfl) (by kernel_rfl) (by kernel_rfl) (by kernel_rfl)
  have h35 := @run_callFunc_extern Tryd.prog 74 _ assignEntry Tryd.func74 (by kernel_rfl) (by kernel_rfl) (by kernel_rfl) (by kernel_rfl)
  have h11 := @run_callFunc_extern Tryd.prog 25 _ elemEntry Tryd.func25 (by kernel_rfl) (by kernel_rfl) (by kernel_rfl) (by kernel_rfl)
  have h12 := @run_callFunc_extern Tryd.prog 26 _ setEntry Tryd.func26 (by kernel_rfl) (by kernel_rfl) (by kernel_rfl) (by kernel_rfl)
  have tE := typeOfE
  have tF := typeOfF
  have mK := methodKind
  have mE := methodElem
  have mI := methodImplements
  have mA := methodAssignableTo
  have aE := assignEN
  have aF := assignFN
  have v25 := valueOfEN
  have f6 := valueOfPN
  have f7 := typePN
  have k27 := kindPN
  have k25 := kindEN
  have e27 := elemTN
  have i25 := implN
  have nAF := noAsF
  have nAE := noAsE
  have uE := noUnwrapE
  have vE := noUnwrapsE
  have uF := hasUnwrapF
  have mU := methodUnwrapF
  have hn0 : n < w.heap.size := by
    rcases Nat.lt_or_ge n w.heap.size with h | h
    · exact h
    · simp [World.cell?, Array.getElem?_eq_none h] at ht0
  have hlt : 0 < w.heap.size := by omega
  have hgA : (w.alloc (.cells #[.pointer (some ⟨n, 0, none⟩)] 66)).cell? ⟨0, 0, none⟩ = some (.iface 68 (.agg #[.pointer (some ⟨4, 24, none⟩)])) := by
    rw [World.cell?_alloc_lt _ _ ⟨0, 0, none⟩ hlt]; exact hg
  have n8 := isNilPN ⟨w.heap.size, 0, none⟩ ⟨n, 0, none⟩ ((w.alloc (.cells #[.pointer (some ⟨n, 0, none⟩)] 66)).alloc (.cells #[.pointer (some ⟨4, 66, none⟩), .pointer (some ⟨w.heap.size, 0, none⟩), .int .u64 150] 49)) (by simp)
  have hg2 : ((w.alloc (.cells #[.pointer (some ⟨n, 0, none⟩)] 66)).alloc (.cells #[.pointer (some ⟨4, 66, none⟩), .pointer (some ⟨w.heap.size, 0, none⟩), .int .u64 150] 49)).cell? ⟨0, 0, none⟩ = some (.iface 68 (.agg #[.pointer (some ⟨4, 24, none⟩)])) := by
    rw [World.cell?_alloc_lt _ _ ⟨0, 0, none⟩ (by simp)]; exact hgA
  clear hg hgA
  have el := elemVN ⟨w.heap.size, 0, none⟩ ⟨n, 0, none⟩ (((w.alloc (.cells #[.pointer (some ⟨n, 0, none⟩)] 66)).alloc (.cells #[.pointer (some ⟨4, 66, none⟩), .pointer (some ⟨w.heap.size, 0, none⟩), .int .u64 150] 49)).alloc (.cells #[.pointer (some ⟨4, 66, none⟩), .pointer (some ⟨w.heap.size, 0, none⟩), .int .u64 150] 49)) (by rw [World.cell?_alloc_lt _ _ ⟨w.heap.size, 0, none⟩ (by simp; omega)]; simp)
  have hB3 : Below w.heap.size w (((w.alloc (.cells #[.pointer (some ⟨n, 0, none⟩)] 66)).alloc (.cells #[.pointer (some ⟨4, 66, none⟩), .pointer (some ⟨w.heap.size, 0, none⟩), .int .u64 150] 49)).alloc (.cells #[.pointer (some ⟨4, 66, none⟩), .pointer (some ⟨w.heap.size, 0, none⟩), .int .u64 150] 49)) := (((Below.refl _ w).alloc (Nat.le_refl _) _).alloc (by simp) _).alloc (by simp; omega) _
  have st := setN ⟨n, 0, none⟩ ⟨w.heap.size + 1 + 1 + 1, 0, none⟩ c old ((((w.alloc (.cells #[.pointer (some ⟨n, 0, none⟩)] 66)).alloc (.cells #[.pointer (some ⟨4, 66, none⟩), .pointer (some ⟨w.heap.size, 0, none⟩), .int .u64 150] 49)).alloc (.cells #[.pointer (some ⟨4, 66, none⟩), .pointer (some ⟨w.heap.size, 0, none⟩), .int .u64 150] 49)).alloc (.cells #[.int .i64 c] 26))
    (by rw [World.cell?_alloc_at _ _ _ _ (by simp)]; rfl)
    (by rw [World.cell?_alloc_lt _ _ ⟨n, 0, none⟩ (by simp; omega)]; exact (hB3.cell (p := ⟨n, 0, none⟩) hn0).trans ht0)
    (by rw [World.frozen?_alloc_old _ _ ⟨n, 0, none⟩ (by simp; omega)]; exact (hB3.frozen (p := ⟨n, 0, none⟩) hn0).trans hf0)
  have hv0 : ∃ t u, v0 = .iface t u := by
    cases l0 with
    | nil => exact ⟨_, _, h0⟩
    | cons x l => obtain ⟨b, v', rfl, _⟩ := h0; exact ⟨_, _, rfl⟩
  obtain ⟨t0, u0, rfl⟩ := hv0
  have HB := hide hB3
  have H0 := hide (h0.below hB3)
  clear hB3 h0 ht0 hf0
  go_enter Tryd.func9, Tryd.ntmps9
  go_wp2
  go_loop [0] (fun v => ∃ l, Chain (((w.alloc (.cells #[.pointer (some ⟨n, 0, none⟩)] 66)).alloc (.cells #[.pointer (some ⟨4, 66, none⟩), .pointer (some ⟨w.heap.size, 0, none⟩), .int .u64 150] 49)).alloc (.cells #[.pointer (some ⟨4, 66, none⟩), .pointer (some ⟨w.heap.size, 0, none⟩), .int .u64 150] 49)) c l v ∧ l.length ≤ l0.length) (fun v => cnt (((w.alloc (.cells #[.pointer (some ⟨n, 0, none⟩)] 66)).alloc (.cells #[.pointer (some ⟨4, 66, none⟩), .pointer (some ⟨w.heap.size, 0, none⟩), .int .u64 150] 49)).alloc (.cells #[.pointer (some ⟨4, 66, none⟩), .pointer (some ⟨w.heap.size, 0, none⟩), .int .u64 150] 49)) l0.length v)
  case atStart => exact ⟨l0, unhide H0, Nat.le_refl _⟩
  case round =>
    obtain ⟨l, hch, hle⟩ := hrel
    cases l with
    | nil =>
      obtain rfl : _ = _ := hch
      go_wp2
      go_ret
      exact ⟨rfl, rfl⟩
    | cons x l =>
      have hm := hide (cnt_chain hch hle)
      obtain ⟨b, v', rfl, h2, h3, h4, h5, h6⟩ := hch
      have hn := hide (cnt_chain h6 (n := l0.length) (by simp at hle; omega))
      have hv' : ∃ t u, v' = .iface t u := by
        cases l with
        | nil => exact ⟨_, _, h6⟩
        | cons x l => obtain ⟨b, v', rfl, _⟩ := h6; exact ⟨_, _, rfl⟩
      obtain ⟨t1, u1, rfl⟩ := hv'
      have H6 := hide h6
      clear h6 h3 h4
      go_wp2
      go_round
      case rel => exact ⟨l, unhide H6, by simp at hle; omega⟩
      case measure =>
        show cnt _ l0.length (.iface t1 u1) < cnt _ l0.length (.iface 28 (.pointer (some ⟨b, 0, none⟩)))
        rw [unhide hm, unhide hn]; simp

set_option maxRecDepth 100000 in
set_option maxHeartbeats 4000000 in
/-- errors.As at a Fault, the target a **Fault: that very one. -/
theorem as_fault (p : Addr) (n : Nat) (old : Value) (w : World)
    (hg : w.cell? ⟨0, 0, none⟩ = some (.iface 68 (.agg #[.pointer (some ⟨4, 24, none⟩)]))) (ht0 : w.cell? ⟨n, 0, none⟩ = some old) (hf0 : w.frozen? ⟨n, 0, none⟩ = false) :
    Calls Tryd.prog 9 #[.iface 28 (.pointer (some p)), .iface 30 (.pointer (some ⟨n, 0, none⟩))] w fun e w' => e = .returned (.bool true) ∧ w' = ((((w.alloc (.cells #[.pointer (some ⟨n, 0, none⟩)] 30)).alloc (.cells #[.pointer (some ⟨4, 30, none⟩), .pointer (some ⟨w.heap.size, 0, none⟩), .int .u64 150] 49)).alloc (.cells #[.pointer (some ⟨4, 30, none⟩), .pointer (some ⟨w.heap.size, 0, none⟩), .int .u64 150] 49)).alloc (.cells #[.pointer (some p)] 28)).setCell ⟨n, 0, none⟩ (.pointer (some p)) := by
  have h6 := @run_callFunc_extern Tryd.prog 17 _ valueEntry Tryd.func17 (by kernel_rfl) (by kernel_rfl) (by kernel_rfl) (by kernel_rfl)
  have h7 := @run_callFunc_extern Tryd.prog 18 _ typeEntry Tryd.func18 (by kernel_rfl) (by kernel_rfl) (by kernel_rfl) (by kernel_rfl)
  have h8 := @run_callFunc_extern Tryd.prog 19 _ isNilEntry Tryd.func19 (by kernel_rfl) (by kernel_rfl) (by kernel_rfl) (by kernel_rfl)
  have h27 := @run_callFunc_extern Tryd.prog 44 _ kindEntry Tryd.func44 (by kernel_rfl) (by kernel_rfl) (by kernel_rfl) (by kernel_rfl)
  have h37 := @run_callFunc_extern Tryd.prog 76 _ tElemEntry Tryd.func76 (by kernel_rfl) (by kernel_rfl) (by kernel_rfl) (by kernel_rfl)
  have h38 := @run_callFunc_extern Tryd.prog 77 _ implEntry Tryd.func77 (by kernel_rfl) (by kernel_rfl) (by kernel_rfl) (by kernel_rfl)
  have h10 := @run_callFunc_extern Tryd.prog 22 _ ReflectliteType.typeOf Tryd.func22 (by kernel_rfl) (by kernel_rfl) (by kernel_rfl) (by kernel_rfl)
  have h35 := @run_callFunc_extern Tryd.prog 74 _ assignEntry Tryd.func74 (by kernel_rfl) (by kernel_rfl) (by kernel_rfl) (by kernel_rfl)
  have h11 := @run_callFunc_extern Tryd.prog 25 _ elemEntry Tryd.func25 (by kernel_rfl) (by kernel_rfl) (by kernel_rfl) (by kernel_rfl)
  have h12 := @run_callFunc_extern Tryd.prog 26 _ setEntry Tryd.func26 (by kernel_rfl) (by kernel_rfl) (by kernel_rfl) (by kernel_rfl)
  have tE := typeOfE
  have tF := typeOfF
  have mK := methodKind
  have mE := methodElem
  have mI := methodImplements
  have mA := methodAssignableTo
  have aE := assignEF
  have aF := assignFF
  have v25 := valueOfEF
  have f6 := valueOfPF
  have f7 := typePF
  have k27 := kindPF
  have k25 := kindEF
  have e27 := elemTF
  have i25 := implF
  have nAF := noAsF
  have nAE := noAsE
  have uE := noUnwrapE
  have vE := noUnwrapsE
  have uF := hasUnwrapF
  have mU := methodUnwrapF
  have hn0 : n < w.heap.size := by
    rcases Nat.lt_or_ge n w.heap.size with h | h
    · exact h
    · simp [World.cell?, Array.getElem?_eq_none h] at ht0
  have hlt : 0 < w.heap.size := by omega
  have hgA : (w.alloc (.cells #[.pointer (some ⟨n, 0, none⟩)] 30)).cell? ⟨0, 0, none⟩ = some (.iface 68 (.agg #[.pointer (some ⟨4, 24, none⟩)])) := by
    rw [World.cell?_alloc_lt _ _ ⟨0, 0, none⟩ hlt]; exact hg
  have n8 := isNilPF ⟨w.heap.size, 0, none⟩ ⟨n, 0, none⟩ ((w.alloc (.cells #[.pointer (some ⟨n, 0, none⟩)] 30)).alloc (.cells #[.pointer (some ⟨4, 30, none⟩), .pointer (some ⟨w.heap.size, 0, none⟩), .int .u64 150] 49)) (by simp)
  have hg2 : ((w.alloc (.cells #[.pointer (some ⟨n, 0, none⟩)] 30)).alloc (.cells #[.pointer (some ⟨4, 30, none⟩), .pointer (some ⟨w.heap.size, 0, none⟩), .int .u64 150] 49)).cell? ⟨0, 0, none⟩ = some (.iface 68 (.agg #[.pointer (some ⟨4, 24, none⟩)])) := by
    rw [World.cell?_alloc_lt _ _ ⟨0, 0, none⟩ (by simp)]; exact hgA
  clear hg hgA
  have el := elemVF ⟨w.heap.size, 0, none⟩ ⟨n, 0, none⟩ (((w.alloc (.cells #[.pointer (some ⟨n, 0, none⟩)] 30)).alloc (.cells #[.pointer (some ⟨4, 30, none⟩), .pointer (some ⟨w.heap.size, 0, none⟩), .int .u64 150] 49)).alloc (.cells #[.pointer (some ⟨4, 30, none⟩), .pointer (some ⟨w.heap.size, 0, none⟩), .int .u64 150] 49)) (by rw [World.cell?_alloc_lt _ _ ⟨w.heap.size, 0, none⟩ (by simp; omega)]; simp)
  have hB3 : Below w.heap.size w (((w.alloc (.cells #[.pointer (some ⟨n, 0, none⟩)] 30)).alloc (.cells #[.pointer (some ⟨4, 30, none⟩), .pointer (some ⟨w.heap.size, 0, none⟩), .int .u64 150] 49)).alloc (.cells #[.pointer (some ⟨4, 30, none⟩), .pointer (some ⟨w.heap.size, 0, none⟩), .int .u64 150] 49)) := (((Below.refl _ w).alloc (Nat.le_refl _) _).alloc (by simp) _).alloc (by simp; omega) _
  have st := setF ⟨n, 0, none⟩ ⟨w.heap.size + 1 + 1 + 1, 0, none⟩ p old ((((w.alloc (.cells #[.pointer (some ⟨n, 0, none⟩)] 30)).alloc (.cells #[.pointer (some ⟨4, 30, none⟩), .pointer (some ⟨w.heap.size, 0, none⟩), .int .u64 150] 49)).alloc (.cells #[.pointer (some ⟨4, 30, none⟩), .pointer (some ⟨w.heap.size, 0, none⟩), .int .u64 150] 49)).alloc (.cells #[.pointer (some p)] 28))
    (by rw [World.cell?_alloc_at _ _ _ _ (by simp)]; rfl)
    (by rw [World.cell?_alloc_lt _ _ ⟨n, 0, none⟩ (by simp; omega)]; exact (hB3.cell (p := ⟨n, 0, none⟩) hn0).trans ht0)
    (by rw [World.frozen?_alloc_old _ _ ⟨n, 0, none⟩ (by simp; omega)]; exact (hB3.frozen (p := ⟨n, 0, none⟩) hn0).trans hf0)
  clear hB3 ht0 hf0
  go_enter Tryd.func9, Tryd.ntmps9
  go_wp2
  refine wp_loop_rounds 1 ?_
  rw [rounds_succ]
  go_wp2
  go_ret
  exact ⟨rfl, rfl⟩

set_option maxRecDepth 100000 in
set_option maxHeartbeats 4000000 in
/-- errors.As at a bare number, the target a **Fault: false. -/
theorem as_fault_no (c : Int) (n : Nat) (old : Value) (w : World)
    (hg : w.cell? ⟨0, 0, none⟩ = some (.iface 68 (.agg #[.pointer (some ⟨4, 24, none⟩)]))) (ht0 : w.cell? ⟨n, 0, none⟩ = some old) :
    Calls Tryd.prog 9 #[.iface 26 (.int .i64 c), .iface 30 (.pointer (some ⟨n, 0, none⟩))] w fun e w' => e = .returned (.bool false) ∧ w' = (((w.alloc (.cells #[.pointer (some ⟨n, 0, none⟩)] 30)).alloc (.cells #[.pointer (some ⟨4, 30, none⟩), .pointer (some ⟨w.heap.size, 0, none⟩), .int .u64 150] 49)).alloc (.cells #[.pointer (some ⟨4, 30, none⟩), .pointer (some ⟨w.heap.size, 0, none⟩), .int .u64 150] 49)) := by
  have h6 := @run_callFunc_extern Tryd.prog 17 _ valueEntry Tryd.func17 (by kernel_rfl) (by kernel_rfl) (by kernel_rfl) (by kernel_rfl)
  have h7 := @run_callFunc_extern Tryd.prog 18 _ typeEntry Tryd.func18 (by kernel_rfl) (by kernel_rfl) (by kernel_rfl) (by kernel_rfl)
  have h8 := @run_callFunc_extern Tryd.prog 19 _ isNilEntry Tryd.func19 (by kernel_rfl) (by kernel_rfl) (by kernel_rfl) (by kernel_rfl)
  have h27 := @run_callFunc_extern Tryd.prog 44 _ kindEntry Tryd.func44 (by kernel_rfl) (by kernel_rfl) (by kernel_rfl) (by kernel_rfl)
  have h37 := @run_callFunc_extern Tryd.prog 76 _ tElemEntry Tryd.func76 (by kernel_rfl) (by kernel_rfl) (by kernel_rfl) (by kernel_rfl)
  have h38 := @run_callFunc_extern Tryd.prog 77 _ implEntry Tryd.func77 (by kernel_rfl) (by kernel_rfl) (by kernel_rfl) (by kernel_rfl)
  have h10 := @run_callFunc_extern Tryd.prog 22 _ ReflectliteType.typeOf Tryd.func22 (by kernel_rfl) (by kernel_rfl) (by kernel_rfl) (by kernel_rfl)
  have h35 := @run_callFunc_extern Tryd.prog 74 _ assignEntry Tryd.func74 (by kernel_rfl) (by kernel_rfl) (by kernel_rfl) (by kernel_rfl)
  have h11 := @run_callFunc_extern Tryd.prog 25 _ elemEntry Tryd.func25 (by kernel_rfl) (by kernel_rfl) (by kernel_rfl) (by kernel_rfl)
  have h12 := @run_callFunc_extern Tryd.prog 26 _ setEntry Tryd.func26 (by kernel_rfl) (by kernel_rfl) (by kernel_rfl) (by kernel_rfl)
  have tE := typeOfE
  have tF := typeOfF
  have mK := methodKind
  have mE := methodElem
  have mI := methodImplements
  have mA := methodAssignableTo
  have aE := assignEF
  have aF := assignFF
  have v25 := valueOfEF
  have f6 := valueOfPF
  have f7 := typePF
  have k27 := kindPF
  have k25 := kindEF
  have e27 := elemTF
  have i25 := implF
  have nAF := noAsF
  have nAE := noAsE
  have uE := noUnwrapE
  have vE := noUnwrapsE
  have uF := hasUnwrapF
  have mU := methodUnwrapF
  have hn0 : n < w.heap.size := by
    rcases Nat.lt_or_ge n w.heap.size with h | h
    · exact h
    · simp [World.cell?, Array.getElem?_eq_none h] at ht0
  have hlt : 0 < w.heap.size := by omega
  have hgA : (w.alloc (.cells #[.pointer (some ⟨n, 0, none⟩)] 30)).cell? ⟨0, 0, none⟩ = some (.iface 68 (.agg #[.pointer (some ⟨4, 24, none⟩)])) := by
    rw [World.cell?_alloc_lt _ _ ⟨0, 0, none⟩ hlt]; exact hg
  have n8 := isNilPF ⟨w.heap.size, 0, none⟩ ⟨n, 0, none⟩ ((w.alloc (.cells #[.pointer (some ⟨n, 0, none⟩)] 30)).alloc (.cells #[.pointer (some ⟨4, 30, none⟩), .pointer (some ⟨w.heap.size, 0, none⟩), .int .u64 150] 49)) (by simp)
  have hg2 : ((w.alloc (.cells #[.pointer (some ⟨n, 0, none⟩)] 30)).alloc (.cells #[.pointer (some ⟨4, 30, none⟩), .pointer (some ⟨w.heap.size, 0, none⟩), .int .u64 150] 49)).cell? ⟨0, 0, none⟩ = some (.iface 68 (.agg #[.pointer (some ⟨4, 24, none⟩)])) := by
    rw [World.cell?_alloc_lt _ _ ⟨0, 0, none⟩ (by simp)]; exact hgA
  clear hg hgA
  have el := elemVF ⟨w.heap.size, 0, none⟩ ⟨n, 0, none⟩ (((w.alloc (.cells #[.pointer (some ⟨n, 0, none⟩)] 30)).alloc (.cells #[.pointer (some ⟨4, 30, none⟩), .pointer (some ⟨w.heap.size, 0, none⟩), .int .u64 150] 49)).alloc (.cells #[.pointer (some ⟨4, 30, none⟩), .pointer (some ⟨w.heap.size, 0, none⟩), .int .u64 150] 49)) (by rw [World.cell?_alloc_lt _ _ ⟨w.heap.size, 0, none⟩ (by simp; omega)]; simp)
  have hB3 : Below w.heap.size w (((w.alloc (.cells #[.pointer (some ⟨n, 0, none⟩)] 30)).alloc (.cells #[.pointer (some ⟨4, 30, none⟩), .pointer (some ⟨w.heap.size, 0, none⟩), .int .u64 150] 49)).alloc (.cells #[.pointer (some ⟨4, 30, none⟩), .pointer (some ⟨w.heap.size, 0, none⟩), .int .u64 150] 49)) := (((Below.refl _ w).alloc (Nat.le_refl _) _).alloc (by simp) _).alloc (by simp; omega) _
  clear hB3 ht0
  go_enter Tryd.func9, Tryd.ntmps9
  go_wp2
  refine wp_loop_rounds 1 ?_
  rw [rounds_succ]
  go_wp2
  go_ret
  exact ⟨rfl, rfl⟩

/-- errors.As at nil. -/
theorem as_nil (t : Value) (w : World) :
    Calls Tryd.prog 9 #[.nilIface, t] w fun e w' => e = .returned (.bool false) ∧ w' = w := by
  go_enter Tryd.func9, Tryd.ntmps9
  go_wp2
  go_ret
  exact ⟨rfl, rfl⟩
end Go.Proofs.YtlfmlbkpkkegpaaDoor.Con
