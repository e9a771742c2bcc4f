/- The closed facts on fmt.errorf at this program: the format "more: %w" with one Fault. -/
import Derived.Test.YtlfmlbkpkkegpaaFmtRows
import Derived.WalkKit
import Derived.Stop.CallBack
import Derived.Stop.IfaceNil
namespace Go.Proofs.YtlfmlbkpkkegpaaFmt.Con
open Go.RowKit Go.Extern.Stop Go.Stop Go.Extern
set_option linter.unusedVariables false
theorem callErrorf (args : Array Value) (w : World) : (callFunc 20 args).run Tryf.prog w = (FmtCalls.errorf #[9, 51] #[24] args).run Tryf.prog w :=
  run_callFunc_next Tryf.func20 (by kernel_rfl) (by kernel_rfl) (by kernel_rfl) args w
theorem fmtGuard (name : String) (w : World) : (FmtStop.guard name).run Tryf.prog w = .ok () w := by kernel_rfl
theorem nextTurns : Extern.next FmtCalls.turnsRow = some (FmtCalls.begun #[] #[]) := by kernel_rfl
theorem nextReturned : Extern.next FmtCalls.returnedRow = some (FmtCalls.returned #[] #[]) := by kernel_rfl
theorem fmt0 : FmtStop.printed? ⟨#[109, 111, 114, 101, 58, 32, 37, 119]⟩ 1 = some [(0, 119, false)] := by kernel_rfl
theorem fmt0r (w : World) : (FmtDoors.printed ⟨#[109, 111, 114, 101, 58, 32, 37, 119]⟩ 1).run Tryf.prog w = .ok [(0, 119, false)] w := by kernel_rfl
theorem actF (name : String) (x : Value) (w : World) : (FmtCalls.act name true 119 false (.iface 32 x)).run Tryf.prog w = .ok (.call true) w := by kernel_rfl
theorem actF118 (name : String) (x : Value) (w : World) : (FmtCalls.act name true 118 false (.iface 32 x)).run Tryf.prog w = .ok (.call true) w := by kernel_rfl
theorem isErrorF (w : World) : (FmtDoors.textMethod 32 "Error").run Tryf.prog w = .ok true w := by kernel_rfl
theorem invokeErrorF (x : Value) (w : World) : (invoke (.fn (.method "Error") #[]) #[.iface 32 x]).run Tryf.prog w = .ok (.enter 17 #[x]) w := by kernel_rfl
theorem strF (w : World) : (typeStr 32).run Tryf.prog w = .ok "*fault.Fault" w := by kernel_rfl
theorem ptrW (w : World) : (FmtStop.ptrTo "fmt.wrapError").run Tryf.prog w = .ok 52 w := by kernel_rfl
theorem elemW (w : World) : (elemOf 52).run Tryf.prog w = .ok 133 w := by kernel_rfl
end Go.Proofs.YtlfmlbkpkkegpaaFmt.Con
