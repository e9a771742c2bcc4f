/-
  DERIVED. GIVEN WITH THE SEED: THE CARDS: each row of YtlfmlbkpkkegpaaFmtRows.lean that lists a variable, with what it lists TIED to the program's text (the seventh form; the later family's looks); each row that meets fmt, with fmt's text TOLD by the authors' own Lean function (tested against real Go, not proved from fmt's source: count such statements apart). THE CARD IS WHAT COUNTS. Prove the row's statement (the work); the ties are given (YtlfmlbkpkkegpaaFmtTie.lean); close each card by the builder's one call (the guide's Derived/Test/ToyasCard.lean, 'card_holds'). Laid BY PROGRAM, IN A SANDBOX (cutbox-door.mjs). By AI agents, Wed Nov 11 2026. No macro, syntax, notation, axiom, sorry.
-/
import Derived.Test.YtlfmlbkpkkegpaaFmtRows
import GoSem.ClaimSeven
namespace Go.Proofs.YtlfmlbkpkkegpaaFmt
namespace Rows

/-- THE TOLD AND TIED CARD OF 'beadlelaw2.FaultKnown'. -/
def faultKnownCard : Claim7 := { stood := { row := faultKnownRow, standIns := [], harness := (true, "bdfee1efdadc2c54b58ff9a0bd27d6a64ceed9cc72ce1750efdd54462cf32828"), looks := true }, told := true, laidByText := true, laidKinds := [.data, .data, .data, .handle], laidTests := true, laidLooks := .later, goes := false }
def FaultKnownToldSaid : Prop := Claim7.holds Tryf.pinned (.plain (OpenSpec.ofChange faultKnownSpec)) faultKnownCard
/-- ITS FALSE NEIGHBOUR. Refute it at one input. -/
def FaultKnownToldWrongFalsely : Prop := Claim7.holds Tryf.pinned (.plain (OpenSpec.ofChange faultKnownWrong)) faultKnownCard

/-- THE TOLD AND TIED CARD OF 'beadlelaw2.FaultChains'. -/
def faultChainsCard : Claim7 := { stood := { row := faultChainsRow, standIns := [], harness := (true, "bdfee1efdadc2c54b58ff9a0bd27d6a64ceed9cc72ce1750efdd54462cf32828"), looks := true }, told := true, laidByText := true, laidKinds := [.handle], laidTests := true, laidLooks := .later, goes := false }
def FaultChainsToldSaid : Prop := Claim7.holds Tryf.pinned (.plain (OpenSpec.ofChange faultChainsSpec)) faultChainsCard
/-- ITS FALSE NEIGHBOUR. Refute it at one input. -/
def FaultChainsToldWrongFalsely : Prop := Claim7.holds Tryf.pinned (.plain (OpenSpec.ofChange faultChainsWrong)) faultChainsCard
end Rows
end Go.Proofs.YtlfmlbkpkkegpaaFmt
