/-
  DERIVED. GIVEN WITH THE SEED: THE CARDS: each row of YtahkmpbgenpecaaDoorRows.lean that lists a variable, with what it lists TIED to the program's text (the seventh form; the later family's looks); each row that meets fmt, with fmt's text TOLD by the authors' own Lean function (tested against real Go, not proved from fmt's source: count such statements apart). THE CARD IS WHAT COUNTS. Prove the row's statement (the work); the ties are given (YtahkmpbgenpecaaDoorTie.lean); close each card by the builder's one call (the guide's Derived/Test/ToyasCard.lean, 'card_holds'). Laid BY PROGRAM, IN A SANDBOX (cutbox-door.mjs). By AI agents, Wed Nov 11 2026. No macro, syntax, notation, axiom, sorry.
-/
import Derived.Test.YtahkmpbgenpecaaDoorRows
import GoSem.ClaimSeven
namespace Go.Proofs.YtahkmpbgenpecaaDoor
namespace Rows

/-- THE TIED CARD OF 'beadlelaw16.SeatKnown'. -/
def seatKnownCard : Claim7 := { stood := { row := seatKnownRow, standIns := [], harness := (true, "aa32d568da3981161c84dc81fc8703431fa05ad97426be85b38f18f8ec1b6ee7"), looks := false }, kinds := [], alts := [], laidByText := true, laidKinds := [.data], laidTests := true, laidLooks := .later }
def SeatKnownCardSaid : Prop := Claim7.holds Tryd.pinned (.plain (OpenSpec.ofChange seatKnownSpec)) seatKnownCard

/-- THE TIED CARD OF 'beadlelaw16.SeatKeeps'. -/
def seatKeepsCard : Claim7 := { stood := { row := seatKeepsRow, standIns := [], harness := (true, "aa32d568da3981161c84dc81fc8703431fa05ad97426be85b38f18f8ec1b6ee7"), looks := false }, kinds := [], alts := [], laidByText := true, laidKinds := [.data], laidTests := true, laidLooks := .later }
def SeatKeepsCardSaid : Prop := Claim7.holds Tryd.pinned (.plain (OpenSpec.ofChange seatKeepsSpec)) seatKeepsCard

/-- THE TIED CARD OF 'beadlelaw16.SeatSwaps'. -/
def seatSwapsCard : Claim7 := { stood := { row := seatSwapsRow, standIns := [], harness := (true, "aa32d568da3981161c84dc81fc8703431fa05ad97426be85b38f18f8ec1b6ee7"), looks := false }, kinds := [], alts := [], laidByText := true, laidKinds := [.data], laidTests := true, laidLooks := .later }
def SeatSwapsCardSaid : Prop := Claim7.holds Tryd.pinned (.plain (OpenSpec.ofChange seatSwapsSpec)) seatSwapsCard

/-- THE TIED CARD OF 'beadlelaw16.SeatFree'. -/
def seatFreeCard : Claim7 := { stood := { row := seatFreeRow, standIns := [], harness := (true, "aa32d568da3981161c84dc81fc8703431fa05ad97426be85b38f18f8ec1b6ee7"), looks := false }, kinds := [], alts := [], laidByText := true, laidKinds := [.data], laidTests := true, laidLooks := .later }
def SeatFreeCardSaid : Prop := Claim7.holds Tryd.pinned (.plain (OpenSpec.ofChange seatFreeSpec)) seatFreeCard

/-- THE SECOND FORM's CARD OF 'beadlelaw16.SeatKnown'. -/
def seatKnownUptoCard : Claim7 := { stood := { row := seatKnownUptoRow, standIns := [], harness := (true, "aa32d568da3981161c84dc81fc8703431fa05ad97426be85b38f18f8ec1b6ee7"), looks := false }, kinds := [], alts := [], laidByText := true, laidKinds := [.data], laidTests := true, laidLooks := .later }
def SeatKnownUptoCardSaid : Prop := Claim7.holds Tryd.pinned (.plain (OpenSpec.upto seatKnownSpec)) seatKnownUptoCard

/-- THE SECOND FORM's CARD OF 'beadlelaw16.SeatKeeps'. -/
def seatKeepsUptoCard : Claim7 := { stood := { row := seatKeepsUptoRow, standIns := [], harness := (true, "aa32d568da3981161c84dc81fc8703431fa05ad97426be85b38f18f8ec1b6ee7"), looks := false }, kinds := [], alts := [], laidByText := true, laidKinds := [.data], laidTests := true, laidLooks := .later }
def SeatKeepsUptoCardSaid : Prop := Claim7.holds Tryd.pinned (.plain (OpenSpec.upto seatKeepsSpec)) seatKeepsUptoCard

/-- THE SECOND FORM's CARD OF 'beadlelaw16.SeatSwaps'. -/
def seatSwapsUptoCard : Claim7 := { stood := { row := seatSwapsUptoRow, standIns := [], harness := (true, "aa32d568da3981161c84dc81fc8703431fa05ad97426be85b38f18f8ec1b6ee7"), looks := false }, kinds := [], alts := [], laidByText := true, laidKinds := [.data], laidTests := true, laidLooks := .later }
def SeatSwapsUptoCardSaid : Prop := Claim7.holds Tryd.pinned (.plain (OpenSpec.upto seatSwapsSpec)) seatSwapsUptoCard

/-- THE SECOND FORM's CARD OF 'beadlelaw16.SeatFree'. -/
def seatFreeUptoCard : Claim7 := { stood := { row := seatFreeUptoRow, standIns := [], harness := (true, "aa32d568da3981161c84dc81fc8703431fa05ad97426be85b38f18f8ec1b6ee7"), looks := false }, kinds := [], alts := [], laidByText := true, laidKinds := [.data], laidTests := true, laidLooks := .later }
def SeatFreeUptoCardSaid : Prop := Claim7.holds Tryd.pinned (.plain (OpenSpec.upto seatFreeSpec)) seatFreeUptoCard
end Rows
end Go.Proofs.YtahkmpbgenpecaaDoor
