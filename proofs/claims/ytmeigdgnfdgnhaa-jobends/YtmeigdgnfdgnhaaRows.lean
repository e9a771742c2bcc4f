/-
  No cell of these rows narrows 'for every input' (looked for: loops, veiled, ifaces, maps, wideKeys, modest, calm, conditions, laid).
  DERIVED. THE GIVEN ROWS OF THIS SEAT. 3 by the template 'for every input the law returns true; each argument reads behind the call as it read before'; 0 by the template 'total and deterministic' (their statements: YtmeigdgnfdgnhaaTotals.lean).
  GIVEN WITH THE SEED: the statements are not yours to turn. If you find one false, say at which input.
  Laid BY PROGRAM, IN A SANDBOX (cutbox-rows.mjs): the forced cells as the released guide's own fill.sh prints them over the translation b911d8bf4c1286b4… (all of the seat's roots in one cut). By AI agents, Wed Nov 11 2026. No macro, syntax, notation, axiom, sorry.
-/
import Derived.Test.YtmeigdgnfdgnhaaChecked
import GoSem.Claim
import GoSem.ClaimJoined
import GoSem.ClaimMapViews
import Derived.JoinedTies
import Derived.KernelRfl
namespace Go.Proofs.Ytmeigdgnfdgnhaa
/- THE CELL 'sum', in the pinned program and in every row, IS THE sha256 OF THE DUMP (.gsa) THAT YtmeigdgnfdgnhaaProg.lean LOADS. Nothing in Lean hashes anything: it is a label: what it is worth is what the hold of that sum in a sandbox is worth. -/
noncomputable def Try.pinned : Pinned := { name := "ytmeigdgnfdgnhaa", sum := "b911d8bf4c1286b4a74d8905412a3b6fbe16d11cc3db7cc3689bf8c08c3f1b7d", checked := Try.checked }
namespace Rows
def none {H : Type} : Left H := { results := [], args := [] }

/-- 'beadlelaw11.JobKnown': WHATEVER THE INPUT: true; the input reads as it did. -/
def jobKnownSpec : ChangeSpec := { name := "jobKnown", fn := fun _ => fun
  | [] => { results := [.lit (.bool true)], args := [] }
  | _ => none }
def jobKnownRow : OpenClaim := { program := "ytmeigdgnfdgnhaa", sum := "b911d8bf4c1286b4a74d8905412a3b6fbe16d11cc3db7cc3689bf8c08c3f1b7d", func := "beadle/beadlelaw11.JobKnown", spec := "jobKnown", apart := false }
def JobKnownSaid : Prop := jobKnownRow.holds Try.pinned (OpenSpec.ofChange jobKnownSpec)

/-- ITS FALSE NEIGHBOUR: 'it returns false'. Refute it at one input. -/
def jobKnownWrong : ChangeSpec := { name := "jobKnown", fn := fun _ => fun
  | [] => { results := [.lit (.bool false)], args := [] }
  | _ => none }
def JobKnownWrongFalsely : Prop := jobKnownRow.holds Try.pinned (OpenSpec.ofChange jobKnownWrong)

/-- 'beadlelaw11.JobEnds': WHATEVER THE INPUT: true; the input reads as it did. -/
def jobEndsSpec : ChangeSpec := { name := "jobEnds", fn := fun _ => fun
  | [d1, d2] => { results := [.lit (.bool true)], args := [d1, d2] }
  | _ => none }
def jobEndsRow : OpenClaim := { program := "ytmeigdgnfdgnhaa", sum := "b911d8bf4c1286b4a74d8905412a3b6fbe16d11cc3db7cc3689bf8c08c3f1b7d", func := "beadle/beadlelaw11.JobEnds", spec := "jobEnds", apart := false }
def JobEndsSaid : Prop := jobEndsRow.holds Try.pinned (OpenSpec.ofChange jobEndsSpec)

/-- ITS FALSE NEIGHBOUR: 'it returns false'. Refute it at one input. -/
def jobEndsWrong : ChangeSpec := { name := "jobEnds", fn := fun _ => fun
  | [d1, d2] => { results := [.lit (.bool false)], args := [d1, d2] }
  | _ => none }
def JobEndsWrongFalsely : Prop := jobEndsRow.holds Try.pinned (OpenSpec.ofChange jobEndsWrong)

/-- 'beadlelaw11.JobParts': WHATEVER THE INPUT: true; the input reads as it did. -/
def jobPartsSpec : ChangeSpec := { name := "jobParts", fn := fun _ => fun
  | [d1, d2, d3, d4] => { results := [.lit (.bool true)], args := [d1, d2, d3, d4] }
  | _ => none }
def jobPartsRow : OpenClaim := { program := "ytmeigdgnfdgnhaa", sum := "b911d8bf4c1286b4a74d8905412a3b6fbe16d11cc3db7cc3689bf8c08c3f1b7d", func := "beadle/beadlelaw11.JobParts", spec := "jobParts", apart := false }
def JobPartsSaid : Prop := jobPartsRow.holds Try.pinned (OpenSpec.ofChange jobPartsSpec)

/-- ITS FALSE NEIGHBOUR: 'it returns false'. Refute it at one input. -/
def jobPartsWrong : ChangeSpec := { name := "jobParts", fn := fun _ => fun
  | [d1, d2, d3, d4] => { results := [.lit (.bool false)], args := [d1, d2, d3, d4] }
  | _ => none }
def JobPartsWrongFalsely : Prop := jobPartsRow.holds Try.pinned (OpenSpec.ofChange jobPartsWrong)

/- THE SECOND FORM. 'bulk': how many values and letters a reading holds, each counted each time it is reached (what is shared counts as often as it is met; a slice's spare places count too). A statement '..UptoSaid' is the law's where the arguments, and the package variables that the reading takes, are together of bulk at most 1048576: NARROWER than '..Said'. Prove '..Said' where nothing that the law and all that it calls make is longer than what came in: it says more and counts as full. Else prove '..UptoSaid'. A law counts once. -/
mutual
def uptoBulk {H : Type} : DataW H → Nat
  | .lit (.string bytes) => bytes.length + 1
  | .lit _ => 1
  | .nil => 1
  | .ptr d => uptoBulk d + 1
  | .slice elems spare => uptoBulkAll elems + uptoBulkAll spare + 1
  | .agg parts => uptoBulkAll parts + 1
  | .iface _ d => uptoBulk d + 1
  | .map entries => uptoBulkEntries entries + 1
  | .held _ => 1
def uptoBulkAll {H : Type} : List (DataW H) → Nat
  | [] => 0
  | d :: r => uptoBulk d + uptoBulkAll r
def uptoBulkEntries {H : Type} : List (Lit × DataW H) → Nat
  | [] => 0
  | x :: r => uptoBulkEntry x + uptoBulkEntries r
def uptoBulkEntry {H : Type} : Lit × DataW H → Nat
  | (.string bytes, d) => bytes.length + uptoBulk d + 1
  | (_, d) => uptoBulk d + 1
 end
def uptoSmall : (H : Type) → List (DataW H) → Bool := fun _ ds => decide (uptoBulkAll ds ≤ 1048576)
def OpenSpec.upto (s : _root_.Go.ChangeSpec) : _root_.Go.OpenSpec := { _root_.Go.OpenSpec.ofChange s with cond := some uptoSmall }

/-- 'beadlelaw11.JobKnown', WHERE WHAT IT READS IS OF BULK AT MOST 1048576: true; the input reads as it did. -/
def jobKnownUptoRow : OpenClaim := { program := "ytmeigdgnfdgnhaa", sum := "b911d8bf4c1286b4a74d8905412a3b6fbe16d11cc3db7cc3689bf8c08c3f1b7d", func := "beadle/beadlelaw11.JobKnown", spec := "jobKnown", apart := false, narrowed := true }
def JobKnownUptoSaid : Prop := jobKnownUptoRow.holds Try.pinned (OpenSpec.upto jobKnownSpec)

/-- 'beadlelaw11.JobEnds', WHERE WHAT IT READS IS OF BULK AT MOST 1048576: true; the input reads as it did. -/
def jobEndsUptoRow : OpenClaim := { program := "ytmeigdgnfdgnhaa", sum := "b911d8bf4c1286b4a74d8905412a3b6fbe16d11cc3db7cc3689bf8c08c3f1b7d", func := "beadle/beadlelaw11.JobEnds", spec := "jobEnds", apart := false, narrowed := true }
def JobEndsUptoSaid : Prop := jobEndsUptoRow.holds Try.pinned (OpenSpec.upto jobEndsSpec)

/-- 'beadlelaw11.JobParts', WHERE WHAT IT READS IS OF BULK AT MOST 1048576: true; the input reads as it did. -/
def jobPartsUptoRow : OpenClaim := { program := "ytmeigdgnfdgnhaa", sum := "b911d8bf4c1286b4a74d8905412a3b6fbe16d11cc3db7cc3689bf8c08c3f1b7d", func := "beadle/beadlelaw11.JobParts", spec := "jobParts", apart := false, narrowed := true }
def JobPartsUptoSaid : Prop := jobPartsUptoRow.holds Try.pinned (OpenSpec.upto jobPartsSpec)

end Rows
end Go.Proofs.Ytmeigdgnfdgnhaa
