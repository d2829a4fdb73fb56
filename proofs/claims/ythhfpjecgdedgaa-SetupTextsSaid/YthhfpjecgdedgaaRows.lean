/-
  No cell of these rows narrows 'for every input' (looked for: loops, veiled, ifaces, maps, wideKeys, modest, calm, conditions, laid).
  DERIVED. THE GIVEN ROWS OF THIS SEAT. 5 by the template 'for every input the law returns true; each argument reads behind the call as it read before'; 0 by the template 'total and deterministic' (their statements: YthhfpjecgdedgaaTotals.lean).
  GIVEN WITH THE SEED: the statements are not yours to turn. If you find one false, say at which input.
  Laid BY PROGRAM, IN A SANDBOX (cutbox-rows.mjs): the forced cells as the released guide's own fill.sh prints them over the translation 12749c25062fbd82… (all of the seat's roots in one cut). By AI agents, Wed Nov 11 2026. No macro, syntax, notation, axiom, sorry.
-/
import Derived.Test.YthhfpjecgdedgaaChecked
import GoSem.Claim
import GoSem.ClaimJoined
import GoSem.ClaimMapViews
import Derived.JoinedTies
import Derived.KernelRfl
namespace Go.Proofs.Ythhfpjecgdedgaa
/- THE CELL 'sum', in the pinned program and in every row, IS THE sha256 OF THE DUMP (.gsa) THAT YthhfpjecgdedgaaProg.lean LOADS. Nothing in Lean hashes anything: it is a label: what it is worth is what the hold of that sum in a sandbox is worth. -/
noncomputable def Try.pinned : Pinned := { name := "ythhfpjecgdedgaa", sum := "12749c25062fbd82acf90b610753a8d65bae72a9dc8d42e9cb62f9a553775531", checked := Try.checked }
namespace Rows
def none {H : Type} : Left H := { results := [], args := [] }

/-- 'quidnunclaw13.SetupChecks': WHATEVER THE INPUT: true; the input reads as it did. -/
def setupChecksSpec : ChangeSpec := { name := "setupChecks", fn := fun _ => fun
  | [d] => { results := [.lit (.bool true)], args := [d] }
  | _ => none }
def setupChecksRow : OpenClaim := { program := "ythhfpjecgdedgaa", sum := "12749c25062fbd82acf90b610753a8d65bae72a9dc8d42e9cb62f9a553775531", func := "quidnunc/quidnunclaw13.SetupChecks", spec := "setupChecks", apart := false }
def SetupChecksSaid : Prop := setupChecksRow.holds Try.pinned (OpenSpec.ofChange setupChecksSpec)

/-- ITS FALSE NEIGHBOUR: 'it returns false'. Refute it at one input. -/
def setupChecksWrong : ChangeSpec := { name := "setupChecks", fn := fun _ => fun
  | [d] => { results := [.lit (.bool false)], args := [d] }
  | _ => none }
def SetupChecksWrongFalsely : Prop := setupChecksRow.holds Try.pinned (OpenSpec.ofChange setupChecksWrong)

/-- 'quidnunclaw13.SetupTexts': WHATEVER THE INPUT: true; the input reads as it did. -/
def setupTextsSpec : ChangeSpec := { name := "setupTexts", fn := fun _ => fun
  | [d] => { results := [.lit (.bool true)], args := [d] }
  | _ => none }
def setupTextsRow : OpenClaim := { program := "ythhfpjecgdedgaa", sum := "12749c25062fbd82acf90b610753a8d65bae72a9dc8d42e9cb62f9a553775531", func := "quidnunc/quidnunclaw13.SetupTexts", spec := "setupTexts", apart := false }
def SetupTextsSaid : Prop := setupTextsRow.holds Try.pinned (OpenSpec.ofChange setupTextsSpec)

/-- ITS FALSE NEIGHBOUR: 'it returns false'. Refute it at one input. -/
def setupTextsWrong : ChangeSpec := { name := "setupTexts", fn := fun _ => fun
  | [d] => { results := [.lit (.bool false)], args := [d] }
  | _ => none }
def SetupTextsWrongFalsely : Prop := setupTextsRow.holds Try.pinned (OpenSpec.ofChange setupTextsWrong)

/-- 'quidnunclaw13.SetupReads': WHATEVER THE INPUT: true; the input reads as it did. -/
def setupReadsSpec : ChangeSpec := { name := "setupReads", fn := fun _ => fun
  | [d] => { results := [.lit (.bool true)], args := [d] }
  | _ => none }
def setupReadsRow : OpenClaim := { program := "ythhfpjecgdedgaa", sum := "12749c25062fbd82acf90b610753a8d65bae72a9dc8d42e9cb62f9a553775531", func := "quidnunc/quidnunclaw13.SetupReads", spec := "setupReads", apart := false }
def SetupReadsSaid : Prop := setupReadsRow.holds Try.pinned (OpenSpec.ofChange setupReadsSpec)

/-- ITS FALSE NEIGHBOUR: 'it returns false'. Refute it at one input. -/
def setupReadsWrong : ChangeSpec := { name := "setupReads", fn := fun _ => fun
  | [d] => { results := [.lit (.bool false)], args := [d] }
  | _ => none }
def SetupReadsWrongFalsely : Prop := setupReadsRow.holds Try.pinned (OpenSpec.ofChange setupReadsWrong)

/-- 'quidnunclaw13.SetupGrows': WHATEVER THE INPUT: true; the input reads as it did. -/
def setupGrowsSpec : ChangeSpec := { name := "setupGrows", fn := fun _ => fun
  | [d] => { results := [.lit (.bool true)], args := [d] }
  | _ => none }
def setupGrowsRow : OpenClaim := { program := "ythhfpjecgdedgaa", sum := "12749c25062fbd82acf90b610753a8d65bae72a9dc8d42e9cb62f9a553775531", func := "quidnunc/quidnunclaw13.SetupGrows", spec := "setupGrows", apart := false }
def SetupGrowsSaid : Prop := setupGrowsRow.holds Try.pinned (OpenSpec.ofChange setupGrowsSpec)

/-- ITS FALSE NEIGHBOUR: 'it returns false'. Refute it at one input. -/
def setupGrowsWrong : ChangeSpec := { name := "setupGrows", fn := fun _ => fun
  | [d] => { results := [.lit (.bool false)], args := [d] }
  | _ => none }
def SetupGrowsWrongFalsely : Prop := setupGrowsRow.holds Try.pinned (OpenSpec.ofChange setupGrowsWrong)

/-- 'quidnunclaw13.SetupTurned': WHATEVER THE INPUT: true; the input reads as it did. -/
def setupTurnedSpec : ChangeSpec := { name := "setupTurned", fn := fun _ => fun
  | [d1, d2, d3] => { results := [.lit (.bool true)], args := [d1, d2, d3] }
  | _ => none }
def setupTurnedRow : OpenClaim := { program := "ythhfpjecgdedgaa", sum := "12749c25062fbd82acf90b610753a8d65bae72a9dc8d42e9cb62f9a553775531", func := "quidnunc/quidnunclaw13.SetupTurned", spec := "setupTurned", apart := false }
def SetupTurnedSaid : Prop := setupTurnedRow.holds Try.pinned (OpenSpec.ofChange setupTurnedSpec)

/-- ITS FALSE NEIGHBOUR: 'it returns false'. Refute it at one input. -/
def setupTurnedWrong : ChangeSpec := { name := "setupTurned", fn := fun _ => fun
  | [d1, d2, d3] => { results := [.lit (.bool false)], args := [d1, d2, d3] }
  | _ => none }
def SetupTurnedWrongFalsely : Prop := setupTurnedRow.holds Try.pinned (OpenSpec.ofChange setupTurnedWrong)

/- THE SECOND FORM. 'bulk': how many values and letters a reading holds, each counted each time it is reached (what is shared counts as often as it is met; a slice's spare places count too). A statement '..UptoSaid' is the law's where the arguments, and the package variables that the reading takes, are together of bulk at most 1048576: NARROWER than '..Said'. Prove '..Said' where nothing that the law and all that it calls make is longer than what came in: it says more and counts as full. Else prove '..UptoSaid'. A law counts once. -/
mutual
def uptoBulk {H : Type} : DataW H → Nat
  | .lit (.string bytes) => bytes.length + 1
  | .lit _ => 1
  | .nil => 1
  | .ptr d => uptoBulk d + 1
  | .slice elems spare => uptoBulkAll elems + uptoBulkAll spare + 1
  | .agg parts => uptoBulkAll parts + 1
  | .iface _ d => uptoBulk d + 1
  | .map entries => uptoBulkEntries entries + 1
  | .held _ => 1
def uptoBulkAll {H : Type} : List (DataW H) → Nat
  | [] => 0
  | d :: r => uptoBulk d + uptoBulkAll r
def uptoBulkEntries {H : Type} : List (Lit × DataW H) → Nat
  | [] => 0
  | x :: r => uptoBulkEntry x + uptoBulkEntries r
def uptoBulkEntry {H : Type} : Lit × DataW H → Nat
  | (.string bytes, d) => bytes.length + uptoBulk d + 1
  | (_, d) => uptoBulk d + 1
 end
def uptoSmall : (H : Type) → List (DataW H) → Bool := fun _ ds => decide (uptoBulkAll ds ≤ 1048576)
def OpenSpec.upto (s : _root_.Go.ChangeSpec) : _root_.Go.OpenSpec := { _root_.Go.OpenSpec.ofChange s with cond := some uptoSmall }

/-- 'quidnunclaw13.SetupChecks', WHERE WHAT IT READS IS OF BULK AT MOST 1048576: true; the input reads as it did. -/
def setupChecksUptoRow : OpenClaim := { program := "ythhfpjecgdedgaa", sum := "12749c25062fbd82acf90b610753a8d65bae72a9dc8d42e9cb62f9a553775531", func := "quidnunc/quidnunclaw13.SetupChecks", spec := "setupChecks", apart := false, narrowed := true }
def SetupChecksUptoSaid : Prop := setupChecksUptoRow.holds Try.pinned (OpenSpec.upto setupChecksSpec)

/-- 'quidnunclaw13.SetupTexts', WHERE WHAT IT READS IS OF BULK AT MOST 1048576: true; the input reads as it did. -/
def setupTextsUptoRow : OpenClaim := { program := "ythhfpjecgdedgaa", sum := "12749c25062fbd82acf90b610753a8d65bae72a9dc8d42e9cb62f9a553775531", func := "quidnunc/quidnunclaw13.SetupTexts", spec := "setupTexts", apart := false, narrowed := true }
def SetupTextsUptoSaid : Prop := setupTextsUptoRow.holds Try.pinned (OpenSpec.upto setupTextsSpec)

/-- 'quidnunclaw13.SetupReads', WHERE WHAT IT READS IS OF BULK AT MOST 1048576: true; the input reads as it did. -/
def setupReadsUptoRow : OpenClaim := { program := "ythhfpjecgdedgaa", sum := "12749c25062fbd82acf90b610753a8d65bae72a9dc8d42e9cb62f9a553775531", func := "quidnunc/quidnunclaw13.SetupReads", spec := "setupReads", apart := false, narrowed := true }
def SetupReadsUptoSaid : Prop := setupReadsUptoRow.holds Try.pinned (OpenSpec.upto setupReadsSpec)

/-- 'quidnunclaw13.SetupGrows', WHERE WHAT IT READS IS OF BULK AT MOST 1048576: true; the input reads as it did. -/
def setupGrowsUptoRow : OpenClaim := { program := "ythhfpjecgdedgaa", sum := "12749c25062fbd82acf90b610753a8d65bae72a9dc8d42e9cb62f9a553775531", func := "quidnunc/quidnunclaw13.SetupGrows", spec := "setupGrows", apart := false, narrowed := true }
def SetupGrowsUptoSaid : Prop := setupGrowsUptoRow.holds Try.pinned (OpenSpec.upto setupGrowsSpec)

/-- 'quidnunclaw13.SetupTurned', WHERE WHAT IT READS IS OF BULK AT MOST 1048576: true; the input reads as it did. -/
def setupTurnedUptoRow : OpenClaim := { program := "ythhfpjecgdedgaa", sum := "12749c25062fbd82acf90b610753a8d65bae72a9dc8d42e9cb62f9a553775531", func := "quidnunc/quidnunclaw13.SetupTurned", spec := "setupTurned", apart := false, narrowed := true }
def SetupTurnedUptoSaid : Prop := setupTurnedUptoRow.holds Try.pinned (OpenSpec.upto setupTurnedSpec)

end Rows
end Go.Proofs.Ythhfpjecgdedgaa
