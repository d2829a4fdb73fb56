/-
  No cell of these rows narrows 'for every input' (looked for: loops, veiled, ifaces, maps, wideKeys, modest, calm, conditions, laid).
  DERIVED. THE GIVEN ROWS OF THIS SEAT. 7 by the template 'for every input the law returns true; each argument reads behind the call as it read before'; 0 by the template 'total and deterministic' (their statements: YtkddmdgehnijiaaTotals.lean).
  GIVEN WITH THE SEED: the statements are not yours to turn. If you find one false, say at which input.
  Laid BY PROGRAM, IN A SANDBOX (cutbox-rows.mjs): the forced cells as the released guide's own fill.sh prints them over the translation f409020ec2ebb625… (all of the seat's roots in one cut). By AI agents, Wed Nov 11 2026. No macro, syntax, notation, axiom, sorry.
-/
import Derived.Test.YtkddmdgehnijiaaChecked
import GoSem.Claim
import GoSem.ClaimJoined
import GoSem.ClaimMapViews
import Derived.JoinedTies
import Derived.KernelRfl
namespace Go.Proofs.Ytkddmdgehnijiaa
/- THE CELL 'sum', in the pinned program and in every row, IS THE sha256 OF THE DUMP (.gsa) THAT YtkddmdgehnijiaaProg.lean LOADS. Nothing in Lean hashes anything: it is a label: what it is worth is what the hold of that sum in a sandbox is worth. -/
noncomputable def Try.pinned : Pinned := { name := "ytkddmdgehnijiaa", sum := "f409020ec2ebb6259bb5e3885e79f3aed7b80da44991e219398b8d6234072b18", checked := Try.checked }
namespace Rows
def none {H : Type} : Left H := { results := [], args := [] }

/-- 'quidnunclaw05.EntryChecks': WHATEVER THE INPUT: true; the input reads as it did. -/
def entryChecksSpec : ChangeSpec := { name := "entryChecks", fn := fun _ => fun
  | [d1, d2] => { results := [.lit (.bool true)], args := [d1, d2] }
  | _ => none }
def entryChecksRow : OpenClaim := { program := "ytkddmdgehnijiaa", sum := "f409020ec2ebb6259bb5e3885e79f3aed7b80da44991e219398b8d6234072b18", func := "quidnunc/quidnunclaw05.EntryChecks", spec := "entryChecks", apart := false }
def EntryChecksSaid : Prop := entryChecksRow.holds Try.pinned (OpenSpec.ofChange entryChecksSpec)

/-- ITS FALSE NEIGHBOUR: 'it returns false'. Refute it at one input. -/
def entryChecksWrong : ChangeSpec := { name := "entryChecks", fn := fun _ => fun
  | [d1, d2] => { results := [.lit (.bool false)], args := [d1, d2] }
  | _ => none }
def EntryChecksWrongFalsely : Prop := entryChecksRow.holds Try.pinned (OpenSpec.ofChange entryChecksWrong)

/-- 'quidnunclaw05.EntryMakes': WHATEVER THE INPUT: true; the input reads as it did. -/
def entryMakesSpec : ChangeSpec := { name := "entryMakes", fn := fun _ => fun
  | [d1, d2] => { results := [.lit (.bool true)], args := [d1, d2] }
  | _ => none }
def entryMakesRow : OpenClaim := { program := "ytkddmdgehnijiaa", sum := "f409020ec2ebb6259bb5e3885e79f3aed7b80da44991e219398b8d6234072b18", func := "quidnunc/quidnunclaw05.EntryMakes", spec := "entryMakes", apart := false }
def EntryMakesSaid : Prop := entryMakesRow.holds Try.pinned (OpenSpec.ofChange entryMakesSpec)

/-- ITS FALSE NEIGHBOUR: 'it returns false'. Refute it at one input. -/
def entryMakesWrong : ChangeSpec := { name := "entryMakes", fn := fun _ => fun
  | [d1, d2] => { results := [.lit (.bool false)], args := [d1, d2] }
  | _ => none }
def EntryMakesWrongFalsely : Prop := entryMakesRow.holds Try.pinned (OpenSpec.ofChange entryMakesWrong)

/-- 'quidnunclaw05.EntryKeepers': WHATEVER THE INPUT: true; the input reads as it did. -/
def entryKeepersSpec : ChangeSpec := { name := "entryKeepers", fn := fun _ => fun
  | [d1, d2, d3, d4] => { results := [.lit (.bool true)], args := [d1, d2, d3, d4] }
  | _ => none }
def entryKeepersRow : OpenClaim := { program := "ytkddmdgehnijiaa", sum := "f409020ec2ebb6259bb5e3885e79f3aed7b80da44991e219398b8d6234072b18", func := "quidnunc/quidnunclaw05.EntryKeepers", spec := "entryKeepers", apart := false }
def EntryKeepersSaid : Prop := entryKeepersRow.holds Try.pinned (OpenSpec.ofChange entryKeepersSpec)

/-- ITS FALSE NEIGHBOUR: 'it returns false'. Refute it at one input. -/
def entryKeepersWrong : ChangeSpec := { name := "entryKeepers", fn := fun _ => fun
  | [d1, d2, d3, d4] => { results := [.lit (.bool false)], args := [d1, d2, d3, d4] }
  | _ => none }
def EntryKeepersWrongFalsely : Prop := entryKeepersRow.holds Try.pinned (OpenSpec.ofChange entryKeepersWrong)

/-- 'quidnunclaw05.EntryReads': WHATEVER THE INPUT: true; the input reads as it did. -/
def entryReadsSpec : ChangeSpec := { name := "entryReads", fn := fun _ => fun
  | [d] => { results := [.lit (.bool true)], args := [d] }
  | _ => none }
def entryReadsRow : OpenClaim := { program := "ytkddmdgehnijiaa", sum := "f409020ec2ebb6259bb5e3885e79f3aed7b80da44991e219398b8d6234072b18", func := "quidnunc/quidnunclaw05.EntryReads", spec := "entryReads", apart := false }
def EntryReadsSaid : Prop := entryReadsRow.holds Try.pinned (OpenSpec.ofChange entryReadsSpec)

/-- ITS FALSE NEIGHBOUR: 'it returns false'. Refute it at one input. -/
def entryReadsWrong : ChangeSpec := { name := "entryReads", fn := fun _ => fun
  | [d] => { results := [.lit (.bool false)], args := [d] }
  | _ => none }
def EntryReadsWrongFalsely : Prop := entryReadsRow.holds Try.pinned (OpenSpec.ofChange entryReadsWrong)

/-- 'quidnunclaw05.EntryOrders': WHATEVER THE INPUT: true; the input reads as it did. -/
def entryOrdersSpec : ChangeSpec := { name := "entryOrders", fn := fun _ => fun
  | [d1, d2, d3] => { results := [.lit (.bool true)], args := [d1, d2, d3] }
  | _ => none }
def entryOrdersRow : OpenClaim := { program := "ytkddmdgehnijiaa", sum := "f409020ec2ebb6259bb5e3885e79f3aed7b80da44991e219398b8d6234072b18", func := "quidnunc/quidnunclaw05.EntryOrders", spec := "entryOrders", apart := false }
def EntryOrdersSaid : Prop := entryOrdersRow.holds Try.pinned (OpenSpec.ofChange entryOrdersSpec)

/-- ITS FALSE NEIGHBOUR: 'it returns false'. Refute it at one input. -/
def entryOrdersWrong : ChangeSpec := { name := "entryOrders", fn := fun _ => fun
  | [d1, d2, d3] => { results := [.lit (.bool false)], args := [d1, d2, d3] }
  | _ => none }
def EntryOrdersWrongFalsely : Prop := entryOrdersRow.holds Try.pinned (OpenSpec.ofChange entryOrdersWrong)

/-- 'quidnunclaw05.EntryWoken': WHATEVER THE INPUT: true; the input reads as it did. -/
def entryWokenSpec : ChangeSpec := { name := "entryWoken", fn := fun _ => fun
  | [d1, d2, d3] => { results := [.lit (.bool true)], args := [d1, d2, d3] }
  | _ => none }
def entryWokenRow : OpenClaim := { program := "ytkddmdgehnijiaa", sum := "f409020ec2ebb6259bb5e3885e79f3aed7b80da44991e219398b8d6234072b18", func := "quidnunc/quidnunclaw05.EntryWoken", spec := "entryWoken", apart := false }
def EntryWokenSaid : Prop := entryWokenRow.holds Try.pinned (OpenSpec.ofChange entryWokenSpec)

/-- ITS FALSE NEIGHBOUR: 'it returns false'. Refute it at one input. -/
def entryWokenWrong : ChangeSpec := { name := "entryWoken", fn := fun _ => fun
  | [d1, d2, d3] => { results := [.lit (.bool false)], args := [d1, d2, d3] }
  | _ => none }
def EntryWokenWrongFalsely : Prop := entryWokenRow.holds Try.pinned (OpenSpec.ofChange entryWokenWrong)

/-- 'quidnunclaw05.EntryCounts': WHATEVER THE INPUT: true; the input reads as it did. -/
def entryCountsSpec : ChangeSpec := { name := "entryCounts", fn := fun _ => fun
  | [d1, d2, d3] => { results := [.lit (.bool true)], args := [d1, d2, d3] }
  | _ => none }
def entryCountsRow : OpenClaim := { program := "ytkddmdgehnijiaa", sum := "f409020ec2ebb6259bb5e3885e79f3aed7b80da44991e219398b8d6234072b18", func := "quidnunc/quidnunclaw05.EntryCounts", spec := "entryCounts", apart := false }
def EntryCountsSaid : Prop := entryCountsRow.holds Try.pinned (OpenSpec.ofChange entryCountsSpec)

/-- ITS FALSE NEIGHBOUR: 'it returns false'. Refute it at one input. -/
def entryCountsWrong : ChangeSpec := { name := "entryCounts", fn := fun _ => fun
  | [d1, d2, d3] => { results := [.lit (.bool false)], args := [d1, d2, d3] }
  | _ => none }
def EntryCountsWrongFalsely : Prop := entryCountsRow.holds Try.pinned (OpenSpec.ofChange entryCountsWrong)

/- THE SECOND FORM. 'bulk': how many values and letters a reading holds, each counted each time it is reached (what is shared counts as often as it is met; a slice's spare places count too). A statement '..UptoSaid' is the law's where the arguments, and the package variables that the reading takes, are together of bulk at most 1048576: NARROWER than '..Said'. Prove '..Said' where nothing that the law and all that it calls make is longer than what came in: it says more and counts as full. Else prove '..UptoSaid'. A law counts once. -/
mutual
def uptoBulk {H : Type} : DataW H → Nat
  | .lit (.string bytes) => bytes.length + 1
  | .lit _ => 1
  | .nil => 1
  | .ptr d => uptoBulk d + 1
  | .slice elems spare => uptoBulkAll elems + uptoBulkAll spare + 1
  | .agg parts => uptoBulkAll parts + 1
  | .iface _ d => uptoBulk d + 1
  | .map entries => uptoBulkEntries entries + 1
  | .held _ => 1
def uptoBulkAll {H : Type} : List (DataW H) → Nat
  | [] => 0
  | d :: r => uptoBulk d + uptoBulkAll r
def uptoBulkEntries {H : Type} : List (Lit × DataW H) → Nat
  | [] => 0
  | x :: r => uptoBulkEntry x + uptoBulkEntries r
def uptoBulkEntry {H : Type} : Lit × DataW H → Nat
  | (.string bytes, d) => bytes.length + uptoBulk d + 1
  | (_, d) => uptoBulk d + 1
 end
def uptoSmall : (H : Type) → List (DataW H) → Bool := fun _ ds => decide (uptoBulkAll ds ≤ 1048576)
def OpenSpec.upto (s : _root_.Go.ChangeSpec) : _root_.Go.OpenSpec := { _root_.Go.OpenSpec.ofChange s with cond := some uptoSmall }

/-- 'quidnunclaw05.EntryChecks', WHERE WHAT IT READS IS OF BULK AT MOST 1048576: true; the input reads as it did. -/
def entryChecksUptoRow : OpenClaim := { program := "ytkddmdgehnijiaa", sum := "f409020ec2ebb6259bb5e3885e79f3aed7b80da44991e219398b8d6234072b18", func := "quidnunc/quidnunclaw05.EntryChecks", spec := "entryChecks", apart := false, narrowed := true }
def EntryChecksUptoSaid : Prop := entryChecksUptoRow.holds Try.pinned (OpenSpec.upto entryChecksSpec)

/-- 'quidnunclaw05.EntryMakes', WHERE WHAT IT READS IS OF BULK AT MOST 1048576: true; the input reads as it did. -/
def entryMakesUptoRow : OpenClaim := { program := "ytkddmdgehnijiaa", sum := "f409020ec2ebb6259bb5e3885e79f3aed7b80da44991e219398b8d6234072b18", func := "quidnunc/quidnunclaw05.EntryMakes", spec := "entryMakes", apart := false, narrowed := true }
def EntryMakesUptoSaid : Prop := entryMakesUptoRow.holds Try.pinned (OpenSpec.upto entryMakesSpec)

/-- 'quidnunclaw05.EntryKeepers', WHERE WHAT IT READS IS OF BULK AT MOST 1048576: true; the input reads as it did. -/
def entryKeepersUptoRow : OpenClaim := { program := "ytkddmdgehnijiaa", sum := "f409020ec2ebb6259bb5e3885e79f3aed7b80da44991e219398b8d6234072b18", func := "quidnunc/quidnunclaw05.EntryKeepers", spec := "entryKeepers", apart := false, narrowed := true }
def EntryKeepersUptoSaid : Prop := entryKeepersUptoRow.holds Try.pinned (OpenSpec.upto entryKeepersSpec)

/-- 'quidnunclaw05.EntryReads', WHERE WHAT IT READS IS OF BULK AT MOST 1048576: true; the input reads as it did. -/
def entryReadsUptoRow : OpenClaim := { program := "ytkddmdgehnijiaa", sum := "f409020ec2ebb6259bb5e3885e79f3aed7b80da44991e219398b8d6234072b18", func := "quidnunc/quidnunclaw05.EntryReads", spec := "entryReads", apart := false, narrowed := true }
def EntryReadsUptoSaid : Prop := entryReadsUptoRow.holds Try.pinned (OpenSpec.upto entryReadsSpec)

/-- 'quidnunclaw05.EntryOrders', WHERE WHAT IT READS IS OF BULK AT MOST 1048576: true; the input reads as it did. -/
def entryOrdersUptoRow : OpenClaim := { program := "ytkddmdgehnijiaa", sum := "f409020ec2ebb6259bb5e3885e79f3aed7b80da44991e219398b8d6234072b18", func := "quidnunc/quidnunclaw05.EntryOrders", spec := "entryOrders", apart := false, narrowed := true }
def EntryOrdersUptoSaid : Prop := entryOrdersUptoRow.holds Try.pinned (OpenSpec.upto entryOrdersSpec)

/-- 'quidnunclaw05.EntryWoken', WHERE WHAT IT READS IS OF BULK AT MOST 1048576: true; the input reads as it did. -/
def entryWokenUptoRow : OpenClaim := { program := "ytkddmdgehnijiaa", sum := "f409020ec2ebb6259bb5e3885e79f3aed7b80da44991e219398b8d6234072b18", func := "quidnunc/quidnunclaw05.EntryWoken", spec := "entryWoken", apart := false, narrowed := true }
def EntryWokenUptoSaid : Prop := entryWokenUptoRow.holds Try.pinned (OpenSpec.upto entryWokenSpec)

/-- 'quidnunclaw05.EntryCounts', WHERE WHAT IT READS IS OF BULK AT MOST 1048576: true; the input reads as it did. -/
def entryCountsUptoRow : OpenClaim := { program := "ytkddmdgehnijiaa", sum := "f409020ec2ebb6259bb5e3885e79f3aed7b80da44991e219398b8d6234072b18", func := "quidnunc/quidnunclaw05.EntryCounts", spec := "entryCounts", apart := false, narrowed := true }
def EntryCountsUptoSaid : Prop := entryCountsUptoRow.holds Try.pinned (OpenSpec.upto entryCountsSpec)

end Rows
end Go.Proofs.Ytkddmdgehnijiaa
