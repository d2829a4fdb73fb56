/-
  NARROWER THAN 'FOR EVERY INPUT', by the rows' own cells (each row's printed sentence says how): WireTells: laid · WireReads: laid · WireKept: laid · WireCuts: laid.
  DERIVED. THE GIVEN ROWS OF THIS SEAT. 4 by the template 'for every input the law returns true; each argument reads behind the call as it read before'; 0 by the template 'total and deterministic' (their statements: YtkfcklmkikaioaaGreatDoorTotals.lean).
  GIVEN WITH THE SEED: the statements are not yours to turn. If you find one false, say at which input.
  Laid BY PROGRAM, IN A SANDBOX (cutbox-rows.mjs): the forced cells as the released guide's own fill.sh prints them over the translation bd712a79c881eaea… (all of the seat's roots in one cut). By AI agents, Wed Nov 11 2026. No macro, syntax, notation, axiom, sorry.
-/
import Derived.Test.YtkfcklmkikaioaaGreatDoorChecked
import GoSem.Claim
import GoSem.ClaimJoined
import GoSem.ClaimMapViews
import Derived.JoinedTies
import Derived.KernelRfl
namespace Go.Proofs.YtkfcklmkikaioaaGreatDoor
/- THE CELL 'sum', in the pinned program and in every row, IS THE sha256 OF THE DUMP (.gsa) THAT YtkfcklmkikaioaaGreatDoorProg.lean LOADS. Nothing in Lean hashes anything: it is a label: what it is worth is what the hold of that sum in a sandbox is worth. -/
noncomputable def Tryz.pinned : Pinned := { name := "ytkfcklmkikaioaagreatdoor", sum := "bd712a79c881eaeacfb8ca10fd866bb8a1ceb2cc75ab50aa36505dcc2df110fb", checked := Tryz.checked }
namespace Rows
def none {H : Type} : Left H := { results := [], args := [] }

/- WHAT THE LISTED PACKAGE-LEVEL VARIABLES READ AS WHEN THE CALL BEGINS. Each datum BY PROGRAM (the guide's laid-datum.mjs) off the statement by which the dump's own 'gosem.cut.vars' lays the variable. In a bare row this is a premise. The card (YtkfcklmkikaioaaGreatDoorCards.lean) ties it to the program's text. -/
def laid_quidnunc_wire_kinds {H : Type} : DataW H := .agg [.agg [.lit (.string []), .lit (.int .i64 0), .lit (.int .i64 0), .lit (.int .i64 0)], .agg [.lit (.string [106, 111, 105, 110]), .lit (.int .i64 0), .lit (.int .i64 0), .lit (.int .i64 0)], .agg [.lit (.string [102, 111, 114, 119, 97, 114, 100]), .lit (.int .i64 3), .lit (.int .i64 0), .lit (.int .i64 0)], .agg [.lit (.string [110, 101, 105, 103, 104, 98, 111, 114]), .lit (.int .i64 4), .lit (.int .i64 0), .lit (.int .i64 0)], .agg [.lit (.string [97, 99, 99, 101, 112, 116]), .lit (.int .i64 0), .lit (.int .i64 0), .lit (.int .i64 0)], .agg [.lit (.string [114, 101, 102, 117, 115, 101]), .lit (.int .i64 0), .lit (.int .i64 0), .lit (.int .i64 0)], .agg [.lit (.string [112, 97, 114, 116]), .lit (.int .i64 0), .lit (.int .i64 0), .lit (.int .i64 0)], .agg [.lit (.string [115, 104, 117, 102, 102, 108, 101]), .lit (.int .i64 11), .lit (.int .i64 0), .lit (.int .i64 0)], .agg [.lit (.string [115, 119, 97, 112]), .lit (.int .i64 8), .lit (.int .i64 0), .lit (.int .i64 0)], .agg [.lit (.string [98, 101, 97, 116]), .lit (.int .i64 0), .lit (.int .i64 0), .lit (.int .i64 0)], .agg [.lit (.string [103, 111, 115, 115, 105, 112]), .lit (.int .i64 256), .lit (.int .i64 1), .lit (.int .i64 1)], .agg [.lit (.string [104, 97, 118, 101]), .lit (.int .i64 128), .lit (.int .i64 1), .lit (.int .i64 8)], .agg [.lit (.string [103, 114, 97, 102, 116]), .lit (.int .i64 128), .lit (.int .i64 1), .lit (.int .i64 1)], .agg [.lit (.string [112, 114, 117, 110, 101]), .lit (.int .i64 0), .lit (.int .i64 0), .lit (.int .i64 0)], .agg [.lit (.string [114, 117, 109, 111, 114, 115]), .lit (.int .i64 256), .lit (.int .i64 1), .lit (.int .i64 8)], .agg [.lit (.string [101, 99, 104, 111]), .lit (.int .i64 384), .lit (.int .i64 0), .lit (.int .i64 8)], .agg [.lit (.string [99, 104, 101, 99, 107]), .lit (.int .i64 304), .lit (.int .i64 0), .lit (.int .i64 8)], .agg [.lit (.string [109, 97, 116, 99, 104]), .lit (.int .i64 304), .lit (.int .i64 0), .lit (.int .i64 8)], .agg [.lit (.string [112, 101, 101, 108]), .lit (.int .i64 336), .lit (.int .i64 0), .lit (.int .i64 8)], .agg [.lit (.string [112, 105, 108, 101]), .lit (.int .i64 368), .lit (.int .i64 0), .lit (.int .i64 8)]]

/-- 'quidnunclaw16.WireTells': WHATEVER THE INPUT: true; the input reads as it did. -/
def wireTellsSpec : ChangeSpec := { name := "wireTells", fn := fun _ => fun
  | [d1, d2] => { results := [.lit (.bool true)], args := [d1, d2] }
  | _ => none }
def wireTellsRow : OpenClaim := { program := "ytkfcklmkikaioaagreatdoor", sum := "bd712a79c881eaeacfb8ca10fd866bb8a1ceb2cc75ab50aa36505dcc2df110fb", func := "quidnunc/quidnunclaw16.WireTells", spec := "wireTells", unfollowed := true, recurses := true, named := ["quidnunc/wire.kinds"], apart := false, laid := [("quidnunc/wire.kinds", laid_quidnunc_wire_kinds)] }
def WireTellsSaid : Prop := wireTellsRow.holds Tryz.pinned (OpenSpec.ofChange wireTellsSpec)

/-- ITS FALSE NEIGHBOUR: 'it returns false'. Refute it at one input. -/
def wireTellsWrong : ChangeSpec := { name := "wireTells", fn := fun _ => fun
  | [d1, d2] => { results := [.lit (.bool false)], args := [d1, d2] }
  | _ => none }
def WireTellsWrongFalsely : Prop := wireTellsRow.holds Tryz.pinned (OpenSpec.ofChange wireTellsWrong)

/-- 'quidnunclaw16.WireReads': WHATEVER THE INPUT: true; the input reads as it did. -/
def wireReadsSpec : ChangeSpec := { name := "wireReads", fn := fun _ => fun
  | [d1, d2] => { results := [.lit (.bool true)], args := [d1, d2] }
  | _ => none }
def wireReadsRow : OpenClaim := { program := "ytkfcklmkikaioaagreatdoor", sum := "bd712a79c881eaeacfb8ca10fd866bb8a1ceb2cc75ab50aa36505dcc2df110fb", func := "quidnunc/quidnunclaw16.WireReads", spec := "wireReads", unfollowed := true, recurses := true, named := ["quidnunc/wire.kinds"], apart := false, laid := [("quidnunc/wire.kinds", laid_quidnunc_wire_kinds)] }
def WireReadsSaid : Prop := wireReadsRow.holds Tryz.pinned (OpenSpec.ofChange wireReadsSpec)

/-- ITS FALSE NEIGHBOUR: 'it returns false'. Refute it at one input. -/
def wireReadsWrong : ChangeSpec := { name := "wireReads", fn := fun _ => fun
  | [d1, d2] => { results := [.lit (.bool false)], args := [d1, d2] }
  | _ => none }
def WireReadsWrongFalsely : Prop := wireReadsRow.holds Tryz.pinned (OpenSpec.ofChange wireReadsWrong)

/-- 'quidnunclaw16.WireKept': WHATEVER THE INPUT: true; the input reads as it did. -/
def wireKeptSpec : ChangeSpec := { name := "wireKept", fn := fun _ => fun
  | [d1, d2] => { results := [.lit (.bool true)], args := [d1, d2] }
  | _ => none }
def wireKeptRow : OpenClaim := { program := "ytkfcklmkikaioaagreatdoor", sum := "bd712a79c881eaeacfb8ca10fd866bb8a1ceb2cc75ab50aa36505dcc2df110fb", func := "quidnunc/quidnunclaw16.WireKept", spec := "wireKept", unfollowed := true, recurses := true, named := ["quidnunc/wire.kinds"], apart := false, laid := [("quidnunc/wire.kinds", laid_quidnunc_wire_kinds)] }
def WireKeptSaid : Prop := wireKeptRow.holds Tryz.pinned (OpenSpec.ofChange wireKeptSpec)

/-- ITS FALSE NEIGHBOUR: 'it returns false'. Refute it at one input. -/
def wireKeptWrong : ChangeSpec := { name := "wireKept", fn := fun _ => fun
  | [d1, d2] => { results := [.lit (.bool false)], args := [d1, d2] }
  | _ => none }
def WireKeptWrongFalsely : Prop := wireKeptRow.holds Tryz.pinned (OpenSpec.ofChange wireKeptWrong)

/-- 'quidnunclaw16.WireCuts': WHATEVER THE INPUT: true; the input reads as it did. -/
def wireCutsSpec : ChangeSpec := { name := "wireCuts", fn := fun _ => fun
  | [d1, d2, d3] => { results := [.lit (.bool true)], args := [d1, d2, d3] }
  | _ => none }
def wireCutsRow : OpenClaim := { program := "ytkfcklmkikaioaagreatdoor", sum := "bd712a79c881eaeacfb8ca10fd866bb8a1ceb2cc75ab50aa36505dcc2df110fb", func := "quidnunc/quidnunclaw16.WireCuts", spec := "wireCuts", unfollowed := true, recurses := true, named := ["quidnunc/wire.kinds"], apart := false, laid := [("quidnunc/wire.kinds", laid_quidnunc_wire_kinds)] }
def WireCutsSaid : Prop := wireCutsRow.holds Tryz.pinned (OpenSpec.ofChange wireCutsSpec)

/-- ITS FALSE NEIGHBOUR: 'it returns false'. Refute it at one input. -/
def wireCutsWrong : ChangeSpec := { name := "wireCuts", fn := fun _ => fun
  | [d1, d2, d3] => { results := [.lit (.bool false)], args := [d1, d2, d3] }
  | _ => none }
def WireCutsWrongFalsely : Prop := wireCutsRow.holds Tryz.pinned (OpenSpec.ofChange wireCutsWrong)

/- THE SECOND FORM. 'bulk': how many values and letters a reading holds, each counted each time it is reached (what is shared counts as often as it is met; a slice's spare places count too). A statement '..UptoSaid' is the law's where the arguments, and the package variables that the reading takes, are together of bulk at most 1048576: NARROWER than '..Said'. Prove '..Said' where nothing that the law and all that it calls make is longer than what came in: it says more and counts as full. Else prove '..UptoSaid'. A law counts once. -/
mutual
def uptoBulk {H : Type} : DataW H → Nat
  | .lit (.string bytes) => bytes.length + 1
  | .lit _ => 1
  | .nil => 1
  | .ptr d => uptoBulk d + 1
  | .slice elems spare => uptoBulkAll elems + uptoBulkAll spare + 1
  | .agg parts => uptoBulkAll parts + 1
  | .iface _ d => uptoBulk d + 1
  | .map entries => uptoBulkEntries entries + 1
  | .held _ => 1
def uptoBulkAll {H : Type} : List (DataW H) → Nat
  | [] => 0
  | d :: r => uptoBulk d + uptoBulkAll r
def uptoBulkEntries {H : Type} : List (Lit × DataW H) → Nat
  | [] => 0
  | x :: r => uptoBulkEntry x + uptoBulkEntries r
def uptoBulkEntry {H : Type} : Lit × DataW H → Nat
  | (.string bytes, d) => bytes.length + uptoBulk d + 1
  | (_, d) => uptoBulk d + 1
 end
def uptoSmall : (H : Type) → List (DataW H) → Bool := fun _ ds => decide (uptoBulkAll ds ≤ 1048576)
def OpenSpec.upto (s : _root_.Go.ChangeSpec) : _root_.Go.OpenSpec := { _root_.Go.OpenSpec.ofChange s with cond := some uptoSmall }

/-- 'quidnunclaw16.WireTells', WHERE WHAT IT READS IS OF BULK AT MOST 1048576: true; the input reads as it did. -/
def wireTellsUptoRow : OpenClaim := { program := "ytkfcklmkikaioaagreatdoor", sum := "bd712a79c881eaeacfb8ca10fd866bb8a1ceb2cc75ab50aa36505dcc2df110fb", func := "quidnunc/quidnunclaw16.WireTells", spec := "wireTells", unfollowed := true, recurses := true, named := ["quidnunc/wire.kinds"], apart := false, laid := [("quidnunc/wire.kinds", laid_quidnunc_wire_kinds)], narrowed := true }
def WireTellsUptoSaid : Prop := wireTellsUptoRow.holds Tryz.pinned (OpenSpec.upto wireTellsSpec)

/-- 'quidnunclaw16.WireReads', WHERE WHAT IT READS IS OF BULK AT MOST 1048576: true; the input reads as it did. -/
def wireReadsUptoRow : OpenClaim := { program := "ytkfcklmkikaioaagreatdoor", sum := "bd712a79c881eaeacfb8ca10fd866bb8a1ceb2cc75ab50aa36505dcc2df110fb", func := "quidnunc/quidnunclaw16.WireReads", spec := "wireReads", unfollowed := true, recurses := true, named := ["quidnunc/wire.kinds"], apart := false, laid := [("quidnunc/wire.kinds", laid_quidnunc_wire_kinds)], narrowed := true }
def WireReadsUptoSaid : Prop := wireReadsUptoRow.holds Tryz.pinned (OpenSpec.upto wireReadsSpec)

/-- 'quidnunclaw16.WireKept', WHERE WHAT IT READS IS OF BULK AT MOST 1048576: true; the input reads as it did. -/
def wireKeptUptoRow : OpenClaim := { program := "ytkfcklmkikaioaagreatdoor", sum := "bd712a79c881eaeacfb8ca10fd866bb8a1ceb2cc75ab50aa36505dcc2df110fb", func := "quidnunc/quidnunclaw16.WireKept", spec := "wireKept", unfollowed := true, recurses := true, named := ["quidnunc/wire.kinds"], apart := false, laid := [("quidnunc/wire.kinds", laid_quidnunc_wire_kinds)], narrowed := true }
def WireKeptUptoSaid : Prop := wireKeptUptoRow.holds Tryz.pinned (OpenSpec.upto wireKeptSpec)

/-- 'quidnunclaw16.WireCuts', WHERE WHAT IT READS IS OF BULK AT MOST 1048576: true; the input reads as it did. -/
def wireCutsUptoRow : OpenClaim := { program := "ytkfcklmkikaioaagreatdoor", sum := "bd712a79c881eaeacfb8ca10fd866bb8a1ceb2cc75ab50aa36505dcc2df110fb", func := "quidnunc/quidnunclaw16.WireCuts", spec := "wireCuts", unfollowed := true, recurses := true, named := ["quidnunc/wire.kinds"], apart := false, laid := [("quidnunc/wire.kinds", laid_quidnunc_wire_kinds)], narrowed := true }
def WireCutsUptoSaid : Prop := wireCutsUptoRow.holds Tryz.pinned (OpenSpec.upto wireCutsSpec)

end Rows
end Go.Proofs.YtkfcklmkikaioaaGreatDoor
